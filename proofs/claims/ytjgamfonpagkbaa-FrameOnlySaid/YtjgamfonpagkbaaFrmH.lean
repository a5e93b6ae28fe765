/-
  frame.present and its iterator, for every loop body: those of a place's interrupts that the bank has, by their places.
-/
import Derived.Test.YtjgamfonpagkbaaFrmG
namespace Go.Proofs.Ytjgamfonpagkbaa
open Go.ChangeShapes Go.WideShapes Go.ChangeAt Go.RowKit Go.Shelf
set_option linter.unusedVariables false
attribute [local go_sem] Oper.semAt_some

/-- Is the k-th interrupt of a place in a bank of n from f0 on? -/
def inB (f0 : Int) (n : Nat) (fp : Int) (k : Nat) : Bool := hasB f0 n (fp + k)
theorem filterN_yes {p : Nat → Bool} {x : Nat} (pre : List Nat) (h : p x = true) : (pre ++ [x]).filter p = pre.filter p ++ [x] := by simp [h]
theorem filterN_no {p : Nat → Bool} {x : Nat} (pre : List Nat) (h : p x = false) : (pre ++ [x]).filter p = pre.filter p := by simp [h]
theorem filterN_pre {p : Nat → Bool} {pre xs : List Nat} (h : pre <+: xs) : pre.filter p <+: xs.filter p := by
  obtain ⟨r, rfl⟩ := h
  rw [List.filter_append]
  exact List.prefix_append _ _
def presL (f0 : Int) (n : Nat) (fp : Int) (c : Nat) : List Nat := (List.range c).filter (inB f0 n fp)

theorem present_any (b : Nat) (p : Pl) (w : World) : Calls Try.prog 31 #[.pointer (some ⟨b, 0, none⟩), p.v] w fun e w' => e = .returned (.func (.func 49) #[] #[.pointer (some ⟨w.heap.size + 1, 0, none⟩), .pointer (some ⟨w.heap.size, 0, none⟩)]) ∧
    w' = (w.alloc (.cells #[.pointer (some ⟨b, 0, none⟩)] 24)).alloc (.cells p.cs 37) := by
  obtain ⟨r, f, c⟩ := p
  dsimp only [Pl.v, Pl.cs]
  go_enter Try.func31, Try.ntmps31
  go_wp2
  go_ret
  exact ⟨rfl, rfl⟩

/-- What present's iterator stands on: the place's box, the box of the bank's pointer, the bank. -/
structure PrAt (pp bp b : Nat) (sv : Value) (p : Pl) (f0 : Int) (V : World) : Prop where
  pl : CB V pp 37 p.cs
  bx : CB V bp 24 #[.pointer (some ⟨b, 0, none⟩)]
  bk : CB V b 86 #[.int .i64 f0, sv]
def ksP (pp bp b : Nat) (i : Nat) : Prop := i = pp ∨ i = bp ∨ i = b
theorem PrAt.heap {pp bp b : Nat} {sv : Value} {p : Pl} {f0 : Int} {V V' : World} (h : PrAt pp bp b sv p f0 V) (k : ∀ i, ksP pp bp b i → V'.heap[i]? = V.heap[i]?) : PrAt pp bp b sv p f0 V' :=
  ⟨h.pl.heap (k _ (.inl rfl)), h.bx.heap (k _ (.inr (.inl rfl))), h.bk.heap (k _ (.inr (.inr rfl)))⟩
theorem PrAt.lt {pp bp b : Nat} {sv : Value} {p : Pl} {f0 : Int} {V : World} (h : PrAt pp bp b sv p f0 V) : ∀ i, ksP pp bp b i → i < V.heap.size := fun i q => by
  rcases q with rfl | rfl | rfl
  · exact h.pl.lt
  · exact h.bx.lt
  · exact h.bk.lt
theorem PrAt.below {pp bp b : Nat} {sv : Value} {p : Pl} {f0 : Int} {V V' : World} (h : PrAt pp bp b sv p f0 V) (k : Below V.heap.size V V') : PrAt pp bp b sv p f0 V' := h.heap (fun i q => k.block i (h.lt i q))
/-- The iterator's own two boxes, and what it stands on. -/
structure OP (l B m pp bp b : Nat) (sv : Value) (p : Pl) (f0 : Int) (V : World) : Prop where
  y : CB V B 100 #[.func (.yield l) #[] #[]]
  k : CB V (B + 1) 3 #[.int .i64 m]
  p : PrAt pp bp b sv p f0 V
theorem OP.heap {l B m pp bp b : Nat} {sv : Value} {p : Pl} {f0 : Int} {V V' : World} (h : OP l B m pp bp b sv p f0 V) (h1 : V'.heap[B]? = V.heap[B]?) (h2 : V'.heap[B + 1]? = V.heap[B + 1]?) (h3 : ∀ i, ksP pp bp b i → V'.heap[i]? = V.heap[i]?) : OP l B m pp bp b sv p f0 V' :=
  ⟨h.y.heap h1, h.k.heap h2, h.p.heap h3⟩
theorem OP.drewN {l B m pp bp b : Nat} {sv : Value} {p : Pl} {f0 : Int} {V : World} (h : OP l B m pp bp b sv p f0 V) (n : Nat) : OP l B m pp bp b sv p f0 (V.drewN n) := h.heap rfl rfl (fun _ _ => rfl)
theorem OP.next {l B m pp bp b : Nat} {sv : Value} {p : Pl} {f0 : Int} {V : World} (h : OP l B m pp bp b sv p f0 V) (hk : ∀ i, ksP pp bp b i → i < B) : OP l B (m + 1) pp bp b sv p f0 (V.setCell ⟨B + 1, 0, none⟩ (.int .i64 ((m + 1 : Nat) : Int))) :=
  ⟨h.y.other _ _ _ (by omega), h.k.set 0 _, h.p.heap (fun i q => Below.heap_setCell V ⟨B + 1, 0, none⟩ _ i (fun e => by have := hk i q; have e' : i = B + 1 := e; omega))⟩

set_option maxRecDepth 100000 in
set_option maxHeartbeats 8000000 in
theorem pres1_any (l pp bp b g n cap : Nat) (p : Pl) (c : Nat) (f0 : Int) (hp : PlOk p c) (hf0 : 0 ≤ f0) (J Jx : List Nat → World → Prop) (W : World) (hJ : AbW W.heap.size 5 J) (hJx : AbW W.heap.size 5 Jx)
    (hA : PrAt pp bp b (.slice (some ⟨g, 0, none⟩) n cap) p f0 W)
    (hY : ∀ (pre : List Nat) (x : Nat) (W1 : World), J pre W1 → pre ++ [x] <+: presL f0 n p.f c → W.heap.size + 5 ≤ W1.heap.size → ∀ m, YieldAt Fence.wide m Try.prog l (encP p.f x) W1 fun e W' =>
      (e = .returned (.bool true) ∧ J (pre ++ [x]) W' ∧ KpS (ksP pp bp b) 5 W.heap.size W1 W') ∨ (e = .returned (.bool false) ∧ Jx (pre ++ [x]) W' ∧ KpS (ksP pp bp b) 5 W.heap.size W1 W'))
    (h0 : J [] W) :
    Calls Try.prog 49 #[.func (.yield l) #[] #[], .pointer (some ⟨pp, 0, none⟩), .pointer (some ⟨bp, 0, none⟩)] W fun e W' => (∃ v, e = .returned v) ∧
      ((∃ ys, ys = presL f0 n p.f c ∧ J ys W') ∨ (∃ pre, pre <+: presL f0 n p.f c ∧ Jx pre W')) := by
  obtain ⟨hc, hfew, hpf0, hpf1⟩ := hp
  have HP := hi (show PlOk p c from ⟨hc, hfew, hpf0, hpf1⟩)
  have hkl := hA.lt
  obtain ⟨w3, hw3⟩ : ∃ w3, (W.alloc (.cells #[.func (.yield l) #[] #[]] 100)).alloc (.cells #[.int .i64 0] 3) = w3 := ⟨_, rfl⟩
  have hz3 : w3.heap.size = W.heap.size + 2 := by rw [← hw3]; simp
  have hB3 : Below W.heap.size W w3 := by rw [← hw3]; exact bal_two _ _ _
  have HI := hi (ids_any p w3)
  have hc3 : CB (w3.alloc (.cells p.cs 37)) w3.heap.size 37 p.cs := CB.new _ _ _
  have hOP : OP l W.heap.size 0 pp bp b (.slice (some ⟨g, 0, none⟩) n cap) p f0 (w3.alloc (.cells p.cs 37)) :=
    ⟨by rw [← hw3]; exact ((CB.new W _ _).alloc _).alloc _, by rw [← hw3]; exact cb_second.alloc _, (hA.below hB3).below (bal w3 _)⟩
  have hJ3 : J [] (w3.alloc (.cells p.cs 37)) := by rw [← hw3]; exact hJ.alloc _ (hJ.alloc _ (hJ.alloc _ h0))
  have z0 := hA.pl.cell 0
  have z1 := hA.pl.cell 1
  have z2 := hA.pl.cell 2
  have hppl : pp < W.heap.size := hA.pl.lt
  have hppl3 : pp < w3.heap.size := by omega
  have HYY := hi hY
  have HJ := hi hJ
  have HJX := hi hJx
  have HOP := hi hOP
  have HJ3 := hi hJ3
  have HKL := hi hkl
  rw [hz3] at HI hc3
  clear hOP hJ3 hA h0 hY hJ hJx hc hkl
  obtain ⟨r, f, pc⟩ := p
  dsimp only at hpf0 hpf1 z0 z1 z2 HYY
  have z0' : W.cell? ⟨pp, 0, none⟩ = some (.int .i64 r) := z0
  have z1' : W.cell? ⟨pp, 1, none⟩ = some (.int .i64 f) := z1
  have z2' : W.cell? ⟨pp, 2, none⟩ = some (.int .i64 pc) := z2
  clear z0 z1 z2
  dsimp only [Pl.v, Pl.cs] at HI HOP HJ3 hc3
  obtain ⟨w5, hw5⟩ : ∃ w5, w3.alloc (.cells #[.int .i64 r, .int .i64 f, .int .i64 pc] 37) = w5 := ⟨_, rfl⟩
  have hz5 : w5.heap.size = W.heap.size + 3 := by rw [← hw5]; simp; omega
  rw [hw5] at HI HOP HJ3 hc3
  have hst := ids_stops (W.heap.size + 2) ⟨r, f, pc⟩ c HP.out w5 hc3
  have HW5 := hi hw5
  subst hw3
  clear hw5
  refine (callsIn_wide (n := 6)).1 ?_
  refine callsIn_of_wp_marks Try.func49 rfl trivial ?_ rfl
  simp only [Try.ntmps49, List.size_toArray, List.length_cons, List.length_nil, Nat.reduceAdd, Nat.reduceSub, Array.replicate_succ, Array.replicate_zero, List.push_toArray, List.append_toArray, List.nil_append, List.cons_append]
  gi_wp2_with (first
    | (refine ⟨trivial, ?_⟩; gi_at_call 50; ((with_reducible refine (callsIn_wide.2 HI.out).mono ?_); rintro e' w6 ⟨rfl, hw6⟩; subst hw6))
    | gi_in)
  refine range_win (n := 6) (by omega) (gf := 65) (lb := #[.pointer (some ⟨W.heap.size + 2, 0, none⟩)]) rfl (enters_of Try.func65 (by kernel_rfl) rfl)
    hst (fun a b => KpS.trans a b) (fun V l o o' h1 h2 h3 h4 => kps_put (by omega) (by omega)) (Below.refl _ _) (fun _ => rfl)
    (fun pre V => (J (pre.filter (inB f0 n f)) V ∧ OP l W.heap.size pre.length pp bp b (.slice (some ⟨g, 0, none⟩) n cap) ⟨r, f, pc⟩ f0 V) ∧ W.heap.size + 3 ≤ V.heap.size)
    (fun cd pre V => cd = .ret ∧ ∃ gs, gs <+: presL f0 n f c ∧ Jx gs V)
    (AbL.of (m := 2) (fun s A A' row hs hg hr => ⟨⟨HJ.out _ A A' row hs.1.1 hg (fun r e => by have := hr r e; omega), hs.1.2.heap (hg.block _ hs.1.2.y.lt (fun e => by have := hr _ e.symm; omega)) (hg.block _ hs.1.2.k.lt (fun e => by have := hr _ e.symm; omega)) (fun i q => hg.block i (hs.1.2.p.lt i q) (fun e => by have := hr _ e.symm; have := HKL.out i q; omega))⟩, Nat.le_trans hs.2 hg.size⟩) rfl)
    (fun cd => AbL.of (m := 2) (fun s A A' row hs hg hr => ⟨hs.1, by obtain ⟨gs, e1, e2⟩ := hs.2; exact ⟨gs, e1, HJX.out _ A A' row e2 hg (fun r e => by have := hr r e; omega)⟩⟩) rfl)
    ⟨⟨HJ3.out, HOP.out⟩, by omega⟩
    (fun x a' V => a' = { tmps := #[.func (.yield l) #[] #[], .pointer (some ⟨pp, 0, none⟩), .pointer (some ⟨bp, 0, none⟩), .pointer (some ⟨W.heap.size, 0, none⟩), .pointer (some ⟨W.heap.size + 1, 0, none⟩), .int .i64 (f + (x : Int)), .agg #[.int .i64 r, .int .i64 f, .int .i64 pc], .func (.func 65) #[] #[.pointer (some ⟨W.heap.size + 2, 0, none⟩)], .int .i64 (f + (x : Int)), undef, undef, undef, undef, undef, undef, undef, undef, undef, undef, undef, undef], defers := [] })
    (fun x a' => AbL.pure _ _ _)
    ?assign ?body ?done ?stop
  case assign =>
    rintro l' pre x V K h hsz hK
    gi_wp2
    exact hK _ _ (KW.refl _ _) (KpS.refl _ _ _ _) h rfl
  case body =>
    rintro l' pre x a' V hsz ⟨⟨hj, hO⟩, hs⟩ rfl hpx
    obtain ⟨hx, hxc⟩ := range_next hpx
    have HLEN := hi (show (pre ++ [x]).length = pre.length + 1 by simp)
    have hp2 := filterN_pre (p := inB f0 n f) hpx
    have hbk := hO.p.bk
    have b0 := hbk.cell 0
    have b1 := hbk.cell 1
    have HHAS := hi (has_raw b g cap n f0 (f + x) V b0 b1 hf0 (by constructor <;> omega))
    have HO := hi hO
    have HJV := hi hj
    have hkk := HKL.out
    have HLN := hi (show (((pre ++ [x]).length : Nat) : Int) = ((pre.length + 1 : Nat) : Int) by rw [HLEN.out])
    obtain ⟨m, hm⟩ : ∃ m, pre.length = m := ⟨_, rfl⟩
    rw [hm] at HLEN HO hx
    have HXM := hi hx
    subst hx
    have hwm : IntKind.i64.wrap ((x : Int) + 1) = ((x + 1 : Nat) : Int) := by rw [IntKind.wrap_i64]; omega
    obtain ⟨y, hy1⟩ : ∃ y, x + 1 = y := ⟨_, rfl⟩
    rw [hy1] at hwm HLEN
    have HY1 := hi hy1
    clear hy1
    cases hb : inB f0 n f x
    · have HE := hi (filterN_no pre hb)
      rw [show hasB f0 n (f + x) = false from hb] at HHAS
      have zb := HO.out.p.bx.cell 0
      clear hb hp2 hO hj hpx hbk b0 b1 hm
      gi_wp2_with (first
        | (refine ⟨trivial, ?_⟩; gi_at_call 17; ((with_reducible refine (CallsIn.inRound l' (callsIn_wide.2 HHAS.out)).mono ?_); rintro e' V1 ⟨rfl, md, rfl⟩; have hod := HO.out.drewN md; have zk := hod.k.cell 0; have fk := hod.k.frozen 0; have HOD := hi hod; clear hod))
        | gi_in)
      refine ⟨noFn, ?_⟩
      gi_wp2
      have hN := HOD.out.next (fun i q => hkk i q)
      rw [HY1.out] at hN
      have hD : Below V.heap.size V (V.drewN md) := Below.drewN (Below.refl _ _)
      refine ⟨(KW.of_below hD).trans (KW.set _ _ _), (KpS.of_below hD (fun i q => by omega) (by omega)).trans (kps_set (by omega) (by omega)), ⟨?_, ?_⟩, ?_⟩
      · rw [HE.out]; exact HJ.out.set _ (HJ.out.grow HJV.out (Below.grew hD)) (by omega) (by omega)
      · rw [HLEN.out]; exact hN
      · simpa using hs
    · have HE := hi (filterN_yes pre hb)
      rw [HE.out] at hp2
      have HPG := hi hp2
      rw [show hasB f0 n (f + x) = true from hb] at HHAS
      have zb := HO.out.p.bx.cell 0
      clear hb hp2 hO hj hpx hbk b0 b1 hm
      gi_wp2_with (first
        | (refine ⟨trivial, ?_⟩; gi_at_call 17; ((with_reducible refine (CallsIn.inRound l' (callsIn_wide.2 HHAS.out)).mono ?_); rintro e' V1 ⟨rfl, md, rfl⟩; have hod := HO.out.drewN md; have zy := hod.y.cell 0; have zk := hod.k.cell 0; have HOD := hi hod; have hD : Below V.heap.size V (V.drewN md) := Below.drewN (Below.refl _ _); have HD := hi hD; obtain ⟨fn, tmps, assign, body, hy, hRd⟩ := HYY.out _ _ (V.drewN md) (HJ.out.grow HJV.out (Below.grew hD)) HPG.out (by have := hD.size; omega) (6 - 1 - 1 - 1); clear hod hD))
        | gi_in)
      refine hRd.mono ?_
      rintro e3 W3 (⟨rfl, hJ3, hk3⟩ | ⟨rfl, hJx3, hk3⟩)
      · have hk := hk3.size
        have hvs := HD.out.size
        have hO3 := HOD.out.heap (hk3.same _ (.inr (by omega))) (hk3.same _ (.inr (by omega))) (fun i q => hk3.same i (.inl q))
        have zk := hO3.k.cell 0
        have fk := hO3.k.frozen 0
        have hKW : KW w6.heap.size V W3 := ⟨by omega, fun i o a b h h' => ((hk3.same i (.inr (by omega))).trans (HD.out.block i (by have := (Array.getElem?_eq_some_iff.1 h).1; omega))).trans h⟩
        have hKP : KpS (fun x => x = W.heap.size + 2) 0 (w6.heap.size + 2) V W3 := ⟨by omega, fun i q => (hk3.same i (.inr (by omega))).trans (HD.out.block i (by omega))⟩
        have HKW := hi hKW
        have HKP := hi hKP
        have HO3 := hi hO3
        clear hKW hKP hO3
        gi_wp2
        have hN := HO3.out.next (fun i q => hkk i q)
        rw [HY1.out] at hN
        refine ⟨HKW.out.trans (KW.set _ _ _), HKP.out.trans (kps_set (by omega) (by omega)), ⟨?_, ?_⟩, ?_⟩
        · rw [HE.out]; exact HJ.out.set _ hJ3 (by omega) (by omega)
        · rw [HLEN.out]; exact hN
        · simp; omega
      · have hk := hk3.size
        have hvs := HD.out.size
        have hKW : KW w6.heap.size V W3 := ⟨by omega, fun i o a b h h' => ((hk3.same i (.inr (by omega))).trans (HD.out.block i (by have := (Array.getElem?_eq_some_iff.1 h).1; omega))).trans h⟩
        have hKP : KpS (fun x => x = W.heap.size + 2) 0 (w6.heap.size + 2) V W3 := ⟨by omega, fun i q => (hk3.same i (.inr (by omega))).trans (HD.out.block i (by omega))⟩
        gi_wp2
        exact ⟨hKW, hKP, rfl, _, HPG.out, hJx3⟩
  case done =>
    rintro ys V rfl ⟨⟨hj, hO⟩, hs⟩ hK hs2
    gi_wp2
    refine ⟨by simp, .inl ⟨_, _, rfl, run_takeDeferred hK, ?_⟩⟩
    exact ⟨_, results_none rfl _ _ _, ⟨_, rfl⟩, .inl ⟨_, rfl, HJ.out.put _ hj (by omega) (by omega)⟩⟩
  case stop =>
    rintro cd pre V hpre ⟨rfl, gs, hg, hx⟩ hK _
    gi_wp2
    refine ⟨by simp, .inl ⟨_, _, rfl, run_takeDeferred hK, ?_⟩⟩
    exact ⟨_, results_none rfl _ _ _, ⟨_, rfl⟩, .inr ⟨gs, hg, HJX.out.put _ hx (by omega) (by omega)⟩⟩

theorem pres_stops (pp bp b g n cap : Nat) (p : Pl) (c : Nat) (f0 : Int) (hp : PlOk p c) (hf0 : 0 ≤ f0) (w : World) (h : PrAt pp bp b (.slice (some ⟨g, 0, none⟩) n cap) p f0 w) :
    SeqW 5 Try.prog 49 #[.pointer (some ⟨pp, 0, none⟩), .pointer (some ⟨bp, 0, none⟩)] (encP p.f) (KpS (ksP pp bp b) 5) (fun ys => ys = presL f0 n p.f c) (fun pre => pre <+: presL f0 n p.f c) (fun pre x => pre ++ [x] <+: presL f0 n p.f c) w := fun l J Jx W hW hJ hJx hY h0 =>
  pres1_any l pp bp b g n cap p c f0 hp hf0 J Jx W hJ hJx (h.below hW) hY h0

/-- What present leaves. -/
def Pres (W : World) (b : Nat) (sv : Value) (p : Pl) (f0 : Int) (e : Ending) (w' : World) : Prop :=
  ∃ pp bp, e = .returned (.func (.func 49) #[] #[.pointer (some ⟨pp, 0, none⟩), .pointer (some ⟨bp, 0, none⟩)]) ∧ W.heap.size ≤ pp ∧ W.heap.size ≤ bp ∧ PrAt pp bp b sv p f0 w' ∧ Below W.heap.size W w'
theorem present_it (b : Nat) (sv : Value) (p : Pl) (f0 : Int) (w : World) (h : CB w b 86 #[.int .i64 f0, sv]) : Calls Try.prog 31 #[.pointer (some ⟨b, 0, none⟩), p.v] w (Pres w b sv p f0) :=
  (present_any b p w).mono fun e w' ⟨h1, h2⟩ => by
    subst h2
    exact ⟨_, _, h1, by omega, Nat.le_refl _, ⟨cb_second, (CB.new w _ _).alloc _, (h.alloc _).alloc _⟩, bal_two w _ _⟩

end Go.Proofs.Ytjgamfonpagkbaa
