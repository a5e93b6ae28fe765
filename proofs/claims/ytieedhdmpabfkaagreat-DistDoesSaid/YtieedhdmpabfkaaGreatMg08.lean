import Derived.Test.YtieedhdmpabfkaaGreatMg06
import Derived.Test.YtieedhdmpabfkaaGreatMg07
import Derived.Test.YtieedhdmpabfkaaGreatMg02
import Derived.Test.YtieedhdmpabfkaaGreatMg05
set_option linter.unusedSimpArgs false
namespace Go.Proofs.YtieedhdmpabfkaaGreat
open Go.ChangeShapes Go.WideShapes Go.ChangeAt Go.RowKit Go.Shelf
set_option linter.unusedVariables false
attribute [local go_sem] Oper.semAt_some
structure PlOk (p : Pl) (c : Nat) : Prop where
 cnt : p.c = c
 few : c ≤ 64
 f0 : 0 ≤ p.f
 f1 : p.f + c ≤ 20000
structure KpS (ks : Nat → Prop) (k B : Nat) (W W' : World) : Prop where
 size : W.heap.size ≤ W'.heap.size
 same : ∀ i, ks i ∨ (B ≤ i ∧ i < B + k) → W'.heap[i]? = W.heap[i]?
theorem KpS.refl (ks : Nat → Prop) (k B : Nat) (W : World) : KpS ks k B W W := ⟨Nat.le_refl _, fun _ _ => rfl⟩
theorem KpS.trans {ks : Nat → Prop} {k B : Nat} {X Y Z : World} (h : KpS ks k B X Y) (j : KpS ks k B Y Z) : KpS ks k B X Z := ⟨Nat.le_trans h.size j.size, fun i q => (j.same i q).trans (h.same i q)⟩
theorem KpS.kept {ks : Nat → Prop} {k B : Nat} {bs : Nat → Prop} {W W' : World} (h : Kept bs W W') (h1 : ∀ i, ks i → i < W.heap.size) (h2 : B + k ≤ W.heap.size) (hn : ∀ i, bs i → ¬ (ks i ∨ (B ≤ i ∧ i < B + k))) : KpS ks k B W W' :=
 ⟨h.size, fun i q => h.block i (by rcases q with q | q; exact h1 i q; omega) (fun x => hn i x q)⟩
theorem KpS.of_below {ks : Nat → Prop} {k B : Nat} {W W' : World} (h : Below W.heap.size W W') (h1 : ∀ i, ks i → i < W.heap.size) (h2 : B + k ≤ W.heap.size) : KpS ks k B W W' :=
 ⟨h.size, fun i q => h.block i (by rcases q with q | q; exact h1 i q; omega)⟩
theorem kps_put {ks : Nat → Prop} {k B : Nat} {W : World} {l : Nat} {o' : Obj} (h1 : ¬ ks l) (h2 : ¬ (B ≤ l ∧ l < B + k)) : KpS ks k B W (W.putObj l o') :=
 ⟨by simp, fun i q => World.putObj_heap_other (fun e => by rcases q with q | q; exact h1 (e ▸ q); exact h2 (e ▸ q))⟩
theorem kps_set {ks : Nat → Prop} {k B : Nat} {W : World} {b o : Nat} {v : Value} (h1 : ¬ ks b) (h2 : ¬ (B ≤ b ∧ b < B + k)) : KpS ks k B W (W.setCell ⟨b, o, none⟩ v) :=
 ⟨by simp, fun i q => Below.heap_setCell W ⟨b, o, none⟩ v i (fun e => by obtain rfl : i = b := e; rcases q with q | q; exact h1 q; exact h2 q)⟩
theorem range_next {pre : List Nat} {x c : Nat} (h : pre ++ [x] <+: List.range c) : x = pre.length ∧ x < c := by
 have h1 := h.length_le
 rw [List.length_append, List.length_range] at h1
 simp only [List.length_cons, List.length_nil] at h1
 obtain ⟨t, ht⟩ := h
 have h2 : (List.range c)[pre.length]? = some x := by
  rw [← ht, List.append_assoc, List.getElem?_append_right (Nat.le_refl _)]
  simp
 rw [List.getElem?_range (by omega)] at h2
 simp only [Option.some.injEq] at h2
 exact ⟨h2.symm, by omega⟩
theorem range_take {k c : Nat} (h : k < c) : (List.range c).take (k + 1) = (List.range c).take k ++ [k] := by
 rw [List.take_add_one, List.getElem?_range h]; rfl
abbrev enc1 (f : Int) (k : Nat) : Array Value := #[.int .i64 (f + k)]
abbrev encP (f : Int) (k : Nat) : Array Value := #[.int .i64 k, .int .i64 (f + k)]
theorem ids_any (p : Pl) (w : World) : Calls Tryz.prog 123 #[p.v] w fun e w' => e = .returned (.func (.func 139) #[] #[.pointer (some ⟨w.heap.size, 0, none⟩)]) ∧ w' = w.alloc (.cells p.cs 70) := by
 obtain ⟨r, f, c⟩ := p
 dsimp only [Pl.v, Pl.cs]
 go_enter Tryz.func123, Tryz.ntmps123
 go_wp2
 go_ret
 exact ⟨rfl, rfl⟩
set_option maxRecDepth 100000 in
set_option maxHeartbeats 4000000 in
theorem ids1_any (l pp : Nat) (p : Pl) (c : Nat) (hp : PlOk p c) (J Jx : List Nat → World → Prop) (W : World) (hJ : AbW W.heap.size 0 J) (hA : CB W pp 70 p.cs)
  (hY : ∀ (pre : List Nat) (x : Nat) (W1 : World), J pre W1 → pre ++ [x] <+: List.range c → W.heap.size + 0 ≤ W1.heap.size → ∀ m, YieldAt Fence.wide m Tryz.prog l (enc1 p.f x) W1 fun e W' =>
   (e = .returned (.bool true) ∧ J (pre ++ [x]) W' ∧ KpS (· = pp) 0 W.heap.size W1 W') ∨ (e = .returned (.bool false) ∧ Jx (pre ++ [x]) W' ∧ KpS (· = pp) 0 W.heap.size W1 W'))
  (h0 : J [] W) :
  Calls Tryz.prog 139 #[.func (.yield l) #[] #[], .pointer (some ⟨pp, 0, none⟩)] W fun e W' => (∃ v, e = .returned v) ∧
   ((∃ ys, ys = List.range c ∧ J ys W') ∨ (∃ pre, pre <+: List.range c ∧ Jx pre W')) := by
 have HYY := hi hY
 obtain ⟨hc, hfew, hf0, hf1⟩ := hp
 have HTA := hi (show (List.range c).take c = List.range c by rw [List.take_of_length_le]; simp)
 have H0 := hi (show CB W pp 70 p.cs ∧ J ((List.range c).take 0) W from ⟨hA, by simpa using h0⟩)
 have b2 := hA.cell 2
 clear hY hJ hA h0
 obtain ⟨r, f, pc⟩ := p
 dsimp only at hc hf0 hf1 b2 HYY H0
 subst hc
 have b2' : W.cell? ⟨pp, 2, none⟩ = some (.int .i64 c) := b2
 clear b2
 refine (callsIn_wide (n := 3)).1 ?_
 refine callsIn_of_wp Tryz.func139 rfl trivial ?_ rfl
 simp only [Tryz.ntmps139, List.size_toArray, List.length_cons, List.length_nil, Nat.reduceAdd, Nat.reduceSub, Array.replicate_succ, Array.replicate_zero, List.push_toArray, List.append_toArray, List.nil_append, List.cons_append]
 have hmin : (c : Int) < 16384 := by omega
 gi_wp2
 gi_loopw [7] (fun i wr => ∃ k : Nat, k ≤ c ∧ i = .int .i64 k ∧ Hi (W.heap.size ≤ wr.heap.size ∧ CB wr pp 70 (Pl.cs ⟨r, f, c⟩) ∧ J ((List.range c).take k) wr))
  (fun i _ => c - (intOf i).toNat)
 case atStart => exact ⟨0, Nat.zero_le _, rfl, hi ⟨Nat.le_refl _, H0.out.1, H0.out.2⟩⟩
 case round =>
  obtain ⟨k, hk, rfl, HP⟩ := hrel
  clear b2' H0
  by_cases hlt : k < c
  ·have HS := hi (range_take hlt)
   have HPRE := hi (show (List.range c).take k ++ [k] <+: List.range c by rw [← HS.out]; exact List.take_prefix _ _)
   have f1 := HP.out.2.1.cell 1
   have f1' : wr.cell? ⟨pp, 1, none⟩ = some (.int .i64 f) := f1
   have hw : IntKind.i64.wrap (f + k) = f + k := by rw [IntKind.wrap_i64]; omega
   obtain ⟨fn, tmps, assign, body, hy, hRd⟩ := HYY.out _ _ wr HP.out.2.2 HPRE.out (by have := HP.out.1; omega) (3 - 1)
   clear f1
   gi_wp2
   refine hRd.mono ?_
   rintro e' W3 (⟨rfl, hJ3, hk3⟩ | ⟨rfl, hJx3, _⟩)
   ·gi_wp2
    go_roundw
    case rel => exact ⟨k + 1, by omega, by go_num, hi ⟨by have := HP.out.1; have := hk3.size; omega, HP.out.2.1.heap (hk3.same pp (.inl rfl)), by rw [HS.out]; exact hJ3⟩⟩
    case measure => simp only [intOf]; omega
   ·gi_wp2
    refine bodyPost_ret (results_none rfl _ _ _) rfl ?_
    exact ⟨⟨_, rfl⟩, .inr ⟨_, HPRE.out, hJx3⟩⟩
  ·obtain rfl : k = c := by omega
   gi_wp2
   go_end0
   exact ⟨⟨_, rfl⟩, .inl ⟨_, rfl, by have := HP.out.2.2; rwa [HTA.out] at this⟩⟩
theorem ids_stops (pp : Nat) (p : Pl) (c : Nat) (hp : PlOk p c) (w : World) (h : CB w pp 70 p.cs) :
  SeqW 0 Tryz.prog 139 #[.pointer (some ⟨pp, 0, none⟩)] (enc1 p.f) (KpS (· = pp) 0) (fun ys => ys = List.range c) (fun pre => pre <+: List.range c) (fun pre x => pre ++ [x] <+: List.range c) w := fun l J Jx W hW hJ hJx hY h0 =>
 ids1_any l pp p c hp J Jx W hJ (h.below hW) hY h0
end Go.Proofs.YtieedhdmpabfkaaGreat
namespace Go.Proofs.YtieedhdmpabfkaaGreat
open Go.ChangeShapes Go.WideShapes Go.ChangeAt Go.RowKit Go.Shelf
set_option linter.unusedVariables false
attribute [local go_sem] Oper.semAt_some
def inB (f0 : Int) (n : Nat) (fp : Int) (k : Nat) : Bool := hasB f0 n (fp + k)
theorem filterN_yes {p : Nat → Bool} {x : Nat} (pre : List Nat) (h : p x = true) : (pre ++ [x]).filter p = pre.filter p ++ [x] := by simp [h]
theorem filterN_no {p : Nat → Bool} {x : Nat} (pre : List Nat) (h : p x = false) : (pre ++ [x]).filter p = pre.filter p := by simp [h]
theorem filterN_pre {p : Nat → Bool} {pre xs : List Nat} (h : pre <+: xs) : pre.filter p <+: xs.filter p := by
 obtain ⟨r, rfl⟩ := h
 rw [List.filter_append]
 exact List.prefix_append _ _
def presL (f0 : Int) (n : Nat) (fp : Int) (c : Nat) : List Nat := (List.range c).filter (inB f0 n fp)
theorem present_any (b : Nat) (p : Pl) (w : World) : Calls Tryz.prog 86 #[.pointer (some ⟨b, 0, none⟩), p.v] w fun e w' => e = .returned (.func (.func 122) #[] #[.pointer (some ⟨w.heap.size + 1, 0, none⟩), .pointer (some ⟨w.heap.size, 0, none⟩)]) ∧
  w' = (w.alloc (.cells #[.pointer (some ⟨b, 0, none⟩)] 81)).alloc (.cells p.cs 70) := by
 obtain ⟨r, f, c⟩ := p
 dsimp only [Pl.v, Pl.cs]
 go_enter Tryz.func86, Tryz.ntmps86
 go_wp2
 go_ret
 exact ⟨rfl, rfl⟩
structure PrAt (pp bp b : Nat) (sv : Value) (p : Pl) (f0 : Int) (V : World) : Prop where
 pl : CB V pp 70 p.cs
 bx : CB V bp 81 #[.pointer (some ⟨b, 0, none⟩)]
 bk : CB V b 132 #[.int .i64 f0, sv]
def ksP (pp bp b : Nat) (i : Nat) : Prop := i = pp ∨ i = bp ∨ i = b
theorem PrAt.heap {pp bp b : Nat} {sv : Value} {p : Pl} {f0 : Int} {V V' : World} (h : PrAt pp bp b sv p f0 V) (k : ∀ i, ksP pp bp b i → V'.heap[i]? = V.heap[i]?) : PrAt pp bp b sv p f0 V' :=
 ⟨h.pl.heap (k _ (.inl rfl)), h.bx.heap (k _ (.inr (.inl rfl))), h.bk.heap (k _ (.inr (.inr rfl)))⟩
theorem PrAt.lt {pp bp b : Nat} {sv : Value} {p : Pl} {f0 : Int} {V : World} (h : PrAt pp bp b sv p f0 V) : ∀ i, ksP pp bp b i → i < V.heap.size := fun i q => by
 rcases q with rfl | rfl | rfl
 ·exact h.pl.lt
 ·exact h.bx.lt
 ·exact h.bk.lt
theorem PrAt.below {pp bp b : Nat} {sv : Value} {p : Pl} {f0 : Int} {V V' : World} (h : PrAt pp bp b sv p f0 V) (k : Below V.heap.size V V') : PrAt pp bp b sv p f0 V' := h.heap (fun i q => k.block i (h.lt i q))
structure OP (l B m pp bp b : Nat) (sv : Value) (p : Pl) (f0 : Int) (V : World) : Prop where
 y : CB V B 168 #[.func (.yield l) #[] #[]]
 k : CB V (B + 1) 3 #[.int .i64 m]
 p : PrAt pp bp b sv p f0 V
theorem OP.heap {l B m pp bp b : Nat} {sv : Value} {p : Pl} {f0 : Int} {V V' : World} (h : OP l B m pp bp b sv p f0 V) (h1 : V'.heap[B]? = V.heap[B]?) (h2 : V'.heap[B + 1]? = V.heap[B + 1]?) (h3 : ∀ i, ksP pp bp b i → V'.heap[i]? = V.heap[i]?) : OP l B m pp bp b sv p f0 V' :=
 ⟨h.y.heap h1, h.k.heap h2, h.p.heap h3⟩
theorem OP.drewN {l B m pp bp b : Nat} {sv : Value} {p : Pl} {f0 : Int} {V : World} (h : OP l B m pp bp b sv p f0 V) (n : Nat) : OP l B m pp bp b sv p f0 (V.drewN n) := h.heap rfl rfl (fun _ _ => rfl)
theorem OP.next {l B m pp bp b : Nat} {sv : Value} {p : Pl} {f0 : Int} {V : World} (h : OP l B m pp bp b sv p f0 V) (hk : ∀ i, ksP pp bp b i → i < B) : OP l B (m + 1) pp bp b sv p f0 (V.setCell ⟨B + 1, 0, none⟩ (.int .i64 ((m + 1 : Nat) : Int))) :=
 ⟨h.y.other _ _ _ (by omega), h.k.set 0 _, h.p.heap (fun i q => Below.heap_setCell V ⟨B + 1, 0, none⟩ _ i (fun e => by have := hk i q; have e' : i = B + 1 := e; omega))⟩
set_option maxRecDepth 100000 in
set_option maxHeartbeats 8000000 in
theorem pres1_any (l pp bp b g n cap : Nat) (p : Pl) (c : Nat) (f0 : Int) (hp : PlOk p c) (hf0 : 0 ≤ f0) (J Jx : List Nat → World → Prop) (W : World) (hJ : AbW W.heap.size 5 J) (hJx : AbW W.heap.size 5 Jx)
  (hA : PrAt pp bp b (.slice (some ⟨g, 0, none⟩) n cap) p f0 W)
  (hY : ∀ (pre : List Nat) (x : Nat) (W1 : World), J pre W1 → pre ++ [x] <+: presL f0 n p.f c → W.heap.size + 5 ≤ W1.heap.size → ∀ m, YieldAt Fence.wide m Tryz.prog l (encP p.f x) W1 fun e W' =>
   (e = .returned (.bool true) ∧ J (pre ++ [x]) W' ∧ KpS (ksP pp bp b) 5 W.heap.size W1 W') ∨ (e = .returned (.bool false) ∧ Jx (pre ++ [x]) W' ∧ KpS (ksP pp bp b) 5 W.heap.size W1 W'))
  (h0 : J [] W) :
  Calls Tryz.prog 122 #[.func (.yield l) #[] #[], .pointer (some ⟨pp, 0, none⟩), .pointer (some ⟨bp, 0, none⟩)] W fun e W' => (∃ v, e = .returned v) ∧
   ((∃ ys, ys = presL f0 n p.f c ∧ J ys W') ∨ (∃ pre, pre <+: presL f0 n p.f c ∧ Jx pre W')) := by
 obtain ⟨hc, hfew, hpf0, hpf1⟩ := hp
 have HP := hi (show PlOk p c from ⟨hc, hfew, hpf0, hpf1⟩)
 have hkl := hA.lt
 obtain ⟨w3, hw3⟩ : ∃ w3, (W.alloc (.cells #[.func (.yield l) #[] #[]] 168)).alloc (.cells #[.int .i64 0] 3) = w3 := ⟨_, rfl⟩
 have hz3 : w3.heap.size = W.heap.size + 2 := by rw [← hw3]; simp
 have hB3 : Below W.heap.size W w3 := by rw [← hw3]; exact bal_two _ _ _
 have HI := hi (ids_any p w3)
 have hc3 : CB (w3.alloc (.cells p.cs 70)) w3.heap.size 70 p.cs := CB.new _ _ _
 have hOP : OP l W.heap.size 0 pp bp b (.slice (some ⟨g, 0, none⟩) n cap) p f0 (w3.alloc (.cells p.cs 70)) :=
  ⟨by rw [← hw3]; exact ((CB.new W _ _).alloc _).alloc _, by rw [← hw3]; exact cb_second.alloc _, (hA.below hB3).below (bal w3 _)⟩
 have hJ3 : J [] (w3.alloc (.cells p.cs 70)) := by rw [← hw3]; exact hJ.alloc _ (hJ.alloc _ (hJ.alloc _ h0))
 have z0 := hA.pl.cell 0
 have z1 := hA.pl.cell 1
 have z2 := hA.pl.cell 2
 have hppl : pp < W.heap.size := hA.pl.lt
 have hppl3 : pp < w3.heap.size := by omega
 have HYY := hi hY
 have HJ := hi hJ
 have HJX := hi hJx
 have HOP := hi hOP
 have HJ3 := hi hJ3
 have HKL := hi hkl
 rw [hz3] at HI hc3
 clear hOP hJ3 hA h0 hY hJ hJx hc hkl
 obtain ⟨r, f, pc⟩ := p
 dsimp only at hpf0 hpf1 z0 z1 z2 HYY
 have z0' : W.cell? ⟨pp, 0, none⟩ = some (.int .i64 r) := z0
 have z1' : W.cell? ⟨pp, 1, none⟩ = some (.int .i64 f) := z1
 have z2' : W.cell? ⟨pp, 2, none⟩ = some (.int .i64 pc) := z2
 clear z0 z1 z2
 dsimp only [Pl.v, Pl.cs] at HI HOP HJ3 hc3
 obtain ⟨w5, hw5⟩ : ∃ w5, w3.alloc (.cells #[.int .i64 r, .int .i64 f, .int .i64 pc] 70) = w5 := ⟨_, rfl⟩
 have hz5 : w5.heap.size = W.heap.size + 3 := by rw [← hw5]; simp; omega
 rw [hw5] at HI HOP HJ3 hc3
 have hst := ids_stops (W.heap.size + 2) ⟨r, f, pc⟩ c HP.out w5 hc3
 have HW5 := hi hw5
 subst hw3
 clear hw5
 refine (callsIn_wide (n := 6)).1 ?_
 refine callsIn_of_wp_marks Tryz.func122 rfl trivial ?_ rfl
 simp only [Tryz.ntmps122, List.size_toArray, List.length_cons, List.length_nil, Nat.reduceAdd, Nat.reduceSub, Array.replicate_succ, Array.replicate_zero, List.push_toArray, List.append_toArray, List.nil_append, List.cons_append]
 gi_wp2_with (first
  | (refine ⟨trivial, ?_⟩; gi_at_call 123; ((with_reducible refine (callsIn_wide.2 HI.out).mono ?_); rintro e' w6 ⟨rfl, hw6⟩; subst hw6))
  | gi_in)
 refine range_win (n := 6) (by omega) (gf := 139) (lb := #[.pointer (some ⟨W.heap.size + 2, 0, none⟩)]) rfl (enters_of Tryz.func139 (by kernel_rfl) rfl)
  hst (fun a b => KpS.trans a b) (fun V l o o' h1 h2 h3 h4 => kps_put (by omega) (by omega)) (Below.refl _ _) (fun _ => rfl)
  (fun pre V => (J (pre.filter (inB f0 n f)) V ∧ OP l W.heap.size pre.length pp bp b (.slice (some ⟨g, 0, none⟩) n cap) ⟨r, f, pc⟩ f0 V) ∧ W.heap.size + 3 ≤ V.heap.size)
  (fun cd pre V => cd = .ret ∧ ∃ gs, gs <+: presL f0 n f c ∧ Jx gs V)
  (AbL.of (m := 2) (fun s A A' row hs hg hr => ⟨⟨HJ.out _ A A' row hs.1.1 hg (fun r e => by have := hr r e; omega), hs.1.2.heap (hg.block _ hs.1.2.y.lt (fun e => by have := hr _ e.symm; omega)) (hg.block _ hs.1.2.k.lt (fun e => by have := hr _ e.symm; omega)) (fun i q => hg.block i (hs.1.2.p.lt i q) (fun e => by have := hr _ e.symm; have := HKL.out i q; omega))⟩, Nat.le_trans hs.2 hg.size⟩) rfl)
  (fun cd => AbL.of (m := 2) (fun s A A' row hs hg hr => ⟨hs.1, by obtain ⟨gs, e1, e2⟩ := hs.2; exact ⟨gs, e1, HJX.out _ A A' row e2 hg (fun r e => by have := hr r e; omega)⟩⟩) rfl)
  ⟨⟨HJ3.out, HOP.out⟩, by omega⟩
  (fun x a' V => a' = { tmps := #[.func (.yield l) #[] #[], .pointer (some ⟨pp, 0, none⟩), .pointer (some ⟨bp, 0, none⟩), .pointer (some ⟨W.heap.size, 0, none⟩), .pointer (some ⟨W.heap.size + 1, 0, none⟩), .int .i64 (f + (x : Int)), .agg #[.int .i64 r, .int .i64 f, .int .i64 pc], .func (.func 139) #[] #[.pointer (some ⟨W.heap.size + 2, 0, none⟩)], .int .i64 (f + (x : Int)), undef, undef, undef, undef, undef, undef, undef, undef, undef, undef, undef, undef], defers := [] })
  (fun x a' => AbL.pure _ _ _)
  ?assign ?body ?done ?stop
 case assign =>
  rintro l' pre x V K h hsz hK
  gi_wp2
  exact hK _ _ (KW.refl _ _) (KpS.refl _ _ _ _) h rfl
 case body =>
  rintro l' pre x a' V hsz ⟨⟨hj, hO⟩, hs⟩ rfl hpx
  obtain ⟨hx, hxc⟩ := range_next hpx
  have HLEN := hi (show (pre ++ [x]).length = pre.length + 1 by simp)
  have hp2 := filterN_pre (p := inB f0 n f) hpx
  have hbk := hO.p.bk
  have b0 := hbk.cell 0
  have b1 := hbk.cell 1
  have HHAS := hi (has_raw b g cap n f0 (f + x) V b0 b1 hf0 (by constructor <;> omega))
  have HO := hi hO
  have HJV := hi hj
  have hkk := HKL.out
  have HLN := hi (show (((pre ++ [x]).length : Nat) : Int) = ((pre.length + 1 : Nat) : Int) by rw [HLEN.out])
  obtain ⟨m, hm⟩ : ∃ m, pre.length = m := ⟨_, rfl⟩
  rw [hm] at HLEN HO hx
  have HXM := hi hx
  subst hx
  have hwm : IntKind.i64.wrap ((x : Int) + 1) = ((x + 1 : Nat) : Int) := by rw [IntKind.wrap_i64]; omega
  obtain ⟨y, hy1⟩ : ∃ y, x + 1 = y := ⟨_, rfl⟩
  rw [hy1] at hwm HLEN
  have HY1 := hi hy1
  clear hy1
  cases hb : inB f0 n f x
  ·have HE := hi (filterN_no pre hb)
   rw [show hasB f0 n (f + x) = false from hb] at HHAS
   have zb := HO.out.p.bx.cell 0
   clear hb hp2 hO hj hpx hbk b0 b1 hm
   gi_wp2_with (first
    | (refine ⟨trivial, ?_⟩; gi_at_call 81; ((with_reducible refine (CallsIn.inRound l' (callsIn_wide.2 HHAS.out)).mono ?_); rintro e' V1 ⟨rfl, md, rfl⟩; have hod := HO.out.drewN md; have zk := hod.k.cell 0; have fk := hod.k.frozen 0; have HOD := hi hod; clear hod))
    | gi_in)
   refine ⟨noFn, ?_⟩
   gi_wp2
   have hN := HOD.out.next (fun i q => hkk i q)
   rw [HY1.out] at hN
   have hD : Below V.heap.size V (V.drewN md) := Below.drewN (Below.refl _ _)
   refine ⟨(KW.of_below hD).trans (KW.set _ _ _), (KpS.of_below hD (fun i q => by omega) (by omega)).trans (kps_set (by omega) (by omega)), ⟨?_, ?_⟩, ?_⟩
   ·rw [HE.out]; exact HJ.out.set _ (HJ.out.grow HJV.out (Below.grew hD)) (by omega) (by omega)
   ·rw [HLEN.out]; exact hN
   ·simpa using hs
  ·have HE := hi (filterN_yes pre hb)
   rw [HE.out] at hp2
   have HPG := hi hp2
   rw [show hasB f0 n (f + x) = true from hb] at HHAS
   have zb := HO.out.p.bx.cell 0
   clear hb hp2 hO hj hpx hbk b0 b1 hm
   gi_wp2_with (first
    | (refine ⟨trivial, ?_⟩; gi_at_call 81; ((with_reducible refine (CallsIn.inRound l' (callsIn_wide.2 HHAS.out)).mono ?_); rintro e' V1 ⟨rfl, md, rfl⟩; have hod := HO.out.drewN md; have zy := hod.y.cell 0; have zk := hod.k.cell 0; have HOD := hi hod; have hD : Below V.heap.size V (V.drewN md) := Below.drewN (Below.refl _ _); have HD := hi hD; obtain ⟨fn, tmps, assign, body, hy, hRd⟩ := HYY.out _ _ (V.drewN md) (HJ.out.grow HJV.out (Below.grew hD)) HPG.out (by have := hD.size; omega) (6 - 1 - 1 - 1); clear hod hD))
    | gi_in)
   refine hRd.mono ?_
   rintro e3 W3 (⟨rfl, hJ3, hk3⟩ | ⟨rfl, hJx3, hk3⟩)
   ·have hk := hk3.size
    have hvs := HD.out.size
    have hO3 := HOD.out.heap (hk3.same _ (.inr (by omega))) (hk3.same _ (.inr (by omega))) (fun i q => hk3.same i (.inl q))
    have zk := hO3.k.cell 0
    have fk := hO3.k.frozen 0
    have hKW : KW w6.heap.size V W3 := ⟨by omega, fun i o a b h h' => ((hk3.same i (.inr (by omega))).trans (HD.out.block i (by have := (Array.getElem?_eq_some_iff.1 h).1; omega))).trans h⟩
    have hKP : KpS (fun x => x = W.heap.size + 2) 0 (w6.heap.size + 2) V W3 := ⟨by omega, fun i q => (hk3.same i (.inr (by omega))).trans (HD.out.block i (by omega))⟩
    have HKW := hi hKW
    have HKP := hi hKP
    have HO3 := hi hO3
    clear hKW hKP hO3
    gi_wp2
    have hN := HO3.out.next (fun i q => hkk i q)
    rw [HY1.out] at hN
    refine ⟨HKW.out.trans (KW.set _ _ _), HKP.out.trans (kps_set (by omega) (by omega)), ⟨?_, ?_⟩, ?_⟩
    ·rw [HE.out]; exact HJ.out.set _ hJ3 (by omega) (by omega)
    ·rw [HLEN.out]; exact hN
    ·simp; omega
   ·have hk := hk3.size
    have hvs := HD.out.size
    have hKW : KW w6.heap.size V W3 := ⟨by omega, fun i o a b h h' => ((hk3.same i (.inr (by omega))).trans (HD.out.block i (by have := (Array.getElem?_eq_some_iff.1 h).1; omega))).trans h⟩
    have hKP : KpS (fun x => x = W.heap.size + 2) 0 (w6.heap.size + 2) V W3 := ⟨by omega, fun i q => (hk3.same i (.inr (by omega))).trans (HD.out.block i (by omega))⟩
    gi_wp2
    exact ⟨hKW, hKP, rfl, _, HPG.out, hJx3⟩
 case done =>
  rintro ys V rfl ⟨⟨hj, hO⟩, hs⟩ hK hs2
  gi_wp2
  refine ⟨by simp, .inl ⟨_, _, rfl, run_takeDeferred hK, ?_⟩⟩
  exact ⟨_, results_none rfl _ _ _, ⟨_, rfl⟩, .inl ⟨_, rfl, HJ.out.put _ hj (by omega) (by omega)⟩⟩
 case stop =>
  rintro cd pre V hpre ⟨rfl, gs, hg, hx⟩ hK _
  gi_wp2
  refine ⟨by simp, .inl ⟨_, _, rfl, run_takeDeferred hK, ?_⟩⟩
  exact ⟨_, results_none rfl _ _ _, ⟨_, rfl⟩, .inr ⟨gs, hg, HJX.out.put _ hx (by omega) (by omega)⟩⟩
theorem pres_stops (pp bp b g n cap : Nat) (p : Pl) (c : Nat) (f0 : Int) (hp : PlOk p c) (hf0 : 0 ≤ f0) (w : World) (h : PrAt pp bp b (.slice (some ⟨g, 0, none⟩) n cap) p f0 w) :
  SeqW 5 Tryz.prog 122 #[.pointer (some ⟨pp, 0, none⟩), .pointer (some ⟨bp, 0, none⟩)] (encP p.f) (KpS (ksP pp bp b) 5) (fun ys => ys = presL f0 n p.f c) (fun pre => pre <+: presL f0 n p.f c) (fun pre x => pre ++ [x] <+: presL f0 n p.f c) w := fun l J Jx W hW hJ hJx hY h0 =>
 pres1_any l pp bp b g n cap p c f0 hp hf0 J Jx W hJ hJx (h.below hW) hY h0
def Pres (W : World) (b : Nat) (sv : Value) (p : Pl) (f0 : Int) (e : Ending) (w' : World) : Prop :=
 ∃ pp bp, e = .returned (.func (.func 122) #[] #[.pointer (some ⟨pp, 0, none⟩), .pointer (some ⟨bp, 0, none⟩)]) ∧ W.heap.size ≤ pp ∧ W.heap.size ≤ bp ∧ PrAt pp bp b sv p f0 w' ∧ Below W.heap.size W w'
theorem present_it (b : Nat) (sv : Value) (p : Pl) (f0 : Int) (w : World) (h : CB w b 132 #[.int .i64 f0, sv]) : Calls Tryz.prog 86 #[.pointer (some ⟨b, 0, none⟩), p.v] w (Pres w b sv p f0) :=
 (present_any b p w).mono fun e w' ⟨h1, h2⟩ => by
  subst h2
  exact ⟨_, _, h1, by omega, Nat.le_refl _, ⟨cb_second, (CB.new w _ _).alloc _, (h.alloc _).alloc _⟩, bal_two w _ _⟩
end Go.Proofs.YtieedhdmpabfkaaGreat
namespace Go.Proofs.YtieedhdmpabfkaaGreat
open Go.ChangeShapes Go.WideShapes Go.ChangeAt Go.RowKit Go.Shelf
set_option linter.unusedVariables false
attribute [local go_sem] Oper.semAt_some
def FineAll (es : List En) : Prop := ∀ x ∈ es, Fine x.ln
theorem FineAll.nth {es : List En} (h : FineAll es) {k : Nat} (hk : k < es.length) : Fine (nthE es k).ln := h _ (List.mem_of_getElem? (nthE_at hk))
def plcK (f0 fp : Int) (k : Nat) : Nat := (fp + k - f0).toNat
theorem pres_mem {f0 : Int} {n c : Nat} {fp : Int} {pre : List Nat} {k : Nat} (h : pre ++ [k] <+: presL f0 n fp c) : k < c ∧ hasB f0 n (fp + k) = true := by
 have h1 : k ∈ presL f0 n fp c := h.subset (by simp)
 rw [presL, List.mem_filter, List.mem_range] at h1
 exact h1
theorem plc_at {f0 fp : Int} {n k : Nat} (h : hasB f0 n (fp + k) = true) : fp + k = f0 + (plcK f0 fp k : Nat) ∧ plcK f0 fp k < n := by
 rw [hasB_iff] at h
 unfold plcK
 omega
def readL (p : Pl) (f0 : Int) (es : List En) (ks : List Nat) : Nat := ks.foldl (fun v k => withN (wideN p.r) v k (toldV (nthE es (plcK f0 p.f k)).ln p.r)) 0
theorem readL_snoc (p : Pl) (f0 : Int) (es : List En) (ks : List Nat) (k : Nat) : readL p f0 es (ks ++ [k]) = withN (wideN p.r) (readL p f0 es ks) k (toldV (nthE es (plcK f0 p.f k)).ln p.r) := by simp [readL]
theorem readL_lt (p : Pl) (f0 : Int) (es : List En) (ks : List Nat) : readL p f0 es ks < 18446744073709551616 := by
 rcases List.eq_nil_or_concat ks with rfl | ⟨r, k, rfl⟩
 ·show (0 : Nat) < _; decide
 ·rw [List.concat_eq_append, readL_snoc]; exact withN_lt _ _ _ _
def readV (p : Pl) (c : Nat) (f0 : Int) (es : List En) : Nat := readL p f0 es (presL f0 es.length p.f c)
structure RA (w w5 : World) (v : Nat) (V : World) : Prop where
 v : CB V (w.heap.size + 2) 28 #[.int .u64 v]
 kept : Kept (· = w.heap.size + 2) w5 V
theorem RA.later {w w5 V V' : World} {v : Nat} (h : RA w w5 v V) (k : Below V.heap.size V V') : RA w w5 v V' := ⟨h.v.below k, h.kept.below k⟩
theorem RA.set {w w5 V : World} {v : Nat} (h : RA w w5 v V) (d : Nat) : RA w w5 d (V.setCell ⟨w.heap.size + 2, 0, none⟩ (.int .u64 d)) := ⟨h.v.set 0 _, h.kept.set _ _ rfl⟩
theorem Kept.grownW {bs : Nat → Prop} {A B C : World} {row : Option Nat} (h : Kept bs A B) (hg : B.grownBy C row) (hr : ∀ r, row = some r → A.heap.size ≤ r) : Kept bs A C :=
 ⟨hg.os.trans h.os, hg.tape.trans h.tape, hg.output.trans h.output, Nat.le_trans h.size hg.size, fun i hi' hn => (hg.block i (Nat.lt_of_lt_of_le hi' h.size) (fun e => by have := hr _ e.symm; omega)).trans (h.block i hi' hn)⟩
set_option maxRecDepth 100000 in
set_option maxHeartbeats 16000000 in
theorem read_any {b g cap : Nat} {f0 : Int} {es : List En} {p : Pl} {c : Nat} {w : World} (h : BkAt w b g cap f0 es) (hf : Fit f0 es.length) (hfine : FineAll es) (hp : PlOk p c) :
  Calls Tryz.prog 76 #[.pointer (some ⟨b, 0, none⟩), p.v] w fun e w' => e = .returned (.int .u64 (readV p c f0 es : Nat)) ∧ Below w.heap.size w w' := by
 have HP := hi hp
 have HF := hi hf
 have HFA := hi hfine
 have H := hi h
 have CP := hi (fun W (hW : Below w.heap.size w W) => present_it b (.slice (some ⟨g, 0, none⟩) es.length cap) p f0 W (h.below hW).box)
 have HWT := hi (fun v k x W hv hk hc => with_any v p k x W hv hk hc)
 have hbw := h.box.lt
 obtain ⟨n, hn⟩ : ∃ n, es.length = n := ⟨_, rfl⟩
 have HN := hi hn
 have hpk := hp.cnt
 have hfew := hp.few
 unfold readV
 rw [hn] at CP ⊢
 clear h hf hfine hp hn
 obtain ⟨r, fp, pc⟩ := p
 dsimp only at hpk
 subst hpk
 dsimp only [Pl.v, Pl.cs] at CP HWT ⊢
 have H2 := hi (((CB.new w 81 #[.pointer (some ⟨b, 0, none⟩)]).alloc (.cells #[.int .i64 r, .int .i64 fp, .int .i64 c] 70)).alloc (.cells #[.int .u64 0] 28))
 have H3 := hi ((cb_second (w := w) (o := .cells #[.pointer (some ⟨b, 0, none⟩)] 81) (cs := #[.int .i64 r, .int .i64 fp, .int .i64 c]) (t := 70)).alloc (.cells #[.int .u64 0] 28))
 have H5 := hi (CB.new ((w.alloc (.cells #[.pointer (some ⟨b, 0, none⟩)] 81)).alloc (.cells #[.int .i64 r, .int .i64 fp, .int .i64 c] 70)) 28 #[.int .u64 0])
 have HB := hi (bal_three w (.cells #[.pointer (some ⟨b, 0, none⟩)] 81) (.cells #[.int .i64 r, .int .i64 fp, .int .i64 c] 70) (.cells #[.int .u64 0] 28))
 have HSZ := hi (show ((((w.alloc (.cells #[.pointer (some ⟨b, 0, none⟩)] 81)).alloc (.cells #[.int .i64 r, .int .i64 fp, .int .i64 c] 70)).alloc (.cells #[.int .u64 0] 28)).heap.size) = w.heap.size + 3 by simp)
 simp only [World.size_alloc] at H5
 refine (callsIn_wide (n := 6)).1 ?_
 refine callsIn_of_wp_marks Tryz.func76 rfl trivial ?_ rfl
 simp only [Tryz.ntmps76, List.size_toArray, List.length_cons, List.length_nil, Nat.reduceAdd, Nat.reduceSub, Array.replicate_succ, Array.replicate_zero, List.push_toArray, List.append_toArray, List.nil_append, List.cons_append]
 refine wpIn_wide.2 ?_
 go_wp2_with (go_at_call 86; ((with_reducible refine (CP.out _ HB.out).mono ?_); rintro e' w5 ⟨pp, bp, rfl, hpp, hbp, hpr, hb⟩; have HPR := hi hpr; have X2 := hi (H2.out.below hb); have X3 := hi (H3.out.below hb); have X5 := hi (H5.out.below hb); have XB := hi (HB.out.trans (hb.mono HB.out.size)); have hs5 := hb.size; rw [HSZ.out] at hs5 hpp hbp; clear hb hpr H2 H3 H5))
 have HKS := hi HPR.out.lt
 have hppl := HPR.out.pl.lt
 have hbpl := HPR.out.bx.lt
 have HST := hi (pres_stops pp bp b g n cap ⟨r, fp, c⟩ c f0 HP.out HF.out.f0 w5 HPR.out)
 have HJ0 := hi (show RA w w5 0 w5 from ⟨X5.out, Kept.refl _ _⟩)
 have hkb : ∀ i, ksP pp bp b i → i ≠ w.heap.size + 2 := fun i q => by rcases q with rfl | rfl | rfl <;> omega
 have HKB := hi hkb
 clear hkb CP HB HSZ
 refine (wpIn_wide (n := 6)).1 ?_
 refine range_win (n := 6) (by omega) (gf := 122) (lb := #[.pointer (some ⟨pp, 0, none⟩), .pointer (some ⟨bp, 0, none⟩)]) rfl (enters_of Tryz.func122 (by kernel_rfl) rfl)
  HST.out (fun a b => KpS.trans a b) (fun V l o o' h1 h2 h3 h4 => kps_put (fun q => by have := HKS.out l q; omega) (by omega)) (Below.refl _ _) (fun _ => rfl)
  (fun pre V => RA w w5 (readL ⟨r, fp, c⟩ f0 es pre) V)
  (fun cd pre V => False)
  (AbL.of (m := 2 + 5) (fun s A A' row hs hg hr => ⟨hs.v.kept hg (fun e => by have := hr _ e.symm; omega), hs.kept.grownW hg (fun r e => by have := hr _ e; omega)⟩) rfl)
  (fun _ _ _ _ _ hs _ _ => hs)
  HJ0.out
  (fun x a' V => a' = { tmps := #[.pointer (some ⟨b, 0, none⟩), .agg #[.int .i64 r, .int .i64 fp, .int .i64 c], .pointer (some ⟨w.heap.size, 0, none⟩), .pointer (some ⟨w.heap.size + 1, 0, none⟩), .int .u64 0, .pointer (some ⟨w.heap.size + 1 + 1, 0, none⟩), .int .i64 x, .int .i64 (fp + (x : Int)), undef, undef, .pointer (some ⟨b, 0, none⟩), .agg #[.int .i64 r, .int .i64 fp, .int .i64 c], .func (.func 122) #[] #[.pointer (some ⟨pp, 0, none⟩), .pointer (some ⟨bp, 0, none⟩)], .int .i64 x, .int .i64 (fp + (x : Int)), undef, undef, undef, undef, undef, undef, undef, undef, undef, undef, undef, undef, undef, undef, undef, undef], defers := [] })
  (fun x a' => AbL.pure _ _ _)
  ?assign ?body ?done ?stop
 case assign =>
  rintro l' pre x V K h hsz hK
  gi_wp2
  exact hK _ _ (KW.refl _ _) (KpS.refl _ _ _ _) h rfl
 case body =>
  rintro l' pre x a' V hsz hJ rfl hpx
  obtain ⟨hxc, hin⟩ := pres_mem hpx
  obtain ⟨hid, hjn⟩ := plc_at hin
  have HSN := hi (readL_snoc ⟨r, fp, c⟩ f0 es pre x)
  have hvlt := readL_lt ⟨r, fp, c⟩ f0 es pre
  have HJ := hi hJ
  have HBV := hi (XB.out.trans (HJ.out.kept.toBelow XB.out.size (fun i e => by subst e; omega)))
  have HBK := hi (H.out.below HBV.out)
  obtain ⟨j, hj⟩ : ∃ j, plcK f0 fp x = j := ⟨_, rfl⟩
  dsimp only at HSN
  rw [hj] at hid hjn HSN
  have hke : es[j]? = some (nthE es j) := nthE_at (by rw [HN.out]; exact hjn)
  have hfj : Fine (nthE es j).ln := HFA.out.nth (by rw [HN.out]; exact hjn)
  obtain ⟨y, hy⟩ : ∃ y, nthE es j = y := ⟨_, rfl⟩
  rw [hy] at hke hfj HSN
  have HT := hi (fun W => told_any y.ln r W hfj)
  have hty := toldV_le hfj r
  have HG := hi (get_yes HBK.out HF.out hke)
  rw [← hid] at HG
  obtain ⟨t, ht⟩ : ∃ t, toldV y.ln r = t := ⟨_, rfl⟩
  rw [ht] at HT HSN hty
  obtain ⟨v, hv⟩ : ∃ v, readL ⟨r, fp, c⟩ f0 es pre = v := ⟨_, rfl⟩
  rw [hv] at HSN hvlt HJ
  have HW := hi (fun W => HWT.out v x t W hvlt (by omega) (by simpa using hxc))
  obtain ⟨v2, hv2⟩ : ∃ v2, withN (wideN r) v x t = v2 := ⟨_, rfl⟩
  rw [hv2] at HW HSN
  have v2' := (X2.out.keptB HJ.out.kept (show ¬ w.heap.size = w.heap.size + 2 by omega)).cell 0
  have HV2 := hi (X2.out.keptB HJ.out.kept (show ¬ w.heap.size = w.heap.size + 2 by omega))
  have HV3 := hi (X3.out.keptB HJ.out.kept (show ¬ w.heap.size + 1 = w.heap.size + 2 by omega))
  clear hJ hpx hin hj hke hfj hy ht hv hv2 hid
  obtain ⟨⟨⟨e, lb', q, a⟩, en, gr, pr⟩, s⟩ := y
  dsimp only [En.v, Ln.v] at HG HT
  gi_wp2_with (first
   | (refine ⟨trivial, ?_⟩; gi_at_call 68; ((with_reducible refine (CallsIn.inRound l' (callsIn_wide.2 HG.out)).mono ?_); rintro e' V1 ⟨rfl, hB⟩; have HBv := hi hB; clear hB))
   | gi_in)
  have HBA := hi (HBv.out.alloc HBv.out.size (.cells #[.bool e, .bool lb', .bool q, .bool a, .bool en, .int .i64 gr, .int .i64 pr, .int .i64 s.c, .bool s.y] 115))
  have hS0 : (fun W' => CB W' (w.heap.size + 2) 28 #[.int .u64 v] ∧ CB W' (w.heap.size + 1) 70 #[.int .i64 r, .int .i64 fp, .int .i64 c] ∧ CB W' V1.heap.size 115 #[.bool e, .bool lb', .bool q, .bool a, .bool en, .int .i64 gr, .int .i64 pr, .int .i64 s.c, .bool s.y]) (V1.alloc (.cells #[.bool e, .bool lb', .bool q, .bool a, .bool en, .int .i64 gr, .int .i64 pr, .int .i64 s.c, .bool s.y] 115)).drew :=
   ⟨(HJ.out.v.below HBA.out).drew, (HV3.out.below HBA.out).drew, (CB.new _ _ _).drew⟩
  obtain ⟨V2, hV2⟩ : ∃ V2, (V1.alloc (.cells #[.bool e, .bool lb', .bool q, .bool a, .bool en, .int .i64 gr, .int .i64 pr, .int .i64 s.c, .bool s.y] 115)) = V2 := ⟨_, rfl⟩
  rw [hV2] at HBA hS0 ⊢
  have HBD := hi (Below.drewN (m := 1) HBA.out)
  clear hV2 v2'
  refine region_last_r (S := (fun W' => CB W' (w.heap.size + 2) 28 #[.int .u64 v] ∧ CB W' (w.heap.size + 1) 70 #[.int .i64 r, .int .i64 fp, .int .i64 c] ∧ CB W' V1.heap.size 115 #[.bool e, .bool lb', .bool q, .bool a, .bool en, .int .i64 gr, .int .i64 pr, .int .i64 s.c, .bool s.y])) [9] (by kernel_rfl) (by rfl) hS0 (fun hHeld => ?_)
  (try simp only [r1, r2, r3, r4, r5])
  refine tk 0 (v := ?_) rfl (Or.inl ⟨by rfl, ?_⟩) ?_
  rotate_left
  ·intro w' hSw; (try dsimp only at hSw); obtain ⟨hs1, hs2, hs3⟩ := hSw; have k0 := hs1.cell 0; have p0 := hs2.cell 0; have p1 := hs2.cell 1; have p2 := hs2.cell 2; obtain ⟨d0, d1, d2, d3, d4, d5, d6, d7, d8⟩ := CB.ent (x := ⟨⟨⟨e, lb', q, a⟩, en, gr, pr⟩, s⟩) hs3; dsimp only at d0 d1 d2 d3 d4 d5 d6 d7 d8; go_simp; (try with_reducible rfl)
  (try simp only [Act.put, n1, n2, n4, n5, n6])
  refine tk 1 (v := ?_) rfl (Or.inl ⟨by rfl, ?_⟩) ?_
  rotate_left
  ·intro w' hSw; (try dsimp only at hSw); obtain ⟨hs1, hs2, hs3⟩ := hSw; have k0 := hs1.cell 0; have p0 := hs2.cell 0; have p1 := hs2.cell 1; have p2 := hs2.cell 2; obtain ⟨d0, d1, d2, d3, d4, d5, d6, d7, d8⟩ := CB.ent (x := ⟨⟨⟨e, lb', q, a⟩, en, gr, pr⟩, s⟩) hs3; dsimp only at d0 d1 d2 d3 d4 d5 d6 d7 d8; go_simp; (try with_reducible rfl)
  (try simp only [Act.put, n1, n2, n3, n4, n5, n6])
  refine tk 2 (v := ?_) rfl (Or.inl ⟨by rfl, ?_⟩) ?_
  rotate_left
  ·intro w' hSw; (try dsimp only at hSw); obtain ⟨hs1, hs2, hs3⟩ := hSw; have k0 := hs1.cell 0; have p0 := hs2.cell 0; have p1 := hs2.cell 1; have p2 := hs2.cell 2; obtain ⟨d0, d1, d2, d3, d4, d5, d6, d7, d8⟩ := CB.ent (x := ⟨⟨⟨e, lb', q, a⟩, en, gr, pr⟩, s⟩) hs3; dsimp only at d0 d1 d2 d3 d4 d5 d6 d7 d8; go_simp; (try with_reducible rfl)
  (try simp only [Act.put, n1, n2, n3, n4, n5, n6])
  refine tk 3 (v := ?_) rfl (Or.inl ⟨by rfl, ?_⟩) ?_
  rotate_left
  ·intro w' hSw; (try dsimp only at hSw); obtain ⟨hs1, hs2, hs3⟩ := hSw; have k0 := hs1.cell 0; have p0 := hs2.cell 0; have p1 := hs2.cell 1; have p2 := hs2.cell 2; obtain ⟨d0, d1, d2, d3, d4, d5, d6, d7, d8⟩ := CB.ent (x := ⟨⟨⟨e, lb', q, a⟩, en, gr, pr⟩, s⟩) hs3; dsimp only at d0 d1 d2 d3 d4 d5 d6 d7 d8; go_simp; (try with_reducible rfl)
  (try simp only [Act.put, n1, n2, n3, n4, n5, n6])
  refine tk 4 (v := ?_) rfl (Or.inl ⟨by rfl, ?_⟩) ?_
  rotate_left
  ·intro w' hSw; (try dsimp only at hSw); obtain ⟨hs1, hs2, hs3⟩ := hSw; have k0 := hs1.cell 0; have p0 := hs2.cell 0; have p1 := hs2.cell 1; have p2 := hs2.cell 2; obtain ⟨d0, d1, d2, d3, d4, d5, d6, d7, d8⟩ := CB.ent (x := ⟨⟨⟨e, lb', q, a⟩, en, gr, pr⟩, s⟩) hs3; dsimp only at d0 d1 d2 d3 d4 d5 d6 d7 d8; go_simp; (try with_reducible rfl)
  (try simp only [Act.put, n1, n2, n3, n4, n5, n6])
  refine tk 5 (v := ?_) rfl (Or.inl ⟨by rfl, ?_⟩) ?_
  rotate_left
  ·intro w' hSw; (try dsimp only at hSw); obtain ⟨hs1, hs2, hs3⟩ := hSw; have k0 := hs1.cell 0; have p0 := hs2.cell 0; have p1 := hs2.cell 1; have p2 := hs2.cell 2; obtain ⟨d0, d1, d2, d3, d4, d5, d6, d7, d8⟩ := CB.ent (x := ⟨⟨⟨e, lb', q, a⟩, en, gr, pr⟩, s⟩) hs3; dsimp only at d0 d1 d2 d3 d4 d5 d6 d7 d8; go_simp; (try with_reducible rfl)
  (try simp only [Act.put, n1, n2, n3, n4, n5, n6])
  refine tk 6 (v := ?_) rfl (Or.inl ⟨by rfl, ?_⟩) ?_
  rotate_left
  ·intro w' hSw; (try dsimp only at hSw); obtain ⟨hs1, hs2, hs3⟩ := hSw; have k0 := hs1.cell 0; have p0 := hs2.cell 0; have p1 := hs2.cell 1; have p2 := hs2.cell 2; obtain ⟨d0, d1, d2, d3, d4, d5, d6, d7, d8⟩ := CB.ent (x := ⟨⟨⟨e, lb', q, a⟩, en, gr, pr⟩, s⟩) hs3; dsimp only at d0 d1 d2 d3 d4 d5 d6 d7 d8; go_simp; (try with_reducible rfl)
  (try simp only [Act.put, n1, n2, n3, n4, n5, n6])
  refine wpAnyF_ready (rs := [7]) (by kernel_rfl) (by simp) ?_
  refine AllReadyF.cons rfl (fun KK hKK => ?_) AllReadyF.nil
  go_simp
  ((with_reducible refine (HT.out _).mono ?_); rintro e' V3 ⟨rfl, hb3⟩; have HS3 := hi (And.intro (hHeld.1.below hb3) (And.intro (hHeld.2.1.below hb3) (hHeld.2.2.below hb3))); have HB3 := hi (HBD.out.trans (hb3.mono HBD.out.size)); clear hb3)
  (try go_simp)
  refine hKK.out _ _ HS3.out (fun hHeld => ?_)
  clear hKK KK
  (try simp only [Act.put, n1, n2, n3, n4, n5, n6])
  refine wpAnyF_ready (rs := [8]) (by kernel_rfl) (by simp) ?_
  refine AllReadyF.cons rfl (fun KK hKK => ?_) AllReadyF.nil
  go_simp
  ((with_reducible refine (HW.out _).mono ?_); rintro e' V4 ⟨rfl, hb4⟩; have HS4 := hi (And.intro (HS3.out.1.below hb4) (And.intro (HS3.out.2.1.below hb4) (HS3.out.2.2.below hb4))); have HB4 := hi (HB3.out.trans (hb4.mono HB3.out.size)); clear hb4)
  (try go_simp)
  refine hKK.out _ _ HS4.out (fun hHeld => ?_)
  clear hKK KK
  (try simp only [Act.put, n1, n2, n3, n4, n5, n6])
  refine wpAnyF_ready (rs := [9]) (by kernel_rfl) (by simp) ?_
  refine AllReadyF.last (by kernel_rfl) rfl (fun KK hKK => ?_) AllReadyF.nil
  have k0 := HS4.out.1.cell 0
  have fk0 := HS4.out.1.frozen 0
  go_simp
  refine hKK.out _ _ ?_
  clear hKK KK
  (try simp only [Act.put, n1, n2, n3, n4, n5, n6])
  refine wpAnyF_done (by kernel_rfl) ?_ _
  refine normQ_in ?_
  gi_wp2
  refine ⟨(KW.of_below HB4.out).trans (KW.set _ _ _), (KpS.of_below HB4.out (fun i q => by have := HKS.out i q; omega) (by omega)).trans (kps_set (fun q => HKB.out _ q rfl) (by omega)), ?_⟩
  refine (?_ : RA w w5 (readL ⟨r, fp, c⟩ f0 es (pre ++ [x])) _)
  rw [HSN.out]
  exact (HJ.out.later HB4.out).set v2
 case done =>
  rintro ys V rfl hJ hK hs2
  have v0 := hJ.v.cell 0
  have HBV := hi (XB.out.trans (hJ.kept.toBelow XB.out.size (fun i e => by subst e; omega)))
  have HK := hi hK
  clear hJ hK
  dsimp only
  go_wp2
  refine ⟨by simp, .inl ⟨_, _, rfl, run_takeDeferred HK.out, ?_⟩⟩
  exact ⟨_, results_tmp rfl _ _ _, rfl, below_put HBV.out _ HBV.out.size (by omega)⟩
 case stop =>
  rintro cd pre V hpre h hK _
  exact h.elim
end Go.Proofs.YtieedhdmpabfkaaGreat
namespace Go.Proofs.YtieedhdmpabfkaaGreat
open Go.ChangeShapes Go.WideShapes Go.ChangeAt Go.RowKit
set_option linter.unusedVariables false
set_option maxHeartbeats 1000000 in
theorem rdo_no {b lg xg : Nat} {la xa : Option Addr} {lc xc : Nat} {f : Int} {es : List En} {id a : Int} {w : World} (h : RfAt w b lg xg la xa lc xc f es) (hf : Fit f es.length) (hn : hasB f es.length id = false) :
  Calls Tryz.prog 65 #[.pointer (some ⟨b, 0, none⟩), .int .i64 id, .int .i64 a] w fun e w' => e = .returned (.int .i64 90) ∧ Below w.heap.size w w' := by
 have HC := hi (at_any (id := id) h hf)
 rw [atI_no hn] at HC
 clear h hf hn
 go_enter Tryz.func65, Tryz.ntmps65
 go_wp2_with (go_at_call 90; ((with_reducible refine HC.out.mono ?_); rintro e w1 ⟨rfl, rfl⟩))
 go_ret
 exact ⟨rfl, Below.refl _ _⟩
structure DR (b lg n lc k : Nat) (W : World) : Prop where
 c1 : W.cell? ⟨b, 1, none⟩ = some (.slice (some ⟨lg, 0, none⟩) n lc)
 bl : b < W.heap.size
theorem DR.below {b lg n lc k : Nat} {W W' : World} (h : DR b lg n lc k W) (q : Below W.heap.size W W') : DR b lg n lc k W' := ⟨(q.cell (p := ⟨b, 1, none⟩) h.bl).trans h.c1, Nat.lt_of_lt_of_le h.bl q.size⟩
theorem DR.sets {b lg n lc k : Nat} {W : World} (h : DR b lg n lc k W) (hb : b ≠ lg) (o : Nat) (vs : List Value) : DR b lg n lc k (W.setCells lg o vs) :=
 ⟨(World.cell?_of_block (w := W) (a := ⟨b, 1, none⟩) (heap_sets hb vs o W)).trans h.c1, by rw [size_sets]; exact h.bl⟩
set_option maxRecDepth 100000 in
set_option maxHeartbeats 4000000 in
theorem rdo_yes {b lg xg k : Nat} {la xa : Option Addr} {lc xc : Nat} {f a : Int} {es : List En} {x : En} {w : World} (h : RfAt w b lg xg la xa lc xc f es) (hf : Fit f es.length) (hk : es[k]? = some x) :
  Calls Tryz.prog 65 #[.pointer (some ⟨b, 0, none⟩), .int .i64 (f + k), .int .i64 a] w fun e w' => e = .returned (.int .i64 0) ∧ RfAfter w b lg xg la xa lc xc f (es.set k (x.step a)) w' := by
 have hkl : k < es.length := (List.getElem?_eq_some_iff.1 hk).1
 have HC := hi (at_any (id := f + k) h hf)
 rw [atI_at hkl] at HC
 have HS := hi (fun W => rstep_any x.ln.st a W)
 obtain ⟨hla, hxa, hlr, hxr, hblg, hbxg, hlxg⟩ := h.ne0 (fun e => by rw [e] at hkl; simp at hkl)
 have hbl := h.box.lt
 have H := hi h
 have HK := hi hk
 have HKL := hi hkl
 have c1 := h.box.cell 1
 obtain ⟨e0, e1, e2, e3, e4, e5, e6⟩ := hlr.lnc hk
 obtain ⟨n, hn⟩ : ∃ n, es.length = n := ⟨_, rfl⟩
 have HN := hi hn
 rw [hn] at c1 hkl
 have HX := hi (show x.step a = ⟨{ x.ln with st := x.ln.st.step a }, x.s⟩ from rfl)
 obtain ⟨y, hy⟩ : ∃ y, x.ln.st.step a = y := ⟨_, rfl⟩
 rw [hy] at HS HX
 subst hla hxa
 have hDR : DR b lg n lc k w.drew := ⟨c1, hbl⟩
 clear h hf hn hk hy hlr hxr
 obtain ⟨⟨⟨e, l, q, a'⟩, en, gr, p⟩, s⟩ := x
 obtain ⟨ye, yl, yh, ya⟩ := y
 dsimp only [St.v] at HS
 dsimp only at e0 e1 e2 e3 e4 e5 e6
 go_enter Tryz.func65, Tryz.ntmps65
 go_wp2_with (go_at_call 90; ((with_reducible refine HC.out.mono ?_); rintro e' w1 ⟨rfl, rfl⟩))
 refine wp_region_noPanic ?_
 refine wp_region_held_drew (S := DR b lg n lc k) (by kernel_rfl) hDR (fun hHeld => ?_)
 (try simp only [r1, r2, r3, r4, r5])
 refine wpAnyH_take (i := 0) (v := ?_) rfl (by kernel_rfl) (by kernel_rfl) (by kernel_rfl) (fun _ _ _ h => h) (Or.inl ⟨by rfl, ?_⟩) (by assumption) ?_
 rotate_left
 ·intro w' hSw; have hs1 := hSw.c1; (try clear hSw); go_simp; (try with_reducible rfl)
 (try simp only [Act.put, n1, n2, n4, n5, n6])
 refine wpAnyH_take (i := 1) (v := ?_) rfl (by kernel_rfl) (by kernel_rfl) (by kernel_rfl) (fun _ _ _ h => h) (Or.inl ⟨by rfl, ?_⟩) (by assumption) ?_
 rotate_left
 ·intro w' hSw; have hs1 := hSw.c1; (try clear hSw); go_simp; (try with_reducible rfl)
 (try simp only [Act.put, n1, n2, n3, n4, n5, n6])
 refine wpAnyH_take (i := 2) (v := ?_) rfl (by kernel_rfl) (by kernel_rfl) (by kernel_rfl) (fun _ _ _ h => h) (Or.inl ⟨by rfl, ?_⟩) (by assumption) ?_
 rotate_left
 ·intro w' hSw; have hs1 := hSw.c1; (try clear hSw); go_simp; (try with_reducible rfl)
 (try simp only [Act.put, n1, n2, n3, n4, n5, n6])
 refine wpAnyH_take (i := 3) (v := ?_) rfl (by kernel_rfl) (by kernel_rfl) (by kernel_rfl) (fun _ _ _ h => h) (Or.inl ⟨by rfl, ?_⟩) (by assumption) ?_
 rotate_left
 ·intro w' hSw; have hs1 := hSw.c1; (try clear hSw); go_simp; (try with_reducible rfl)
 (try simp only [Act.put, n1, n2, n3, n4, n5, n6])
 refine wpAnyH_take (i := 4) (v := ?_) rfl (by kernel_rfl) (by kernel_rfl) (by kernel_rfl) (fun _ _ _ h => h) (Or.inl ⟨by rfl, ?_⟩) (by assumption) ?_
 rotate_left
 ·intro w' hSw; have hs1 := hSw.c1; (try clear hSw); go_simp; (try with_reducible rfl)
 (try simp only [Act.put, n1, n2, n3, n4, n5, n6])
 refine wpAnyH_take (i := 5) (v := ?_) rfl (by kernel_rfl) (by kernel_rfl) (by kernel_rfl) (fun _ _ _ h => h) (Or.inl ⟨by rfl, ?_⟩) (by assumption) ?_
 rotate_left
 ·intro w' hSw; have hs1 := hSw.c1; (try clear hSw); go_simp; (try with_reducible rfl)
 (try simp only [Act.put, n1, n2, n3, n4, n5, n6])
 refine wpAnyH_take (i := 6) (v := ?_) rfl (by kernel_rfl) (by kernel_rfl) (by kernel_rfl) (fun _ _ _ h => h) (Or.inl ⟨by rfl, ?_⟩) (by assumption) ?_
 rotate_left
 ·intro w' hSw; have hs1 := hSw.c1; (try clear hSw); go_simp; (try with_reducible rfl)
 (try simp only [Act.put, n1, n2, n3, n4, n5, n6])
 refine wpAnyH_take (i := 7) (v := ?_) rfl (by kernel_rfl) (by kernel_rfl) (by kernel_rfl) (fun _ _ _ h => h) (Or.inl ⟨by rfl, ?_⟩) (by assumption) ?_
 rotate_left
 ·intro w' hSw; have hs1 := hSw.c1; (try clear hSw); go_simp; (try with_reducible rfl)
 (try simp only [Act.put, n1, n2, n3, n4, n5, n6])
 refine wpAnyH_take (i := 8) (v := ?_) rfl (by kernel_rfl) (by kernel_rfl) (by kernel_rfl) (fun _ _ _ h => h) (Or.inl ⟨by rfl, ?_⟩) (by assumption) ?_
 rotate_left
 ·intro w' hSw; have hs1 := hSw.c1; (try clear hSw); go_simp; (try with_reducible rfl)
 (try simp only [Act.put, n1, n2, n3, n4, n5, n6])
 refine wpAnyH_take (i := 9) (v := ?_) rfl (by kernel_rfl) (by kernel_rfl) (by kernel_rfl) (fun _ _ _ h => h) (Or.inl ⟨by rfl, ?_⟩) (by assumption) ?_
 rotate_left
 ·intro w' hSw; have hs1 := hSw.c1; (try clear hSw); go_simp; (try with_reducible rfl)
 (try simp only [Act.put, n1, n2, n3, n4, n5, n6])
 refine wpAnyH_take (i := 10) (v := ?_) rfl (by kernel_rfl) (by kernel_rfl) (by kernel_rfl) (fun _ _ _ h => h) (Or.inl ⟨by rfl, ?_⟩) (by assumption) ?_
 rotate_left
 ·intro w' hSw; have hs1 := hSw.c1; (try clear hSw); go_simp; (try with_reducible rfl)
 (try simp only [Act.put, n1, n2, n3, n4, n5, n6])
 refine wpAnyH_take (i := 11) (v := ?_) rfl (by kernel_rfl) (by kernel_rfl) (by kernel_rfl) (fun _ _ _ h => h) (Or.inl ⟨by rfl, ?_⟩) (by assumption) ?_
 rotate_left
 ·intro w' hSw; have hs1 := hSw.c1; (try clear hSw); go_simp; (try with_reducible rfl)
 (try simp only [Act.put, n1, n2, n3, n4, n5, n6])
 refine wpAnyH_take (i := 13) (v := ?_) rfl (by kernel_rfl) (by kernel_rfl) (by kernel_rfl) (fun _ _ _ h => h) (Or.inl ⟨by rfl, ?_⟩) (by assumption) ?_
 rotate_left
 ·intro w' hSw; have hs1 := hSw.c1; (try clear hSw); go_simp; (try with_reducible rfl)
 (try simp only [Act.put, n1, n2, n3, n4, n5, n6])
 refine wpAnyH_ready (rs := [12]) (by kernel_rfl) (by simp) ?_
 refine AllReadyH.cons rfl (fun KK hKK => ?_) AllReadyH.nil
 go_simp
 refine hKK.out _ _ hDR (fun hHeld => ?_)
 clear hKK KK
 (try simp only [Act.put, n1, n2, n3, n4, n5, n6])
 refine wpAnyH_ready (rs := [14]) (by kernel_rfl) (by simp) ?_
 refine AllReadyH.cons rfl (fun KK hKK => ?_) AllReadyH.nil
 go_simp
 ((with_reducible refine (HS.out _).mono ?_); rintro e' w2 ⟨rfl, hb⟩; have hD2 := hDR.below hb; have HB := hi (Below.trans (Below.drewN (m := 1) (Below.refl w.heap.size w)) hb))
 (try go_simp)
 refine hKK.out _ _ hD2 (fun hHeld => ?_)
 clear hKK KK
 (try simp only [Act.put, n1, n2, n3, n4, n5, n6])
 refine wpAnyH_take (i := 15) (v := ?_) rfl (by kernel_rfl) (by kernel_rfl) (by kernel_rfl) (fun _ _ _ h => h) (Or.inl ⟨by rfl, ?_⟩) (by assumption) ?_
 rotate_left
 ·intro w' hSw; have hs1 := hSw.c1; (try clear hSw); go_simp; (try with_reducible rfl)
 (try simp only [Act.put, n1, n2, n3, n4, n5, n6])
 refine wpAnyH_take (i := 16) (v := ?_) rfl (by kernel_rfl) (by kernel_rfl) (by kernel_rfl) (fun _ _ _ h => h) (Or.inl ⟨by rfl, ?_⟩) (by assumption) ?_
 rotate_left
 ·intro w' hSw; have hs1 := hSw.c1; (try clear hSw); go_simp; (try with_reducible rfl)
 (try simp only [Act.put, n1, n2, n3, n4, n5, n6])
 have hRF := H.out.below HB.out
 have hth : w2.there lg (k * 7) 4 := fun j hj => ((hRF.ne0 (fun e => by have h9 := HKL.out; rw [e] at h9; simp at h9)).2.2.1.lnThere HKL.out) j (by omega)
 refine wpAnyH_ready (rs := [17]) (by kernel_rfl) (by simp) ?_
 refine AllReadyH.cons rfl (fun KK hKK => ?_) AllReadyH.nil
 rw [if_pos (by rfl)]
 refine wp_store_mid 31 (.tmp 29) (.tmp 27) rfl lg (k * 7) #[.bool ye, .bool yl, .bool yh, .bool ya] rfl rfl hth size_irq (by simp [Value.oneCell']) ?_
 simp only
 refine hKK.out _ _ (hD2.sets hblg _ _) (fun hHeld => ?_)
 clear hKK KK
 (try simp only [Act.put, List.getElem_toArray, List.getElem_cons_zero, List.getElem_cons_succ])
 refine wpAnyH_done (by kernel_rfl) ?_ _
 refine NoPanic.normal ?_
 have HRF := hi (hRF.setIrq HK.out ⟨ye, yl, yh, ya⟩)
 clear hRF hth hD2 hDR hHeld
 go_wp2
 go_ret
 refine ⟨rfl, ?_, (kept_sets (bs := fun i => i = lg ∨ i = xg) (b := lg) (.inl rfl) _ _ (Kept.of HB.out)).mono (fun i h9 => ⟨set_ne HKL.out, h9⟩)⟩
 rw [HX.out]
 exact HRF.out
theorem rdo_any {b lg xg : Nat} {la xa : Option Addr} {lc xc : Nat} {f : Int} {es : List En} {id a : Int} {w : World} (h : RfAt w b lg xg la xa lc xc f es) (hf : Fit f es.length) :
  Calls Tryz.prog 65 #[.pointer (some ⟨b, 0, none⟩), .int .i64 id, .int .i64 a] w fun e w' => e = .returned (.int .i64 (doR f es id a).2) ∧ RfAfter w b lg xg la xa lc xc f (doR f es id a).1 w' := by
 unfold doR
 cases hb : hasB f es.length id
 ·refine (rdo_no h hf hb).mono fun e w' ⟨h1, h2⟩ => ⟨by simpa using h1, ?_⟩
  simpa using RfAfter.of h h2
 ·obtain ⟨k, rfl, hk, e1⟩ := has_at hb
  refine (rdo_yes h hf (nthE_at hk)).mono fun e w' ⟨h1, h2⟩ => ⟨by simpa using h1, ?_⟩
  rw [e1]
  simpa using h2
end Go.Proofs.YtieedhdmpabfkaaGreat
