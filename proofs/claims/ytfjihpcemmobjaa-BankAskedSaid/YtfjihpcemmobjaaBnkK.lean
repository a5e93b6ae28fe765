/-
  Package bank: Of and its iterator, over any iterator.
-/
import Derived.Test.YtfjihpcemmobjaaBnkJ
namespace Go.Proofs.Ytfjihpcemmobjaa
open Go.ChangeShapes Go.WideShapes Go.ChangeAt Go.RowKit Go.Shelf
set_option linter.unusedVariables false
attribute [local go_sem] Oper.semAt_some

def ofB (G : Int) (x : It) : Bool := decide (x.2.ln.g = G)
/-- The iterator's own box, and the group that it has captured. -/
structure OC (l c B : Nat) (G : Int) (V : World) : Prop where
  y : CB V B 84 #[.func (.yield l) #[] #[]]
  g : CB V c 3 #[.int .i64 G]
theorem OC.heap {l c B : Nat} {G : Int} {V V' : World} (h : OC l c B G V) (h1 : V'.heap[B]? = V.heap[B]?) (h2 : V'.heap[c]? = V.heap[c]?) : OC l c B G V' := ⟨h.y.heap h1, h.g.heap h2⟩

/-- Of's blocks. -/
structure OfAt (lo hi lo2 hi2 k2 : Nat) (ci cg : Nat) (G : Int) (fv : Value) (xs : List It) (W : World) : Prop where
  it : Iter lo2 hi2 k2 fv xs W
  bi : CB W ci 48 #[fv]
  bg : CB W cg 3 #[.int .i64 G]
  li : lo ≤ ci ∧ ci < hi
  lg : lo ≤ cg ∧ cg < hi
  l2 : lo ≤ lo2
  h2 : hi2 ≤ hi
theorem OfAt.heap {lo hi lo2 hi2 k2 : Nat} {ci cg : Nat} {G : Int} {fv : Value} {xs : List It} {W W' : World} (h : OfAt lo hi lo2 hi2 k2 ci cg G fv xs W) (hs : W.heap.size ≤ W'.heap.size) (hk : ∀ i, lo ≤ i → i < hi → W'.heap[i]? = W.heap[i]?) : OfAt lo hi lo2 hi2 k2 ci cg G fv xs W' :=
  ⟨h.it.heap hs (fun i a b => hk i (Nat.le_trans h.l2 a) (Nat.lt_of_lt_of_le b h.h2)), h.bi.heap (hk _ h.li.1 h.li.2), h.bg.heap (hk _ h.lg.1 h.lg.2), h.li, h.lg, h.l2, h.h2⟩

set_option maxRecDepth 100000 in
set_option maxHeartbeats 8000000 in
theorem of1_any (lo hi' lo2 hi2 k2 ci cg l : Nat) (G : Int) (fv : Value) (xs : List It) (J Jx : List It → World → Prop) (W : World) (hh : hi' ≤ W.heap.size)
    (hA : OfAt lo hi' lo2 hi2 k2 ci cg G fv xs W) (hJ : AbW W.heap.size (3 + k2) J) (hJx : AbW W.heap.size (3 + k2) Jx)
    (hY : ∀ (pre : List It) (x : It) (W1 : World), J pre W1 → pre ++ [x] <+: xs.filter (ofB G) → W.heap.size + (3 + k2) ≤ W1.heap.size → ∀ m, YieldAt Fence.wide m Try.prog l (encI x) W1 fun e W' =>
      (e = .returned (.bool true) ∧ J (pre ++ [x]) W' ∧ KpX lo hi' (3 + k2) W.heap.size W1 W') ∨ (e = .returned (.bool false) ∧ Jx (pre ++ [x]) W' ∧ KpX lo hi' (3 + k2) W.heap.size W1 W'))
    (h0 : J [] W) :
    Calls Try.prog 47 #[.func (.yield l) #[] #[], .pointer (some ⟨ci, 0, none⟩), .pointer (some ⟨cg, 0, none⟩)] W fun e W' => (∃ v, e = .returned v) ∧
      ((∃ ys, ys = xs.filter (ofB G) ∧ J ys W') ∨ (∃ pre, pre <+: xs.filter (ofB G) ∧ Jx pre W')) := by
  obtain ⟨w3, hw3⟩ : ∃ w3, W.alloc (.cells #[.func (.yield l) #[] #[]] 84) = w3 := ⟨_, rfl⟩
  have hz3 : w3.heap.size = W.heap.size + 1 := by rw [← hw3]; simp
  have hB3 : Below W.heap.size W w3 := by rw [← hw3]; exact bal W _
  have hOB : OC l cg W.heap.size G w3 := ⟨by rw [← hw3]; exact CB.new W _ _, hA.bg.below hB3⟩
  have hit := hA.it.below hB3
  have hJ3 : J [] w3 := by rw [← hw3]; exact hJ.alloc _ h0
  have z0 := hA.bi.cell 0
  have hcl : ci < W.heap.size := hA.bi.lt
  have hcg : cg < W.heap.size := hA.bg.lt
  obtain ⟨hgl1, hgl2⟩ := hA.lg
  have hl2 := hA.l2
  have hh2 := hA.h2
  obtain ⟨gf, lb, rfl, eg, hh3, hq⟩ := hit
  have hst := hq w3 (Nat.le_refl _) (fun _ _ _ => rfl)
  have HYY := hi hY
  have HJ := hi hJ
  have HJX := hi hJx
  have HOB := hi hOB
  have HJ3 := hi hJ3
  have HB3 := hi hB3
  clear hY hJ hJx hOB hJ3 hA hq h0 hB3
  subst hw3
  refine (callsIn_wide (n := 6)).1 ?_
  refine callsIn_of_wp_marks Try.func47 rfl trivial ?_ rfl
  simp only [Try.ntmps47, List.size_toArray, List.length_cons, List.length_nil, Nat.reduceAdd, Nat.reduceSub, Array.replicate_succ, Array.replicate_zero, List.push_toArray, List.append_toArray, List.nil_append, List.cons_append]
  gi_wp2
  obtain ⟨w3, hw3⟩ : ∃ w3, W.alloc (.cells #[.func (.yield l) #[] #[]] 84) = w3 := ⟨_, rfl⟩
  rw [hw3] at hz3 hst hh3 HOB HJ3 HB3 ⊢
  clear hw3
  refine range_win (n := 6) (by omega) (gf := gf) (lb := lb) rfl eg
    hst (fun a b => KpX.trans a b) (fun V l o o' h1 h2 h3 h4 => ⟨by simp, fun i hi' => World.putObj_heap_other (by omega)⟩) (Below.refl _ _) (fun _ => rfl)
    (fun pre V => (J (pre.filter (ofB G)) V ∧ OC l cg W.heap.size G V) ∧ W.heap.size + 1 ≤ V.heap.size)
    (fun cd pre V => cd = .ret ∧ ∃ gs, gs <+: xs.filter (ofB G) ∧ Jx gs V)
    (AbL.of (m := 2 + k2) (fun s A A' row hs hg hr => ⟨⟨HJ.out _ A A' row hs.1.1 hg (fun r e => by have := hr r e; omega), hs.1.2.heap (hg.block _ hs.1.2.y.lt (fun e => by have := hr _ e.symm; omega)) (hg.block _ hs.1.2.g.lt (fun e => by have := hr _ e.symm; omega))⟩, Nat.le_trans hs.2 hg.size⟩) rfl)
    (fun cd => AbL.of (m := 2 + k2) (fun s A A' row hs hg hr => ⟨hs.1, by obtain ⟨gs, e1, e2⟩ := hs.2; exact ⟨gs, e1, HJX.out _ A A' row e2 hg (fun r e => by have := hr r e; omega)⟩⟩) rfl)
    ⟨⟨HJ3.out, HOB.out⟩, by omega⟩
    (fun x a' V => ∃ Bx, w3.heap.size + 2 + k2 ≤ Bx ∧ CB V Bx 62 x.2.ca ∧ a' = { tmps := #[.func (.yield l) #[] #[], .pointer (some ⟨ci, 0, none⟩), .pointer (some ⟨cg, 0, none⟩), .pointer (some ⟨W.heap.size, 0, none⟩), .int .i64 x.1, .pointer (some ⟨Bx, 0, none⟩), .func (.func gf) #[] lb, .int .i64 x.1, x.2.v, undef, undef, undef, undef, undef, undef, undef, undef, undef, undef, undef, undef], defers := [] })
    (fun x a' => AbL.of (m := 2 + k2) (fun s A A' row hs hg hr => by obtain ⟨Bx, e1, e2, e3⟩ := hs; exact ⟨Bx, e1, e2.kept hg (fun e => by have := hr _ e.symm; omega), e3⟩) rfl)
    ?assign ?body ?done ?stop
  case assign =>
    rintro l' pre ⟨id, ⟨⟨⟨e, lb', q, a⟩, en, gr, p⟩, s⟩⟩ V K h hsz hK
    gi_wp2
    refine hK _ _ (KW.of_below (bal V _)) (KpX.of_below (bal V _) (by omega) hsz) ⟨⟨HJ.out.alloc _ h.1.1, h.1.2.heap ((bal V _).block _ h.1.2.y.lt) ((bal V _).block _ h.1.2.g.lt)⟩, Nat.le_trans h.2 (bal V _).size⟩ ⟨V.heap.size, hsz, CB.new _ _ _, rfl⟩
  case body =>
    rintro l' pre ⟨id, ⟨⟨⟨e, lb', q, a⟩, en, gr, p⟩, s⟩⟩ a' V hsz ⟨⟨hj, hO⟩, hs⟩ ⟨Bx, hBx, hbx, rfl⟩ hpx
    have hp2 := filter_pre (p := ofB G) hpx
    have HO := hi hO
    have HBX := hi hbx
    have HJV := hi hj
    obtain ⟨d0, d1, d2, d3, d4, d5, d6, d7⟩ := CB.ent hbx
    dsimp only at d0 d1 d2 d3 d4 d5 d6 d7
    have zy := hO.y.cell 0
    have zg := hO.g.cell 0
    clear hO hbx hpx
    by_cases hg : gr = G
    · have t2 : (gr == G) = true := by simpa using hg
      have hb : ofB G (id, ⟨⟨⟨e, lb', q, a⟩, en, gr, p⟩, s⟩) = true := by simp [ofB, hg]
      have HE := hi (filter_yes pre hb)
      rw [HE.out] at hp2
      have HPG := hi hp2
      obtain ⟨fn, tmps, assign, body, hy, hRd⟩ := HYY.out _ _ V HJV.out HPG.out (by omega) (6 - 1 - 1 - 1)
      dsimp only [encI, En.v] at hy
      clear hb hp2 hg hj
      gi_wp2
      refine hRd.mono ?_
      rintro e3 W3 (⟨rfl, hJ3, hk3⟩ | ⟨rfl, hJx3, hk3⟩)
      · have hk := hk3.size
        have hKW : KW w3.heap.size V W3 := ⟨by omega, fun i o a b h h' => (hk3.same i (by omega)).trans h⟩
        have hKP : KpX lo2 hi2 k2 (w3.heap.size + 2) V W3 := ⟨by omega, fun i q => hk3.same i (by omega)⟩
        gi_wp2
        exact ⟨hKW, hKP, ⟨by rw [HE.out]; exact hJ3, HO.out.heap (hk3.same _ (by omega)) (hk3.same _ (by omega))⟩, by omega⟩
      · have hk := hk3.size
        have hKW : KW w3.heap.size V W3 := ⟨by omega, fun i o a b h h' => (hk3.same i (by omega)).trans h⟩
        have hKP : KpX lo2 hi2 k2 (w3.heap.size + 2) V W3 := ⟨by omega, fun i q => hk3.same i (by omega)⟩
        gi_wp2
        exact ⟨hKW, hKP, rfl, _, HPG.out, hJx3⟩
    · have t2 : (gr == G) = false := by simpa using hg
      have hb : ofB G (id, ⟨⟨⟨e, lb', q, a⟩, en, gr, p⟩, s⟩) = false := by simp [ofB, hg]
      have HE := hi (filter_no pre hb)
      clear hb hp2 hg hj
      gi_wp2
      refine ⟨noFn, ?_⟩
      gi_wp2
      exact ⟨KW.refl _ _, KpX.refl _ _ _ _ _, ⟨by rw [HE.out]; exact HJV.out, HO.out⟩, hs⟩
  case done =>
    rintro ys V rfl ⟨⟨hj, hO⟩, hs⟩ hK hs2
    gi_wp2
    refine ⟨by simp, .inl ⟨_, _, rfl, run_takeDeferred hK, ?_⟩⟩
    exact ⟨_, results_none rfl _ _ _, ⟨_, rfl⟩, .inl ⟨_, rfl, HJ.out.put _ hj (by omega) (by omega)⟩⟩
  case stop =>
    rintro cd pre V hpre ⟨rfl, gs, hg, hx⟩ hK _
    gi_wp2
    refine ⟨by simp, .inl ⟨_, _, rfl, run_takeDeferred hK, ?_⟩⟩
    exact ⟨_, results_none rfl _ _ _, ⟨_, rfl⟩, .inr ⟨gs, hg, HJX.out.put _ hx (by omega) (by omega)⟩⟩

theorem of_iter {lo hi' lo2 hi2 k2 ci cg : Nat} {G : Int} {fv : Value} {xs : List It} {W : World} (h : OfAt lo hi' lo2 hi2 k2 ci cg G fv xs W) (hh : hi' ≤ W.heap.size) :
    Iter lo hi' (3 + k2) (.func (.func 47) #[] #[.pointer (some ⟨ci, 0, none⟩), .pointer (some ⟨cg, 0, none⟩)]) (xs.filter (ofB G)) W :=
  ⟨_, _, rfl, enters_of Try.func47 (by kernel_rfl) rfl, hh, fun W' hs hk l J Jx W2 hW hJ hJx hY h0 =>
    of1_any lo hi' lo2 hi2 k2 ci cg l G fv xs J Jx W2 (by have := hW.size; omega) ((h.heap hs hk).heap hW.size (fun i a b => hW.block i (by omega))) hJ hJx hY h0⟩

theorem of_it {lo hi' k2 : Nat} {fv : Value} {xs : List It} {w : World} (G : Int) (h : Iter lo hi' k2 fv xs w) (hlo : lo ≤ w.heap.size) :
    Calls Try.prog 31 #[fv, .int .i64 G] w fun e w' => ∃ gv, e = .returned gv ∧ Iter lo w'.heap.size (3 + k2) gv (xs.filter (ofB G)) w' ∧ Below w.heap.size w w' := by
  have hfv := h
  obtain ⟨gf, lb, rfl, _, _, _⟩ := hfv
  have H := hi h
  clear h
  go_enter Try.func31, Try.ntmps31
  go_wp2
  go_ret
  have hhi := H.out.hi_le
  refine ⟨_, rfl, of_iter (lo2 := lo) (hi2 := hi') (fv := .func (.func gf) #[] lb) ⟨H.out.below (bal_two _ _ _), (CB.new w _ _).alloc _, ?_, ?_, ?_, ?_, ?_⟩ (Nat.le_refl _), bal_two _ _ _⟩
  · have := CB.new (w.alloc (.cells #[.func (.func gf) #[] lb] 48)) 3 #[.int .i64 G]
    rwa [World.size_alloc] at this
  all_goals first | omega | (simp only [World.size_alloc]; omega)

end Go.Proofs.Ytfjihpcemmobjaa
