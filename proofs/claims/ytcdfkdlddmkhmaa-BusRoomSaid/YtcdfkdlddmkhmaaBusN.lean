/-
  The law's all and free: what a loop goes through, collected.
-/
import Derived.Test.YtcdfkdlddmkhmaaBusM
namespace Go.Proofs.Ytcdfkdlddmkhmaa
open Go.ChangeShapes Go.WideShapes Go.ChangeAt Go.RowKit Go.Shelf
set_option linter.unusedVariables false
attribute [local go_sem] Oper.semAt_some

set_option maxRecDepth 100000 in
set_option maxHeartbeats 4000000 in
theorem all_any (lo n₀ p : Nat) (sv : Value) (xs : List Sp) (w : World) (hb : BusAt lo n₀ w p sv xs) (hn : n₀ ≤ w.heap.size) (hl : xs.length ≤ 64) :
    Calls Try.prog 15 #[.pointer (some ⟨p, 0, none⟩)] w fun e w' => ∃ v, e = .returned v ∧ w'.ownsRow w.heap.size 33 4 v xs.length (flatS xs) ∧ Below w.heap.size w w' := by
  obtain ⟨i0, hi', hz0, hz1, hz2⟩ := info_parts info_sp
  obtain ⟨w1', hw1⟩ : ∃ w1', w.alloc (.cells #[.slice none 0 0] 22) = w1' := ⟨_, rfl⟩
  have hz1' : w1'.heap.size = w.heap.size + 1 := by rw [← hw1]; simp
  have hB1 : Below w.heap.size w w1' := by rw [← hw1]; exact bal w _
  have hb1 := (hb.mono (Nat.le_refl _) hn).below hB1 (Nat.le_refl _)
  have HS := hi (spans_any lo w.heap.size p sv xs w1' hb1)
  obtain ⟨w2, hw2⟩ : ∃ w2, w1'.alloc (.cells #[sv] 22) = w2 := ⟨_, rfl⟩
  have hz2' : w2.heap.size = w.heap.size + 2 := by rw [← hw2]; simp; omega
  have hB2 : Below w1'.heap.size w1' w2 := by rw [← hw2]; exact bal w1' _
  have hB02 : Below w.heap.size w w2 := hB1.trans (hB2.mono (by omega))
  have bV : Boxed w2 w.heap.size 22 (.slice none 0 0) := by rw [← hw2, ← hw1]; exact (Boxed.new w _ _).alloc _
  have hstop := values_stops (w.heap.size + 1) lo w.heap.size sv xs w2 (by omega) (by omega) (by rw [← hw2, ← hz1']; exact (Boxed.new w1' _ _).cell) ((hb1.below hB2 (by omega)).sp)
  have hexp : Calls Try.prog 30 #[.pointer (some ⟨p, 0, none⟩)] w1' fun e w' => e = .returned (.func (.func 38) #[] #[.pointer (some ⟨w.heap.size + 1, 0, none⟩)]) ∧ w' = w2 :=
    HS.out.mono fun e w' ⟨h1, h2⟩ => ⟨by rw [h1, hz1'], by rw [h2, hw2]⟩
  have HEXP := hi hexp
  have HW1 := hi hw1
  clear hexp HS hb1 hb hw2
  refine (callsIn_wide (n := 6)).1 ?_
  refine callsIn_of_wp_marks Try.func15 rfl trivial ?_ rfl
  simp only [Try.ntmps15, List.size_toArray, List.length_cons, List.length_nil, Nat.reduceAdd, Nat.reduceSub, Array.replicate_succ, Array.replicate_zero, List.push_toArray, List.append_toArray, List.nil_append, List.cons_append]
  gi_wp2_with (first
    | (refine ⟨trivial, ?_⟩; gi_at_call 30; ((with_reducible refine (callsIn_wide.2 HEXP.out).mono ?_); rintro e w3 ⟨rfl, rfl⟩))
    | gi_in)
  refine range_win (n := 6) (by omega) (gf := 38) (lb := #[.pointer (some ⟨w.heap.size + 1, 0, none⟩)]) rfl (enters_of Try.func38 (by kernel_rfl) rfl)
    hstop (fun a b => belowK_t a b) (belowK2 (by omega)) (Below.refl _ _) (fun _ => rfl)
    (fun pre W => (∃ v, Boxed W w.heap.size 22 v ∧ W.ownsRow w.heap.size 33 4 v pre.length (flatS pre) ∧ True) ∧ Below w.heap.size w W)
    (fun _ _ _ => False)
    (AbL.and (AbL.own (holdsRow_own w.heap.size w.heap.size 22 33 4 (fun pre => List.length pre) (fun pre => flatS pre) (fun _ _ => True))) (AbL.below (Nat.le_refl _) (by omega)))
    (fun _ _ _ _ _ hs _ _ => hs)
    ⟨⟨_, bV, World.ownsRow_nil _ _ _ _, trivial⟩, hB02⟩
    (fun x a' W => ∃ Bx, SpBox W Bx x ∧ a' = { tmps := #[.pointer (some ⟨p, 0, none⟩), undef, .slice none 0 0, .pointer (some ⟨w.heap.size, 0, none⟩), .pointer (some ⟨Bx, 0, none⟩), .pointer (some ⟨p, 0, none⟩), .func (.func 38) #[] #[.pointer (some ⟨w.heap.size + 1, 0, none⟩)], x.v, undef, undef, undef, undef, undef, undef, undef, undef], defers := [] })
    (fun x a' => AbL.own (fun s A B row hs hg hr => by obtain ⟨Bx, e1, e2⟩ := hs; exact ⟨Bx, SpBox.own () A B row e1 hg hr, e2⟩))
    ?assign ?body ?done ?stop
  case assign =>
    rintro l pre x W K ⟨⟨v, hv, hrow, _⟩, hB⟩ hsz hK
    gi_wp2
    exact hK _ _ (KW.of_below (bal W _)) ((bal W _).mono (by have := hB.size; omega)) ⟨⟨v, hv.alloc _, hrow.alloc _, trivial⟩, hB.trans ((bal W _).mono (by have := hB.size; omega))⟩ ⟨W.heap.size, SpBox.new W x, rfl⟩
  case body =>
    rintro l pre x a' W hsz ⟨⟨v, hv, hrow, _⟩, hB⟩ ⟨Bx, hbx, rfl⟩ hpx
    have hlt : pre.length < xs.length := by have := hpx.length_le; simp at this; omega
    clear hpx
    have hcv := hv.cell
    obtain ⟨x0, x1, x2, x3⟩ := hbx.cells
    have hWs := hB.size
    obtain ⟨q, hq⟩ : ∃ q, flatS pre = q := ⟨_, rfl⟩
    obtain ⟨m, hm⟩ : ∃ m, pre.length = m := ⟨_, rfl⟩
    rw [hq, hm] at hrow
    have hmb : m + 1 ≤ 64 := by omega
    have HQ := hi hq
    have HM := hi hm
    have HBX := hi hbx
    clear hq hm hbx
    gi_wp2_with (first
      | (gi_at_builtin; refine wpListIn_append_own _ rfl _ _ 22 rfl w.heap.size 33 i0 (.agg #[.int .i64 0, .int .i64 0, .int .i64 0, .int .i64 0]) 4 32 Try.underlying22 hi' hz0 hz1 hz2 rfl (by decide) _ _ _ rfl (hrow.alloc _) ⟨W.heap.size, 0, none⟩ 1 1 x.cs rfl rfl (cell_four_new _ _ _) (by simp [Sp.cs, Value.oneCell']) (by unfold maxLen; omega) (by omega) (by simp; omega) ?_; intro v' w1 hown' hgrow _; obtain ⟨g', cap', rfl⟩ := ownsRow_succ hown'; obtain ⟨hv1, hv2, hr2, hk2, hb2'⟩ := hv.appended (by decide) hrow (by omega) (by omega) hown' hgrow; have hc1 := hv1.cell; have hf1 := hv1.frozen; have hc2 := hv2.cell)
      | gi_in)
    all_goals (first
      | exact ⟨KW.of_others hk2, hb2', ⟨_, hv2, by rw [flatS_append, flatS_one, HQ.out, List.length_append, HM.out]; exact hr2, trivial⟩, hB.trans hb2'⟩
      | (exfalso; simp at *; omega))
  case done =>
    rintro ys W rfl ⟨⟨v, hv, hrow, _⟩, hB⟩ hK _
    have hcv := hv.cell
    have hs : ∃ a n c, v = .slice a n c := by
      rcases hrow.2 with ⟨rfl, _⟩ | ⟨g, cap, cur, rfl, _⟩
      · exact ⟨_, _, _, rfl⟩
      · exact ⟨_, _, _, rfl⟩
    obtain ⟨va, vn, vc, rfl⟩ := hs
    gi_wp2
    refine ⟨by simp, .inl ⟨_, _, rfl, run_takeDeferred hK, ?_⟩⟩
    exact ⟨_, results_tmp rfl _ _ _, _, rfl, ownsRow_putObj hrow _ hK rfl, hB.trans (belowK2 (w := w3) (by omega) W w3.heap.size _ _ (Nat.le_refl _) (by omega) hK rfl)⟩
  case stop =>
    rintro c pre W _ h _ _
    exact h.elim

theorem ownI_base {W : World} {base base' : Nat} {v : Value} {n : Nat} {cs : List Value} (h : W.ownsRow base 3 1 v n cs) (hb : base' ≤ base) : W.ownsRow base' 3 1 v n cs := by
  rcases h with ⟨h0, h1 | ⟨g, cap, cur, e, hg, rest⟩⟩
  · exact ⟨h0, .inl h1⟩
  · exact ⟨h0, .inr ⟨g, cap, cur, e, Nat.le_trans hb hg, rest⟩⟩
/-- A row of numbers that grows, held in a box below it. -/
theorem grow_box {W w1 : World} {base b : Nat} {v v' : Value} {k m : Nat} {xs ys : List Value} {tmp : Obj}
    (hv : Boxed W b 43 v) (hrow : W.ownsRow base 3 1 v k xs) (hb : b + 10 ≤ base) (hbase : base ≤ W.heap.size)
    (hown' : w1.ownsRow base 3 1 v' m ys) (hgrow : (W.alloc tmp).grownBy w1 v.ownBlock) :
    Boxed w1 b 43 v ∧ Boxed (w1.setCell ⟨b, 0, none⟩ v') b 43 v' ∧ (w1.setCell ⟨b, 0, none⟩ v').ownsRow base 3 1 v' m ys ∧ KW (b + 3) W (w1.setCell ⟨b, 0, none⟩ v') ∧ KpF b (b + 1) (b + 5) W (w1.setCell ⟨b, 0, none⟩ v') := by
  have hrg : ∀ j, v.ownBlock = some j → base ≤ j := fun j ej => by
    rcases hrow.2 with ⟨rfl, _⟩ | ⟨g, cap, cur, rfl, hb, _, _⟩
    · simp [Value.ownBlock] at ej
    · obtain rfl : g = j := by simpa [Value.ownBlock] using ej
      exact hb
  have hrg' : ∀ j, v'.ownBlock = some j → base ≤ j := fun j ej => by
    rcases hown'.2 with ⟨rfl, _⟩ | ⟨g, cap, cur, rfl, hb, _, _⟩
    · simp [Value.ownBlock] at ej
    · obtain rfl : g = j := by simpa [Value.ownBlock] using ej
      exact hb
  have K1 : ∀ i, i < W.heap.size → v.ownBlock ≠ some i → w1.heap[i]? = W.heap[i]? := fun i h1 h2 => (hgrow.block i (by simp; omega) h2.symm).trans (Below.heap_alloc W tmp i h1)
  have K2 : ∀ i, i < W.heap.size → i ≠ b → v.ownBlock ≠ some i → (w1.setCell ⟨b, 0, none⟩ v').heap[i]? = W.heap[i]? := fun i h1 h2 h3 => (Below.heap_setCell _ _ _ i h2).trans (K1 i h1 h3)
  have hv1 : Boxed w1 b 43 v := (K1 b hv.lt (fun e => by have := hrg _ e; omega)).trans hv
  have hsz : W.heap.size ≤ w1.heap.size := by have := hgrow.size; simp at this; omega
  refine ⟨hv1, hv1.set v', hown'.kept (grownBy_setCell' w1 b v') (.inr (fun e => by have := hrg' _ e; omega)), ⟨by simpa using hsz, fun i o h1 h2 h3 _ => (K2 i (Array.getElem?_eq_some_iff.1 h3).1 (by omega) (fun e => by have := hrg _ e; omega)).trans h3⟩,
    (((Below.refl b W).alloc (by omega) tmp).grown hgrow (by simp; omega) (fun j e => by have := hrg _ e; omega)).setCell (p := ⟨b, 0, none⟩) (Nat.le_refl _) v', fun i hi => ?_, fun i x hx => ?_⟩
  · exact K2 i (by omega) (by omega) (fun e => by have := hrg _ e; omega)
  · refine (K2 i hx.lt (fun e => ?_) (fun e => ?_)).trans hx
    · subst e
      have q1 := hv
      have q2 := hx
      unfold Boxed at q1
      unfold SpBox at q2
      rw [q1] at q2
      cases q2
    · rcases hrow.2 with ⟨rfl, _⟩ | ⟨g, cap, cur, rfl, hb, hg, _⟩
      · simp [Value.ownBlock] at e
      · obtain rfl : g = i := by simpa [Value.ownBlock] using e
        have q2 := hx
        unfold SpBox at q2
        rw [hg] at q2
        cases q2
theorem rowBox_abL {β : Type} (b B : Nat) (hB : b < B) (k : β → Nat) (f : β → List Value) : AbL B 5 (fun s W => ∃ v, Boxed W b 43 v ∧ W.ownsRow (B + 7) 3 1 v (k s) (f s)) := fun s A A' row hs hg hr => by
  obtain ⟨v, h1, h2⟩ := hs
  refine ⟨v, h1.kept hg (fun e => by rcases hr b e.symm with ⟨h3, _⟩ | ⟨h3, _⟩ <;> omega), h2.kept hg ?_⟩
  rcases h2.2 with ⟨rfl, _⟩ | ⟨g, cap, cur, rfl, hb, hgb, _⟩
  · exact .inl rfl
  · refine .inr fun e' => ?_
    rcases hr g (by simpa [Value.ownBlock] using e'.symm) with ⟨h3, h4, _⟩ | ⟨h3, h4⟩ <;> omega

set_option maxRecDepth 100000 in
set_option maxHeartbeats 4000000 in
theorem lfree_any (lo n₀ p : Nat) (sv : Value) (xs : List Sp) (fin : Int) (w : World) (hb : BusAt lo n₀ w p sv xs) (hn : n₀ ≤ w.heap.size) (hR : Row xs) (hf0 : -9223372036854775808 ≤ fin) (hf1 : fin ≤ 9223372036854775807) :
    Calls Try.prog 19 #[.pointer (some ⟨p, 0, none⟩), .int .i64 fin] w fun e w' => ∃ v, e = .returned v ∧ w'.ownsRow w.heap.size 3 1 v (2 * (gapsFrom fin 0 xs).length) (ints (flatG (gapsFrom fin 0 xs))) ∧ Below w.heap.size w w' := by
  obtain ⟨i0, hi', hz0, hz1, hz2⟩ := info_parts info_i
  obtain ⟨w4, hw4⟩ : ∃ w4, w.alloc (.cells #[.slice none 0 0] 43) = w4 := ⟨_, rfl⟩
  have hB4 : Below w.heap.size w w4 := by rw [← hw4]; exact bal w _
  have hz4 : w4.heap.size = w.heap.size + 1 := by rw [← hw4]; simp
  obtain ⟨w5, hw5⟩ : ∃ w5, w4.alloc (.cells #[.pointer (some ⟨p, 0, none⟩)] 24) = w5 := ⟨_, rfl⟩
  have hz5 : w5.heap.size = w.heap.size + 2 := by rw [← hw5]; simp; omega
  obtain ⟨w6, hw6⟩ : ∃ w6, w5.alloc (.cells #[.int .i64 fin] 3) = w6 := ⟨_, rfl⟩
  have hz6 : w6.heap.size = w.heap.size + 3 := by rw [← hw6]; simp; omega
  have hB46 : Below w4.heap.size w4 w6 := by rw [← hw6, ← hw5]; exact (bal w4 _).alloc (by simp) _
  have hB06 : Below w.heap.size w w6 := hB4.trans (hB46.mono (by omega))
  have bV : Boxed w6 w.heap.size 43 (.slice none 0 0) := (hB46.block _ (by omega)).trans (by rw [← hw4]; exact Boxed.new w _ _)
  have q0 : Boxed w6 (w.heap.size + 1) 24 (.pointer (some ⟨p, 0, none⟩)) := by rw [← hw6, ← hw5, ← hz4]; exact (Boxed.new w4 _ _).alloc _
  have q1 : Boxed w6 (w.heap.size + 1 + 1) 3 (.int .i64 fin) := by rw [← hw6, show w.heap.size + 1 + 1 = w5.heap.size by omega]; exact Boxed.new w5 _ _
  have hb6 : BusAt lo w.heap.size w6 p sv xs := (hb.mono (Nat.le_refl _) hn).below hB06 (Nat.le_refl _)
  have hstop := free_stops (w.heap.size + 1) lo w.heap.size p sv xs fin w6 (by omega) (by omega) q0 q1 hb6 hR (by omega) (by omega)
  have hexp : Calls Try.prog 32 #[.pointer (some ⟨p, 0, none⟩), .int .i64 fin] w4 fun e w' => e = .returned (.func (.func 40) #[] #[.pointer (some ⟨w.heap.size + 1, 0, none⟩), .pointer (some ⟨w.heap.size + 2, 0, none⟩)]) ∧ w' = w6 := (free_any p fin w4).mono fun e w' ⟨h1, h2⟩ => ⟨by rw [h1, hz4], by rw [h2, ← hw6, ← hw5]⟩
  have hgl := gaps_len fin xs
  have hxl := hR.len
  obtain ⟨gs, hgs⟩ : ∃ gs, gapsFrom fin 0 xs = gs := ⟨_, rfl⟩
  rw [hgs] at hstop hgl ⊢
  have HEXP := hi hexp
  have HST := hi hstop
  have HW4 := hi hw4
  clear hexp hstop hb6 hb hgs q0 q1 hw5 hw6 hB4 hR
  refine (callsIn_wide (n := 6)).1 ?_
  refine callsIn_of_wp_marks Try.func19 rfl trivial ?_ rfl
  simp only [Try.ntmps19, List.size_toArray, List.length_cons, List.length_nil, Nat.reduceAdd, Nat.reduceSub, Array.replicate_succ, Array.replicate_zero, List.push_toArray, List.append_toArray, List.nil_append, List.cons_append]
  gi_wp2_with (first
    | (refine ⟨trivial, ?_⟩; gi_at_call 32; ((with_reducible refine (callsIn_wide.2 HEXP.out).mono ?_); rintro e w1 ⟨rfl, rfl⟩))
    | gi_in)
  refine range_win (n := 6) (by omega) (gf := 40) (lb := #[.pointer (some ⟨w.heap.size + 1, 0, none⟩), .pointer (some ⟨w.heap.size + 2, 0, none⟩)]) rfl (enters_of Try.func40 (by kernel_rfl) rfl)
    HST.out (fun a b => KpF.trans a b) (fun W l o o' h1 h2 h3 h4 => KpF.put (by omega) (by omega) (by omega) h3 h4) (Below.refl _ _) (fun _ => rfl)
    (fun pre V => (∃ v, Boxed V w.heap.size 43 v ∧ V.ownsRow (w1.heap.size + 7) 3 1 v (2 * pre.length) (ints (flatG pre))) ∧ Below w.heap.size w V)
    (fun _ _ _ => False)
    (AbL.and (rowBox_abL w.heap.size w1.heap.size (by omega) (fun pre => 2 * List.length pre) (fun pre => ints (flatG pre))) (AbL.below (Nat.le_refl _) (by omega)))
    (fun _ _ _ _ _ hs _ _ => hs)
    ⟨⟨_, bV, World.ownsRow_nil _ _ _ _⟩, hB06⟩
    (fun g a' V => a' = { tmps := #[.pointer (some ⟨p, 0, none⟩), .int .i64 fin, undef, undef, .slice none 0 0, .pointer (some ⟨w.heap.size, 0, none⟩), .int .i64 g.1, .int .i64 g.2, .pointer (some ⟨p, 0, none⟩), .int .i64 fin, .func (.func 40) #[] #[.pointer (some ⟨w.heap.size + 1, 0, none⟩), .pointer (some ⟨w.heap.size + 2, 0, none⟩)], .int .i64 g.1, .int .i64 g.2, undef, undef, undef, undef, undef, undef, undef, undef, undef], defers := [] })
    (fun x a' => AbL.pure _ _ _)
    ?assign ?body ?done ?stop
  case assign =>
    rintro l' pre g V K hI hsz hK
    gi_wp2
    exact hK _ _ (KW.refl _ _) (KpF.refl _ _ _ _) hI rfl
  case body =>
    rintro l' pre g a' V hsz ⟨⟨v, hv, hrow⟩, hB⟩ rfl hpx
    have hlt : pre.length < gs.length := by have := hpx.length_le; simp at this; omega
    clear hpx
    obtain ⟨qa, qn⟩ := g
    have hcv := hv.cell
    have hWs := hB.size
    obtain ⟨q, hq⟩ : ∃ q, ints (flatG pre) = q := ⟨_, rfl⟩
    obtain ⟨m, hm⟩ : ∃ m, 2 * pre.length = m := ⟨_, rfl⟩
    rw [hq, hm] at hrow
    have hmb : m + 2 ≤ 100 := by omega
    have HQ := hi hq
    have HM := hi hm
    have HB := hi hB
    clear hq hm hB
    have hsl : ∃ a n c, v = .slice a n c := by
      rcases hrow.2 with ⟨rfl, _⟩ | ⟨g, cap, cur, rfl, _⟩
      · exact ⟨_, _, _, rfl⟩
      · exact ⟨_, _, _, rfl⟩
    obtain ⟨va, vn, vc, rfl⟩ := hsl
    gi_wp2_with (first
      | (gi_at_builtin; refine wpListIn_append_own _ rfl _ _ 43 rfl (w1.heap.size + 7) 3 i0 (.int .i64 0) 1 8 Try.underlying43 hi' hz0 hz1 hz2 rfl (by decide) _ _ _ rfl (hrow.alloc _) ⟨V.heap.size, 0, none⟩ 2 2 [.int .i64 qa, .int .i64 qn] rfl rfl (cell_two_new _ _ _ _) (by simp [Value.oneCell']) (by unfold maxLen; omega) (by omega) (by simp; omega) ?_; intro v' w9 hown' hgrow _; obtain ⟨g', cap', rfl⟩ := ownsRow_succ hown'; obtain ⟨hv1, hv2, hr2, hk2, hp2⟩ := grow_box hv hrow (by omega) (by omega) hown' hgrow; have hc1 := hv1.cell; have hf1 := hv1.frozen; have hc2 := hv2.cell)
      | gi_in)
    all_goals exact ⟨hk2, hp2, ⟨_, hv2, by rw [flatG_append, flatG_one, ints_append, HQ.out, show 2 * (pre ++ [(qa, qn)]).length = m + 2 by have := HM.out; simp; omega, ← hz6]; exact hr2⟩, HB.out.trans hp2.below⟩
  case done =>
    rintro ys V rfl ⟨⟨v, hv, hrow⟩, hB⟩ hK _
    have hcv := hv.cell
    obtain ⟨va, vc, rfl⟩ := ownI_slice hrow
    gi_wp2
    refine ⟨by simp, .inl ⟨_, _, rfl, run_takeDeferred hK, ?_⟩⟩
    exact ⟨_, results_tmp rfl _ _ _, _, rfl, ownI_base (ownsRow_putObj hrow _ hK rfl) (by omega), hB.trans (belowK2 (w := w1) (by omega) V w1.heap.size _ _ (Nat.le_refl _) (by omega) hK rfl)⟩
  case stop =>
    rintro c pre W _ h _ _
    exact h.elim

end Go.Proofs.Ytcdfkdlddmkhmaa
