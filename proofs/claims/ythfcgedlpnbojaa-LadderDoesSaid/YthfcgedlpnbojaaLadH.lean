/-
  The law's All and only: what a loop goes through, in a slice of its own.
-/
import Derived.Test.YthfcgedlpnbojaaLadG
import Derived.Test.YthfcgedlpnbojaaInts
namespace Go.Proofs.Ythfcgedlpnbojaa
open Go.ChangeShapes Go.WideShapes Go.ChangeAt Go.RowKit Go.Shelf
set_option linter.unusedVariables false
attribute [local go_sem] Oper.semAt_some

theorem info_i : (Try.prog.info? 3).map (fun i => (i.zero, i.size, i.bytes)) = some (some (.int .i64 0), 1, 8) := by kernel_rfl
theorem cell_two_new (w : World) (x y : Value) (t : TypeId) : ∀ j u, [x, y][j]? = some u → (w.alloc (.cells #[x, y] t)).cell? ((⟨w.heap.size, 0, none⟩ : Addr).add j) = some u := by
  intro j u h
  rw [add_mid_, Nat.zero_add, (CB.new w t #[x, y]).cell]
  match j, h with
  | 0, h => simpa using h
  | 1, h => simpa using h
  | j + 2, h => simp at h
def ints (xs : List Int) : List Value := xs.map (Value.int .i64)
theorem ints_append (a b : List Int) : ints (a ++ b) = ints a ++ ints b := by simp [ints]
theorem ownI_slice {W : World} {base : Nat} {v : Value} {n : Nat} {cs : List Value} (h : W.ownsRow base 3 1 v n cs) : ∃ a c, v = .slice a n c := by
  rcases h.2 with ⟨rfl, h0⟩ | ⟨g, cap, cur, rfl, _⟩
  · exact ⟨_, _, by rw [h0]⟩
  · exact ⟨_, _, rfl⟩
theorem ownI_base {W : World} {base base' : Nat} {v : Value} {n : Nat} {cs : List Value} (h : W.ownsRow base 3 1 v n cs) (hb : base' ≤ base) : W.ownsRow base' 3 1 v n cs := by
  rcases h with ⟨h0, h1 | ⟨g, cap, cur, e, hg, rest⟩⟩
  · exact ⟨h0, .inl h1⟩
  · exact ⟨h0, .inr ⟨g, cap, cur, e, Nat.le_trans hb hg, rest⟩⟩

/-- What a list of places is written as: priorities and groups, in turn. -/
def flat : List Nat → List Int
  | [] => []
  | i :: r => 8 * ((i : Int) / 2) :: (i : Int) % 2 :: flat r
theorem flat_append (a b : List Nat) : flat (a ++ b) = flat a ++ flat b := by
  induction a with
  | nil => rfl
  | cons x r ih => simp [flat, ih]
theorem flat_one (i : Nat) : flat [i] = [8 * ((i : Int) / 2), (i : Int) % 2] := rfl
theorem flat_len : ∀ xs : List Nat, (flat xs).length = 2 * xs.length
  | [] => rfl
  | x :: r => by simp [flat, flat_len r]; omega
def prs (xs : List Nat) : List Int := xs.map fun (i : Nat) => 8 * ((i : Int) / 2)
theorem prs_append (a b : List Nat) : prs (a ++ b) = prs a ++ prs b := by simp [prs]
theorem prs_one (i : Nat) : prs [i] = [8 * ((i : Int) / 2)] := rfl

/-- A row of numbers that grows, held in a box below it. -/
theorem grow_box {W w1 : World} {base b : Nat} {v v' : Value} {k m : Nat} {xs ys : List Value} {tmp : Obj}
    (hv : Boxed W b 49 v) (hrow : W.ownsRow base 3 1 v k xs) (hb : b < base) (hbase : base ≤ W.heap.size)
    (hown' : w1.ownsRow base 3 1 v' m ys) (hgrow : (W.alloc tmp).grownBy w1 v.ownBlock) :
    Boxed w1 b 49 v ∧ Boxed (w1.setCell ⟨b, 0, none⟩ v') b 49 v' ∧ (w1.setCell ⟨b, 0, none⟩ v').ownsRow base 3 1 v' m ys ∧ W.heap.size ≤ (w1.setCell ⟨b, 0, none⟩ v').heap.size ∧
    (∀ i, i < base → i ≠ b → (w1.setCell ⟨b, 0, none⟩ v').heap[i]? = W.heap[i]?) ∧ Below b W (w1.setCell ⟨b, 0, none⟩ v') := by
  have hrg : ∀ j, v.ownBlock = some j → base ≤ j := fun j ej => by
    rcases hrow.2 with ⟨rfl, _⟩ | ⟨g, cap, cur, rfl, hb, _, _⟩
    · simp [Value.ownBlock] at ej
    · obtain rfl : g = j := by simpa [Value.ownBlock] using ej
      exact hb
  have hrg' : ∀ j, v'.ownBlock = some j → base ≤ j := fun j ej => by
    rcases hown'.2 with ⟨rfl, _⟩ | ⟨g, cap, cur, rfl, hb, _, _⟩
    · simp [Value.ownBlock] at ej
    · obtain rfl : g = j := by simpa [Value.ownBlock] using ej
      exact hb
  have K1 : ∀ i, i < W.heap.size → v.ownBlock ≠ some i → w1.heap[i]? = W.heap[i]? := fun i h1 h2 => (hgrow.block i (by simp; omega) h2.symm).trans (Below.heap_alloc W tmp i h1)
  have K2 : ∀ i, i < W.heap.size → i ≠ b → v.ownBlock ≠ some i → (w1.setCell ⟨b, 0, none⟩ v').heap[i]? = W.heap[i]? := fun i h1 h2 h3 => (Below.heap_setCell _ _ _ i h2).trans (K1 i h1 h3)
  have hv1 : Boxed w1 b 49 v := (K1 b (by omega) (fun e => by have := hrg _ e; omega)).trans hv
  have hsz : W.heap.size ≤ w1.heap.size := by have := hgrow.size; simp at this; omega
  exact ⟨hv1, hv1.set v', hown'.kept (grownBy_setCell' w1 b v') (.inr (fun e => by have := hrg' _ e; omega)), by simpa using hsz,
    fun i h1 h2 => K2 i (by omega) h2 (fun e => by have := hrg _ e; omega),
    (((Below.refl b W).alloc (by omega) tmp).grown hgrow (by simp; omega) (fun j e => by have := hrg _ e; omega)).setCell (p := ⟨b, 0, none⟩) (Nat.le_refl _) v'⟩
theorem rowBox_abL {β : Type} (b B w : Nat) (hB : b < B) (k : β → Nat) (f : β → List Value) : AbL B w (fun s W => ∃ v, Boxed W b 49 v ∧ W.ownsRow (B + 2 + w) 3 1 v (k s) (f s)) := fun s A A' row hs hg hr => by
  obtain ⟨v, h1, h2⟩ := hs
  refine ⟨v, h1.kept hg (fun e => by rcases hr b e.symm with ⟨h3, _⟩ | ⟨h3, _⟩ <;> omega), h2.kept hg ?_⟩
  rcases h2.2 with ⟨rfl, _⟩ | ⟨g, cap, cur, rfl, hb, hgb, _⟩
  · exact .inl rfl
  · refine .inr fun e' => ?_
    rcases hr g (by simpa [Value.ownBlock] using e'.symm) with ⟨h3, h4, _⟩ | ⟨h3, h4⟩ <;> omega

/-- A slice that owns these numbers, in a row of the call's own. -/
def OwnsInts (w W' : World) (v : Value) (xs : List Int) : Prop := W'.ownsRow w.heap.size 3 1 v xs.length (ints xs)

set_option maxRecDepth 100000 in
set_option maxHeartbeats 4000000 in
theorem lawAll_own (f : Rg) (w : World) : Calls Try.prog 24 #[lv f] w fun e w' => ∃ v, e = .returned v ∧ OwnsInts w w' v (flat (rungs f)) ∧ Below w.heap.size w w' := by
  obtain ⟨i0, hi', hz0, hz1, hz2⟩ := info_parts info_i
  obtain ⟨w3, hw3⟩ : ∃ w3, (w.alloc (.cells (lcs f) 27)).alloc (.cells #[.slice none 0 0] 49) = w3 := ⟨_, rfl⟩
  have hz3 : w3.heap.size = w.heap.size + 2 := by rw [← hw3]; simp
  have hB3 : Below w.heap.size w w3 := by rw [← hw3]; exact bal_two _ _ _
  have q1 : CB w3 (w.heap.size + 1) 49 #[.slice none 0 0] := by rw [← hw3]; exact cb_second
  have HA := hi (all_any f w3)
  rw [hz3] at HA
  obtain ⟨w4, hw4⟩ : ∃ w4, w3.alloc (.cells (lcs f) 27) = w4 := ⟨_, rfl⟩
  have hz4 : w4.heap.size = w.heap.size + 3 := by rw [← hw4]; simp; omega
  have hB4 : Below w.heap.size w w4 := by rw [← hw4]; exact hB3.alloc hB3.size _
  have hc4 : CB w4 (w.heap.size + 2) 27 (lcs f) := by rw [← hw4, ← hz3]; exact CB.new w3 _ _
  have p1 : CB w4 (w.heap.size + 1) 49 #[.slice none 0 0] := by rw [← hw4]; exact q1.alloc _
  rw [hw4] at HA
  have hst := all_stops (w.heap.size + 2) f w4 hc4
  have hmax := rungs_len f
  have HP1 := hi p1
  have HB4 := hi hB4
  clear hw4 q1 hc4 p1 hB4 hB3
  obtain ⟨gs, hgs⟩ : ∃ gs, rungs f = gs := ⟨_, rfl⟩
  rw [hgs] at hst hmax ⊢
  obtain ⟨a, ha⟩ : ∃ a, wd f 0 = a := ⟨_, rfl⟩
  obtain ⟨b, hb'⟩ : ∃ b, wd f 1 = b := ⟨_, rfl⟩
  unfold lv lcs at *
  rw [ha, hb'] at HA hw3 ⊢
  subst hw3
  clear ha hb' hz3 hgs
  refine (callsIn_wide (n := 6)).1 ?_
  refine callsIn_of_wp_marks Try.func24 rfl trivial ?_ rfl
  simp only [Try.ntmps24, List.size_toArray, List.length_cons, List.length_nil, Nat.reduceAdd, Nat.reduceSub, Array.replicate_succ, Array.replicate_zero, List.push_toArray, List.append_toArray, List.nil_append, List.cons_append]
  gi_wp2_with (first
    | (refine ⟨trivial, ?_⟩; gi_at_call 30; ((with_reducible refine (callsIn_wide.2 HA.out).mono ?_); rintro e' w5 ⟨rfl, rfl⟩))
    | gi_in)
  refine range_win (n := 6) (by omega) (gf := 32) (lb := #[.pointer (some ⟨w.heap.size + 2, 0, none⟩)]) rfl (enters_of Try.func32 (by kernel_rfl) rfl)
    hst (fun a b => Stays.trans a b) (fun W l o o' h1 h2 h3 h4 => stays_put (by omega)) (Below.refl _ _) (fun _ => rfl)
    (fun pre V => (∃ v, Boxed V (w.heap.size + 1) 49 v ∧ V.ownsRow (w5.heap.size + 2 + 0) 3 1 v (2 * pre.length) (ints (flat pre))) ∧ Below w.heap.size w V)
    (fun cd pre V => False)
    (AbL.and (rowBox_abL (w.heap.size + 1) w5.heap.size 0 (by omega) (fun pre => 2 * List.length pre) (fun pre => ints (flat pre))) (AbL.below (Nat.le_refl _) (by omega)))
    (fun _ _ _ _ _ hs _ _ => hs)
    ⟨⟨_, HP1.out, World.ownsRow_nil _ _ _ _⟩, HB4.out⟩
    (fun x a' V => a' = { tmps := #[.agg #[.int .u32 a, .int .u32 b], .pointer (some ⟨w.heap.size, 0, none⟩), .slice none 0 0, .pointer (some ⟨w.heap.size + 1, 0, none⟩), .int .i64 (8 * ((x : Int) / 2)), .int .i64 ((x : Int) % 2), .agg #[.int .u32 a, .int .u32 b], .func (.func 32) #[] #[.pointer (some ⟨w.heap.size + 2, 0, none⟩)], .int .i64 (8 * ((x : Int) / 2)), .int .i64 ((x : Int) % 2), undef, undef, undef, undef, undef, undef, undef, undef, undef], defers := [] })
    (fun x a' => AbL.pure _ _ _)
    ?assign ?body ?done ?stop
  case assign =>
    rintro l' pre x V K h hsz hK
    gi_wp2
    exact hK _ _ (KW.refl _ _) (Stays.refl _ _ _) h rfl
  case body =>
    rintro l' pre x a' V hsz ⟨⟨v, hv, hrow⟩, hB⟩ rfl hpx
    have hlt : pre.length < gs.length := by have := hpx.length_le; simp at this; omega
    clear hpx
    have hcv := hv.cell
    have hWs := hB.size
    obtain ⟨q, hq⟩ : ∃ q, ints (flat pre) = q := ⟨_, rfl⟩
    obtain ⟨m, hm⟩ : ∃ m, 2 * pre.length = m := ⟨_, rfl⟩
    rw [hq, hm] at hrow
    have hmb : m + 2 ≤ 128 := by omega
    have HQ := hi hq
    have HM := hi hm
    have HB := hi hB
    clear hq hm hB
    obtain ⟨va, vc, rfl⟩ := ownI_slice hrow
    gi_wp2_with (first
      | (gi_at_builtin; refine wpListIn_append_own _ rfl _ _ 49 rfl (w5.heap.size + 2 + 0) 3 i0 (.int .i64 0) 1 8 Try.underlying49 hi' hz0 hz1 hz2 rfl (by decide) _ _ _ rfl (hrow.alloc _) ⟨V.heap.size, 0, none⟩ 2 2 [.int .i64 (8 * ((x : Int) / 2)), .int .i64 ((x : Int) % 2)] rfl rfl (cell_two_new _ _ _ _) (by simp [Value.oneCell']) (by unfold maxLen; omega) (by omega) (by simp; omega) ?_; intro v' w9 hown' hgrow _; obtain ⟨g', cap', rfl⟩ := ownsRow_succ hown'; obtain ⟨hv1, hv2, hr2, hs2, hk2, hp2⟩ := grow_box hv hrow (by omega) (by omega) hown' hgrow; have hc1 := hv1.cell; have hf1 := hv1.frozen; have hc2 := hv2.cell)
      | gi_in)
    exact ⟨⟨hs2, fun i o h1 h2 h3 _ => (hk2 i (by omega) (by omega)).trans h3⟩, ⟨hs2, fun i h1 h2 => hk2 i (by omega) (by omega)⟩, ⟨_, hv2, by rw [flat_append, flat_one, ints_append, HQ.out, show 2 * (pre ++ [x]).length = m + 2 by have := HM.out; simp; omega]; exact hr2⟩, HB.out.trans (hp2.mono (by omega))⟩
  case done =>
    rintro ys V rfl ⟨⟨v, hv, hrow⟩, hB⟩ hK _
    have hcv := hv.cell
    obtain ⟨va, vc, rfl⟩ := ownI_slice hrow
    gi_wp2
    refine ⟨by simp, .inl ⟨_, _, rfl, run_takeDeferred hK, ?_⟩⟩
    exact ⟨_, results_tmp rfl _ _ _, _, rfl, by unfold OwnsInts; rw [flat_len]; exact ownI_base (ownsRow_putObj hrow _ hK rfl) (by omega), below_put hB _ hB.size (by omega)⟩
  case stop =>
    rintro c pre W _ h _ _
    exact h.elim

theorem KpO.put {c B : Nat} {W : World} {l : Nat} {o' : Obj} (h1 : c + 2 ≤ l) (h2 : l < B) : KpO c B W (W.putObj l o') := ⟨by simp, fun i hi => World.putObj_heap_other (by omega)⟩
theorem onlyL_len (f : Rg) (g : Int) : (onlyL f g).length ≤ 64 := Nat.le_trans (List.length_filter_le _ _) (rungs_len f)

set_option maxRecDepth 100000 in
set_option maxHeartbeats 4000000 in
theorem lawOnly_own (f : Rg) (g : Int) (w : World) : Calls Try.prog 22 #[lv f, .int .i64 g] w fun e w' => ∃ v, e = .returned v ∧ OwnsInts w w' v (prs (onlyL f g)) ∧ Below w.heap.size w w' := by
  obtain ⟨i0, hi', hz0, hz1, hz2⟩ := info_parts info_i
  obtain ⟨w3, hw3⟩ : ∃ w3, (w.alloc (.cells (lcs f) 27)).alloc (.cells #[.slice none 0 0] 49) = w3 := ⟨_, rfl⟩
  have hz3 : w3.heap.size = w.heap.size + 2 := by rw [← hw3]; simp
  have hB3 : Below w.heap.size w w3 := by rw [← hw3]; exact bal_two _ _ _
  have q1 : CB w3 (w.heap.size + 1) 49 #[.slice none 0 0] := by rw [← hw3]; exact cb_second
  have HA := hi (only_any f g w3)
  rw [hz3] at HA
  obtain ⟨w4, hw4⟩ : ∃ w4, (w3.alloc (.cells (lcs f) 27)).alloc (.cells #[.int .i64 g] 3) = w4 := ⟨_, rfl⟩
  have hz4 : w4.heap.size = w.heap.size + 4 := by rw [← hw4]; simp; omega
  have hB4 : Below w.heap.size w w4 := by rw [← hw4]; exact hB3.trans ((bal_two w3 _ _).mono hB3.size)
  have hc4 : CB w4 (w.heap.size + 2) 27 (lcs f) := by rw [← hw4, ← hz3]; exact (CB.new w3 _ _).alloc _
  have hc5 : CB w4 (w.heap.size + 2 + 1) 3 #[.int .i64 g] := by rw [← hw4, ← hz3]; exact cb_second
  have p1 : CB w4 (w.heap.size + 1) 49 #[.slice none 0 0] := by rw [← hw4]; exact (q1.alloc _).alloc _
  rw [hw4] at HA
  have hst := only_stops (w.heap.size + 2) f g w4 (by omega) hc4 hc5
  have hmax := onlyL_len f g
  have HP1 := hi p1
  have HB4 := hi hB4
  clear hw4 q1 hc4 hc5 p1 hB4 hB3
  obtain ⟨gs, hgs⟩ : ∃ gs, onlyL f g = gs := ⟨_, rfl⟩
  rw [hgs] at hst hmax ⊢
  obtain ⟨a, ha⟩ : ∃ a, wd f 0 = a := ⟨_, rfl⟩
  obtain ⟨b, hb'⟩ : ∃ b, wd f 1 = b := ⟨_, rfl⟩
  unfold lv lcs at *
  rw [ha, hb'] at HA hw3 ⊢
  subst hw3
  clear ha hb' hz3 hgs
  refine (callsIn_wide (n := 6)).1 ?_
  refine callsIn_of_wp_marks Try.func22 rfl trivial ?_ rfl
  simp only [Try.ntmps22, List.size_toArray, List.length_cons, List.length_nil, Nat.reduceAdd, Nat.reduceSub, Array.replicate_succ, Array.replicate_zero, List.push_toArray, List.append_toArray, List.nil_append, List.cons_append]
  gi_wp2_with (first
    | (refine ⟨trivial, ?_⟩; gi_at_call 31; ((with_reducible refine (callsIn_wide.2 HA.out).mono ?_); rintro e' w5 ⟨rfl, rfl⟩))
    | gi_in)
  refine range_win (n := 6) (by omega) (gf := 33) (lb := #[.pointer (some ⟨w.heap.size + 2, 0, none⟩), .pointer (some ⟨w.heap.size + 2 + 1, 0, none⟩)]) rfl (enters_of Try.func33 (by kernel_rfl) rfl)
    hst (fun a b => KpO.trans a b) (fun W l o o' h1 h2 h3 h4 => KpO.put (by omega) (by omega)) (Below.refl _ _) (fun _ => rfl)
    (fun pre V => (∃ v, Boxed V (w.heap.size + 1) 49 v ∧ V.ownsRow (w5.heap.size + 2 + 4) 3 1 v pre.length (ints (prs pre))) ∧ Below w.heap.size w V)
    (fun cd pre V => False)
    (AbL.and (rowBox_abL (w.heap.size + 1) w5.heap.size 4 (by omega) (fun pre => List.length pre) (fun pre => ints (prs pre))) (AbL.below (Nat.le_refl _) (by omega)))
    (fun _ _ _ _ _ hs _ _ => hs)
    ⟨⟨_, HP1.out, World.ownsRow_nil _ _ _ _⟩, HB4.out⟩
    (fun x a' V => a' = { tmps := #[.agg #[.int .u32 a, .int .u32 b], .int .i64 g, .pointer (some ⟨w.heap.size, 0, none⟩), undef, .slice none 0 0, .pointer (some ⟨w.heap.size + 1, 0, none⟩), .int .i64 (8 * ((x : Int) / 2)), .agg #[.int .u32 a, .int .u32 b], .int .i64 g, .func (.func 33) #[] #[.pointer (some ⟨w.heap.size + 2, 0, none⟩), .pointer (some ⟨w.heap.size + 2 + 1, 0, none⟩)], .int .i64 (8 * ((x : Int) / 2)), undef, undef, undef, undef, undef, undef, undef, undef], defers := [] })
    (fun x a' => AbL.pure _ _ _)
    ?assign ?body ?done ?stop
  case assign =>
    rintro l' pre x V K h hsz hK
    gi_wp2
    exact hK _ _ (KW.refl _ _) (KpO.refl _ _ _) h rfl
  case body =>
    rintro l' pre x a' V hsz ⟨⟨v, hv, hrow⟩, hB⟩ rfl hpx
    have hlt : pre.length < gs.length := by have := hpx.length_le; simp at this; omega
    clear hpx
    have hcv := hv.cell
    have hWs := hB.size
    obtain ⟨q, hq⟩ : ∃ q, ints (prs pre) = q := ⟨_, rfl⟩
    obtain ⟨m, hm⟩ : ∃ m, pre.length = m := ⟨_, rfl⟩
    rw [hq, hm] at hrow
    have hmb : m + 1 ≤ 64 := by omega
    have HQ := hi hq
    have HM := hi hm
    have HB := hi hB
    clear hq hm hB
    obtain ⟨va, vc, rfl⟩ := ownI_slice hrow
    gi_wp2_with (first
      | (gi_at_builtin; refine wpListIn_append_own _ rfl _ _ 49 rfl (w5.heap.size + 2 + 4) 3 i0 (.int .i64 0) 1 8 Try.underlying49 hi' hz0 hz1 hz2 rfl (by decide) _ _ _ rfl (hrow.alloc _) ⟨V.heap.size, 0, none⟩ 1 1 [.int .i64 (8 * ((x : Int) / 2))] rfl rfl (cell_one_new _ _ _) (by simp [Value.oneCell']) (by unfold maxLen; omega) (by omega) (by simp; omega) ?_; intro v' w9 hown' hgrow _; obtain ⟨g', cap', rfl⟩ := ownsRow_succ hown'; obtain ⟨hv1, hv2, hr2, hs2, hk2, hp2⟩ := grow_box hv hrow (by omega) (by omega) hown' hgrow; have hc1 := hv1.cell; have hf1 := hv1.frozen; have hc2 := hv2.cell)
      | gi_in)
    exact ⟨⟨hs2, fun i o h1 h2 h3 _ => (hk2 i (by omega) (by omega)).trans h3⟩, ⟨hs2, fun i hi => hk2 i (by omega) (by omega)⟩, ⟨_, hv2, by rw [prs_append, prs_one, ints_append, HQ.out, show (pre ++ [x]).length = m + 1 by have := HM.out; simp; omega]; exact hr2⟩, HB.out.trans (hp2.mono (by omega))⟩
  case done =>
    rintro ys V rfl ⟨⟨v, hv, hrow⟩, hB⟩ hK _
    have hcv := hv.cell
    obtain ⟨va, vc, rfl⟩ := ownI_slice hrow
    gi_wp2
    refine ⟨by simp, .inl ⟨_, _, rfl, run_takeDeferred hK, ?_⟩⟩
    exact ⟨_, results_tmp rfl _ _ _, _, rfl, by unfold OwnsInts; rw [show (prs ys).length = ys.length by simp [prs]]; exact ownI_base (ownsRow_putObj hrow _ hK rfl) (by omega), below_put hB _ hB.size (by omega)⟩
  case stop =>
    rintro c pre W _ h _ _
    exact h.elim

end Go.Proofs.Ythfcgedlpnbojaa
