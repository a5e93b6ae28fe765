/-
  Package sgi: Many. The law's to: the processors that a loop goes through, in a slice of its own.
-/
import Derived.Test.YtkfnelhafflimaaSgiC
import Derived.Test.YtkfnelhafflimaaInts
import Derived.Laws.AppendOwn
namespace Go.Proofs.Ytkfnelhafflimaa
open Go.ChangeShapes Go.WideShapes Go.ChangeAt Go.RowKit Go.Shelf
set_option linter.unusedVariables false
attribute [local go_sem] Oper.semAt_some

theorem AbL.cb {β : Type} {B k : Nat} (b : Nat) (t : TypeId) (f : β → Array Value) (hb : b < B) : AbL B k (fun s W => CB W b t (f s)) := AbL.of (m := 2 + k) (fun s A A' row hs hg hr => hs.kept hg (fun e => by have := hr b e.symm; omega)) rfl
theorem below_put {n : Nat} {w W : World} (h : Below n w W) {l : Nat} (o : Obj) (hn : n ≤ W.heap.size) (hl : n ≤ l) : Below n w (W.putObj l o) :=
  h.trans ⟨rfl, rfl, rfl, by simp, fun i hi' => World.putObj_heap_other (by omega)⟩
theorem add_mid_ (b o j : Nat) : (⟨b, o, none⟩ : Addr).add j = ⟨b, o + j, none⟩ := by unfold Addr.add; split <;> simp_all
theorem info_parts {P : Program} {t : TypeId} {z : Value} {s b : Nat} (h : (P.info? t).map (fun i => (i.zero, i.size, i.bytes)) = some (some z, s, b)) : ∃ i, P.info? t = some i ∧ i.zero = some z ∧ i.size = s ∧ i.bytes = b := by
  cases hi : P.info? t with
  | none => simp [hi] at h
  | some i => simp [hi] at h; exact ⟨i, rfl, h.1, h.2.1, h.2.2⟩

theorem zip_one (i : Nat) (v : Value) (t : Array Value) : Array.foldl (fun t x => t.setIfInBounds x.fst x.snd) t ((#[i] : Array Nat).zip #[v]) = t.setIfInBounds i v := by simp
set_option maxRecDepth 100000 in
set_option maxHeartbeats 4000000 in
theorem many_any (c : Cl) (fr cores : Int) (w : World) : Calls Try.prog 16 #[c.v, .int .i64 fr, .int .i64 cores] w fun e w' => e = .returned (.int .i64 (toL c fr cores).length) ∧ Below w.heap.size w w' := by
  obtain ⟨w3, hw3⟩ : ∃ w3, (w.alloc (.cells c.cs 24)).alloc (.cells #[.int .i64 0] 3) = w3 := ⟨_, rfl⟩
  have hz3 : w3.heap.size = w.heap.size + 2 := by rw [← hw3]; simp
  have hB3 : Below w.heap.size w w3 := by rw [← hw3]; exact bal_two _ _ _
  have q1 : CB w3 (w.heap.size + 1) 3 #[.int .i64 0] := by rw [← hw3]; exact cb_second
  have HA := hi (to_any c fr cores w3)
  obtain ⟨hT, hB, hZ⟩ := toW_at c fr cores w3
  obtain ⟨w4, hw4⟩ : ∃ w4, toW c fr cores w3 = w4 := ⟨_, rfl⟩
  rw [hw4] at HA hT hB hZ
  rw [hz3] at HA hT hB hZ
  have hB4 : Below w.heap.size w w4 := hB3.trans (hB.mono (by omega))
  have p1 : CB w4 (w.heap.size + 1) 3 #[.int .i64 0] := q1.below (by rw [hz3]; exact hB)
  have hst := to_stops (w.heap.size + 2) c fr cores w4 hT
  have hmax := toL_len c fr cores
  have HP1 := hi p1
  have HB4 := hi hB4
  clear hw4 q1 p1 hB4 hB3 hB hT
  obtain ⟨gs, hgs⟩ : ∃ gs, toL c fr cores = gs := ⟨_, rfl⟩
  rw [hgs] at hst hmax ⊢
  obtain ⟨id, all, tg, odd⟩ := c
  subst hw3
  clear hz3 hgs
  refine (callsIn_wide (n := 6)).1 ?_
  refine callsIn_of_wp_marks Try.func16 rfl trivial ?_ rfl
  simp only [Try.ntmps16, List.size_toArray, List.length_cons, List.length_nil, Nat.reduceAdd, Nat.reduceSub, Array.replicate_succ, Array.replicate_zero, List.push_toArray, List.append_toArray, List.nil_append, List.cons_append]
  gi_wp2_with (first
    | (refine ⟨trivial, ?_⟩; gi_at_call 21; ((with_reducible refine (callsIn_wide.2 HA.out).mono ?_); rintro e' w5 ⟨rfl, rfl⟩))
    | gi_in)
  refine range_win (n := 6) (by omega) (gf := 24) (lb := #[.pointer (some ⟨w.heap.size + 2 + 2, 0, none⟩), .pointer (some ⟨w.heap.size + 2, 0, none⟩), .pointer (some ⟨w.heap.size + 2 + 1, 0, none⟩)]) rfl (enters_of Try.func24 (by kernel_rfl) rfl)
    hst (fun a b => Stays.trans a b) (fun W l o o' h1 h2 h3 h4 => stays_put (by omega)) (Below.refl _ _) (fun _ => rfl)
    (fun pre V => CB V (w.heap.size + 1) 3 #[.int .i64 (pre.length : Int)] ∧ Below w.heap.size w V)
    (fun cd pre V => False)
    (AbL.and (AbL.cb _ _ (fun pre : List Nat => #[.int .i64 (pre.length : Int)]) (by omega)) (AbL.below (Nat.le_refl _) (by omega)))
    (fun _ _ _ _ _ hs _ _ => hs)
    ⟨HP1.out, HB4.out⟩
    (fun x a' V => a' = { tmps := #[.agg #[.int .i64 id, .bool all, .int .i64 tg, .bool odd], .int .i64 fr, .int .i64 cores, .pointer (some ⟨w.heap.size, 0, none⟩), undef, undef, .int .i64 0, .pointer (some ⟨w.heap.size + 1, 0, none⟩), .agg #[.int .i64 id, .bool all, .int .i64 tg, .bool odd], .int .i64 fr, .int .i64 cores, .func (.func 24) #[] #[.pointer (some ⟨w.heap.size + 2 + 2, 0, none⟩), .pointer (some ⟨w.heap.size + 2, 0, none⟩), .pointer (some ⟨w.heap.size + 2 + 1, 0, none⟩)], .int .i64 x, undef, undef, undef], defers := [] })
    (fun x a' => AbL.pure _ _ _)
    ?assign ?body ?done ?stop
  case assign =>
    rintro l' pre x V K h hsz hK
    gi_wp2
    rw [zip_one]
    exact hK _ _ (KW.refl _ _) (Stays.refl _ _ _) h rfl
  case body =>
    rintro l' pre x a' V hsz ⟨h1, hB⟩ rfl hpx
    have f1 := h1.frozen
    have c1 := h1.cell 0
    have hlen : pre.length + 1 ≤ 8 := by have := hpx.length_le; simp at this; omega
    gi_wp2
    exact ⟨KW.set _ _ _, stays_set (by omega), by have := h1.set 0 (.int .i64 ((pre.length : Int) + 1)); simpa using this, below_set hB (by omega) _⟩
  case done =>
    rintro ys V rfl ⟨h1, hB⟩ hK hs2
    have c1 := h1.cell 0
    gi_wp2
    refine ⟨by simp, .inl ⟨_, _, rfl, run_takeDeferred hK, ?_⟩⟩
    exact ⟨_, results_tmp rfl _ _ _, rfl, below_put hB _ hB.size (by omega)⟩
  case stop =>
    rintro cd pre V hpre h _ _
    exact h.elim

theorem info_i : (Try.prog.info? 3).map (fun i => (i.zero, i.size, i.bytes)) = some (some (.int .i64 0), 1, 8) := by kernel_rfl
def ints (xs : List Int) : List Value := xs.map (Value.int .i64)
theorem ints_append (a b : List Int) : ints (a ++ b) = ints a ++ ints b := by simp [ints]
theorem own_slice {W : World} {base sz : Nat} {te : TypeId} {v : Value} {n : Nat} {cs : List Value} (h : W.ownsRow base te sz v n cs) : ∃ a c, v = .slice a n c := by
  rcases h.2 with ⟨rfl, h0⟩ | ⟨g, cap, cur, rfl, _⟩
  · exact ⟨_, _, by rw [h0]⟩
  · exact ⟨_, _, rfl⟩

/-- A row of numbers that grows, held in a box below it. -/
theorem grow_box {ts te : TypeId} {sz : Nat} {W w1 : World} {base b : Nat} {v v' : Value} {k m : Nat} {xs ys : List Value} {tmp : Obj}
    (hv : Boxed W b ts v) (hrow : W.ownsRow base te sz v k xs) (hb : b < base) (hbase : base ≤ W.heap.size)
    (hown' : w1.ownsRow base te sz v' m ys) (hgrow : (W.alloc tmp).grownBy w1 v.ownBlock) :
    Boxed w1 b ts v ∧ Boxed (w1.setCell ⟨b, 0, none⟩ v') b ts v' ∧ (w1.setCell ⟨b, 0, none⟩ v').ownsRow base te sz v' m ys ∧ W.heap.size ≤ (w1.setCell ⟨b, 0, none⟩ v').heap.size ∧
    (∀ i, i < base → i ≠ b → (w1.setCell ⟨b, 0, none⟩ v').heap[i]? = W.heap[i]?) ∧ Below b W (w1.setCell ⟨b, 0, none⟩ v') := by
  have hrg : ∀ j, v.ownBlock = some j → base ≤ j := fun j ej => by
    rcases hrow.2 with ⟨rfl, _⟩ | ⟨g, cap, cur, rfl, hb, _, _⟩
    · simp [Value.ownBlock] at ej
    · obtain rfl : g = j := by simpa [Value.ownBlock] using ej
      exact hb
  have hrg' : ∀ j, v'.ownBlock = some j → base ≤ j := fun j ej => by
    rcases hown'.2 with ⟨rfl, _⟩ | ⟨g, cap, cur, rfl, hb, _, _⟩
    · simp [Value.ownBlock] at ej
    · obtain rfl : g = j := by simpa [Value.ownBlock] using ej
      exact hb
  have K1 : ∀ i, i < W.heap.size → v.ownBlock ≠ some i → w1.heap[i]? = W.heap[i]? := fun i h1 h2 => (hgrow.block i (by simp; omega) h2.symm).trans (Below.heap_alloc W tmp i h1)
  have K2 : ∀ i, i < W.heap.size → i ≠ b → v.ownBlock ≠ some i → (w1.setCell ⟨b, 0, none⟩ v').heap[i]? = W.heap[i]? := fun i h1 h2 h3 => (Below.heap_setCell _ _ _ i h2).trans (K1 i h1 h3)
  have hv1 : Boxed w1 b ts v := (K1 b (by omega) (fun e => by have := hrg _ e; omega)).trans hv
  have hsz : W.heap.size ≤ w1.heap.size := by have := hgrow.size; simp at this; omega
  exact ⟨hv1, hv1.set v', hown'.kept (grownBy_setCell' w1 b v') (.inr (fun e => by have := hrg' _ e; omega)), by simpa using hsz,
    fun i h1 h2 => K2 i (by omega) h2 (fun e => by have := hrg _ e; omega),
    (((Below.refl b W).alloc (by omega) tmp).grown hgrow (by simp; omega) (fun j e => by have := hrg _ e; omega)).setCell (p := ⟨b, 0, none⟩) (Nat.le_refl _) v'⟩
theorem rowBox_abL {β : Type} (ts te : TypeId) (sz : Nat) (b B w : Nat) (hB : b < B) (k : β → Nat) (f : β → List Value) : AbL B w (fun s W => ∃ v, Boxed W b ts v ∧ W.ownsRow (B + 2 + w) te sz v (k s) (f s)) := fun s A A' row hs hg hr => by
  obtain ⟨v, h1, h2⟩ := hs
  refine ⟨v, h1.kept hg (fun e => by rcases hr b e.symm with ⟨h3, _⟩ | ⟨h3, _⟩ <;> omega), h2.kept hg ?_⟩
  rcases h2.2 with ⟨rfl, _⟩ | ⟨g, cap, cur, rfl, hb, hgb, _⟩
  · exact .inl rfl
  · refine .inr fun e' => ?_
    rcases hr g (by simpa [Value.ownBlock] using e'.symm) with ⟨h3, h4, _⟩ | ⟨h3, h4⟩ <;> omega

/-- The slice that comes is some value that holds the numbers, in a row of the call's own. -/
def SomeInts (w : World) (xs : List Int) (e : Ending) (W' : World) : Prop := ∃ a cap, e = .returned (.slice a xs.length cap) ∧ IntsAt W' (.slice a xs.length cap) xs ∧ Below w.heap.size w W'
theorem someInts_of {w W' : World} {xs : List Int} {o : Value} {base : Nat} (h : W'.ownsRow base 3 1 o xs.length (ints xs)) (hb : Below w.heap.size w W') : SomeInts w xs (.returned o) W' := by
  obtain ⟨a, cap, rfl, hcap, hc⟩ := intsAt_row h
  exact ⟨a, cap, rfl, ⟨a, cap, rfl, hcap, hc⟩, hb⟩
theorem intsAt_grew {W W' : World} {v : Value} {xs : List Int} (h : IntsAt W v xs) (hb : Below W.heap.size W W') : IntsAt W' v xs := by
  obtain ⟨a, cap, hv, hcap, hc⟩ := h
  refine ⟨a, cap, hv, hcap, fun hx => ?_⟩
  obtain ⟨b, off, ha, hcs⟩ := hc hx
  exact ⟨b, off, ha, fun j hj => cell_kept (hcs j hj) (Below.grew hb) (fun r e => by cases e)⟩

set_option maxRecDepth 100000 in
set_option maxHeartbeats 4000000 in
theorem lawTo_any (c : Cl) (fr cores : Int) (w : World) : Calls Try.prog 15 #[c.v, .int .i64 fr, .int .i64 cores] w (SomeInts w (nums (toL c fr cores))) := by
  obtain ⟨i0, hi2, hi0, hi1, hib⟩ := info_parts info_i
  obtain ⟨w3, hw3⟩ : ∃ w3, (w.alloc (.cells c.cs 24)).alloc (.cells #[.slice none 0 0] 29) = w3 := ⟨_, rfl⟩
  have hz3 : w3.heap.size = w.heap.size + 2 := by rw [← hw3]; simp
  have hB3 : Below w.heap.size w w3 := by rw [← hw3]; exact bal_two _ _ _
  have q1 : CB w3 (w.heap.size + 1) 29 #[.slice none 0 0] := by rw [← hw3]; exact cb_second
  have HA := hi (to_any c fr cores w3)
  obtain ⟨hT, hB, hZ⟩ := toW_at c fr cores w3
  obtain ⟨w4, hw4⟩ : ∃ w4, toW c fr cores w3 = w4 := ⟨_, rfl⟩
  rw [hw4] at HA hT hB hZ
  rw [hz3] at HA hT hB hZ
  have hB4 : Below w.heap.size w w4 := hB3.trans (hB.mono (by omega))
  have p1 : CB w4 (w.heap.size + 1) 29 #[.slice none 0 0] := q1.below (by rw [hz3]; exact hB)
  have hst := to_stops (w.heap.size + 2) c fr cores w4 hT
  have hmax := toL_len c fr cores
  have HP1 := hi p1
  have HB4 := hi hB4
  clear hw4 q1 p1 hB4 hB3 hB hT
  obtain ⟨gs, hgs⟩ : ∃ gs, toL c fr cores = gs := ⟨_, rfl⟩
  rw [hgs] at hst hmax ⊢
  obtain ⟨id, all, tg, odd⟩ := c
  subst hw3
  clear hz3 hgs
  refine (callsIn_wide (n := 6)).1 ?_
  refine callsIn_of_wp_marks Try.func15 rfl trivial ?_ rfl
  simp only [Try.ntmps15, List.size_toArray, List.length_cons, List.length_nil, Nat.reduceAdd, Nat.reduceSub, Array.replicate_succ, Array.replicate_zero, List.push_toArray, List.append_toArray, List.nil_append, List.cons_append]
  gi_wp2_with (first
    | (refine ⟨trivial, ?_⟩; gi_at_call 21; ((with_reducible refine (callsIn_wide.2 HA.out).mono ?_); rintro e' w5 ⟨rfl, rfl⟩))
    | gi_in)
  refine range_win (n := 6) (by omega) (gf := 24) (lb := #[.pointer (some ⟨w.heap.size + 2 + 2, 0, none⟩), .pointer (some ⟨w.heap.size + 2, 0, none⟩), .pointer (some ⟨w.heap.size + 2 + 1, 0, none⟩)]) rfl (enters_of Try.func24 (by kernel_rfl) rfl)
    hst (fun a b => Stays.trans a b) (fun W l o o' h1 h2 h3 h4 => stays_put (by omega)) (Below.refl _ _) (fun _ => rfl)
    (fun pre V => (∃ v, Boxed V (w.heap.size + 1) 29 v ∧ V.ownsRow (w5.heap.size + 2 + 0) 3 1 v pre.length (ints (nums pre))) ∧ Below w.heap.size w V)
    (fun cd pre V => False)
    (AbL.and (rowBox_abL 29 3 1 (w.heap.size + 1) w5.heap.size 0 (by omega) (fun pre => List.length pre) (fun pre => ints (nums pre))) (AbL.below (Nat.le_refl _) (by omega)))
    (fun _ _ _ _ _ hs _ _ => hs)
    ⟨⟨_, HP1.out, World.ownsRow_nil _ _ _ _⟩, HB4.out⟩
    (fun x a' V => a' = { tmps := #[.agg #[.int .i64 id, .bool all, .int .i64 tg, .bool odd], .int .i64 fr, .int .i64 cores, .pointer (some ⟨w.heap.size, 0, none⟩), undef, undef, .slice none 0 0, .pointer (some ⟨w.heap.size + 1, 0, none⟩), .int .i64 x, .agg #[.int .i64 id, .bool all, .int .i64 tg, .bool odd], .int .i64 fr, .int .i64 cores, .func (.func 24) #[] #[.pointer (some ⟨w.heap.size + 2 + 2, 0, none⟩), .pointer (some ⟨w.heap.size + 2, 0, none⟩), .pointer (some ⟨w.heap.size + 2 + 1, 0, none⟩)], .int .i64 x, undef, undef, undef, undef, undef, undef, undef, undef], defers := [] })
    (fun x a' => AbL.pure _ _ _)
    ?assign ?body ?done ?stop
  case assign =>
    rintro l' pre x V K h hsz hK
    gi_wp2
    exact hK _ _ (KW.refl _ _) (Stays.refl _ _ _) h rfl
  case body =>
    rintro l' pre x a' V hsz ⟨⟨v, hv, hrow⟩, hB⟩ rfl hpx
    have hlt : pre.length < gs.length := by have := hpx.length_le; simp at this; omega
    clear hpx
    have hcv := hv.cell
    have hWs := hB.size
    obtain ⟨q, hq⟩ : ∃ q, ints (nums pre) = q := ⟨_, rfl⟩
    obtain ⟨m, hm⟩ : ∃ m, pre.length = m := ⟨_, rfl⟩
    rw [hq, hm] at hrow
    rw [hm] at hlt
    have hmb : m + 1 ≤ 8 := by omega
    have HQ := hi hq
    have HM := hi hm
    have HB := hi hB
    clear hq hm hB
    obtain ⟨va, vc, rfl⟩ := own_slice hrow
    gi_wp2_with (first
      | (gi_at_builtin; refine wpListIn_append_own _ rfl _ _ 29 rfl (w5.heap.size + 2 + 0) 3 i0 (.int .i64 0) 1 8 Try.underlying29 hi2 hi0 hi1 hib rfl (by decide) _ _ _ rfl (hrow.alloc _) ⟨V.heap.size, 0, none⟩ 1 1 [.int .i64 x] rfl rfl (cell_one_new _ _ _) (by simp [Value.oneCell']) (by unfold maxLen; omega) (by omega) (by simp; omega) ?_; intro v' w9 hown' hgrow _; obtain ⟨g', cap', rfl⟩ := ownsRow_succ hown'; obtain ⟨hv1, hv2, hr2, hs2, hk2, hp2⟩ := grow_box hv hrow (by omega) (by omega) hown' hgrow; have hc1 := hv1.cell; have hf1 := hv1.frozen; have hc2 := hv2.cell)
      | gi_in)
    exact ⟨⟨hs2, fun i o h1 h2 h3 _ => (hk2 i (by omega) (by omega)).trans h3⟩, ⟨hs2, fun i h1 h2 => hk2 i (by omega) (by omega)⟩, ⟨_, hv2, by rw [nums_append, nums_one, ints_append, HQ.out, show (pre ++ [x]).length = m + 1 by have := HM.out; simp; omega]; exact hr2⟩, HB.out.trans (hp2.mono (by omega))⟩
  case done =>
    rintro ys V rfl ⟨⟨v, hv, hrow⟩, hB⟩ hK _
    have hcv := hv.cell
    obtain ⟨va, vc, rfl⟩ := own_slice hrow
    gi_wp2
    refine ⟨by simp, .inl ⟨_, _, rfl, run_takeDeferred hK, ?_⟩⟩
    refine ⟨_, results_tmp rfl _ _ _, ?_⟩
    refine someInts_of (base := w5.heap.size + 2 + 0) ?_ (below_put hB _ hB.size (by omega))
    rw [nums_len]
    exact ownsRow_putObj hrow _ hK rfl
  case stop =>
    rintro c pre W _ h _ _
    exact h.elim

end Go.Proofs.Ytkfnelhafflimaa
