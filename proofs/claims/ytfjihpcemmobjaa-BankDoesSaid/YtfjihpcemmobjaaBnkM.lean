/-
  A row that grows, held in a box below it; the law's ids.
-/
import Derived.Test.YtfjihpcemmobjaaBnkL
namespace Go.Proofs.Ytfjihpcemmobjaa
open Go.ChangeShapes Go.WideShapes Go.ChangeAt Go.RowKit Go.Shelf
set_option linter.unusedVariables false
attribute [local go_sem] Oper.semAt_some

theorem info_i : (Try.prog.info? 3).map (fun i => (i.zero, i.size, i.bytes)) = some (some (.int .i64 0), 1, 8) := by kernel_rfl
def ints (xs : List Int) : List Value := xs.map (Value.int .i64)
theorem ints_append (a b : List Int) : ints (a ++ b) = ints a ++ ints b := by simp [ints]
theorem own_slice {W : World} {base sz : Nat} {te : TypeId} {v : Value} {n : Nat} {cs : List Value} (h : W.ownsRow base te sz v n cs) : ∃ a c, v = .slice a n c := by
  rcases h.2 with ⟨rfl, h0⟩ | ⟨g, cap, cur, rfl, _⟩
  · exact ⟨_, _, by rw [h0]⟩
  · exact ⟨_, _, rfl⟩
theorem own_base {W : World} {base base' sz : Nat} {te : TypeId} {v : Value} {n : Nat} {cs : List Value} (h : W.ownsRow base te sz v n cs) (hb : base' ≤ base) : W.ownsRow base' te sz v n cs := by
  rcases h with ⟨h0, h1 | ⟨g, cap, cur, e, hg, rest⟩⟩
  · exact ⟨h0, .inl h1⟩
  · exact ⟨h0, .inr ⟨g, cap, cur, e, Nat.le_trans hb hg, rest⟩⟩
theorem below_put {n : Nat} {w W : World} (h : Below n w W) {l : Nat} (o : Obj) (hn : n ≤ W.heap.size) (hl : n ≤ l) : Below n w (W.putObj l o) :=
  h.trans ⟨rfl, rfl, rfl, by simp, fun i hi' => World.putObj_heap_other (by omega)⟩

/-- A row of numbers that grows, held in a box below it. -/
theorem grow_box {ts te : TypeId} {sz : Nat} {W w1 : World} {base b : Nat} {v v' : Value} {k m : Nat} {xs ys : List Value} {tmp : Obj}
    (hv : Boxed W b ts v) (hrow : W.ownsRow base te sz v k xs) (hb : b < base) (hbase : base ≤ W.heap.size)
    (hown' : w1.ownsRow base te sz v' m ys) (hgrow : (W.alloc tmp).grownBy w1 v.ownBlock) :
    Boxed w1 b ts v ∧ Boxed (w1.setCell ⟨b, 0, none⟩ v') b ts v' ∧ (w1.setCell ⟨b, 0, none⟩ v').ownsRow base te sz v' m ys ∧ W.heap.size ≤ (w1.setCell ⟨b, 0, none⟩ v').heap.size ∧
    (∀ i, i < base → i ≠ b → (w1.setCell ⟨b, 0, none⟩ v').heap[i]? = W.heap[i]?) ∧ Below b W (w1.setCell ⟨b, 0, none⟩ v') := by
  have hrg : ∀ j, v.ownBlock = some j → base ≤ j := fun j ej => by
    rcases hrow.2 with ⟨rfl, _⟩ | ⟨g, cap, cur, rfl, hb, _, _⟩
    · simp [Value.ownBlock] at ej
    · obtain rfl : g = j := by simpa [Value.ownBlock] using ej
      exact hb
  have hrg' : ∀ j, v'.ownBlock = some j → base ≤ j := fun j ej => by
    rcases hown'.2 with ⟨rfl, _⟩ | ⟨g, cap, cur, rfl, hb, _, _⟩
    · simp [Value.ownBlock] at ej
    · obtain rfl : g = j := by simpa [Value.ownBlock] using ej
      exact hb
  have K1 : ∀ i, i < W.heap.size → v.ownBlock ≠ some i → w1.heap[i]? = W.heap[i]? := fun i h1 h2 => (hgrow.block i (by simp; omega) h2.symm).trans (Below.heap_alloc W tmp i h1)
  have K2 : ∀ i, i < W.heap.size → i ≠ b → v.ownBlock ≠ some i → (w1.setCell ⟨b, 0, none⟩ v').heap[i]? = W.heap[i]? := fun i h1 h2 h3 => (Below.heap_setCell _ _ _ i h2).trans (K1 i h1 h3)
  have hv1 : Boxed w1 b ts v := (K1 b (by omega) (fun e => by have := hrg _ e; omega)).trans hv
  have hsz : W.heap.size ≤ w1.heap.size := by have := hgrow.size; simp at this; omega
  exact ⟨hv1, hv1.set v', hown'.kept (grownBy_setCell' w1 b v') (.inr (fun e => by have := hrg' _ e; omega)), by simpa using hsz,
    fun i h1 h2 => K2 i (by omega) h2 (fun e => by have := hrg _ e; omega),
    (((Below.refl b W).alloc (by omega) tmp).grown hgrow (by simp; omega) (fun j e => by have := hrg _ e; omega)).setCell (p := ⟨b, 0, none⟩) (Nat.le_refl _) v'⟩
theorem rowBox_abL {β : Type} (ts te : TypeId) (sz : Nat) (b B w : Nat) (hB : b < B) (k : β → Nat) (f : β → List Value) : AbL B w (fun s W => ∃ v, Boxed W b ts v ∧ W.ownsRow (B + 2 + w) te sz v (k s) (f s)) := fun s A A' row hs hg hr => by
  obtain ⟨v, h1, h2⟩ := hs
  refine ⟨v, h1.kept hg (fun e => by rcases hr b e.symm with ⟨h3, _⟩ | ⟨h3, _⟩ <;> omega), h2.kept hg ?_⟩
  rcases h2.2 with ⟨rfl, _⟩ | ⟨g, cap, cur, rfl, hb, hgb, _⟩
  · exact .inl rfl
  · refine .inr fun e' => ?_
    rcases hr g (by simpa [Value.ownBlock] using e'.symm) with ⟨h3, h4, _⟩ | ⟨h3, h4⟩ <;> omega


/-- The slice that comes is some value that holds the numbers, in a row of the call's own. -/
def SomeInts (w : World) (xs : List Int) (e : Ending) (W' : World) : Prop := ∃ a cap, e = .returned (.slice a xs.length cap) ∧ IntsAt W' (.slice a xs.length cap) xs ∧ Below w.heap.size w W'
theorem someInts_of {w W' : World} {xs : List Int} {o : Value} {base : Nat} (h : W'.ownsRow base 3 1 o xs.length (ints xs)) (hb : Below w.heap.size w W') : SomeInts w xs (.returned o) W' := by
  obtain ⟨a, cap, rfl, hcap, hc⟩ := intsAt_row h
  exact ⟨a, cap, rfl, ⟨a, cap, rfl, hcap, hc⟩, hb⟩
theorem intsAt_grew {W W' : World} {v : Value} {xs : List Int} (h : IntsAt W v xs) (hb : Below W.heap.size W W') : IntsAt W' v xs := by
  obtain ⟨a, cap, hv, hcap, hc⟩ := h
  refine ⟨a, cap, hv, hcap, fun hx => ?_⟩
  obtain ⟨b, off, ha, hcs⟩ := hc hx
  exact ⟨b, off, ha, fun j hj => cell_kept (hcs j hj) (Below.grew hb) (fun r e => by cases e)⟩
theorem intsAt_putObj {W : World} {v : Value} {xs : List Int} (h : IntsAt W v xs) {l : Nat} {o o' : Obj} (hl : W.heap[l]? = some o) (ho : o.isCells = false) : IntsAt (W.putObj l o') v xs := by
  obtain ⟨a, cap, hv, hcap, hc⟩ := h
  refine ⟨a, cap, hv, hcap, fun hx => ?_⟩
  obtain ⟨b, off, ha, hcs⟩ := hc hx
  refine ⟨b, off, ha, fun j hj => ?_⟩
  have hbl : b ≠ l := fun e => by
    have h1 := hcs j hj
    subst e
    simp only [World.cell?, hl] at h1
    cases o <;> simp_all [Obj.isCells]
  exact (World.cell?_of_block (w := W) (a := ⟨b, off + j, none⟩) (World.putObj_heap_other hbl)).trans (hcs j hj)
def idsOf (xs : List It) : List Int := xs.map (·.1)
theorem idsOf_append (a b : List It) : idsOf (a ++ b) = idsOf a ++ idsOf b := by simp [idsOf]
theorem idsOf_len (a : List It) : (idsOf a).length = a.length := by simp [idsOf]

set_option maxRecDepth 100000 in
set_option maxHeartbeats 4000000 in
theorem ids_any {lo hi' k : Nat} {fv : Value} {xs : List It} {w : World} (h : Iter lo hi' k fv xs w) (hl : xs.length ≤ 20000) :
    Calls Try.prog 20 #[fv] w (SomeInts w (idsOf xs)) := by
  obtain ⟨i0, hi2, hz0, hz1, hz2⟩ := info_parts info_i
  obtain ⟨w3, hw3⟩ : ∃ w3, w.alloc (.cells #[.slice none 0 0] 43) = w3 := ⟨_, rfl⟩
  have hz3 : w3.heap.size = w.heap.size + 1 := by rw [← hw3]; simp
  have hB3 : Below w.heap.size w w3 := by rw [← hw3]; exact bal w _
  have hC3 : CB w3 w.heap.size 43 #[.slice none 0 0] := by rw [← hw3]; exact CB.new w _ _
  have hhi := h.hi_le
  obtain ⟨gf, lb, rfl, eg, hh3, hq⟩ := h.below hB3
  have hst := hq w3 (Nat.le_refl _) (fun _ _ _ => rfl)
  have HB3 := hi hB3
  have HC3 := hi hC3
  clear hq h hB3 hC3
  subst hw3
  refine (callsIn_wide (n := 6)).1 ?_
  refine callsIn_of_wp_marks Try.func20 rfl trivial ?_ rfl
  simp only [Try.ntmps20, List.size_toArray, List.length_cons, List.length_nil, Nat.reduceAdd, Nat.reduceSub, Array.replicate_succ, Array.replicate_zero, List.push_toArray, List.append_toArray, List.nil_append, List.cons_append]
  gi_wp2
  obtain ⟨w3, hw3⟩ : ∃ w3, w.alloc (.cells #[.slice none 0 0] 43) = w3 := ⟨_, rfl⟩
  rw [hw3] at hz3 hst hh3 HB3 HC3 ⊢
  clear hw3
  refine range_win (n := 6) (by omega) (gf := gf) (lb := lb) rfl eg
    hst (fun a b => KpX.trans a b) (fun V l o o' h1 h2 h3 h4 => kpx_put (by omega) (by omega)) (Below.refl _ _) (fun _ => rfl)
    (fun pre V => (∃ v, Boxed V w.heap.size 43 v ∧ V.ownsRow (w3.heap.size + 2 + k) 3 1 v pre.length (ints (idsOf pre))) ∧ Below w.heap.size w V)
    (fun cd pre V => False)
    (AbL.and (rowBox_abL 43 3 1 w.heap.size w3.heap.size k (by omega) (fun pre => List.length pre) (fun pre => ints (idsOf pre))) (AbL.below (Nat.le_refl _) (by omega)))
    (fun _ _ _ _ _ hs _ _ => hs)
    ⟨⟨_, HC3.out, World.ownsRow_nil _ _ _ _⟩, HB3.out⟩
    (fun x a' V => a' = { tmps := #[.func (.func gf) #[] lb, undef, .slice none 0 0, .pointer (some ⟨w.heap.size, 0, none⟩), .int .i64 x.1, .func (.func gf) #[] lb, .int .i64 x.1, x.2.v, undef, undef, undef, undef, undef, undef, undef, undef], defers := [] })
    (fun x a' => AbL.pure _ _ _)
    ?assign ?body ?done ?stop
  case assign =>
    rintro l' pre x V K h hsz hK
    gi_wp2
    exact hK _ _ (KW.refl _ _) (KpX.refl _ _ _ _ _) h rfl
  case body =>
    rintro l' pre x a' V hsz ⟨⟨v, hv, hrow⟩, hB⟩ rfl hpx
    have hlt : pre.length < xs.length := by have := hpx.length_le; simp at this; omega
    clear hpx
    have hcv := hv.cell
    have hWs := hB.size
    obtain ⟨q, hq⟩ : ∃ q, ints (idsOf pre) = q := ⟨_, rfl⟩
    obtain ⟨m, hm⟩ : ∃ m, pre.length = m := ⟨_, rfl⟩
    rw [hq, hm] at hrow
    rw [hm] at hlt
    have hmb : m + 1 ≤ 20000 := by omega
    have HQ := hi hq
    have HM := hi hm
    have HB := hi hB
    clear hq hm hB
    obtain ⟨va, vc, rfl⟩ := own_slice hrow
    gi_wp2_with (first
      | (gi_at_builtin; refine wpListIn_append_own _ rfl _ _ 43 rfl (w3.heap.size + 2 + k) 3 i0 (.int .i64 0) 1 8 Try.underlying43 hi2 hz0 hz1 hz2 rfl (by decide) _ _ _ rfl (hrow.alloc _) ⟨V.heap.size, 0, none⟩ 1 1 [.int .i64 x.1] rfl rfl (cell_one_new _ _ _) (by simp [Value.oneCell']) (by unfold maxLen; omega) (by omega) (by simp; omega) ?_; intro v' w9 hown' hgrow _; obtain ⟨g', cap', rfl⟩ := ownsRow_succ hown'; obtain ⟨hv1, hv2, hr2, hs2, hk2, hp2⟩ := grow_box hv hrow (by omega) (by omega) hown' hgrow; have hc1 := hv1.cell; have hf1 := hv1.frozen; have hc2 := hv2.cell)
      | gi_in)
    exact ⟨⟨hs2, fun i o h1 h2 h3 _ => (hk2 i (by omega) (by omega)).trans h3⟩, ⟨hs2, fun i q => hk2 i (by omega) (by omega)⟩, ⟨_, hv2, by rw [idsOf_append, show idsOf [x] = [x.1] from rfl, ints_append, HQ.out, show (pre ++ [x]).length = m + 1 by have := HM.out; simp; omega]; exact hr2⟩, HB.out.trans (hp2.mono (by omega))⟩
  case done =>
    rintro ys V rfl ⟨⟨v, hv, hrow⟩, hB⟩ hK _
    have hcv := hv.cell
    obtain ⟨va, vc, rfl⟩ := own_slice hrow
    gi_wp2
    refine ⟨by simp, .inl ⟨_, _, rfl, run_takeDeferred hK, ?_⟩⟩
    refine ⟨_, results_tmp rfl _ _ _, ?_⟩
    refine someInts_of (base := w3.heap.size + 2 + k) ?_ (below_put hB _ hB.size (by omega))
    rw [idsOf_len]
    exact ownsRow_putObj hrow _ hK rfl
  case stop =>
    rintro c pre V _ h _ _
    exact h.elim

end Go.Proofs.Ytfjihpcemmobjaa
