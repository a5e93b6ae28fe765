/-
  Those that wait, in a slice: what slices.Collect and the law's list give.
-/
import Derived.Test.YtobhdjepfhbgaaaDoorLpK
namespace Go.Proofs.YtobhdjepfhbgaaaDoor
open Go.ChangeShapes Go.WideShapes Go.ChangeAt Go.RowKit Go.Shelf
set_option linter.unusedVariables false
set_option linter.unusedSimpArgs false
attribute [local go_sem] Oper.semAt_some

abbrev vals (xs : List Int) : List Value := xs.map (Value.int .i64)
theorem below_put {n : Nat} {w W : World} (h : Below n w W) {l : Nat} (o : Obj) (hn : n ≤ W.heap.size) (hl : n ≤ l) : Below n w (W.putObj l o) :=
  h.trans ⟨rfl, rfl, rfl, by simp, fun i hi' => World.putObj_heap_other (by omega)⟩
theorem own_slice {W : World} {base sz : Nat} {te : TypeId} {v : Value} {n : Nat} {cs : List Value} (h : W.ownsRow base te sz v n cs) : ∃ a c, v = .slice a n c := by
  rcases h.2 with ⟨rfl, h0⟩ | ⟨g, cap, cur, rfl, _⟩
  · exact ⟨_, _, by rw [h0]⟩
  · exact ⟨_, _, rfl⟩

/-- A row of numbers that grows, held in a box below it. -/
theorem grow_box {ts te : TypeId} {sz : Nat} {W w1 : World} {base b : Nat} {v v' : Value} {k m : Nat} {xs ys : List Value} {tmp : Obj}
    (hv : Boxed W b ts v) (hrow : W.ownsRow base te sz v k xs) (hb : b < base) (hbase : base ≤ W.heap.size)
    (hown' : w1.ownsRow base te sz v' m ys) (hgrow : (W.alloc tmp).grownBy w1 v.ownBlock) :
    Boxed w1 b ts v ∧ Boxed (w1.setCell ⟨b, 0, none⟩ v') b ts v' ∧ (w1.setCell ⟨b, 0, none⟩ v').ownsRow base te sz v' m ys ∧ W.heap.size ≤ (w1.setCell ⟨b, 0, none⟩ v').heap.size ∧
    (∀ i, i < base → i ≠ b → (w1.setCell ⟨b, 0, none⟩ v').heap[i]? = W.heap[i]?) ∧ Below b W (w1.setCell ⟨b, 0, none⟩ v') := by
  have hrg : ∀ j, v.ownBlock = some j → base ≤ j := fun j ej => by
    rcases hrow.2 with ⟨rfl, _⟩ | ⟨g, cap, cur, rfl, hb, _, _⟩
    · simp [Value.ownBlock] at ej
    · obtain rfl : g = j := by simpa [Value.ownBlock] using ej
      exact hb
  have hrg' : ∀ j, v'.ownBlock = some j → base ≤ j := fun j ej => by
    rcases hown'.2 with ⟨rfl, _⟩ | ⟨g, cap, cur, rfl, hb, _, _⟩
    · simp [Value.ownBlock] at ej
    · obtain rfl : g = j := by simpa [Value.ownBlock] using ej
      exact hb
  have K1 : ∀ i, i < W.heap.size → v.ownBlock ≠ some i → w1.heap[i]? = W.heap[i]? := fun i h1 h2 => (hgrow.block i (by simp; omega) h2.symm).trans (Below.heap_alloc W tmp i h1)
  have K2 : ∀ i, i < W.heap.size → i ≠ b → v.ownBlock ≠ some i → (w1.setCell ⟨b, 0, none⟩ v').heap[i]? = W.heap[i]? := fun i h1 h2 h3 => (Below.heap_setCell _ _ _ i h2).trans (K1 i h1 h3)
  have hv1 : Boxed w1 b ts v := (K1 b (by omega) (fun e => by have := hrg _ e; omega)).trans hv
  have hsz : W.heap.size ≤ w1.heap.size := by have := hgrow.size; simp at this; omega
  exact ⟨hv1, hv1.set v', hown'.kept (grownBy_setCell' w1 b v') (.inr (fun e => by have := hrg' _ e; omega)), by simpa using hsz,
    fun i h1 h2 => K2 i (by omega) h2 (fun e => by have := hrg _ e; omega),
    (((Below.refl b W).alloc (by omega) tmp).grown hgrow (by simp; omega) (fun j e => by have := hrg _ e; omega)).setCell (p := ⟨b, 0, none⟩) (Nat.le_refl _) v'⟩
theorem rowBox_abL {β : Type} (ts te : TypeId) (sz : Nat) (b B w : Nat) (hB : b < B) (k : β → Nat) (f : β → List Value) : AbL B w (fun s W => ∃ v, Boxed W b ts v ∧ W.ownsRow (B + 2 + w) te sz v (k s) (f s)) := fun s A A' row hs hg hr => by
  obtain ⟨v, h1, h2⟩ := hs
  refine ⟨v, h1.kept hg (fun e => by rcases hr b e.symm with ⟨h3, _⟩ | ⟨h3, _⟩ <;> omega), h2.kept hg ?_⟩
  rcases h2.2 with ⟨rfl, _⟩ | ⟨g, cap, cur, rfl, hb, hgb, _⟩
  · exact .inl rfl
  · refine .inr fun e' => ?_
    rcases hr g (by simpa [Value.ownBlock] using e'.symm) with ⟨h3, h4, _⟩ | ⟨h3, h4⟩ <;> omega


/-- The block of a slice. -/
def Yb (v : Value) (b : Nat) : Prop := ∃ off n c, v = .slice (some ⟨b, off, none⟩) n c
/-- The slice that comes is some value that holds the numbers, in a row of the call's own. -/
def SomeInts (w : World) (xs : List Int) (e : Ending) (W' : World) : Prop := ∃ a cap, e = .returned (.slice a xs.length cap) ∧ IntsAt W' (.slice a xs.length cap) xs ∧ Below w.heap.size w W' ∧ ∀ b, Yb (.slice a xs.length cap) b → w.heap.size ≤ b
theorem own_yb {W : World} {base sz : Nat} {te : TypeId} {v : Value} {n : Nat} {cs : List Value} (h : W.ownsRow base te sz v n cs) : ∀ b, Yb v b → base ≤ b := by
  rintro b ⟨off, m, c, e⟩
  rcases h.2 with ⟨rfl, _⟩ | ⟨g, cap, cur, rfl, hb, _⟩
  · cases e
  · cases e; exact hb
theorem own_yl {W : World} {base sz : Nat} {te : TypeId} {v : Value} {n : Nat} {cs : List Value} (h : W.ownsRow base te sz v n cs) : ∀ b, Yb v b → b < W.heap.size := by
  rintro b ⟨off, m, c, e⟩
  rcases h.2 with ⟨rfl, _⟩ | ⟨g, cap, cur, rfl, hb, hg, _⟩
  · cases e
  · cases e; exact (Array.getElem?_eq_some_iff.1 hg).1
theorem someInts_of {w W' : World} {xs : List Int} {o : Value} {base : Nat} (h : W'.ownsRow base 3 1 o xs.length (vals xs)) (hb : Below w.heap.size w W') (hw : w.heap.size ≤ base) : SomeInts w xs (.returned o) W' := by
  have hy := own_yb h
  obtain ⟨a, cap, rfl, hcap, hc⟩ := intsAt_row h
  exact ⟨a, cap, rfl, ⟨a, cap, rfl, hcap, hc⟩, hb, fun b e => Nat.le_trans hw (hy b e)⟩
theorem IntsAt.keptY {A W : World} {v : Value} {xs : List Int} (h : IntsAt A v xs) {bs : Nat → Prop} (k : Kept bs A W) (hb : ∀ b, Yb v b → ¬ bs b) : IntsAt W v xs := by
  obtain ⟨a, cap, rfl, hcap, hc⟩ := h
  refine ⟨a, cap, rfl, hcap, fun hx => ?_⟩
  obtain ⟨b, off, rfl, hcs⟩ := hc hx
  refine ⟨b, off, rfl, fun j hj => ?_⟩
  have hlt := World.block_lt_of_cell? A _ (hcs j hj)
  exact (World.cell?_of_block (w := A) (k.block b hlt (hb b ⟨_, _, _, rfl⟩))).trans (hcs j hj)
theorem intsAt_later {W W' : World} {v : Value} {xs : List Int} (h : IntsAt W v xs) (hb : Below W.heap.size W W') : IntsAt W' v xs := by
  obtain ⟨a, cap, hv, hcap, hc⟩ := h
  refine ⟨a, cap, hv, hcap, fun hx => ?_⟩
  obtain ⟨b, off, ha, hcs⟩ := hc hx
  exact ⟨b, off, ha, fun j hj => cell_kept (hcs j hj) (Below.grew hb) (fun r e => by cases e)⟩

set_option maxRecDepth 100000 in
set_option maxHeartbeats 4000000 in
theorem append_wait (c l s cc cap p g cp : Nat) (S : Words) (x : St) (bs : List Nat) (hx : x.Ok bs.length) (w : World) (hB : WtB c l s cc cap p g cp S x bs w) :
    Calls Tryd.prog 87 #[.slice none 0 0, .func (.func 66) #[] #[.pointer (some ⟨c, 0, none⟩), .pointer (some ⟨c + 1, 0, none⟩)]] w (SomeInts w (ids (waitL bs x))) := by
  obtain ⟨i0, hi2, hi0, hi1, hib⟩ := info_parts info_int
  obtain ⟨w1, hw1⟩ : ∃ w1, w.alloc (.cells #[.slice none 0 0] 57) = w1 := ⟨_, rfl⟩
  have hz1 : w1.heap.size = w.heap.size + 1 := by rw [← hw1]; simp
  have hb1 : Below w.heap.size w w1 := by rw [← hw1]; exact bal w _
  have q1 : Boxed w1 w.heap.size 57 (.slice none 0 0) := by rw [← hw1]; exact Boxed.new w _ _
  have HB := hi (hB.later hb1)
  have HLT := hi hB.lt
  have hmax : (waitL bs x).length ≤ 512 := Nat.le_trans (lst_len _ _) hx.n5
  have hpt : (waitL bs x) = waitL bs x := rfl
  have HST := hi (wait_stops c l s cc cap p g cp S x bs hx w1 HB.out)
  obtain ⟨L, hL⟩ : ∃ L, waitL bs x = L := ⟨_, rfl⟩
  rw [hL] at HST hmax ⊢
  have HW1 := hi hw1
  clear hB hpt hL hw1
  refine (callsIn_wide (n := 6)).1 ?_
  refine callsIn_of_wp_marks Tryd.func87 rfl trivial ?_ rfl
  simp only [Tryd.ntmps87, List.size_toArray, List.length_cons, List.length_nil, Nat.reduceAdd, Nat.reduceSub, Array.replicate_succ, Array.replicate_zero, List.push_toArray, List.append_toArray, List.nil_append, List.cons_append]
  gi_wp2
  rw [HW1.out]
  refine range_win (n := 6) (by omega) (gf := 66) (lb := #[.pointer (some ⟨c, 0, none⟩), .pointer (some ⟨c + 1, 0, none⟩)]) rfl (enters_of Tryd.func66 (by kernel_rfl) rfl)
    HST.out (fun a b => KpB.trans a b) (fun W l' o o' h1 h2 h3 h4 => KpB.put HLT.out (by omega) W o') (Below.refl _ _) (fun _ => rfl)
    (fun pre V => (∃ v, Boxed V w.heap.size 57 v ∧ V.ownsRow (w1.heap.size + 2 + 0) 3 1 v pre.length (vals (ids pre))) ∧ Below w.heap.size w V)
    (fun cd pre V => False)
    (AbL.and (rowBox_abL 57 3 1 w.heap.size w1.heap.size 0 (by omega) (fun pre => List.length pre) (fun pre => vals (ids pre))) (AbL.below (Nat.le_refl _) (by omega)))
    (fun _ _ _ _ _ hs _ _ => hs)
    ⟨⟨_, q1, World.ownsRow_nil _ _ _ _⟩, hb1⟩
    (fun k a' V => a' = { tmps := #[.slice none 0 0, .func (.func 66) #[] #[.pointer (some ⟨c, 0, none⟩), .pointer (some ⟨c + 1, 0, none⟩)], .pointer (some ⟨w.heap.size, 0, none⟩), undef, .slice none 0 0, .int .i64 (idOf k), .func (.func 66) #[] #[.pointer (some ⟨c, 0, none⟩), .pointer (some ⟨c + 1, 0, none⟩)], .int .i64 (idOf k), undef, undef, undef, undef, undef], defers := [] })
    (fun x a' => AbL.pure _ _ _)
    ?assign ?body ?done ?stop
  case assign =>
    rintro l' pre k V K h hsz hK
    gi_wp2
    exact hK _ _ (KW.refl _ _) (KpB.refl _ _) h rfl
  case body =>
    rintro l' pre k a' V hsz ⟨⟨v, hv, hrow⟩, hB⟩ rfl hpx
    have hlt : pre.length < L.length := by have := hpx.length_le; simp at this; omega
    clear hpx
    have hcv := hv.cell
    have hWs := hB.size
    have hsn : ids (pre ++ [k]) = ids pre ++ [idOf k] := ids_snoc pre k
    have hln : (pre ++ [k]).length = pre.length + 1 := by simp
    obtain ⟨q, hq⟩ : ∃ q, vals (ids pre) = q := ⟨_, rfl⟩
    have HQ := hi (show vals (ids (pre ++ [k])) = q ++ [.int .i64 (idOf k)] by rw [hsn, ← hq]; simp)
    obtain ⟨m, hm⟩ : ∃ m, pre.length = m := ⟨_, rfl⟩
    rw [hq, hm] at hrow
    rw [hm] at hlt hln
    have hmb : m + 1 ≤ 512 := by omega
    have HLN := hi hln
    have HB := hi hB
    obtain ⟨z, hz⟩ : ∃ z : Int, idOf k = z := ⟨_, rfl⟩
    rw [hz] at HQ
    rw [hz]
    clear hq hm hB hz hsn hln
    obtain ⟨va, vc, rfl⟩ := own_slice hrow
    gi_wp2_with (first
      | (gi_at_builtin; refine wpListIn_append_own _ rfl _ _ 57 rfl (w1.heap.size + 2 + 0) 3 i0 (.int .i64 0) 1 8 Tryd.underlying57 hi2 hi0 hi1 hib rfl (by decide) _ _ _ rfl (hrow.alloc _) ⟨V.heap.size, 0, none⟩ 1 1 [.int .i64 z] rfl rfl (cell_one_new _ _ _) (by simp [Value.oneCell']) (by unfold maxLen; omega) (by omega) (by simp; omega) ?_; intro v' w9 hown' hgrow _; obtain ⟨g', cap', rfl⟩ := ownsRow_succ hown'; obtain ⟨hv1, hv2, hr2, hs2, hk2, hp2⟩ := grow_box hv hrow (by omega) (by omega) hown' hgrow; have hc1 := hv1.cell; have hf1 := hv1.frozen; have hc2 := hv2.cell)
      | gi_in)
    exact ⟨⟨hs2, fun i o h1 h2 h3 _ => (hk2 i (by omega) (by omega)).trans h3⟩, ⟨hs2, fun i hi => hk2 i (by have := HLT.out i hi; omega) (by have := HLT.out i hi; omega)⟩, ⟨_, hv2, by rw [HQ.out, HLN.out]; first | exact hr2 | (rw [show w1.heap.size + 2 + 0 = w.heap.size + 3 by omega] at hr2; exact hr2)⟩, HB.out.trans (hp2.mono (by omega))⟩
  case done =>
    rintro ys V rfl ⟨⟨v, hv, hrow⟩, hB⟩ hK _
    have hcv := hv.cell
    obtain ⟨va, vc, rfl⟩ := own_slice hrow
    gi_wp2
    refine ⟨by simp, .inl ⟨_, _, rfl, run_takeDeferred hK, ?_⟩⟩
    refine ⟨_, results_tmp rfl _ _ _, ?_⟩
    refine someInts_of (base := w1.heap.size + 2 + 0) ?_ (below_put hB _ hB.size (by omega)) (by omega)
    rw [ids_len]
    exact ownsRow_putObj hrow _ hK rfl
  case stop =>
    rintro cd pre W _ h _ _
    exact h.elim

set_option maxHeartbeats 1000000 in
theorem collect_wait (c l s cc cap p g cp : Nat) (S : Words) (x : St) (bs : List Nat) (hx : x.Ok bs.length) (w : World) (hB : WtB c l s cc cap p g cp S x bs w) :
    Calls Tryd.prog 68 #[.func (.func 66) #[] #[.pointer (some ⟨c, 0, none⟩), .pointer (some ⟨c + 1, 0, none⟩)]] w (SomeInts w (ids (waitL bs x))) := by
  have HA := hi (append_wait c l s cc cap p g cp S x bs hx w hB)
  clear hB
  go_enter Tryd.func68, Tryd.ntmps68
  go_wp2_with (go_at_call 87; ((with_reducible refine HA.out.mono ?_); rintro e w1 ⟨a, k, rfl, h1, h2, h3⟩; have HR := hi (And.intro h1 (And.intro h2 h3)); clear h1 h2 h3))
  go_ret
  exact ⟨a, k, rfl, HR.out.1, HR.out.2.1, HR.out.2.2⟩

set_option maxRecDepth 100000 in
set_option maxHeartbeats 4000000 in
theorem list_wait (c l s cc cap p g cp : Nat) (S : Words) (x : St) (bs : List Nat) (hx : x.Ok bs.length) (w : World) (hB : WtB c l s cc cap p g cp S x bs w) :
    Calls Tryd.prog 24 #[.func (.func 66) #[] #[.pointer (some ⟨c, 0, none⟩), .pointer (some ⟨c + 1, 0, none⟩)]] w (SomeInts w (ids (waitL bs x))) := by
  obtain ⟨i0, hi2, hi0, hi1, hib⟩ := info_parts info_int
  obtain ⟨w1, hw1⟩ : ∃ w1, w.alloc (.cells #[.slice none 0 0] 57) = w1 := ⟨_, rfl⟩
  have hz1 : w1.heap.size = w.heap.size + 1 := by rw [← hw1]; simp
  have hb1 : Below w.heap.size w w1 := by rw [← hw1]; exact bal w _
  have q1 : Boxed w1 w.heap.size 57 (.slice none 0 0) := by rw [← hw1]; exact Boxed.new w _ _
  have HB := hi (hB.later hb1)
  have HLT := hi hB.lt
  have hmax : (waitL bs x).length ≤ 512 := Nat.le_trans (lst_len _ _) hx.n5
  have hpt : (waitL bs x) = waitL bs x := rfl
  have HST := hi (wait_stops c l s cc cap p g cp S x bs hx w1 HB.out)
  obtain ⟨L, hL⟩ : ∃ L, waitL bs x = L := ⟨_, rfl⟩
  rw [hL] at HST hmax ⊢
  have HW1 := hi hw1
  clear hB hpt hL hw1
  refine (callsIn_wide (n := 6)).1 ?_
  refine callsIn_of_wp_marks Tryd.func24 rfl trivial ?_ rfl
  simp only [Tryd.ntmps24, List.size_toArray, List.length_cons, List.length_nil, Nat.reduceAdd, Nat.reduceSub, Array.replicate_succ, Array.replicate_zero, List.push_toArray, List.append_toArray, List.nil_append, List.cons_append]
  gi_wp2
  rw [HW1.out]
  refine range_win (n := 6) (by omega) (gf := 66) (lb := #[.pointer (some ⟨c, 0, none⟩), .pointer (some ⟨c + 1, 0, none⟩)]) rfl (enters_of Tryd.func66 (by kernel_rfl) rfl)
    HST.out (fun a b => KpB.trans a b) (fun W l' o o' h1 h2 h3 h4 => KpB.put HLT.out (by omega) W o') (Below.refl _ _) (fun _ => rfl)
    (fun pre V => (∃ v, Boxed V w.heap.size 57 v ∧ V.ownsRow (w1.heap.size + 2 + 0) 3 1 v pre.length (vals (ids pre))) ∧ Below w.heap.size w V)
    (fun cd pre V => False)
    (AbL.and (rowBox_abL 57 3 1 w.heap.size w1.heap.size 0 (by omega) (fun pre => List.length pre) (fun pre => vals (ids pre))) (AbL.below (Nat.le_refl _) (by omega)))
    (fun _ _ _ _ _ hs _ _ => hs)
    ⟨⟨_, q1, World.ownsRow_nil _ _ _ _⟩, hb1⟩
    (fun k a' V => a' = { tmps := #[.func (.func 66) #[] #[.pointer (some ⟨c, 0, none⟩), .pointer (some ⟨c + 1, 0, none⟩)], undef, .slice none 0 0, .pointer (some ⟨w.heap.size, 0, none⟩), .int .i64 (idOf k), .func (.func 66) #[] #[.pointer (some ⟨c, 0, none⟩), .pointer (some ⟨c + 1, 0, none⟩)], .int .i64 (idOf k), undef, undef, undef, undef, undef, undef, undef, undef], defers := [] })
    (fun x a' => AbL.pure _ _ _)
    ?assign ?body ?done ?stop
  case assign =>
    rintro l' pre k V K h hsz hK
    gi_wp2
    exact hK _ _ (KW.refl _ _) (KpB.refl _ _) h rfl
  case body =>
    rintro l' pre k a' V hsz ⟨⟨v, hv, hrow⟩, hB⟩ rfl hpx
    have hlt : pre.length < L.length := by have := hpx.length_le; simp at this; omega
    clear hpx
    have hcv := hv.cell
    have hWs := hB.size
    have hsn : ids (pre ++ [k]) = ids pre ++ [idOf k] := ids_snoc pre k
    have hln : (pre ++ [k]).length = pre.length + 1 := by simp
    obtain ⟨q, hq⟩ : ∃ q, vals (ids pre) = q := ⟨_, rfl⟩
    have HQ := hi (show vals (ids (pre ++ [k])) = q ++ [.int .i64 (idOf k)] by rw [hsn, ← hq]; simp)
    obtain ⟨m, hm⟩ : ∃ m, pre.length = m := ⟨_, rfl⟩
    rw [hq, hm] at hrow
    rw [hm] at hlt hln
    have hmb : m + 1 ≤ 512 := by omega
    have HLN := hi hln
    have HB := hi hB
    obtain ⟨z, hz⟩ : ∃ z : Int, idOf k = z := ⟨_, rfl⟩
    rw [hz] at HQ
    rw [hz]
    clear hq hm hB hz hsn hln
    obtain ⟨va, vc, rfl⟩ := own_slice hrow
    have hbr : ¬ (2000 : Int) < ((m + 1 : Nat) : Int) := by omega
    gi_wp2_with (first
      | (gi_at_builtin; refine wpListIn_append_own _ rfl _ _ 57 rfl (w1.heap.size + 2 + 0) 3 i0 (.int .i64 0) 1 8 Tryd.underlying57 hi2 hi0 hi1 hib rfl (by decide) _ _ _ rfl (hrow.alloc _) ⟨V.heap.size, 0, none⟩ 1 1 [.int .i64 z] rfl rfl (cell_one_new _ _ _) (by simp [Value.oneCell']) (by unfold maxLen; omega) (by omega) (by simp; omega) ?_; intro v' w9 hown' hgrow _; obtain ⟨g', cap', rfl⟩ := ownsRow_succ hown'; obtain ⟨hv1, hv2, hr2, hs2, hk2, hp2⟩ := grow_box hv hrow (by omega) (by omega) hown' hgrow; have hc1 := hv1.cell; have hf1 := hv1.frozen; have hc2 := hv2.cell)
      | gi_in)
    exact ⟨⟨hs2, fun i o h1 h2 h3 _ => (hk2 i (by omega) (by omega)).trans h3⟩, ⟨hs2, fun i hi => hk2 i (by have := HLT.out i hi; omega) (by have := HLT.out i hi; omega)⟩, ⟨_, hv2, by rw [HQ.out, HLN.out]; first | exact hr2 | (rw [show w1.heap.size + 2 + 0 = w.heap.size + 3 by omega] at hr2; exact hr2)⟩, HB.out.trans (hp2.mono (by omega))⟩
  case done =>
    rintro ys V rfl ⟨⟨v, hv, hrow⟩, hB⟩ hK _
    have hcv := hv.cell
    obtain ⟨va, vc, rfl⟩ := own_slice hrow
    gi_wp2
    refine ⟨by simp, .inl ⟨_, _, rfl, run_takeDeferred hK, ?_⟩⟩
    refine ⟨_, results_tmp rfl _ _ _, ?_⟩
    refine someInts_of (base := w1.heap.size + 2 + 0) ?_ (below_put hB _ hB.size (by omega)) (by omega)
    rw [ids_len]
    exact ownsRow_putObj hrow _ hK rfl
  case stop =>
    rintro cd pre W _ h _ _
    exact h.elim

end Go.Proofs.YtobhdjepfhbgaaaDoor
