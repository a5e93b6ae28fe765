/-
  The laws' Runs: the first and the last number of each row of neighbours, in a slice of its own; and the laws' from: the members from one on, so many at most.
-/
import Derived.Test.YtmdlknddlmpddaaDoorSetM
namespace Go.Proofs.YtmdlknddlmpddaaDoor
open Go.ChangeShapes Go.WideShapes Go.ChangeAt Go.RowKit Go.Shelf
set_option linter.unusedVariables false
attribute [local go_sem] Oper.semAt_some

theorem cell_two_new (w : World) (x y : Value) (t : TypeId) : ∀ j u, [x, y][j]? = some u → (w.alloc (.cells #[x, y] t)).cell? ((⟨w.heap.size, 0, none⟩ : Addr).add j) = some u := by
  intro j u h
  match j, h with
  | 0, h => simp at h; subst h; rw [Addr.add_mid]; simp
  | 1, h => simp at h; subst h; rw [Addr.add_mid]; simp
  | j + 2, h => simp at h

theorem map_flat_snoc (pre : List Rn) (x : Rn) : (flat (pre ++ [x])).map (Value.int .i64) = (flat pre).map (Value.int .i64) ++ [.int .i64 x.1.1, .int .i64 x.1.2] := by rw [flat_snoc]; simp

set_option maxRecDepth 100000 in
set_option maxHeartbeats 2000000 in
theorem runsList_in (n : Nat) (hn : 3 ≤ n) (b : Nat) (S : Words) (xs : List Rn) (w : World) (hR : RowAt 58 w b S) (hT : TabW w) (hxs : RunFrom S 0 xs) :
    CallsIn Fence.wide n Tryd.prog 37 #[.pointer (some ⟨b, 0, none⟩)] w fun e W' => ∃ o, e = .returned o ∧ OwnsInts w W' o (flat xs) ∧ Below w.heap.size w W' := by
  have h1 : 1 ≤ n := by omega
  have hmax := runFrom_len hxs
  have h0w := hT.lt
  have hb1 : Below w.heap.size w (w.alloc (.cells #[.slice none 0 0] 22)) := (Below.refl _ w).alloc (Nat.le_refl _) _
  have hall := runs_any b S (w.alloc (.cells #[.slice none 0 0] 22)) (hR.below hb1)
  have HALL := hi hall
  have HT := hi hT
  have HX := hi hxs
  clear hall hR hT hxs
  obtain ⟨i0, hi', hz0, hz1, hz2⟩ := info_parts info_int
  refine callsIn_of_wp_marks Tryd.func37 rfl trivial ?_ rfl
  simp only [Tryd.ntmps37, List.size_toArray, List.length_cons, List.length_nil, Nat.reduceAdd, Nat.reduceSub, Array.replicate_succ, Array.replicate_zero, List.push_toArray, List.append_toArray, List.nil_append, List.cons_append]
  gi_wp2_with (first
    | (refine ⟨trivial, ?_⟩; gi_at_call 35; refine (callsIn_wide.2 HALL.out).mono ?_; rintro e W3 ⟨rfl, hF, hb3, hz3⟩)
    | gi_in)
  rw [World.size_alloc] at hF hz3
  have bO := (Boxed.new w 22 (.slice none 0 0)).kept (Below.grew hb3) (by simp)
  have hB3 : Below w.heap.size w W3 := hb1.trans (hb3.mono (by simp))
  have hT3 := (HT.out.below hb1).below hb3
  clear hb3
  refine wpIn_rangeFunc_ownG rfl h1 (gf := 51) (lb := #[.pointer (some ⟨w.heap.size + 1, 0, none⟩)]) rfl trivial (enters_of Tryd.func51 (by kernel_rfl) rfl)
    (runs_stops (n - 1) (by omega) (w.heap.size + 1) S xs HX.out W3 hF hT3) (fun h k => kpR_t h k) (kpR_b (by omega) (by omega)) (Below.refl _ _) (fun _ => rfl)
    (fun pre W => (∃ o, Boxed W w.heap.size 22 o ∧ W.ownsRow (w.heap.size + 1 + 1) 3 1 o (flat pre).length ((flat pre).map (Value.int .i64)) ∧ (o = .slice none 0 0 ↔ flat pre = [])) ∧ Below w.heap.size W3 W)
    (fun _ _ _ => False)
    (OwnFrom.and (Own.from (holdsRow_own (w.heap.size + 1 + 1) w.heap.size 22 3 1 (fun pre => (flat pre).length) (fun pre => (flat pre).map (Value.int .i64)) (fun pre o => o = .slice none 0 0 ↔ flat pre = [])) _) (ownFrom_below (by omega) (by omega)))
    (fun _ _ _ _ _ hs _ _ => hs)
    ⟨⟨_, bO, World.ownsRow_nil _ _ _ _, by simp [flat]⟩, Below.refl _ _⟩
    (fun x => { tmps := #[.pointer (some ⟨b, 0, none⟩), undef, .slice none 0 0, .pointer (some ⟨w.heap.size, 0, none⟩), .int .i64 x.1.1, .int .i64 x.1.2, .pointer (some ⟨b, 0, none⟩), .func (.func 51) #[] #[.pointer (some ⟨w.heap.size + 1, 0, none⟩)], .int .i64 x.1.1, .int .i64 x.1.2, undef, undef, undef, undef, undef, undef, undef, undef, undef], defers := [] }) ?assign ?body ?done ?stop
  case assign =>
    intro l x W K hK
    gi_wp2
    exact hK
  case body =>
    rintro l pre x W ⟨⟨o, hv, hrow, hnil⟩, hB⟩ hlt
    have hc := hv.cell
    have hsz := hB.size
    have hfl := flat_len pre
    have hlen : (flat pre).length + 2 ≤ 16386 := by omega
    obtain ⟨q, hq⟩ : ∃ q, flat pre = q := ⟨_, rfl⟩
    rw [hq] at hrow hnil hlen
    have HQ := hi hq
    clear hfl hq
    gi_wp2_with (first
      | (gi_at_builtin; refine wpListIn_append_own _ rfl _ _ 22 rfl (w.heap.size + 1 + 1) 3 i0 (.int .i64 0) 1 8 Tryd.underlying22 hi' hz0 hz1 hz2 rfl (by decide) _ _ _ rfl (hrow.alloc _) ⟨W.heap.size, 0, none⟩ 2 2 [.int .i64 x.1.1, .int .i64 x.1.2] rfl rfl (cell_two_new _ _ _ _) (by simp [Value.oneCell']) (by unfold maxLen; omega) (by omega) (by simp; omega) ?_; intro v' w1 hown' hgrow _; obtain ⟨g', cap', rfl⟩ := ownsRow_succ hown'; obtain ⟨hv1, hv2, hr2, hk2, hb2, hs2⟩ := boxed_appended (lo := w.heap.size) hv (by decide) hrow (by omega) (Nat.le_refl _) (by omega) hown' hgrow; have hc1 := hv1.cell; have hf1 := hv1.frozen; have hc2 := hv2.cell)
      | gi_in)
    exact ⟨hk2.from _, ⟨fun i _ h => hb2.block i (by omega), hs2⟩, ⟨_, hv2, by rw [flat_snoc, HQ.out]; simpa using hr2, by simp [flat_snoc]⟩, hB.trans hb2⟩
  case done =>
    rintro D ys W hD rfl ⟨⟨o, hv, hrow, hnil⟩, hB⟩ hK
    have hc := hv.cell
    gi_wp2
    refine ⟨by simp, .inl ⟨_, _, rfl, run_takeDeferred hK, ?_⟩⟩
    exact ⟨_, results_tmp rfl _ _ _, o, rfl, ⟨ownsRow_putObj (ownsRow_base hrow (by omega)) _ hK rfl, hnil⟩, (hB3.trans hB).trans (belowK_b (w := w) (Nat.le_refl _) W D _ _ (by omega) hK rfl rfl)⟩
  case stop =>
    rintro D c pre W _ _ h _
    exact h.elim

end Go.Proofs.YtmdlknddlmpddaaDoor
