/-
  ring.Waits at every input: whether the place is among those that wait; and the document's own list of them (crierref02.Waits).
-/
import Derived.Test.YtpabmfmiikmnpaaRingF
import Derived.Test.YtpabmfmiikmnpaaRingRef
namespace Go.Proofs.Ytpabmfmiikmnpaa
open Go.ChangeShapes Go.WideShapes Go.ChangeAt Go.RowKit Go.Shelf
set_option linter.unusedVariables false
attribute [local go_sem] Oper.semAt_some

set_option maxRecDepth 100000 in
set_option maxHeartbeats 2000000 in
theorem waits_in (n : Nat) (hn : 3 ≤ n) (s t r v a : Int) (hs : s ≤ 9223372036854775807) (w : World) :
    CallsIn Fence.wide n Try.prog 23 #[.agg #[.int .i64 s, .int .i64 t], .int .i64 r, .int .i64 v, .int .i64 a] w fun e W' => e = .returned (.bool (isIn (xsR s t r v) a)) ∧ Below w.heap.size w W' := by
  have h1 : 1 ≤ n := by omega
  refine callsIn_of_wp_marks Try.func23 rfl trivial ?_ rfl
  simp only [Try.ntmps23, List.size_toArray, List.length_cons, List.length_nil, Nat.reduceAdd, Nat.reduceSub, Array.replicate_succ, Array.replicate_zero, List.push_toArray, List.append_toArray, List.nil_append, List.cons_append]
  gi_wp2_with (first
    | (refine ⟨trivial, ?_⟩; gi_at_call 27; refine (each_in (n - 1) s t r v _).mono ?_; rintro e w' ⟨rfl, rfl⟩)
    | gi_in)
  obtain ⟨W3, hW3⟩ : ∃ W3, (((w.alloc (.cells #[.int .i64 s, .int .i64 t] 23)).alloc (.cells #[.int .i64 a] 3)).alloc (.cells #[.bool false] 4)) = W3 := ⟨_, rfl⟩
  have bA : Boxed W3 (w.heap.size + 1) 3 (.int .i64 a) := by
    have := (Boxed.new (w.alloc (.cells #[.int .i64 s, .int .i64 t] 23)) 3 (.int .i64 a)).alloc (.cells #[.bool false] 4)
    rw [World.size_alloc] at this; rw [← hW3]; exact this
  have bR : Boxed W3 (w.heap.size + 1 + 1) 4 (.bool false) := by
    have := Boxed.new ((w.alloc (.cells #[.int .i64 s, .int .i64 t] 23)).alloc (.cells #[.int .i64 a] 3)) 4 (.bool false)
    simp only [World.size_alloc] at this; rw [← hW3]; exact this
  have hz : W3.heap.size = w.heap.size + 1 + 1 + 1 := by rw [← hW3]; simp
  have hb3 : Below w.heap.size w W3 := by rw [← hW3]; exact (((Below.refl _ w).alloc (Nat.le_refl _) _).alloc (by simp) _).alloc (by simp; omega) _
  rw [hW3]
  have b3 := box3_new W3 s t r v
  obtain ⟨W6, hW6⟩ : ∃ W6, ((W3.alloc (.cells #[.int .i64 s, .int .i64 t] 23)).alloc (.cells #[.int .i64 r] 3)).alloc (.cells #[.int .i64 v] 3) = W6 := ⟨_, rfl⟩
  have hz6 : W6.heap.size = w.heap.size + 6 := by rw [← hW6]; simp [hz]
  have hb6 : Below W3.heap.size W3 W6 := by rw [← hW6]; exact (((Below.refl _ W3).alloc (Nat.le_refl _) _).alloc (by simp) _).alloc (by simp; omega) _
  replace bA : Boxed W6 (w.heap.size + 1) 3 (.int .i64 a) := bA.kept (Below.grew hb6) (by simp)
  replace bR : Boxed W6 (w.heap.size + 1 + 1) 4 (.bool false) := bR.kept (Below.grew hb6) (by simp)
  have hB6 : Below w.heap.size w W6 := hb3.trans (hb6.mono (by omega))
  rw [hW6] at b3 ⊢
  rw [hz] at b3
  clear hW6 hW3 hb3 hb6 hz
  refine wpIn_rangeFunc_ownG rfl h1 (gf := 28) (lb := #[.pointer (some ⟨w.heap.size + 1 + 1 + 1, 0, none⟩), .pointer (some ⟨w.heap.size + 1 + 1 + 1 + 1, 0, none⟩), .pointer (some ⟨w.heap.size + 1 + 1 + 1 + 2, 0, none⟩)]) rfl trivial (enters_of Try.func28 (by kernel_rfl) rfl)
    (each_stops (n - 1) (by omega) (w.heap.size + 1 + 1 + 1) s t r v hs W6 b3) (fun h k => Stays.trans h k) (stays_b (by omega)) (Below.refl _ _) (fun _ => rfl)
    (fun pre W => ((∀ y ∈ pre, y ≠ a) ∧ Boxed W (w.heap.size + 1) 3 (.int .i64 a) ∧ Boxed W (w.heap.size + 1 + 1) 4 (.bool false)) ∧ Below w.heap.size W6 W)
    (fun c pre W => (c = .ret ∧ a ∈ pre ∧ Boxed W (w.heap.size + 1 + 1) 4 (.bool true)) ∧ Below w.heap.size W6 W)
    (OwnFrom.and (OwnFrom.and (ownFrom_pure _ _) (OwnFrom.and (Own.from (boxed_own _ _ _) _) (Own.from (boxed_own _ _ _) _))) (ownFrom_below (by omega) (by omega)))
    (fun c => OwnFrom.and (OwnFrom.and (ownFrom_pure _ _) (OwnFrom.and (ownFrom_pure _ _) (Own.from (boxed_own _ _ _) _))) (ownFrom_below (by omega) (by omega)))
    ⟨⟨by simp, bA, bR⟩, Below.refl _ _⟩
    (fun x => { tmps := #[.agg #[.int .i64 s, .int .i64 t], .int .i64 r, .int .i64 v, .int .i64 a, .pointer (some ⟨w.heap.size, 0, none⟩), undef, undef, .pointer (some ⟨w.heap.size + 1, 0, none⟩), .pointer (some ⟨w.heap.size + 1 + 1, 0, none⟩), .int .i64 x, .agg #[.int .i64 s, .int .i64 t], .int .i64 r, .int .i64 v, .func (.func 28) #[] #[.pointer (some ⟨w.heap.size + 1 + 1 + 1, 0, none⟩), .pointer (some ⟨w.heap.size + 1 + 1 + 1 + 1, 0, none⟩), .pointer (some ⟨w.heap.size + 1 + 1 + 1 + 2, 0, none⟩)], .int .i64 x, undef, undef, undef], defers := [] }) ?assign ?body ?done ?stop
  case assign =>
    intro l x W K hK
    gi_wp2
    exact hK
  case body =>
    rintro l pre x W ⟨⟨hp, hA, hR⟩, hB⟩ hlt
    have hcA := hA.cell
    have hcR := hR.cell
    have hfR := hR.frozen
    gi_wp2
    · have hx : (x == a) = true := by assumption
      obtain rfl : x = a := eq_of_beq hx
      exact ⟨(KeepsOthers.setCell _ _ _).from _, ⟨rfl, by simp, hR.set _⟩, hB.setCell (p := ⟨w.heap.size + 1 + 1, 0, none⟩) (by simp; omega) _⟩
    · have hx : (x == a) = false := by assumption
      exact ⟨KeepsFrom.refl _ _, Stays.refl _ _ _, ⟨fun y hy => (List.mem_append.1 hy).elim (hp y) (fun e e' => by simp at e; subst e; subst e'; simp at hx), hA, hR⟩, hB⟩
  case done =>
    rintro D ys W hD rfl ⟨⟨hne, hA, hR⟩, hB⟩ hK
    have hcR := hR.cell
    have hfR := hR.frozen
    gi_wp2
    have hK' := (KeepsOthers.setCell W ⟨w.heap.size + 1 + 1, 0, none⟩ (.bool false)).same D _ hK rfl
    refine ⟨by simp, .inl ⟨_, _, rfl, run_takeDeferred hK', ?_⟩⟩
    have hc5 := cell_kept (hR.set (.bool false)).cell (grownBy_putObj' _ D (.deferred none)) (fun r e => by cases e; exact ⟨_, hK', rfl⟩)
    have hin : isIn (xsR s t r v) a = false := by simp only [isIn, decide_eq_false_iff_not]; exact fun h => hne a h rfl
    refine ⟨.bool false, ?_, by rw [hin], (hB6.trans (hB.setCell (p := ⟨w.heap.size + 1 + 1, 0, none⟩) (by simp; omega) _)).trans (belowK_b (w := w) (Nat.le_refl _) _ D _ _ (by omega) hK' rfl rfl)⟩
    simp [results, Try.f23, go_sem, hc5]
  case stop =>
    rintro D c pre W hD hpre ⟨⟨rfl, hin, hR⟩, hB⟩ hK
    gi_wp2
    refine ⟨by simp, .inl ⟨_, _, rfl, run_takeDeferred hK, ?_⟩⟩
    have hc5 := cell_kept hR.cell (grownBy_putObj' _ D (.deferred none)) (fun r e => by cases e; exact ⟨_, hK, rfl⟩)
    have hin' : isIn (xsR s t r v) a = true := by simp only [isIn, decide_eq_true_eq]; exact hpre.subset hin
    refine ⟨.bool true, ?_, by rw [hin'], (hB6.trans hB).trans (belowK_b (w := w) (Nat.le_refl _) W D _ _ (by omega) hK rfl rfl)⟩
    simp [results, Try.f23, go_sem, hc5]

theorem waits_any (s t r v a : Int) (w : World) (hs : s ≤ 9223372036854775807) :
    Calls Try.prog 23 #[.agg #[.int .i64 s, .int .i64 t], .int .i64 r, .int .i64 v, .int .i64 a] w fun e W' => e = .returned (.bool (isIn (xsR s t r v) a)) ∧ Below w.heap.size w W' :=
  callsIn_wide.1 (waits_in 3 (Nat.le_refl _) s t r v a hs w)

end Go.Proofs.Ytpabmfmiikmnpaa
