/-
  The document's Fields at a wrong address, at an unknown op.
-/
import Derived.Test.YtfnokpajendlmaaCmX
import Derived.BigQuiet
import Derived.Deep.QuietTactic
namespace Go.Proofs.Ytfnokpajendlmaa
open Go.ChangeShapes Go.WideShapes Go.ChangeAt Go.RowKit
set_option linter.unusedVariables false
set_option linter.unusedSimpArgs false
attribute [local go_sem high] eql_cm

set_option maxRecDepth 100000 in
set_option maxHeartbeats 4000000 in
theorem fields_8a (c2 c3 c4 c5 c6 c7 c8 : Int) (c9 : Bool) (ha : c8 < 0) (w : World) : Calls Try.prog 65 #[.agg #[.int .i64 8, .int .i64 c2, .int .i64 c3, .int .i64 c4, .int .i64 c5, .int .i64 c6, .int .i64 c7, .int .i64 c8, .bool c9]] w fun e w' => e = .returned (.tuple #[.slice none 0 0, .bool false]) ∧ Below w.heap.size w w' := by
  have H4 := hi (fun b t W (h : CB W b t #[.int .i64 9, .int .i64 13, .int .i64 14, .int .i64 5]) => (has_any 8 [9, 13, 14, 5] b 4 t W h rfl (by decide)).mono (fun e W' (hx : e = .returned (.bool false) ∧ W' = W) => show e = .returned (.bool false) ∧ Below W.heap.size W W' from ⟨hx.1, by rw [hx.2]; exact Below.refl _ _⟩))
  have H7 := hi (fun b t W (h : CB W b t #[.int .i64 10, .int .i64 11, .int .i64 1, .int .i64 3, .int .i64 4, .int .i64 12, .int .i64 15]) => (has_any 8 [10, 11, 1, 3, 4, 12, 15] b 7 t W h rfl (by decide)).mono (fun e W' (hx : e = .returned (.bool false) ∧ W' = W) => show e = .returned (.bool false) ∧ Below W.heap.size W W' from ⟨hx.1, by rw [hx.2]; exact Below.refl _ _⟩))
  have H5 := hi (fun b t W (h : CB W b t #[.int .i64 9, .int .i64 10, .int .i64 11, .int .i64 1, .int .i64 13]) => (has_any 8 [9, 10, 11, 1, 13] b 5 t W h rfl (by decide)).mono (fun e W' (hx : e = .returned (.bool false) ∧ W' = W) => show e = .returned (.bool false) ∧ Below W.heap.size W W' from ⟨hx.1, by rw [hx.2]; exact Below.refl _ _⟩))
  have H3 := hi (fun b t W (h : CB W b t #[.int .i64 9, .int .i64 14, .int .i64 5]) => (has_any 8 [9, 14, 5] b 3 t W h rfl (by decide)).mono (fun e W' (hx : e = .returned (.bool false) ∧ W' = W) => show e = .returned (.bool false) ∧ Below W.heap.size W W' from ⟨hx.1, by rw [hx.2]; exact Below.refl _ _⟩))
  obtain ⟨i0, hi2, hz0, hz1, hz2⟩ := fd_info_parts fd_info
  have H0 : FdI w #[.int .i64 8, .int .i64 c2, .int .i64 c3, .int .i64 c4, .int .i64 c5, .int .i64 c6, .int .i64 c7, .int .i64 c8, .bool c9] #[.int .i64 0, .int .i64 c2, .int .i64 c3, .int .i64 c4, .int .i64 c5, .int .i64 c6, .int .i64 c7, .int .i64 c8, .bool c9] 0 (.slice none 0 0) [] ((w.alloc (.cells #[.int .i64 8, .int .i64 c2, .int .i64 c3, .int .i64 c4, .int .i64 c5, .int .i64 c6, .int .i64 c7, .int .i64 c8, .bool c9] 36)).alloc (.cells #[.int .i64 0, .int .i64 c2, .int .i64 c3, .int .i64 c4, .int .i64 c5, .int .i64 c6, .int .i64 c7, .int .i64 c8, .bool c9] 36)) := ⟨(CB.new w _ _).alloc _, cb_second, World.ownsRow_nil _ _ _ _, bal_two w _ _⟩
  have HF0 := hi H0
  clear H0
  go_enter Try.func65, Try.ntmps65
  go_wp2_with (first
    | (go_at_call 76; ((with_reducible refine (H4.out _ _ _ (CB.newAt (by simp))).mono ?_); rintro e w1 ⟨rfl, hb⟩; (have HF1 := hi ((HF0.out.later (bal _ _)).later hb); obtain ⟨q0, q1, q2, q3, q4, q5, q6, q7, q8⟩ := CB.nine HF1.out.c; obtain ⟨s0, s1, s2, s3, s4, s5, s6, s7, s8⟩ := CB.nine HF1.out.r; have rf := HF1.out.r.frozen; have hz := HF1.out.r.lt; clear hb)))
    | (at_builtin; refine wpList_append_own _ rfl _ _ 110 rfl (w.heap.size + 2) 115 i0 (.agg #[.int .i64 0, .int .i64 0, .int .i64 0, .int .i64 0]) 4 32 Try.underlying110 hi2 hz0 hz1 hz2 rfl (by decide) _ 0 _ rfl (HF1.out.l.alloc _) ⟨_, 0, none⟩ 1 1 (fc 0 32 32 (c2)) rfl rfl (fc_new (by first | rfl | simp) _ _ _ _ _) (fc_one _ _ _ _) (by decide) (by decide) (by first | omega | (simp; omega)) ?_; intro v2 w2 hown hgrow _; have HF2 := hi (HF1.out.app hown hgrow); clear q0 q1 q2 q3 q4 q5 q6 q7 q8 rf s0 s1 s2 s3 s4 s5 s6 s7 s8 hz; obtain ⟨q0, q1, q2, q3, q4, q5, q6, q7, q8⟩ := CB.nine HF2.out.c; obtain ⟨s0, s1, s2, s3, s4, s5, s6, s7, s8⟩ := CB.nine HF2.out.r; have rf := HF2.out.r.frozen; have hz := HF2.out.r.lt; clear hown hgrow)
    | (go_at_call 76; ((with_reducible refine (H7.out _ _ _ (CB.newAt (by simp))).mono ?_); rintro e w3 ⟨rfl, hb⟩; (have HF3 := hi (((HF2.out.put (r' := #[.int .i64 0, .int .i64 0, .int .i64 c3, .int .i64 c4, .int .i64 c5, .int .i64 c6, .int .i64 c7, .int .i64 c8, .bool c9]) 1 (.int .i64 0) rfl).later (bal _ _)).later hb); clear q0 q1 q2 q3 q4 q5 q6 q7 q8 rf s0 s1 s2 s3 s4 s5 s6 s7 s8 hz; obtain ⟨q0, q1, q2, q3, q4, q5, q6, q7, q8⟩ := CB.nine HF3.out.c; obtain ⟨s0, s1, s2, s3, s4, s5, s6, s7, s8⟩ := CB.nine HF3.out.r; have rf := HF3.out.r.frozen; have hz := HF3.out.r.lt; clear hb)))
    | (go_at_call 76; ((with_reducible refine (H5.out _ _ _ (CB.newAt (by simp))).mono ?_); rintro e w4 ⟨rfl, hb⟩; (have HF4 := hi ((HF3.out.later (bal _ _)).later hb); clear q0 q1 q2 q3 q4 q5 q6 q7 q8 rf s0 s1 s2 s3 s4 s5 s6 s7 s8 hz; obtain ⟨q0, q1, q2, q3, q4, q5, q6, q7, q8⟩ := CB.nine HF4.out.c; obtain ⟨s0, s1, s2, s3, s4, s5, s6, s7, s8⟩ := CB.nine HF4.out.r; have rf := HF4.out.r.frozen; have hz := HF4.out.r.lt; clear hb)))
    | (go_at_call 76; ((with_reducible refine (H3.out _ _ _ (CB.newAt (by simp))).mono ?_); rintro e w5 ⟨rfl, hb⟩; (have HF5 := hi ((HF4.out.later (bal _ _)).later hb); clear q0 q1 q2 q3 q4 q5 q6 q7 q8 rf s0 s1 s2 s3 s4 s5 s6 s7 s8 hz; obtain ⟨q0, q1, q2, q3, q4, q5, q6, q7, q8⟩ := CB.nine HF5.out.c; obtain ⟨s0, s1, s2, s3, s4, s5, s6, s7, s8⟩ := CB.nine HF5.out.r; have rf := HF5.out.r.frozen; have hz := HF5.out.r.lt; clear hb)))
    | (at_builtin; refine wpList_append_own _ rfl _ _ 110 rfl (w.heap.size + 2) 115 i0 (.agg #[.int .i64 0, .int .i64 0, .int .i64 0, .int .i64 0]) 4 32 Try.underlying110 hi2 hz0 hz1 hz2 rfl (by decide) _ 1 _ rfl (HF5.out.l.alloc _) ⟨_, 0, none⟩ 1 1 (fc 1 0 5 (c7)) rfl rfl (fc_new (by first | rfl | simp) _ _ _ _ _) (fc_one _ _ _ _) (by decide) (by decide) (by first | omega | (simp; omega)) ?_; intro v6 w6 hown hgrow _; have HF6 := hi (HF5.out.app hown hgrow); clear q0 q1 q2 q3 q4 q5 q6 q7 q8 rf s0 s1 s2 s3 s4 s5 s6 s7 s8 hz; obtain ⟨q0, q1, q2, q3, q4, q5, q6, q7, q8⟩ := CB.nine HF6.out.c; obtain ⟨s0, s1, s2, s3, s4, s5, s6, s7, s8⟩ := CB.nine HF6.out.r; have rf := HF6.out.r.frozen; have hz := HF6.out.r.lt; clear hown hgrow))
  go_ret2
  exact ⟨rfl, (HF6.out.put (r' := #[.int .i64 0, .int .i64 0, .int .i64 c3, .int .i64 c4, .int .i64 c5, .int .i64 c6, .int .i64 0, .int .i64 c8, .bool c9]) 6 (.int .i64 0) rfl).below⟩

set_option maxRecDepth 100000 in
set_option maxHeartbeats 4000000 in
theorem fields_8b (c2 c3 c4 c5 c6 c7 c8 : Int) (c9 : Bool) (ha : 0 ≤ c8) (hb : c8 % 256 ≠ 0) (w : World) : Calls Try.prog 65 #[.agg #[.int .i64 8, .int .i64 c2, .int .i64 c3, .int .i64 c4, .int .i64 c5, .int .i64 c6, .int .i64 c7, .int .i64 c8, .bool c9]] w fun e w' => e = .returned (.tuple #[.slice none 0 0, .bool false]) ∧ Below w.heap.size w w' := by
  have H4 := hi (fun b t W (h : CB W b t #[.int .i64 9, .int .i64 13, .int .i64 14, .int .i64 5]) => (has_any 8 [9, 13, 14, 5] b 4 t W h rfl (by decide)).mono (fun e W' (hx : e = .returned (.bool false) ∧ W' = W) => show e = .returned (.bool false) ∧ Below W.heap.size W W' from ⟨hx.1, by rw [hx.2]; exact Below.refl _ _⟩))
  have H7 := hi (fun b t W (h : CB W b t #[.int .i64 10, .int .i64 11, .int .i64 1, .int .i64 3, .int .i64 4, .int .i64 12, .int .i64 15]) => (has_any 8 [10, 11, 1, 3, 4, 12, 15] b 7 t W h rfl (by decide)).mono (fun e W' (hx : e = .returned (.bool false) ∧ W' = W) => show e = .returned (.bool false) ∧ Below W.heap.size W W' from ⟨hx.1, by rw [hx.2]; exact Below.refl _ _⟩))
  have H5 := hi (fun b t W (h : CB W b t #[.int .i64 9, .int .i64 10, .int .i64 11, .int .i64 1, .int .i64 13]) => (has_any 8 [9, 10, 11, 1, 13] b 5 t W h rfl (by decide)).mono (fun e W' (hx : e = .returned (.bool false) ∧ W' = W) => show e = .returned (.bool false) ∧ Below W.heap.size W W' from ⟨hx.1, by rw [hx.2]; exact Below.refl _ _⟩))
  have H3 := hi (fun b t W (h : CB W b t #[.int .i64 9, .int .i64 14, .int .i64 5]) => (has_any 8 [9, 14, 5] b 3 t W h rfl (by decide)).mono (fun e W' (hx : e = .returned (.bool false) ∧ W' = W) => show e = .returned (.bool false) ∧ Below W.heap.size W W' from ⟨hx.1, by rw [hx.2]; exact Below.refl _ _⟩))
  obtain ⟨i0, hi2, hz0, hz1, hz2⟩ := fd_info_parts fd_info
  have H0 : FdI w #[.int .i64 8, .int .i64 c2, .int .i64 c3, .int .i64 c4, .int .i64 c5, .int .i64 c6, .int .i64 c7, .int .i64 c8, .bool c9] #[.int .i64 0, .int .i64 c2, .int .i64 c3, .int .i64 c4, .int .i64 c5, .int .i64 c6, .int .i64 c7, .int .i64 c8, .bool c9] 0 (.slice none 0 0) [] ((w.alloc (.cells #[.int .i64 8, .int .i64 c2, .int .i64 c3, .int .i64 c4, .int .i64 c5, .int .i64 c6, .int .i64 c7, .int .i64 c8, .bool c9] 36)).alloc (.cells #[.int .i64 0, .int .i64 c2, .int .i64 c3, .int .i64 c4, .int .i64 c5, .int .i64 c6, .int .i64 c7, .int .i64 c8, .bool c9] 36)) := ⟨(CB.new w _ _).alloc _, cb_second, World.ownsRow_nil _ _ _ _, bal_two w _ _⟩
  have HF0 := hi H0
  clear H0
  have hm : (c8.tmod 256 != 0) = true := by rw [Int.tmod_eq_emod_of_nonneg ha]; simpa using hb
  have hm2 : (c8 % 256 != 0) = true := by simpa using hb
  have hlt : ¬ c8 < 0 := by omega
  go_enter Try.func65, Try.ntmps65
  go_wp2_with (first
    | (go_at_call 76; ((with_reducible refine (H4.out _ _ _ (CB.newAt (by simp))).mono ?_); rintro e w1 ⟨rfl, hb⟩; (have HF1 := hi ((HF0.out.later (bal _ _)).later hb); obtain ⟨q0, q1, q2, q3, q4, q5, q6, q7, q8⟩ := CB.nine HF1.out.c; obtain ⟨s0, s1, s2, s3, s4, s5, s6, s7, s8⟩ := CB.nine HF1.out.r; have rf := HF1.out.r.frozen; have hz := HF1.out.r.lt; clear hb)))
    | (at_builtin; refine wpList_append_own _ rfl _ _ 110 rfl (w.heap.size + 2) 115 i0 (.agg #[.int .i64 0, .int .i64 0, .int .i64 0, .int .i64 0]) 4 32 Try.underlying110 hi2 hz0 hz1 hz2 rfl (by decide) _ 0 _ rfl (HF1.out.l.alloc _) ⟨_, 0, none⟩ 1 1 (fc 0 32 32 (c2)) rfl rfl (fc_new (by first | rfl | simp) _ _ _ _ _) (fc_one _ _ _ _) (by decide) (by decide) (by first | omega | (simp; omega)) ?_; intro v2 w2 hown hgrow _; have HF2 := hi (HF1.out.app hown hgrow); clear q0 q1 q2 q3 q4 q5 q6 q7 q8 rf s0 s1 s2 s3 s4 s5 s6 s7 s8 hz; obtain ⟨q0, q1, q2, q3, q4, q5, q6, q7, q8⟩ := CB.nine HF2.out.c; obtain ⟨s0, s1, s2, s3, s4, s5, s6, s7, s8⟩ := CB.nine HF2.out.r; have rf := HF2.out.r.frozen; have hz := HF2.out.r.lt; clear hown hgrow)
    | (go_at_call 76; ((with_reducible refine (H7.out _ _ _ (CB.newAt (by simp))).mono ?_); rintro e w3 ⟨rfl, hb⟩; (have HF3 := hi (((HF2.out.put (r' := #[.int .i64 0, .int .i64 0, .int .i64 c3, .int .i64 c4, .int .i64 c5, .int .i64 c6, .int .i64 c7, .int .i64 c8, .bool c9]) 1 (.int .i64 0) rfl).later (bal _ _)).later hb); clear q0 q1 q2 q3 q4 q5 q6 q7 q8 rf s0 s1 s2 s3 s4 s5 s6 s7 s8 hz; obtain ⟨q0, q1, q2, q3, q4, q5, q6, q7, q8⟩ := CB.nine HF3.out.c; obtain ⟨s0, s1, s2, s3, s4, s5, s6, s7, s8⟩ := CB.nine HF3.out.r; have rf := HF3.out.r.frozen; have hz := HF3.out.r.lt; clear hb)))
    | (go_at_call 76; ((with_reducible refine (H5.out _ _ _ (CB.newAt (by simp))).mono ?_); rintro e w4 ⟨rfl, hb⟩; (have HF4 := hi ((HF3.out.later (bal _ _)).later hb); clear q0 q1 q2 q3 q4 q5 q6 q7 q8 rf s0 s1 s2 s3 s4 s5 s6 s7 s8 hz; obtain ⟨q0, q1, q2, q3, q4, q5, q6, q7, q8⟩ := CB.nine HF4.out.c; obtain ⟨s0, s1, s2, s3, s4, s5, s6, s7, s8⟩ := CB.nine HF4.out.r; have rf := HF4.out.r.frozen; have hz := HF4.out.r.lt; clear hb)))
    | (go_at_call 76; ((with_reducible refine (H3.out _ _ _ (CB.newAt (by simp))).mono ?_); rintro e w5 ⟨rfl, hb⟩; (have HF5 := hi ((HF4.out.later (bal _ _)).later hb); clear q0 q1 q2 q3 q4 q5 q6 q7 q8 rf s0 s1 s2 s3 s4 s5 s6 s7 s8 hz; obtain ⟨q0, q1, q2, q3, q4, q5, q6, q7, q8⟩ := CB.nine HF5.out.c; obtain ⟨s0, s1, s2, s3, s4, s5, s6, s7, s8⟩ := CB.nine HF5.out.r; have rf := HF5.out.r.frozen; have hz := HF5.out.r.lt; clear hb)))
    | (at_builtin; refine wpList_append_own _ rfl _ _ 110 rfl (w.heap.size + 2) 115 i0 (.agg #[.int .i64 0, .int .i64 0, .int .i64 0, .int .i64 0]) 4 32 Try.underlying110 hi2 hz0 hz1 hz2 rfl (by decide) _ 1 _ rfl (HF5.out.l.alloc _) ⟨_, 0, none⟩ 1 1 (fc 1 0 5 (c7)) rfl rfl (fc_new (by first | rfl | simp) _ _ _ _ _) (fc_one _ _ _ _) (by decide) (by decide) (by first | omega | (simp; omega)) ?_; intro v6 w6 hown hgrow _; have HF6 := hi (HF5.out.app hown hgrow); clear q0 q1 q2 q3 q4 q5 q6 q7 q8 rf s0 s1 s2 s3 s4 s5 s6 s7 s8 hz; obtain ⟨q0, q1, q2, q3, q4, q5, q6, q7, q8⟩ := CB.nine HF6.out.c; obtain ⟨s0, s1, s2, s3, s4, s5, s6, s7, s8⟩ := CB.nine HF6.out.r; have rf := HF6.out.r.frozen; have hz := HF6.out.r.lt; clear hown hgrow))
  go_ret2
  exact ⟨rfl, (HF6.out.put (r' := #[.int .i64 0, .int .i64 0, .int .i64 c3, .int .i64 c4, .int .i64 c5, .int .i64 c6, .int .i64 0, .int .i64 c8, .bool c9]) 6 (.int .i64 0) rfl).below⟩

set_option maxRecDepth 100000 in
set_option maxHeartbeats 4000000 in
theorem fields_no (op c2 c3 c4 c5 c6 c7 c8 : Int) (c9 : Bool) (hk : known op = false) (w : World) : Calls Try.prog 65 #[.agg #[.int .i64 op, .int .i64 c2, .int .i64 c3, .int .i64 c4, .int .i64 c5, .int .i64 c6, .int .i64 c7, .int .i64 c8, .bool c9]] w fun e w' => (∃ v, e = .returned (.tuple #[v, .bool (eqCm ⟨0, 0, c3, c4, c5, c6, c7, c8, c9⟩ ⟨0, 0, 0, 0, 0, 0, 0, 0, false⟩)])) ∧ Below w.heap.size w w' := by
  have hne : ∀ x, known x = true → op ≠ x := fun x hx e => by rw [e, hx] at hk; cases hk
  have ho8 : (op == 8) = false := by simpa using hne 8 (by decide)
  have ho9 : (op == 9) = false := by simpa using hne 9 (by decide)
  have ho10 : (op == 10) = false := by simpa using hne 10 (by decide)
  have ho14 : (op == 14) = false := by simpa using hne 14 (by decide)
  have H40 := fun (b : Nat) (t : TypeId) (W : World) (h : CB W b t #[.int .i64 9, .int .i64 13, .int .i64 14, .int .i64 5]) => has_any op [9, 13, 14, 5] b 4 t W h rfl (by decide)
  have H70 := fun (b : Nat) (t : TypeId) (W : World) (h : CB W b t #[.int .i64 10, .int .i64 11, .int .i64 1, .int .i64 3, .int .i64 4, .int .i64 12, .int .i64 15]) => has_any op [10, 11, 1, 3, 4, 12, 15] b 7 t W h rfl (by decide)
  have H50 := fun (b : Nat) (t : TypeId) (W : World) (h : CB W b t #[.int .i64 9, .int .i64 10, .int .i64 11, .int .i64 1, .int .i64 13]) => has_any op [9, 10, 11, 1, 13] b 5 t W h rfl (by decide)
  have H30 := fun (b : Nat) (t : TypeId) (W : World) (h : CB W b t #[.int .i64 9, .int .i64 14, .int .i64 5]) => has_any op [9, 14, 5] b 3 t W h rfl (by decide)
  have hdH4 : decide (op ∈ ([9, 13, 14, 5] : List Int)) = false := by simp [hne 9 (by decide), hne 13 (by decide), hne 14 (by decide), hne 5 (by decide)]
  have hdH7 : decide (op ∈ ([10, 11, 1, 3, 4, 12, 15] : List Int)) = false := by simp [hne 10 (by decide), hne 11 (by decide), hne 1 (by decide), hne 3 (by decide), hne 4 (by decide), hne 12 (by decide), hne 15 (by decide)]
  have hdH5 : decide (op ∈ ([9, 10, 11, 1, 13] : List Int)) = false := by simp [hne 9 (by decide), hne 10 (by decide), hne 11 (by decide), hne 1 (by decide), hne 13 (by decide)]
  have hdH3 : decide (op ∈ ([9, 14, 5] : List Int)) = false := by simp [hne 9 (by decide), hne 14 (by decide), hne 5 (by decide)]
  simp only [hdH4] at H40
  simp only [hdH7] at H70
  simp only [hdH5] at H50
  simp only [hdH3] at H30
  have H4 := hi (fun b t W (h : CB W b t #[.int .i64 9, .int .i64 13, .int .i64 14, .int .i64 5]) => (H40 b t W h).mono (fun e W' (hx : e = .returned (.bool false) ∧ W' = W) => show e = .returned (.bool false) ∧ Below W.heap.size W W' from ⟨hx.1, by rw [hx.2]; exact Below.refl _ _⟩))
  have H7 := hi (fun b t W (h : CB W b t #[.int .i64 10, .int .i64 11, .int .i64 1, .int .i64 3, .int .i64 4, .int .i64 12, .int .i64 15]) => (H70 b t W h).mono (fun e W' (hx : e = .returned (.bool false) ∧ W' = W) => show e = .returned (.bool false) ∧ Below W.heap.size W W' from ⟨hx.1, by rw [hx.2]; exact Below.refl _ _⟩))
  have H5 := hi (fun b t W (h : CB W b t #[.int .i64 9, .int .i64 10, .int .i64 11, .int .i64 1, .int .i64 13]) => (H50 b t W h).mono (fun e W' (hx : e = .returned (.bool false) ∧ W' = W) => show e = .returned (.bool false) ∧ Below W.heap.size W W' from ⟨hx.1, by rw [hx.2]; exact Below.refl _ _⟩))
  have H3 := hi (fun b t W (h : CB W b t #[.int .i64 9, .int .i64 14, .int .i64 5]) => (H30 b t W h).mono (fun e W' (hx : e = .returned (.bool false) ∧ W' = W) => show e = .returned (.bool false) ∧ Below W.heap.size W W' from ⟨hx.1, by rw [hx.2]; exact Below.refl _ _⟩))
  clear hk hne hdH4 hdH7 hdH5 hdH3 H40 H70 H50 H30
  obtain ⟨i0, hi2, hz0, hz1, hz2⟩ := fd_info_parts fd_info
  have H0 : FdI w #[.int .i64 op, .int .i64 c2, .int .i64 c3, .int .i64 c4, .int .i64 c5, .int .i64 c6, .int .i64 c7, .int .i64 c8, .bool c9] #[.int .i64 0, .int .i64 c2, .int .i64 c3, .int .i64 c4, .int .i64 c5, .int .i64 c6, .int .i64 c7, .int .i64 c8, .bool c9] 0 (.slice none 0 0) [] ((w.alloc (.cells #[.int .i64 op, .int .i64 c2, .int .i64 c3, .int .i64 c4, .int .i64 c5, .int .i64 c6, .int .i64 c7, .int .i64 c8, .bool c9] 36)).alloc (.cells #[.int .i64 0, .int .i64 c2, .int .i64 c3, .int .i64 c4, .int .i64 c5, .int .i64 c6, .int .i64 c7, .int .i64 c8, .bool c9] 36)) := ⟨(CB.new w _ _).alloc _, cb_second, World.ownsRow_nil _ _ _ _, bal_two w _ _⟩
  have HF0 := hi H0
  clear H0
  go_enter Try.func65, Try.ntmps65
  go_wp2_with (first
    | (go_at_call 76; ((with_reducible refine (H4.out _ _ _ (CB.newAt (by simp))).mono ?_); rintro e w1 ⟨rfl, hb⟩; (have HF1 := hi ((HF0.out.later (bal _ _)).later hb); obtain ⟨q0, q1, q2, q3, q4, q5, q6, q7, q8⟩ := CB.nine HF1.out.c; obtain ⟨s0, s1, s2, s3, s4, s5, s6, s7, s8⟩ := CB.nine HF1.out.r; have rf := HF1.out.r.frozen; have hz := HF1.out.r.lt; clear hb)))
    | (at_builtin; refine wpList_append_own _ rfl _ _ 110 rfl (w.heap.size + 2) 115 i0 (.agg #[.int .i64 0, .int .i64 0, .int .i64 0, .int .i64 0]) 4 32 Try.underlying110 hi2 hz0 hz1 hz2 rfl (by decide) _ 0 _ rfl (HF1.out.l.alloc _) ⟨_, 0, none⟩ 1 1 (fc 0 32 32 (c2)) rfl rfl (fc_new (by first | rfl | simp) _ _ _ _ _) (fc_one _ _ _ _) (by decide) (by decide) (by first | omega | (simp; omega)) ?_; intro v2 w2 hown hgrow _; have HF2 := hi (HF1.out.app hown hgrow); clear q0 q1 q2 q3 q4 q5 q6 q7 q8 rf s0 s1 s2 s3 s4 s5 s6 s7 s8 hz; obtain ⟨q0, q1, q2, q3, q4, q5, q6, q7, q8⟩ := CB.nine HF2.out.c; obtain ⟨s0, s1, s2, s3, s4, s5, s6, s7, s8⟩ := CB.nine HF2.out.r; have rf := HF2.out.r.frozen; have hz := HF2.out.r.lt; clear hown hgrow)
    | (go_at_call 76; ((with_reducible refine (H7.out _ _ _ (CB.newAt (by simp))).mono ?_); rintro e w3 ⟨rfl, hb⟩; (have HF3 := hi (((HF2.out.put (r' := #[.int .i64 0, .int .i64 0, .int .i64 c3, .int .i64 c4, .int .i64 c5, .int .i64 c6, .int .i64 c7, .int .i64 c8, .bool c9]) 1 (.int .i64 0) rfl).later (bal _ _)).later hb); clear q0 q1 q2 q3 q4 q5 q6 q7 q8 rf s0 s1 s2 s3 s4 s5 s6 s7 s8 hz; obtain ⟨q0, q1, q2, q3, q4, q5, q6, q7, q8⟩ := CB.nine HF3.out.c; obtain ⟨s0, s1, s2, s3, s4, s5, s6, s7, s8⟩ := CB.nine HF3.out.r; have rf := HF3.out.r.frozen; have hz := HF3.out.r.lt; clear hb)))
    | (go_at_call 76; ((with_reducible refine (H5.out _ _ _ (CB.newAt (by simp))).mono ?_); rintro e w4 ⟨rfl, hb⟩; (have HF4 := hi ((HF3.out.later (bal _ _)).later hb); clear q0 q1 q2 q3 q4 q5 q6 q7 q8 rf s0 s1 s2 s3 s4 s5 s6 s7 s8 hz; obtain ⟨q0, q1, q2, q3, q4, q5, q6, q7, q8⟩ := CB.nine HF4.out.c; obtain ⟨s0, s1, s2, s3, s4, s5, s6, s7, s8⟩ := CB.nine HF4.out.r; have rf := HF4.out.r.frozen; have hz := HF4.out.r.lt; clear hb)))
    | (go_at_call 76; ((with_reducible refine (H3.out _ _ _ (CB.newAt (by simp))).mono ?_); rintro e w5 ⟨rfl, hb⟩; (have HF5 := hi ((HF4.out.later (bal _ _)).later hb); clear q0 q1 q2 q3 q4 q5 q6 q7 q8 rf s0 s1 s2 s3 s4 s5 s6 s7 s8 hz; obtain ⟨q0, q1, q2, q3, q4, q5, q6, q7, q8⟩ := CB.nine HF5.out.c; obtain ⟨s0, s1, s2, s3, s4, s5, s6, s7, s8⟩ := CB.nine HF5.out.r; have rf := HF5.out.r.frozen; have hz := HF5.out.r.lt; clear hb))))
  go_region
  go_wp2
  go_ret2
  exact ⟨⟨_, rfl⟩, (HF5.out.later (below_drew' _)).below⟩

end Go.Proofs.Ytfnokpajendlmaa
