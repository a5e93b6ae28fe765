/-
  Two ladders compared; the law LadderBack at every input.
-/
import Derived.Test.YthfcgedlpnbojaaLadI
import Derived.Laws.StructEq
import Derived.ChangeKeysEq
namespace Go.Proofs.Ythfcgedlpnbojaa
open Go.ChangeShapes Go.WideShapes Go.ChangeAt Go.RowKit
set_option linter.unusedVariables false

def eq2 (a b c d : Int) : Bool := a == c && b == d
theorem eq2_self (a b : Int) : eq2 a b a b = true := by simp [eq2]
theorem equal_words (d : Nat) (a b a' b' : Int) (w : World) : (Op.equalIn (d + 2) 25 (.agg #[.int .u32 a, .int .u32 b]) (.agg #[.int .u32 a', .int .u32 b'])).run Try.prog w = .ok (eq2 a b a' b') w := by
  have u3 := Try.underlying22
  have a3 := Try.isAgg22
  obtain ⟨i, hi⟩ : ∃ i, Try.prog.info? 22 = some i := by
    cases h : Try.prog.info? 22 with
    | none => have := size_u32; simp [h] at this
    | some i => exact ⟨i, rfl⟩
  have hc : Try.prog.cellsOf 22 = 1 := by kernel_rfl
  rw [run_equalIn_array w (d + 1) _ _ Try.underlying25 hi, hc]
  simp only [Op.eqItems, List.range_succ, List.range_zero, List.nil_append, List.cons_append]
  go_simp
  unfold eq2
  by_cases h1 : a = a' <;> by_cases h2 : b = b' <;> simp [h1, h2]
theorem equal2 (a b a' b' : Int) (w : World) : (Op.equalIn 10000 27 (.agg #[.int .u32 a, .int .u32 b]) (.agg #[.int .u32 a', .int .u32 b'])).run Try.prog w = .ok (eq2 a b a' b') w := by
  have hS : Try.prog.underlying 27 = some (.struct (Try.prog.fieldsOf 27)) := by kernel_rfl
  have hp : Try.prog.stoodInHeld 27 = false := by kernel_rfl
  have e1 := fun W => equal_words 9997 a b a' b' W
  have a3 := Try.isAgg25
  have z3 := Try.sizeOf25
  rw [show (10000 : Nat) = 9999 + 1 from rfl, run_equalIn_agg w 9999 _ _ _ hS hp]
  simp only [Program.fieldsOf, Try.underlying27]
  go_simp
  cases eq2 a b a' b' <;> rfl
theorem eql2 (a b a' b' : Int) (w : World) : (binOp .eql 27 (.agg #[.int .u32 a, .int .u32 b]) (.agg #[.int .u32 a', .int .u32 b'])).run Try.prog w = .ok (.bool (eq2 a b a' b')) w := by
  rw [run_eql_struct, equal2]; rfl
theorem guard2 (op : BinOp) (x y : Operand) (xs ys : Array Value) (w : World) : (eqGuard op 27 x y (.agg xs) (.agg ys)).run Try.prog w = .ok () w := run_eqGuard_agg w op _ _ _ _ _ (by kernel_rfl)
attribute [local go_sem high] eql2 guard2

/-! ### What is pushed on top -/
theorem rungs_lt {f : Rg} {i : Nat} (h : i ∈ rungs f) : i < 64 ∧ f i = true := (mem_upto f i 64).1 h
theorem upto_first {f : Rg} {i : Nat} (hi : f i = true) (hl : ∀ j, j < i → f j = false) : ∀ n, (upto f n).head? = if i < n then some i else none
  | 0 => by simp [upto]
  | n + 1 => by
    have ih := upto_first hi hl n
    by_cases h : i < n
    · rw [if_pos h] at ih
      rw [if_pos (by omega)]
      rw [upto]
      split
      · cases hu : upto f n with
        | nil => rw [hu] at ih; simp at ih
        | cons a r => rw [hu] at ih; simpa using ih
      · exact ih
    · rw [if_neg h] at ih
      have hu : upto f n = [] := List.head?_eq_none_iff.1 ih
      by_cases e : i = n
      · subst e
        rw [upto_pos hi, hu, if_pos (by omega)]; rfl
      · rw [if_neg (by omega), upto_neg (hl n (by omega)), hu]; rfl
theorem top_first {f : Rg} {i : Nat} (hi : f i = true) (h64 : i < 64) (hl : ∀ j, j < i → f j = false) : top f = some i := by
  rw [top, rungs, upto_first hi hl 64, if_pos h64]
theorem upto_head {f : Rg} {i : Nat} : ∀ {n : Nat}, (upto f n).head? = some i → ∀ j, j < i → f j = false
  | 0, h, j, hj => by simp [upto] at h
  | n + 1, h, j, hj => by
    by_cases hu : upto f n = []
    · have hn : ∀ j, j < n → f j = false := fun j hj => by
        cases hf : f j with
        | false => rfl
        | true => have := (mem_upto f j n).2 ⟨hj, hf⟩; rw [hu] at this; simp at this
      rw [upto] at h
      split at h
      · rw [hu] at h
        obtain rfl : n = i := by simpa using h
        exact hn j hj
      · rw [hu] at h; simp at h
    · have h2 : (upto f n).head? = some i := by
        rw [upto] at h
        split at h
        · cases hx : upto f n with
          | nil => exact absurd hx hu
          | cons a r => rw [hx] at h; simpa using h
        · exact h
      exact upto_head h2 j hj
theorem top_min {f : Rg} {i : Nat} (h : top f = some i) (j : Nat) (hj : j < i) : f j = false := upto_head h j hj
theorem top_none {f : Rg} (h : top f = none) (j : Nat) (hj : j < 64) : f j = false := by
  have hr : rungs f = [] := List.head?_eq_none_iff.1 h
  cases hf : f j with
  | false => rfl
  | true => have := (mem_upto f j 64).2 ⟨hj, hf⟩; rw [show upto f 64 = rungs f from rfl, hr] at this; simp at this
/-- Nothing runs at a place ahead of what runs. -/
theorem run_before {f : Rg} {k g : Nat} (hk : k < 32) (hg : g < 2) (h : 8 * (k : Int) < (runV f).1) (j : Nat) (hj : j ≤ 2 * k + g) : f j = false := by
  cases ht : top f with
  | none => exact top_none ht j (by omega)
  | some t =>
    rw [runV_some ht] at h
    dsimp only at h
    exact top_min ht j (by omega)
theorem push_top {f : Rg} {k g : Nat} (hk : k < 32) (hg : g < 2) (h : 8 * (k : Int) < (runV f).1) : top (put f (2 * k + g) true) = some (2 * k + g) :=
  top_first (put_same _ _ _) (by omega) (fun j hj => by rw [put_other f true (by omega)]; exact run_before hk hg h j (by omega))
theorem push_drop {f : Rg} {k g : Nat} (hk : k < 32) (hg : g < 2) (h : 8 * (k : Int) < (runV f).1) : dropR (put f (2 * k + g) true) = f := by
  rw [dropR_some (push_top hk hg h), put_put]
  exact put_id (run_before hk hg h _ (Nat.le_refl _))

/-- Of at a slice just built. -/
theorem of_new2 (a b : Nat) (t : TypeId) (W : World) (ha : a < 4294967296) (hb : b < 4294967296) : Calls Try.prog 10 #[.slice (some ⟨W.heap.size, 0, none⟩) 2 2] (W.alloc (.cells #[.int .u32 a, .int .u32 b] t)) fun e w' => e = .returned (lv (ofW a b)) ∧ Below W.heap.size W w' :=
  (of2_any a b W.heap.size t _ ha hb (CB.new W t _)).mono fun e w' ⟨h1, h2⟩ => ⟨h1, (bal W _).trans (h2.mono (by simp))⟩

set_option maxRecDepth 100000 in
set_option maxHeartbeats 4000000 in
theorem lawBack_any (a b : Nat) (g : Int) (p : Nat) (w : World) (ha : a < 4294967296) (hb : b < 4294967296) (hp : p < 256) :
    Calls Try.prog 4 #[.int .u32 a, .int .u32 b, .int .i64 g, .int .u8 p] w fun e w' => e = .returned (.bool true) ∧ Below w.heap.size w w' := by
  have CO := hi (fun t W => of_new2 a b t W ha hb)
  obtain ⟨f, hf⟩ : ∃ f, ofW a b = f := ⟨_, rfl⟩
  rw [hf] at CO
  have CR := hi (fun W => running_any f W)
  have hlit : (p : Int) / 8 * 8 = 8 * ((p / 8 : Nat) : Int) := by omega
  obtain ⟨k, hk⟩ : ∃ k, p / 8 = k := ⟨_, rfl⟩
  have hk32 : k < 32 := by omega
  rw [hk] at hlit
  have hg1 : bits .and .i64 g 1 = (gO g : Int) := by rw [i64_and1]; unfold gO; omega
  have hpl : plc g (8 * (k : Int)) = 2 * k + gO g := by rw [plc, show kO (8 * (k : Int)) = k by unfold kO; omega]
  have CP := hi (fun W => push_any f g (8 * (k : Int)) W)
  rw [hpl] at CP
  have hgl := gO_lt g
  obtain ⟨j, hj⟩ : ∃ j, gO g = j := ⟨_, rfl⟩
  rw [hj] at hg1 CP hgl
  by_cases hq : 8 * (k : Int) < (runV f).1
  · have C4 := hi (fun W => running_any (put f (2 * k + j) true) W)
    have C5 := hi (fun W => drop_any (put f (2 * k + j) true) W)
    rw [push_drop hk32 hgl hq, dropB_some (push_top hk32 hgl hq)] at C5
    rw [runV_some (push_top hk32 hgl hq)] at C4
    dsimp only at C4
    rw [show 8 * (((2 * k + j : Nat) : Int) / 2) = 8 * (k : Int) by omega, show ((2 * k + j : Nat) : Int) % 2 = (j : Int) by omega] at C4
    obtain ⟨R, hR⟩ : ∃ R, (runV f).1 = R := ⟨_, rfl⟩
    obtain ⟨G, hG⟩ : ∃ R, (runV f).2 = R := ⟨_, rfl⟩
    rw [hR, hG] at CR
    rw [hR] at hq
    unfold lv lcs at CO CR CP C4 C5
    obtain ⟨a1, e1⟩ : ∃ a, wd f 0 = a := ⟨_, rfl⟩
    obtain ⟨b1, e2⟩ : ∃ a, wd f 1 = a := ⟨_, rfl⟩
    obtain ⟨a2, e3⟩ : ∃ a, wd (put f (2 * k + j) true) 0 = a := ⟨_, rfl⟩
    obtain ⟨b2, e4⟩ : ∃ a, wd (put f (2 * k + j) true) 1 = a := ⟨_, rfl⟩
    rw [e1, e2] at CO CR CP C5
    rw [e3, e4] at CP C4 C5
    have E1 := eq2_self a1 b1
    clear e1 e2 e3 e4 hR hG hj hpl hf ha hb hk
    go_enter Try.func4, Try.ntmps4
    go_wp2_with (first
      | (go_at_call 9; ((with_reducible refine (awake_any _).mono ?_); rintro e w0 ⟨rfl, hb⟩; have HB0 := hi hb; clear hb))
      | (go_at_call 10; ((with_reducible refine (CO.out _ _).mono ?_); rintro e w1 ⟨rfl, hb⟩; have H1 := hi (AtG.new (w := w) (L := []) ⟨fun p hp => (by cases hp), HB0.out.trans (hb.mono HB0.out.size)⟩ 27 #[.int .u32 a1, .int .u32 b1]); clear hb))
      | (go_at_call 20; ((with_reducible refine (CR.out _).mono ?_); rintro e w2 ⟨rfl, hb⟩; have H2 := hi (H1.out.later hb); obtain ⟨s0, s1⟩ := H2.out.b0.two; clear hb))
      | (go_at_call 13; ((with_reducible refine (CP.out _).mono ?_); rintro e w3 ⟨rfl, hb⟩; have H3 := hi ((H2.out.later hb).new 27 #[.int .u32 a2, .int .u32 b2]); clear hb))
      | (go_at_call 20; ((with_reducible refine (C4.out _).mono ?_); rintro e w4 ⟨rfl, hb⟩; have H4 := hi (H3.out.later hb); obtain ⟨s0, s1⟩ := H4.out.b0.two; clear hb))
      | (go_at_call 16; ((with_reducible refine (C5.out _).mono ?_); rintro e w5 ⟨rfl, hb⟩; have H5 := hi ((H4.out.later hb).new 27 #[.int .u32 a1, .int .u32 b1]); obtain ⟨t0, t1⟩ := H5.out.tl.tl.b0.two; clear hb)))
    go_ret
    exact ⟨rfl, H5.out.below⟩
  · obtain ⟨R, hR⟩ : ∃ R, (runV f).1 = R := ⟨_, rfl⟩
    obtain ⟨G, hG⟩ : ∃ R, (runV f).2 = R := ⟨_, rfl⟩
    rw [hR, hG] at CR
    rw [hR] at hq
    have hq' : R ≤ 8 * (k : Int) := by omega
    unfold lv lcs at CO CR
    obtain ⟨a1, e1⟩ : ∃ a, wd f 0 = a := ⟨_, rfl⟩
    obtain ⟨b1, e2⟩ : ∃ a, wd f 1 = a := ⟨_, rfl⟩
    rw [e1, e2] at CO CR
    clear e1 e2 hR hG hj hpl hf ha hb hk hq CP
    go_enter Try.func4, Try.ntmps4
    go_wp2_with (first
      | (go_at_call 9; ((with_reducible refine (awake_any _).mono ?_); rintro e w0 ⟨rfl, hb⟩; have HB0 := hi hb; clear hb))
      | (go_at_call 10; ((with_reducible refine (CO.out _ _).mono ?_); rintro e w1 ⟨rfl, hb⟩; have H1 := hi (AtG.new (w := w) (L := []) ⟨fun p hp => (by cases hp), HB0.out.trans (hb.mono HB0.out.size)⟩ 27 #[.int .u32 a1, .int .u32 b1]); clear hb))
      | (go_at_call 20; ((with_reducible refine (CR.out _).mono ?_); rintro e w2 ⟨rfl, hb⟩; have H2 := hi (H1.out.later hb); obtain ⟨s0, s1⟩ := H2.out.b0.two; clear hb)))
    go_ret
    exact ⟨rfl, H2.out.below⟩

end Go.Proofs.Ythfcgedlpnbojaa
