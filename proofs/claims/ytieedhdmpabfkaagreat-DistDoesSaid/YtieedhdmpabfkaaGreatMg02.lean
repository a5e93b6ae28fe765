import Derived.Test.YtieedhdmpabfkaaGreatMg01
import Derived.Laws.BitsLemmas
import Derived.Laws.Entries
import Derived.Laws.BitsAllLaws
set_option linter.unusedSimpArgs false
namespace Go.Proofs.YtieedhdmpabfkaaGreat
open Go.ChangeShapes Go.WideShapes Go.ChangeAt Go.RowKit
set_option linter.unusedVariables false
theorem n1 {α : Type} {xs : List α} {i : Nat} (h : i < xs.toArray.size) : xs.toArray[i] = xs[i]'(by simpa using h) := List.getElem_toArray h
theorem n2 {α : Type} (a : α) (ys : List α) (h : 0 < (a :: ys).length) : (a :: ys)[0] = a := rfl
theorem n3 {α : Type} (a : α) (ys : List α) (i : Nat) (h : i + 1 < (a :: ys).length) : (a :: ys)[i + 1] = ys[i]'(by simpa using h) := rfl
theorem n4 {α : Type} (l : List α) (i : Nat) (a : α) : l.toArray.setIfInBounds i a = (l.set i a).toArray := List.setIfInBounds_toArray l i a
theorem n5 {α : Type} {x : α} {xs : List α} {a : α} : (x :: xs).set 0 a = a :: xs := rfl
theorem n6 {α : Type} {x : α} {xs : List α} {i : Nat} {a : α} : (x :: xs).set (i + 1) a = x :: xs.set i a := rfl
theorem r1 {α : Type} {n : Nat} {a : α} : Array.replicate (n + 1) a = (Array.replicate n a).push a := Array.replicate_succ
theorem r2 {α : Type} {a : α} : Array.replicate 0 a = #[] := Array.replicate_zero
theorem r3 {α : Type} (l : List α) (a : α) : l.toArray.push a = (l ++ [a]).toArray := List.push_toArray l a
theorem r4 {α : Type} (ys : List α) : [] ++ ys = ys := rfl
theorem r5 {α : Type} {a : α} {ys bs : List α} : (a :: ys) ++ bs = a :: (ys ++ bs) := rfl
theorem tk {P : Program} {md : Region.Mode} {ops : Array Oper} {Q : Exit → Act → World → Prop} {S : World → Prop} {late : List Nat} (i : Nat) {oi : Oper} {v : Value} {fuel : Nat} {listed : Array Bool} {a : Act} {w : World} (hi : ops[i]? = some oi) (hy : YieldsIf P ops S oi v a)
  (h : wpAnyF P md ops Q S late fuel (listed.setIfInBounds i true) (a.put oi.dst v) w) (hlate : lateB md ops late = true := by kernel_rfl) (hil : late.contains i = false := by kernel_rfl)
  (hs : Region.noSelect ops = true := by kernel_rfl) (hf : Region.free md ops listed i = true := by kernel_rfl) (hr : (Region.ready md ops listed).contains i = true := by kernel_rfl)
  (hQ : ∀ c a w, Q (.panic c) (a.put oi.dst v) w → Q (.panic c) a w := by exact fun _ _ _ h => h) (hS : S w := by assumption) : wpAnyF P md ops Q S late (fuel + 1) listed a w :=
 wpAnyF_take hlate hil hi hs hf hr hQ hy hS h
end Go.Proofs.YtieedhdmpabfkaaGreat
namespace Go.Proofs.YtieedhdmpabfkaaGreat
set_option linter.unusedVariables false
def sumB (f : Nat → Bool) : Nat → Nat
 | 0 => 0
 | n + 1 => sumB f n + if f n then 2 ^ n else 0
theorem sumB_lt (f : Nat → Bool) : ∀ n, sumB f n < 2 ^ n
 | 0 => by simp [sumB]
 | n + 1 => by
  have := sumB_lt f n
  rw [sumB, Nat.pow_succ]
  split <;> omega
theorem sumB_bit (f : Nat → Bool) : ∀ n i, (sumB f n).testBit i = (decide (i < n) && f i)
 | 0, i => by simp [sumB]
 | n + 1, i => by
  have hl := sumB_lt f n
  have ih := sumB_bit f n i
  rw [sumB]
  by_cases hf : f n
  ·rw [if_pos hf, Nat.add_comm]
   by_cases hi : i = n
   ·subst hi
    rw [Nat.testBit_two_pow_add_eq, ih]; simp [hf]
   ·by_cases hlt : i < n
    ·rw [Nat.testBit_two_pow_add_gt hlt, ih]
     simp [hlt, Nat.lt_succ_of_lt hlt]
    ·rw [Nat.testBit_lt_two_pow]
     ·simp; omega
     ·have : 2 ^ (n + 1) ≤ 2 ^ i := Nat.pow_le_pow_right (by decide) (by omega)
      rw [Nat.pow_succ] at this; omega
  ·rw [if_neg hf, Nat.add_zero, ih]
   by_cases hi : i = n
   ·subst hi; simp [hf]
   ·have : i < n + 1 ↔ i < n := by omega
    simp [this]
theorem sumB_eq {x n : Nat} {f : Nat → Bool} (h : ∀ i, i < n → x.testBit i = f i) (hx : x < 2 ^ n) : sumB f n = x := by
 apply Nat.eq_of_testBit_eq
 intro i
 rw [sumB_bit]
 by_cases hi : i < n
 ·simp [hi, h i hi]
 ·have : x < 2 ^ i := Nat.lt_of_lt_of_le hx (Nat.pow_le_pow_right (by decide) (by omega))
  simp [hi, Nat.testBit_lt_two_pow this]
theorem sumB_congr {f g : Nat → Bool} : ∀ n, (∀ i, i < n → f i = g i) → sumB f n = sumB g n
 | 0, _ => rfl
 | n + 1, h => by rw [sumB, sumB, sumB_congr n (fun i hi => h i (by omega)), h n (by omega)]
def bt (p : Int) (k : Nat) : Bool := decide (p / 2 ^ k % 2 = 1)
def low8 (p : Int) : Nat := (p % 256).toNat
theorem bt_low8 (p : Int) (i : Nat) (hi : i < 8) : (low8 p).testBit i = bt p i := by
 have hp : (2 : Int) ^ i * 2 ^ (8 - i) = 256 := by
  rw [← Int.pow_add, show i + (8 - i) = 8 by omega]; rfl
 have hq : (2 : Int) ^ (8 - i) = 2 * 2 ^ (7 - i) := by
  rw [show 8 - i = (7 - i) + 1 by omega, Int.pow_succ]; omega
 have hpos : (0 : Int) < 2 ^ i := Int.pow_pos (by decide)
 rw [Nat.testBit_eq_decide_div_mod_eq, bt]
 have e : ((low8 p / 2 ^ i % 2 : Nat) : Int) = p / 2 ^ i % 2 := by
  have e1 : ((low8 p : Nat) : Int) = p % 256 := by unfold low8; omega
  rw [Int.natCast_emod, Int.natCast_ediv, e1, Int.natCast_pow]
  simp only [Int.cast_ofNat_Int]
  have e2 : p = p % 256 + 2 ^ i * (2 ^ (8 - i) * (p / 256)) := by rw [← Int.mul_assoc, hp]; omega
  conv => rhs; rw [e2, Int.add_mul_ediv_left _ _ (by omega), hq, Int.mul_assoc, Int.add_mul_emod_self_left]
 by_cases h : low8 p / 2 ^ i % 2 = 1
 ·have : p / 2 ^ i % 2 = 1 := by rw [← e, h]; rfl
  simp [h, this]
 ·have : ¬ p / 2 ^ i % 2 = 1 := by rw [← e]; omega
  simp [h, this]
theorem ofInt_low (p : Int) : (BitVec.ofInt 64 p).toNat % 256 = low8 p := by
 rw [BitVec.toNat_ofInt]; unfold low8; omega
theorem land_low {x m : Nat} (hm : m < 256) : x &&& m = x % 256 &&& m := by
 apply Nat.eq_of_testBit_eq
 intro i
 rw [Nat.testBit_and, Nat.testBit_and, show (256 : Nat) = 2 ^ 8 from rfl, Nat.testBit_mod_two_pow]
 by_cases hi : i < 8
 ·simp [hi]
 ·have : m < 2 ^ i := Nat.lt_of_lt_of_le hm (show 2 ^ 8 ≤ 2 ^ i from Nat.pow_le_pow_right (by decide) (by omega))
  simp [Nat.testBit_lt_two_pow this]
theorem and_low (p : Int) (m : Nat) (hm : m < 256) : bits .and .i64 p (m : Int) = ((low8 p &&& m : Nat) : Int) := by
 show IntKind.i64.wrap ((BitVec.ofInt 64 p &&& BitVec.ofInt 64 (m : Int)).toNat : Int) = _
 have e : (BitVec.ofInt 64 p &&& BitVec.ofInt 64 (m : Int)).toNat = low8 p &&& m := by
  rw [BitVec.toNat_and, BitVec.ofInt_natCast, BitVec.toNat_ofNat, Nat.mod_eq_of_lt (show m < 2 ^ 64 by omega), ← ofInt_low p, land_low hm]
 have : low8 p &&& m < 256 := Nat.and_lt_two_pow (n := 8) _ (by omega)
 rw [e, IntKind.wrap_i64]
 omega
theorem low8_nat (m : Nat) (hm : m < 256) : low8 (m : Int) = m := by unfold low8; omega
end Go.Proofs.YtieedhdmpabfkaaGreat
namespace Go.Proofs.YtieedhdmpabfkaaGreat
set_option linter.unusedVariables false
def wideN (r : Int) : Nat := if r = 11 then 8 else if r = 12 then 2 else if r = 13 then 63 else 1
theorem wide_pos (r : Int) : 1 ≤ wideN r ∧ wideN r ≤ 63 := by
 unfold wideN
 split
 ·omega
 ·split
  ·omega
  ·split <;> omega
def maskN (n m : Nat) : Nat := (2 ^ n - 1) * 2 ^ m % 2 ^ 64
theorem maskN_lt (n m : Nat) : maskN n m < 18446744073709551616 := Nat.mod_lt _ (by decide)
theorem mask_bit (n m i : Nat) : (maskN n m).testBit i = (decide (i < 64) && (decide (m ≤ i) && decide (i - m < n))) := by
 rw [maskN, Nat.testBit_mod_two_pow, Nat.testBit_mul_two_pow, Nat.testBit_two_pow_sub_one]
def fieldN (n v k : Nat) : Nat := sumB (fun i => v.testBit (n * k + i)) n
def withN (n v k x : Nat) : Nat := sumB (fun i => if n * k ≤ i ∧ i < n * k + n then x.testBit (i - n * k) else v.testBit i) 64
theorem fieldN_lt (n v k : Nat) : fieldN n v k < 2 ^ n := sumB_lt _ _
theorem fieldN_lt63 {n : Nat} (h : n ≤ 63) (v k : Nat) : fieldN n v k < 9223372036854775808 := Nat.lt_of_lt_of_le (fieldN_lt n v k) (Nat.pow_le_pow_right (n := 2) (by decide) h)
theorem withN_lt (n v k x : Nat) : withN n v k x < 18446744073709551616 := sumB_lt _ 64
theorem bit_big {v : Nat} (h : v < 18446744073709551616) {i : Nat} (hi : 64 ≤ i) : v.testBit i = false :=
 Nat.testBit_lt_two_pow (Nat.lt_of_lt_of_le h (show 2 ^ 64 ≤ 2 ^ i from Nat.pow_le_pow_right (by decide) hi))
theorem field_eq (n v k : Nat) (hv : v < 18446744073709551616) : (v &&& maskN n (k * n)) / 2 ^ (k * n) = fieldN n v k := by
 apply Nat.eq_of_testBit_eq
 intro i
 rw [Nat.testBit_div_two_pow, Nat.testBit_and, mask_bit, fieldN, sumB_bit, Nat.mul_comm n k, Nat.add_comm i, Nat.add_sub_cancel_left]
 by_cases h : k * n + i < 64
 ·by_cases h2 : i < n <;> simp [h, h2]
 ·rw [bit_big hv (by omega)]; simp
theorem with_eq (n v k x : Nat) (hv : v < 18446744073709551616) : (v &&& (18446744073709551615 - maskN n (k * n))) ||| (x * 2 ^ (k * n) % 18446744073709551616 &&& maskN n (k * n)) = withN n v k x := by
 apply Nat.eq_of_testBit_eq
 intro i
 have e : 18446744073709551615 - maskN n (k * n) = 2 ^ 64 - (maskN n (k * n) + 1) := by omega
 rw [e, Nat.testBit_or, Nat.testBit_and, Nat.testBit_two_pow_sub_succ (maskN_lt _ _), Nat.testBit_and, show (18446744073709551616 : Nat) = 2 ^ 64 from rfl, Nat.testBit_mod_two_pow, Nat.testBit_mul_two_pow, mask_bit, withN, sumB_bit, Nat.mul_comm n k]
 by_cases h : i < 64
 ·by_cases h1 : k * n ≤ i
  ·by_cases h2 : i - k * n < n
   ·have h3 : i < k * n + n := by omega
    simp [h, h1, h2, h3]
   ·have h3 : ¬ i < k * n + n := by omega
    simp [h, h1, h2, h3]
  ·simp [h, h1]
 ·rw [bit_big hv (by omega)]; simp [h]
theorem sumB_succ_t {f : Nat → Bool} {n : Nat} (h : f n = true) : sumB f (n + 1) = sumB f n + 2 ^ n := by rw [sumB, h]; rfl
theorem sumB_succ_f {f : Nat → Bool} {n : Nat} (h : f n = false) : sumB f (n + 1) = sumB f n := by rw [sumB, h]; rfl
def withTo (n v k x j : Nat) : Nat := sumB (fun i => if n * k ≤ i ∧ i < n * k + j then x.testBit (i - n * k) else v.testBit i) 64
theorem withTo_all (n v k x : Nat) : withTo n v k x n = withN n v k x := rfl
theorem withTo_zero (n k x : Nat) {v : Nat} (hv : v < 18446744073709551616) : withTo n v k x 0 = v := by
 refine sumB_eq (fun i _ => ?_) hv
 rw [if_neg (by omega)]
theorem withTo_bit (n v k x j i : Nat) : (withTo n v k x j).testBit i = (decide (i < 64) && (if n * k ≤ i ∧ i < n * k + j then x.testBit (i - n * k) else v.testBit i)) := by rw [withTo, sumB_bit]
theorem withTo_lt (n v k x j : Nat) : withTo n v k x j < 18446744073709551616 := sumB_lt _ 64
theorem sumB_put (f g : Nat → Bool) (a : Nat) : ∀ n, (∀ i, i ≠ a → g i = f i) → a < n → sumB g n + (if f a then 2 ^ a else 0) = sumB f n + (if g a then 2 ^ a else 0)
 | 0, _, h => by omega
 | n + 1, h, ha => by
  by_cases e : a = n
  ·subst e
   rw [sumB, sumB, sumB_congr a (fun i hi => h i (by omega))]
   omega
  ·have ih := sumB_put f g a n h (by omega)
   rw [sumB, sumB, h n (fun x => e x.symm)]
   omega
theorem withTo_step (n v k x j : Nat) (hj : n * k + j < 64) : withTo n v k x (j + 1) + (if v.testBit (n * k + j) then 2 ^ (n * k + j) else 0) = withTo n v k x j + (if x.testBit j then 2 ^ (n * k + j) else 0) := by
 have h1 := sumB_put (fun i => if n * k ≤ i ∧ i < n * k + j then x.testBit (i - n * k) else v.testBit i) (fun i => if n * k ≤ i ∧ i < n * k + (j + 1) then x.testBit (i - n * k) else v.testBit i) (n * k + j) 64 (fun i hi => by
  by_cases h2 : n * k ≤ i
  ·by_cases h3 : i < n * k + j
   ·simp [h2, h3, show i < n * k + (j + 1) by omega]
   ·simp [h2, h3, show ¬ i < n * k + (j + 1) by omega]
  ·simp [h2]) hj
 have e1 : ¬ (n * k ≤ n * k + j ∧ n * k + j < n * k + j) := by omega
 have e2 : n * k ≤ n * k + j ∧ n * k + j < n * k + (j + 1) := by omega
 simp only [e2, Nat.add_sub_cancel_left] at h1
 simpa [withTo] using h1
theorem withTo_over (n v k x j : Nat) (hj : 64 ≤ n * k + j) : withTo n v k x (j + 1) = withTo n v k x j :=
 sumB_congr 64 (fun i hi => by
  by_cases h2 : n * k ≤ i
  ·simp [h2, show i < n * k + (j + 1) by omega, show i < n * k + j by omega]
  ·simp [h2])
theorem withTo_at (n v k x j : Nat) (hj : n * k + j < 64) : (withTo n v k x j).testBit (n * k + j) = v.testBit (n * k + j) := by
 rw [withTo_bit, if_neg (by omega)]; simp [hj]
theorem and_one (x i : Nat) (hx : x < 18446744073709551616) : bits .and .u64 ((x : Int) / 2 ^ i) 1 = ((if x.testBit i then 1 else 0 : Nat) : Int) := by
 have e1 : ((x : Int) / 2 ^ i) = ((x / 2 ^ i : Nat) : Int) := by
  rw [Int.natCast_ediv, Int.natCast_pow]; rfl
 rw [e1, show (1 : Int) = ((1 : Nat) : Int) from rfl, u64_and_nat _ _ (Nat.lt_of_le_of_lt (Nat.div_le_self _ _) hx) (by decide)]
 congr 1
 rw [Nat.and_one_is_mod, Nat.testBit_eq_decide_div_mod_eq]
 by_cases h : x / 2 ^ i % 2 = 1
 ·simp [h]
 ·simp [h]; omega
end Go.Proofs.YtieedhdmpabfkaaGreat
namespace Go.Proofs.YtieedhdmpabfkaaGreat
open Go.ChangeShapes Go.WideShapes Go.ChangeAt Go.RowKit
set_option linter.unusedVariables false
theorem ret_bool {b c : Bool} (h : b = c) : Ending.returned (.bool b) = .returned (.bool c) := by rw [h]
theorem ret_int {a b : Int} (h : a = b) : Ending.returned (.int .i64 a) = .returned (.int .i64 b) := by rw [h]
theorem pend_any (x : St) (w : World) : Calls Tryz.prog 135 #[x.v] w fun e w' => e = .returned (.bool x.pend) ∧ Below w.heap.size w w' := by
 obtain ⟨e, l, q, a⟩ := x
 cases e <;> cases q
 all_goals
  go_enter Tryz.func135, Tryz.ntmps135
  go_wp2
  go_ret
  exact ⟨ret_bool (by simp [St.pend]), bal w _⟩
theorem rpend_any (x : St) (w : World) : Calls Tryz.prog 131 #[x.v] w fun e w' => e = .returned (.bool x.pend) ∧ Below w.heap.size w w' := by
 obtain ⟨e, l, q, a⟩ := x
 cases e <;> cases q <;> cases l
 all_goals
  go_enter Tryz.func131, Tryz.ntmps131
  go_wp2
  go_ret
  exact ⟨ret_bool (by simp [St.pend]), bal w _⟩
set_option maxHeartbeats 1000000 in
theorem ready_any (x : St) (w : World) : Calls Tryz.prog 106 #[x.v] w fun e w' => e = .returned (.bool x.ready) ∧ Below w.heap.size w w' := by
 have HP := hi (pend_any x)
 obtain ⟨p, hp⟩ : ∃ p, x.pend = p := ⟨_, rfl⟩
 have hr : x.ready = (p && !x.a) := by rw [← hp]; rfl
 rw [hr]
 rw [hp] at HP
 obtain ⟨e, l, q, a⟩ := x
 clear hr hp
 dsimp only [St.v] at HP ⊢
 cases p
 all_goals
  go_enter Tryz.func106, Tryz.ntmps106
  go_wp2_with (go_at_call 135; ((with_reducible refine (HP.out _).mono ?_); rintro e' w1 ⟨rfl, hb1⟩; obtain ⟨hB, hK⟩ := box_call hb1; obtain ⟨c0, c1, c2, c3⟩ := CB.cells (x := ⟨e, l, q, a⟩) hB; have HK := hi hK; clear hb1 hB hK))
  go_ret
  exact ⟨ret_bool (by simp), HK.out⟩
set_option maxHeartbeats 1000000 in
theorem rready_any (x : St) (w : World) : Calls Tryz.prog 99 #[x.v] w fun e w' => e = .returned (.bool x.ready) ∧ Below w.heap.size w w' := by
 have HP := hi (rpend_any x)
 obtain ⟨p, hp⟩ : ∃ p, x.pend = p := ⟨_, rfl⟩
 have hr : x.ready = (p && !x.a) := by rw [← hp]; rfl
 rw [hr]
 rw [hp] at HP
 obtain ⟨e, l, q, a⟩ := x
 clear hr hp
 dsimp only [St.v] at HP ⊢
 cases p
 all_goals
  go_enter Tryz.func99, Tryz.ntmps99
  go_wp2_with (go_at_call 131; ((with_reducible refine (HP.out _).mono ?_); rintro e' w1 ⟨rfl, hb1⟩; obtain ⟨hB, hK⟩ := box_call hb1; obtain ⟨c0, c1, c2, c3⟩ := CB.cells (x := ⟨e, l, q, a⟩) hB; have HK := hi hK; clear hb1 hB hK))
  go_ret
  exact ⟨ret_bool (by simp), HK.out⟩
end Go.Proofs.YtieedhdmpabfkaaGreat
