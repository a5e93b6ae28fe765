import Derived.Laws.BitsLemmas
import Derived.Laws.Entries
import Derived.Laws.BitsAllLaws
import Derived.Test.YtggeakkofcaklaaGreatRows
import Derived.WalkKit
import Derived.ProofKit
import Derived.BigQuiet
import Derived.BigRegion
import Derived.Deep.QuietTactic
import Derived.Laws.CopyOwn
import Derived.Laws.IdiomCopy
import Derived.OwnWalk
import Derived.Lib.SliceRun
import Derived.Sort.Row
import Derived.RangeFuncRecord
import Derived.Lib.Hide
namespace Go.Proofs.YtggeakkofcaklaaGreat
set_option linter.unusedVariables false
def sumB (f : Nat → Bool) : Nat → Nat
  | 0 => 0
  | n + 1 => sumB f n + if f n then 2 ^ n else 0
theorem sumB_lt (f : Nat → Bool) : ∀ n, sumB f n < 2 ^ n
  | 0 => by simp [sumB]
  | n + 1 => by
    have := sumB_lt f n
    rw [sumB, Nat.pow_succ]
    split <;> omega
theorem sumB_bit (f : Nat → Bool) : ∀ n i, (sumB f n).testBit i = (decide (i < n) && f i)
  | 0, i => by simp [sumB]
  | n + 1, i => by
    have hl := sumB_lt f n
    have ih := sumB_bit f n i
    rw [sumB]
    by_cases hf : f n
    · rw [if_pos hf, Nat.add_comm]
      by_cases hi : i = n
      · subst hi
        rw [Nat.testBit_two_pow_add_eq, ih]; simp [hf]
      · by_cases hlt : i < n
        · rw [Nat.testBit_two_pow_add_gt hlt, ih]
          simp [hlt, Nat.lt_succ_of_lt hlt]
        · rw [Nat.testBit_lt_two_pow]
          · simp; omega
          · have : 2 ^ (n + 1) ≤ 2 ^ i := Nat.pow_le_pow_right (by decide) (by omega)
            rw [Nat.pow_succ] at this; omega
    · rw [if_neg hf, Nat.add_zero, ih]
      by_cases hi : i = n
      · subst hi; simp [hf]
      · have : i < n + 1 ↔ i < n := by omega
        simp [this]
theorem sumB_eq {x n : Nat} {f : Nat → Bool} (h : ∀ i, i < n → x.testBit i = f i) (hx : x < 2 ^ n) : sumB f n = x := by
  apply Nat.eq_of_testBit_eq
  intro i
  rw [sumB_bit]
  by_cases hi : i < n
  · simp [hi, h i hi]
  · have : x < 2 ^ i := Nat.lt_of_lt_of_le hx (Nat.pow_le_pow_right (by decide) (by omega))
    simp [hi, Nat.testBit_lt_two_pow this]
theorem sumB_congr {f g : Nat → Bool} : ∀ n, (∀ i, i < n → f i = g i) → sumB f n = sumB g n
  | 0, _ => rfl
  | n + 1, h => by rw [sumB, sumB, sumB_congr n (fun i hi => h i (by omega)), h n (by omega)]
def bt (p : Int) (k : Nat) : Bool := decide (p / 2 ^ k % 2 = 1)
def low8 (p : Int) : Nat := (p % 256).toNat
theorem ofInt_low (p : Int) : (BitVec.ofInt 64 p).toNat % 256 = low8 p := by
  rw [BitVec.toNat_ofInt]; unfold low8; omega
theorem land_low {x m : Nat} (hm : m < 256) : x &&& m = x % 256 &&& m := by
  apply Nat.eq_of_testBit_eq
  intro i
  rw [Nat.testBit_and, Nat.testBit_and, show (256 : Nat) = 2 ^ 8 from rfl, Nat.testBit_mod_two_pow]
  by_cases hi : i < 8
  · simp [hi]
  · have : m < 2 ^ i := Nat.lt_of_lt_of_le hm (show 2 ^ 8 ≤ 2 ^ i from Nat.pow_le_pow_right (by decide) (by omega))
    simp [Nat.testBit_lt_two_pow this]
theorem and_low (p : Int) (m : Nat) (hm : m < 256) : bits .and .i64 p (m : Int) = ((low8 p &&& m : Nat) : Int) := by
  show IntKind.i64.wrap ((BitVec.ofInt 64 p &&& BitVec.ofInt 64 (m : Int)).toNat : Int) = _
  have e : (BitVec.ofInt 64 p &&& BitVec.ofInt 64 (m : Int)).toNat = low8 p &&& m := by
    rw [BitVec.toNat_and, BitVec.ofInt_natCast, BitVec.toNat_ofNat, Nat.mod_eq_of_lt (show m < 2 ^ 64 by omega), ← ofInt_low p, land_low hm]
  have : low8 p &&& m < 256 := Nat.and_lt_two_pow (n := 8) _ (by omega)
  rw [e, IntKind.wrap_i64]
  omega
theorem low8_nat (m : Nat) (hm : m < 256) : low8 (m : Int) = m := by unfold low8; omega
end Go.Proofs.YtggeakkofcaklaaGreat
namespace Go.Proofs.YtggeakkofcaklaaGreat
set_option linter.unusedVariables false
def wideN (r : Int) : Nat := if r = 11 then 8 else if r = 12 then 2 else if r = 13 then 63 else 1
theorem wide_pos (r : Int) : 1 ≤ wideN r ∧ wideN r ≤ 63 := by
  unfold wideN
  split
  · omega
  · split
    · omega
    · split <;> omega
def maskN (n m : Nat) : Nat := (2 ^ n - 1) * 2 ^ m % 2 ^ 64
theorem maskN_lt (n m : Nat) : maskN n m < 18446744073709551616 := Nat.mod_lt _ (by decide)
theorem mask_bit (n m i : Nat) : (maskN n m).testBit i = (decide (i < 64) && (decide (m ≤ i) && decide (i - m < n))) := by
  rw [maskN, Nat.testBit_mod_two_pow, Nat.testBit_mul_two_pow, Nat.testBit_two_pow_sub_one]
def fieldN (n v k : Nat) : Nat := sumB (fun i => v.testBit (n * k + i)) n
def withN (n v k x : Nat) : Nat := sumB (fun i => if n * k ≤ i ∧ i < n * k + n then x.testBit (i - n * k) else v.testBit i) 64
theorem fieldN_lt (n v k : Nat) : fieldN n v k < 2 ^ n := sumB_lt _ _
theorem fieldN_lt63 {n : Nat} (h : n ≤ 63) (v k : Nat) : fieldN n v k < 9223372036854775808 := Nat.lt_of_lt_of_le (fieldN_lt n v k) (Nat.pow_le_pow_right (n := 2) (by decide) h)
theorem withN_lt (n v k x : Nat) : withN n v k x < 18446744073709551616 := sumB_lt _ 64
theorem bit_big {v : Nat} (h : v < 18446744073709551616) {i : Nat} (hi : 64 ≤ i) : v.testBit i = false :=
  Nat.testBit_lt_two_pow (Nat.lt_of_lt_of_le h (show 2 ^ 64 ≤ 2 ^ i from Nat.pow_le_pow_right (by decide) hi))
theorem field_eq (n v k : Nat) (hv : v < 18446744073709551616) : (v &&& maskN n (k * n)) / 2 ^ (k * n) = fieldN n v k := by
  apply Nat.eq_of_testBit_eq
  intro i
  rw [Nat.testBit_div_two_pow, Nat.testBit_and, mask_bit, fieldN, sumB_bit, Nat.mul_comm n k, Nat.add_comm i, Nat.add_sub_cancel_left]
  by_cases h : k * n + i < 64
  · by_cases h2 : i < n <;> simp [h, h2]
  · rw [bit_big hv (by omega)]; simp
theorem with_eq (n v k x : Nat) (hv : v < 18446744073709551616) : (v &&& (18446744073709551615 - maskN n (k * n))) ||| (x * 2 ^ (k * n) % 18446744073709551616 &&& maskN n (k * n)) = withN n v k x := by
  apply Nat.eq_of_testBit_eq
  intro i
  have e : 18446744073709551615 - maskN n (k * n) = 2 ^ 64 - (maskN n (k * n) + 1) := by omega
  rw [e, Nat.testBit_or, Nat.testBit_and, Nat.testBit_two_pow_sub_succ (maskN_lt _ _), Nat.testBit_and, show (18446744073709551616 : Nat) = 2 ^ 64 from rfl, Nat.testBit_mod_two_pow, Nat.testBit_mul_two_pow, mask_bit, withN, sumB_bit, Nat.mul_comm n k]
  by_cases h : i < 64
  · by_cases h1 : k * n ≤ i
    · by_cases h2 : i - k * n < n
      · have h3 : i < k * n + n := by omega
        simp [h, h1, h2, h3]
      · have h3 : ¬ i < k * n + n := by omega
        simp [h, h1, h2, h3]
    · simp [h, h1]
  · rw [bit_big hv (by omega)]; simp [h]
def withTo (n v k x j : Nat) : Nat := sumB (fun i => if n * k ≤ i ∧ i < n * k + j then x.testBit (i - n * k) else v.testBit i) 64
theorem withTo_all (n v k x : Nat) : withTo n v k x n = withN n v k x := rfl
theorem withTo_zero (n k x : Nat) {v : Nat} (hv : v < 18446744073709551616) : withTo n v k x 0 = v := by
  refine sumB_eq (fun i _ => ?_) hv
  rw [if_neg (by omega)]
theorem withTo_bit (n v k x j i : Nat) : (withTo n v k x j).testBit i = (decide (i < 64) && (if n * k ≤ i ∧ i < n * k + j then x.testBit (i - n * k) else v.testBit i)) := by rw [withTo, sumB_bit]
theorem withTo_lt (n v k x j : Nat) : withTo n v k x j < 18446744073709551616 := sumB_lt _ 64
theorem sumB_put (f g : Nat → Bool) (a : Nat) : ∀ n, (∀ i, i ≠ a → g i = f i) → a < n → sumB g n + (if f a then 2 ^ a else 0) = sumB f n + (if g a then 2 ^ a else 0)
  | 0, _, h => by omega
  | n + 1, h, ha => by
    by_cases e : a = n
    · subst e
      rw [sumB, sumB, sumB_congr a (fun i hi => h i (by omega))]
      omega
    · have ih := sumB_put f g a n h (by omega)
      rw [sumB, sumB, h n (fun x => e x.symm)]
      omega
theorem withTo_step (n v k x j : Nat) (hj : n * k + j < 64) : withTo n v k x (j + 1) + (if v.testBit (n * k + j) then 2 ^ (n * k + j) else 0) = withTo n v k x j + (if x.testBit j then 2 ^ (n * k + j) else 0) := by
  have h1 := sumB_put (fun i => if n * k ≤ i ∧ i < n * k + j then x.testBit (i - n * k) else v.testBit i) (fun i => if n * k ≤ i ∧ i < n * k + (j + 1) then x.testBit (i - n * k) else v.testBit i) (n * k + j) 64 (fun i hi => by
    by_cases h2 : n * k ≤ i
    · by_cases h3 : i < n * k + j
      · simp [h2, h3, show i < n * k + (j + 1) by omega]
      · simp [h2, h3, show ¬ i < n * k + (j + 1) by omega]
    · simp [h2]) hj
  have e1 : ¬ (n * k ≤ n * k + j ∧ n * k + j < n * k + j) := by omega
  have e2 : n * k ≤ n * k + j ∧ n * k + j < n * k + (j + 1) := by omega
  simp only [e2, Nat.add_sub_cancel_left] at h1
  simpa [withTo] using h1
theorem withTo_over (n v k x j : Nat) (hj : 64 ≤ n * k + j) : withTo n v k x (j + 1) = withTo n v k x j :=
  sumB_congr 64 (fun i hi => by
    by_cases h2 : n * k ≤ i
    · simp [h2, show i < n * k + (j + 1) by omega, show i < n * k + j by omega]
    · simp [h2])
theorem withTo_at (n v k x j : Nat) (hj : n * k + j < 64) : (withTo n v k x j).testBit (n * k + j) = v.testBit (n * k + j) := by
  rw [withTo_bit, if_neg (by omega)]; simp [hj]
theorem and_one (x i : Nat) (hx : x < 18446744073709551616) : bits .and .u64 ((x : Int) / 2 ^ i) 1 = ((if x.testBit i then 1 else 0 : Nat) : Int) := by
  have e1 : ((x : Int) / 2 ^ i) = ((x / 2 ^ i : Nat) : Int) := by
    rw [Int.natCast_ediv, Int.natCast_pow]; rfl
  rw [e1, show (1 : Int) = ((1 : Nat) : Int) from rfl, u64_and_nat _ _ (Nat.lt_of_le_of_lt (Nat.div_le_self _ _) hx) (by decide)]
  congr 1
  rw [Nat.and_one_is_mod, Nat.testBit_eq_decide_div_mod_eq]
  by_cases h : x / 2 ^ i % 2 = 1
  · simp [h]
  · simp [h]; omega
end Go.Proofs.YtggeakkofcaklaaGreat
namespace Go.Proofs.YtggeakkofcaklaaGreat
structure Hi (p : Prop) : Prop where
  out : p
theorem hi {p : Prop} (h : p) : Hi p := ⟨h⟩
end Go.Proofs.YtggeakkofcaklaaGreat
namespace Go.Proofs.YtggeakkofcaklaaGreat
open Go.ChangeShapes Go.WideShapes Go.ChangeAt Go.RowKit
set_option linter.unusedVariables false
theorem Below.grew {W W' : World} (h : Below W.heap.size W W') : W.grownBy W' none := ⟨h.os, h.tape, h.output, h.size, fun k hk _ => h.block k hk⟩
structure Kept (bs : Nat → Prop) (A W : World) : Prop where
  os : W.os = A.os
  tape : W.tape = A.tape
  output : W.output = A.output
  size : A.heap.size ≤ W.heap.size
  block : ∀ k, k < A.heap.size → ¬ bs k → W.heap[k]? = A.heap[k]?
theorem Kept.refl (bs : Nat → Prop) (A : World) : Kept bs A A := ⟨rfl, rfl, rfl, Nat.le_refl _, fun _ _ _ => rfl⟩
theorem Kept.trans {bs : Nat → Prop} {A B C : World} (h : Kept bs A B) (k : Kept bs B C) : Kept bs A C :=
  ⟨k.os.trans h.os, k.tape.trans h.tape, k.output.trans h.output, Nat.le_trans h.size k.size, fun i hi hn => (k.block i (Nat.lt_of_lt_of_le hi h.size) hn).trans (h.block i hi hn)⟩
theorem Kept.mono {bs cs : Nat → Prop} {A B : World} (h : Kept bs A B) (hs : ∀ k, bs k → cs k) : Kept cs A B :=
  ⟨h.os, h.tape, h.output, h.size, fun i hi hn => h.block i hi (fun x => hn (hs i x))⟩
theorem Kept.mono' {bs cs : Nat → Prop} {A B : World} (h : Kept bs A B) (hs : ∀ k, k < A.heap.size → bs k → cs k) : Kept cs A B :=
  ⟨h.os, h.tape, h.output, h.size, fun i hi hn => h.block i hi (fun x => hn (hs i hi x))⟩
theorem Kept.of {bs : Nat → Prop} {A B : World} (k : Below A.heap.size A B) : Kept bs A B := ⟨k.os, k.tape, k.output, k.size, fun i hi _ => k.block i hi⟩
theorem Kept.below {bs : Nat → Prop} {A B C : World} (h : Kept bs A B) (k : Below B.heap.size B C) : Kept bs A C := h.trans (Kept.of k)
theorem Kept.toBelow {bs : Nat → Prop} {A B : World} (h : Kept bs A B) {n : Nat} (hn : n ≤ A.heap.size) (hb : ∀ k, bs k → n ≤ k) : Below n A B :=
  ⟨h.os, h.tape, h.output, h.size, fun k hk => h.block k (by omega) (fun x => by have := hb k x; omega)⟩
theorem Kept.none {A B : World} (h : Kept (fun _ => False) A B) : Below A.heap.size A B := h.toBelow (Nat.le_refl _) (fun _ x => x.elim)
theorem bal (w : World) (o : Obj) : Below w.heap.size w (w.alloc o) := (Below.refl _ _).alloc (Nat.le_refl _) o
theorem Below.drewN {n m : Nat} {A B : World} (h : Below n A B) : Below n A (B.drewN m) := ⟨h.os, h.tape, h.output, h.size, h.block⟩
structure St where
  e : Bool
  l : Bool
  h : Bool
  a : Bool
deriving DecidableEq, Inhabited
abbrev St.v (x : St) : Value := .agg #[.bool x.e, .bool x.l, .bool x.h, .bool x.a]
abbrev St.cs (x : St) : Array Value := #[.bool x.e, .bool x.l, .bool x.h, .bool x.a]
def St.zero : St := ⟨false, false, false, false⟩
def St.pend (x : St) : Bool := x.h || (!x.e && x.l)
def St.ready (x : St) : Bool := x.pend && !x.a
def St.step (x : St) (k : Int) : St :=
  if k = 1 then ⟨x.e, true, x.h || (x.e && !x.l), x.a⟩
  else if k = 2 then ⟨x.e, false, x.h, x.a⟩
  else if k = 3 then ⟨x.e, x.l, true, x.a⟩
  else if k = 4 then ⟨x.e, x.l, false, x.a⟩
  else if k = 5 then (if x.ready then ⟨x.e, x.l, false, true⟩ else x)
  else if k = 6 then ⟨x.e, x.l, x.h, false⟩
  else if k = 7 then ⟨x.e, x.l, x.h, true⟩
  else if k = 8 then ⟨true, x.l, x.h, x.a⟩
  else if k = 9 then ⟨false, x.l, x.h, x.a⟩
  else x
def St.run (x : St) (ks : List Int) : St := ks.foldl St.step x
theorem act_cases (k : Int) : k = 1 ∨ k = 2 ∨ k = 3 ∨ k = 4 ∨ k = 5 ∨ k = 6 ∨ k = 7 ∨ k = 8 ∨ k = 9 ∨ (k ≠ 1 ∧ k ≠ 2 ∧ k ≠ 3 ∧ k ≠ 4 ∧ k ≠ 5 ∧ k ≠ 6 ∧ k ≠ 7 ∧ k ≠ 8 ∧ k ≠ 9) := by omega
theorem step_odd {x : St} {k : Int} (h : k ≠ 1 ∧ k ≠ 2 ∧ k ≠ 3 ∧ k ≠ 4 ∧ k ≠ 5 ∧ k ≠ 6 ∧ k ≠ 7 ∧ k ≠ 8 ∧ k ≠ 9) : x.step k = x := by
  obtain ⟨h1, h2, h3, h4, h5, h6, h7, h8, h9⟩ := h
  simp [St.step, h1, h2, h3, h4, h5, h6, h7, h8, h9]
def CB (W : World) (B : Nat) (t : TypeId) (cs : Array Value) : Prop := W.heap[B]? = some (.cells cs t (0, 0))
theorem CB.lt {W : World} {B : Nat} {t : TypeId} {cs : Array Value} (h : CB W B t cs) : B < W.heap.size := (Array.getElem?_eq_some_iff.1 h).1
theorem CB.cell {W : World} {B : Nat} {t : TypeId} {cs : Array Value} (h : CB W B t cs) (j : Nat) : W.cell? ⟨B, j, none⟩ = cs[j]? := by simp [World.cell?, show W.heap[B]? = _ from h]
theorem CB.frozen {W : World} {B : Nat} {t : TypeId} {cs : Array Value} (h : CB W B t cs) (o : Nat) : W.frozen? ⟨B, o, none⟩ = false := by simp [World.frozen?, show W.heap[B]? = _ from h]
theorem CB.new (W : World) (t : TypeId) (cs : Array Value) : CB (W.alloc (.cells cs t)) W.heap.size t cs := World.alloc_heap_new W _
theorem CB.below {W W' : World} {B : Nat} {t : TypeId} {cs : Array Value} (h : CB W B t cs) (k : Below W.heap.size W W') : CB W' B t cs := (k.block B h.lt).trans h
theorem CB.alloc {W : World} {B : Nat} {t : TypeId} {cs : Array Value} (h : CB W B t cs) (o : Obj) : CB (W.alloc o) B t cs := h.below (bal W o)
theorem CB.set {W : World} {B : Nat} {t : TypeId} {cs : Array Value} (h : CB W B t cs) (o : Nat) (v : Value) : CB (W.setCell ⟨B, o, none⟩ v) B t (cs.setIfInBounds o v) := by
  rw [Go.Sort.setCell_eq]
  show (W.heap.modify B _)[B]? = _
  rw [Array.getElem?_modify, if_pos rfl, show W.heap[B]? = _ from h]
  rfl
theorem CB.other {W : World} {B : Nat} {t : TypeId} {cs : Array Value} (h : CB W B t cs) (b o : Nat) (v : Value) (hne : B ≠ b) : CB (W.setCell ⟨b, o, none⟩ v) B t cs := (Below.heap_setCell W ⟨b, o, none⟩ v B hne).trans h
theorem CB.kept {W W' : World} {B : Nat} {t : TypeId} {cs : Array Value} {row : Option Nat} (h : CB W B t cs) (hg : W.grownBy W' row) (hne : some B ≠ row) : CB W' B t cs := (hg.block B h.lt hne).trans h
theorem CB.drew {W : World} {B : Nat} {t : TypeId} {cs : Array Value} (h : CB W B t cs) : CB W.drew B t cs := h
theorem box_call {w w1 : World} {cs : Array Value} {t : TypeId} (hb : Below (w.alloc (.cells cs t)).heap.size (w.alloc (.cells cs t)) w1) : CB w1 w.heap.size t cs ∧ Below w.heap.size w w1 :=
  ⟨(CB.new w t cs).below hb, (bal w _).trans (hb.mono (by simp))⟩
theorem CB.cells {W : World} {B : Nat} {t : TypeId} {x : St} (h : CB W B t x.cs) : W.cell? ⟨B, 0, none⟩ = some (.bool x.e) ∧ W.cell? ⟨B, 1, none⟩ = some (.bool x.l) ∧ W.cell? ⟨B, 2, none⟩ = some (.bool x.h) ∧ W.cell? ⟨B, 3, none⟩ = some (.bool x.a) :=
  ⟨h.cell 0, h.cell 1, h.cell 2, h.cell 3⟩
end Go.Proofs.YtggeakkofcaklaaGreat
namespace Go.Proofs.YtggeakkofcaklaaGreat
open Go.ChangeShapes Go.WideShapes Go.ChangeAt Go.RowKit
set_option linter.unusedVariables false
theorem ret_bool {b c : Bool} (h : b = c) : Ending.returned (.bool b) = .returned (.bool c) := by rw [h]
theorem ret_int {a b : Int} (h : a = b) : Ending.returned (.int .i64 a) = .returned (.int .i64 b) := by rw [h]
theorem pend_any (x : St) (w : World) : Calls Tryz.prog 135 #[x.v] w fun e w' => e = .returned (.bool x.pend) ∧ Below w.heap.size w w' := by
  obtain ⟨e, l, q, a⟩ := x
  cases e <;> cases q
  all_goals
    go_enter Tryz.func135, Tryz.ntmps135
    go_wp2
    go_ret
    exact ⟨ret_bool (by simp [St.pend]), bal w _⟩
theorem rpend_any (x : St) (w : World) : Calls Tryz.prog 131 #[x.v] w fun e w' => e = .returned (.bool x.pend) ∧ Below w.heap.size w w' := by
  obtain ⟨e, l, q, a⟩ := x
  cases e <;> cases q <;> cases l
  all_goals
    go_enter Tryz.func131, Tryz.ntmps131
    go_wp2
    go_ret
    exact ⟨ret_bool (by simp [St.pend]), bal w _⟩
set_option maxHeartbeats 1000000 in
theorem ready_any (x : St) (w : World) : Calls Tryz.prog 106 #[x.v] w fun e w' => e = .returned (.bool x.ready) ∧ Below w.heap.size w w' := by
  have HP := hi (pend_any x)
  obtain ⟨p, hp⟩ : ∃ p, x.pend = p := ⟨_, rfl⟩
  have hr : x.ready = (p && !x.a) := by rw [← hp]; rfl
  rw [hr]
  rw [hp] at HP
  obtain ⟨e, l, q, a⟩ := x
  clear hr hp
  dsimp only [St.v] at HP ⊢
  cases p
  all_goals
    go_enter Tryz.func106, Tryz.ntmps106
    go_wp2_with (go_at_call 135; ((with_reducible refine (HP.out _).mono ?_); rintro e' w1 ⟨rfl, hb1⟩; obtain ⟨hB, hK⟩ := box_call hb1; obtain ⟨c0, c1, c2, c3⟩ := CB.cells (x := ⟨e, l, q, a⟩) hB; have HK := hi hK; clear hb1 hB hK))
    go_ret
    exact ⟨ret_bool (by simp), HK.out⟩
set_option maxHeartbeats 1000000 in
theorem rready_any (x : St) (w : World) : Calls Tryz.prog 99 #[x.v] w fun e w' => e = .returned (.bool x.ready) ∧ Below w.heap.size w w' := by
  have HP := hi (rpend_any x)
  obtain ⟨p, hp⟩ : ∃ p, x.pend = p := ⟨_, rfl⟩
  have hr : x.ready = (p && !x.a) := by rw [← hp]; rfl
  rw [hr]
  rw [hp] at HP
  obtain ⟨e, l, q, a⟩ := x
  clear hr hp
  dsimp only [St.v] at HP ⊢
  cases p
  all_goals
    go_enter Tryz.func99, Tryz.ntmps99
    go_wp2_with (go_at_call 131; ((with_reducible refine (HP.out _).mono ?_); rintro e' w1 ⟨rfl, hb1⟩; obtain ⟨hB, hK⟩ := box_call hb1; obtain ⟨c0, c1, c2, c3⟩ := CB.cells (x := ⟨e, l, q, a⟩) hB; have HK := hi hK; clear hb1 hB hK))
    go_ret
    exact ⟨ret_bool (by simp), HK.out⟩
end Go.Proofs.YtggeakkofcaklaaGreat
namespace Go.Proofs.YtggeakkofcaklaaGreat
open Go.ChangeShapes Go.WideShapes Go.ChangeAt Go.RowKit
set_option linter.unusedVariables false
def realV (p : Int) : Int := ((low8 p &&& 248 : Nat) : Int)
def beforeB (p a q b : Int) : Bool := decide (p < q) || (decide (p = q) && decide (a < b))
theorem real_any (p : Int) (w : World) : Calls Tryz.prog 121 #[.int .i64 p] w fun e w' => e = .returned (.int .i64 (realV p)) ∧ w = w' := by
  go_enter Tryz.func121, Tryz.ntmps121
  go_wp2
  go_ret
  exact ⟨ret_int (and_low p 248 (by decide)), rfl⟩
end Go.Proofs.YtggeakkofcaklaaGreat
namespace Go.Proofs.YtggeakkofcaklaaGreat
open Go.ChangeShapes Go.WideShapes Go.ChangeAt Go.RowKit
set_option linter.unusedVariables false
theorem results_irq {fn : Func} {c : Tmp} (h : fn.results = #[.cell c 31]) (tmps : Array Value) (w : World) (b : Nat) (x : St) (hp : tmps.getD c undef = .pointer (some ⟨b, 0, none⟩)) (hb : CB w b 31 x.cs) :
    (results fn tmps).run Tryz.prog w = .ok x.v w := by
  have hp' : tmps[c]?.getD undef = .pointer (some ⟨b, 0, none⟩) := by simpa using hp
  obtain ⟨c0, c1, c2, c3⟩ := hb.cells
  simp [results, h, go_sem, hp', c0, c1, c2, c3]
theorem cb_second {w : World} {o : Obj} {cs : Array Value} {t : TypeId} : CB ((w.alloc o).alloc (.cells cs t)) (w.heap.size + 1) t cs := by
  have := CB.new (w.alloc o) t cs
  rwa [World.size_alloc] at this
theorem bal_two (w : World) (o o' : Obj) : Below w.heap.size w ((w.alloc o).alloc o') := (bal w o).alloc (by simp) o'
theorem ret_st {x y : St} (h : x = y) : Ending.returned x.v = .returned y.v := by rw [h]
theorem box_call2 {w w1 : World} {cs ds : Array Value} {t u : TypeId} (hb : Below ((w.alloc (.cells cs t)).alloc (.cells ds u)).heap.size ((w.alloc (.cells cs t)).alloc (.cells ds u)) w1) :
    CB w1 w.heap.size t cs ∧ CB w1 (w.heap.size + 1) u ds ∧ Below w.heap.size w w1 :=
  ⟨((CB.new w t cs).alloc _).below hb, cb_second.below hb, (bal_two w _ _).trans (hb.mono (by simp; omega))⟩
theorem below_set {n : Nat} {w W : World} (h : Below n w W) {b o : Nat} (hb : n ≤ b) (v : Value) : Below n w (W.setCell ⟨b, o, none⟩ v) := h.setCell (p := ⟨b, o, none⟩) hb v
theorem CB.set4 {W : World} {B : Nat} {t : TypeId} {z : St} (h : CB W B t z.cs) (x : St) : CB ((((W.setCell ⟨B, 0, none⟩ (.bool x.e)).setCell ⟨B, 1, none⟩ (.bool x.l)).setCell ⟨B, 2, none⟩ (.bool x.h)).setCell ⟨B, 3, none⟩ (.bool x.a)) B t x.cs :=
  (((h.set 0 _).set 1 _).set 2 _).set 3 _
theorem below_set4 {n : Nat} {w W : World} (h : Below n w W) {b : Nat} (hb : n ≤ b) (x : St) : Below n w ((((W.setCell ⟨b, 0, none⟩ (.bool x.e)).setCell ⟨b, 1, none⟩ (.bool x.l)).setCell ⟨b, 2, none⟩ (.bool x.h)).setCell ⟨b, 3, none⟩ (.bool x.a)) :=
  below_set (below_set (below_set (below_set h hb _) hb _) hb _) hb _
set_option maxHeartbeats 2000000 in
theorem step_five (x : St) (w : World) : Calls Tryz.prog 82 #[x.v, .int .i64 5] w fun e w' => e = .returned (x.step 5).v ∧ Below w.heap.size w w' := by
  have HP := hi (ready_any x)
  obtain ⟨p, hp⟩ : ∃ p, x.ready = p := ⟨_, rfl⟩
  have hr : x.step 5 = if p then ⟨x.e, x.l, false, true⟩ else x := by rw [← hp]; rfl
  rw [hr]
  rw [hp] at HP
  obtain ⟨e, l, q, a⟩ := x
  clear hr hp
  dsimp only [St.v] at HP ⊢
  cases p
  all_goals
    go_enter Tryz.func82, Tryz.ntmps82
    go_wp2_with (go_at_call 106; ((with_reducible refine (HP.out _).mono ?_); rintro e' w1 ⟨rfl, hb1⟩; obtain ⟨hB, hB2, hK⟩ := box_call2 hb1; obtain ⟨c0, c1, c2, c3⟩ := CB.cells (x := ⟨e, l, q, a⟩) hB; obtain ⟨d0, d1, d2, d3⟩ := CB.cells (x := St.zero) hB2; have f := hB.frozen; have g := hB2.frozen; have HB := hi hB; have HB2 := hi hB2; have HK := hi hK; clear hb1 hB hB2 hK))
  · exact bodyPost_ret (results_irq rfl _ _ (w.heap.size + 1) ⟨_, _, _, _⟩ rfl (CB.set4 (z := St.zero) HB2.out ⟨e, l, q, a⟩)) rfl ⟨rfl, below_set4 HK.out (by omega) ⟨e, l, q, a⟩⟩
  · exact bodyPost_ret (results_irq rfl _ _ (w.heap.size + 1) ⟨_, _, _, _⟩ rfl (CB.set4 (z := St.zero) ((HB2.out.other _ _ _ (by omega)).other _ _ _ (by omega)) ⟨e, l, false, true⟩)) rfl ⟨rfl, below_set4 (below_set (below_set HK.out (by omega) _) (by omega) _) (by omega) ⟨e, l, false, true⟩⟩
set_option maxHeartbeats 2000000 in
theorem step_any (x : St) (k : Int) (w : World) : Calls Tryz.prog 82 #[x.v, .int .i64 k] w fun e w' => e = .returned (x.step k).v ∧ Below w.heap.size w w' := by
  rcases act_cases k with rfl | rfl | rfl | rfl | rfl | rfl | rfl | rfl | rfl | hk
  case inr.inr.inr.inr.inl => exact step_five x w
  case inl =>
    obtain ⟨e, l, q, a⟩ := x
    cases e <;> cases q
    all_goals
      go_enter Tryz.func82, Tryz.ntmps82
      go_wp2
      refine bodyPost_ret (results_irq rfl _ _ (w.heap.size + 1) ⟨_, _, _, _⟩ rfl cb_second) rfl ⟨ret_st (by cases l <;> rfl), bal_two _ _ _⟩
  case inr.inr.inr.inr.inr.inr.inr.inr.inr =>
    rw [step_odd hk]
    obtain ⟨h1, h2, h3, h4, h5, h6, h7, h8, h9⟩ := hk
    obtain ⟨e, l, q, a⟩ := x
    have q1 : (k == 1) = false := by simpa using h1
    have q2 : (k == 2) = false := by simpa using h2
    have q3 : (k == 3) = false := by simpa using h3
    have q4 : (k == 4) = false := by simpa using h4
    have q5 : (k == 5) = false := by simpa using h5
    have q6 : (k == 6) = false := by simpa using h6
    have q7 : (k == 7) = false := by simpa using h7
    have q8 : (k == 8) = false := by simpa using h8
    have q9 : (k == 9) = false := by simpa using h9
    clear h1 h2 h3 h4 h5 h6 h7 h8 h9
    go_enter Tryz.func82, Tryz.ntmps82
    go_wp2
    refine bodyPost_ret (results_irq rfl _ _ (w.heap.size + 1) ⟨_, _, _, _⟩ rfl cb_second) rfl ⟨rfl, bal_two _ _ _⟩
  all_goals
    obtain ⟨e, l, q, a⟩ := x
    go_enter Tryz.func82, Tryz.ntmps82
    go_wp2
    refine bodyPost_ret (results_irq rfl _ _ (w.heap.size + 1) ⟨_, _, _, _⟩ rfl cb_second) rfl ⟨rfl, bal_two _ _ _⟩
end Go.Proofs.YtggeakkofcaklaaGreat
