/-
  Entries of eight bytes, plain: numbers, fields, devices, routes.
-/
import Derived.Test.YtjcjblmaceooaaaMjB
namespace Go.Proofs.Ytjcjblmaceooaaa
open Go.ChangeShapes Go.WideShapes Go.ChangeAt Go.RowKit
set_option linter.unusedVariables false
set_option linter.unusedSimpArgs false

abbrev i64B (x : Int) : Prop := -9223372036854775808 ≤ x ∧ x ≤ 9223372036854775807
/-- The number of the eight bytes from o on. -/
def w8 (bs : List Nat) (o : Nat) : Nat := num (sub bs o 8)
/-- The bytes behind a store of v at o. -/
def s8 (bs : List Nat) (o v : Nat) : List Nat := splice bs o (le 8 v)
theorem w8_lt {bs : List Nat} {o : Nat} (h : ∀ x ∈ bs, x < 256) : w8 bs o < 18446744073709551616 := by
  have h1 := num_lt (sub bs o 8) (sub_mem h)
  have h2 : (sub bs o 8).length ≤ 8 := by simp [sub]; omega
  have h3 : 256 ^ (sub bs o 8).length ≤ 256 ^ 8 := Nat.pow_le_pow_right (by omega) h2
  have h4 : (256 : Nat) ^ 8 = 18446744073709551616 := by decide
  unfold w8
  omega
theorem s8_len {bs : List Nat} {o v : Nat} (h : o + 8 ≤ bs.length) : (s8 bs o v).length = bs.length := splice_len _ _ _ (by rw [le_len]; exact h)
theorem w8_same {bs : List Nat} {o v : Nat} (h : o + 8 ≤ bs.length) (hv : v < 18446744073709551616) : w8 (s8 bs o v) o = v := by
  have e := num_all bs o 8 v h
  rw [show (256 : Nat) ^ 8 = 18446744073709551616 by decide, Nat.mod_eq_of_lt hv] at e
  exact e
theorem splice_far (bs cs : List Nat) (o k : Nat) (h : o + cs.length ≤ bs.length) (hk : k < o ∨ o + cs.length ≤ k) : (splice bs o cs)[k]? = bs[k]? := by
  have h1 : (bs.take o).length = o := by simp; omega
  simp only [splice]
  rcases hk with hk | hk
  · rw [List.getElem?_append_left (by omega), List.getElem?_take_of_lt hk]
  · rw [List.getElem?_append_right (by omega), h1, List.getElem?_append_right (by omega), List.getElem?_drop]
    congr 1
    omega
theorem w8_other {bs : List Nat} {o v q : Nat} (h : o + 8 ≤ bs.length) (hq : q + 8 ≤ o ∨ o + 8 ≤ q) : w8 (s8 bs o v) q = w8 bs q := by
  unfold w8
  congr 1
  apply List.ext_getElem?
  intro i
  by_cases hi : i < 8
  · rw [sub_get hi, sub_get hi]
    exact splice_far _ _ _ _ (by rw [le_len]; exact h) (by rw [le_len]; omega)
  · rw [List.getElem?_eq_none (by simp [sub]; omega), List.getElem?_eq_none (by simp [sub]; omega)]
theorem s8_mem {bs : List Nat} {o v : Nat} (h : ∀ x ∈ bs, x < 256) : ∀ x ∈ s8 bs o v, x < 256 := splice_mem h (le_mem 8 v)

/-- Does entry k of a window exist? -/
def nthB (n : Nat) (a s k : Int) : Bool := decide (0 ≤ k ∧ k < 131072) && (holdsB n a s && decide (8 * k + 8 ≤ s))
theorem nthB_out {n : Nat} {a s k : Int} (h : nthB n a s k = true) : ∃ A S K : Nat, a = A ∧ s = S ∧ k = K ∧ A + S ≤ n ∧ 8 * K + 8 ≤ S ∧ K < 131072 := by
  simp only [nthB, Bool.and_eq_true, decide_eq_true_eq] at h
  obtain ⟨h1, h2, h3⟩ := h
  obtain ⟨A, S, rfl, rfl, hA⟩ := holdsB_out h2
  exact ⟨A, S, k.toNat, rfl, rfl, by omega, hA, by omega, by omega⟩
/-- Where it stands. -/
def nthP (n : Nat) (a s k : Int) : Option Nat := if nthB n a s k = true then some (a + 8 * k).toNat else none
theorem nthP_some {n : Nat} {a s k : Int} {P : Nat} (h : nthP n a s k = some P) : nthB n a s k = true ∧ (P : Int) = a + 8 * k ∧ P + 8 ≤ n := by
  unfold nthP at h
  split at h
  · rename_i hb
    obtain ⟨A, S, K, rfl, rfl, rfl, h1, h2, h3⟩ := nthB_out hb
    simp only [Option.some.injEq] at h
    subst h
    exact ⟨hb, by omega, by omega⟩
  · cases h
theorem nthP_none {n : Nat} {a s k : Int} (h : nthP n a s k = none) : nthB n a s k = false := by
  unfold nthP at h
  split at h
  · cases h
  · rename_i hb; simpa using hb

/-- A device. -/
structure Dv where
  ok : Bool
  bits : Int
  at_ : Int
deriving DecidableEq
@[reducible] def Dv.v (d : Dv) : Value := .agg #[.bool d.ok, .int .i64 d.bits, .int .i64 d.at_]
@[reducible] def Dv.cs (d : Dv) : Array Value := #[.bool d.ok, .int .i64 d.bits, .int .i64 d.at_]
/-- A route. -/
structure Rt where
  num : Int
  coll : Int
  ok : Bool
deriving DecidableEq
@[reducible] def Rt.v (r : Rt) : Value := .agg #[.int .i64 r.num, .int .i64 r.coll, .bool r.ok]
@[reducible] def Rt.cs (r : Rt) : Array Value := #[.int .i64 r.num, .int .i64 r.coll, .bool r.ok]
/-- A table. -/
structure Tb where
  at_ : Int
  size : Int
  page : Int
@[reducible] def Tb.v (t : Tb) : Value := .agg #[.int .i64 t.at_, .int .i64 t.size, .int .i64 t.page]
@[reducible] def Tb.cs (t : Tb) : Array Value := #[.int .i64 t.at_, .int .i64 t.size, .int .i64 t.page]
structure Tb.Fair (t : Tb) : Prop where
  a : i64B t.at_
  s : i64B t.size
  p : i64B t.page
structure Dv.Fair (d : Dv) : Prop where
  b : i64B d.bits
  a : i64B d.at_
structure Rt.Fair (r : Rt) : Prop where
  n : i64B r.num
  c : i64B r.coll

/-- What an entry holds. -/
def devV (v : Nat) : Dv := if 9223372036854775808 ≤ v then ⟨true, (v % 32 : Nat), (256 * (v / 256 % 1099511627776) : Nat)⟩ else ⟨false, 0, 0⟩
def routV (v : Nat) : Rt := if 9223372036854775808 ≤ v then ⟨(v % 4294967296 : Nat), (v / 4294967296 % 65536 : Nat), true⟩ else ⟨0, 0, false⟩
/-- What a device's entry is, and the error. -/
def Dv.fits (d : Dv) : Bool := decide (0 ≤ d.bits ∧ d.bits ≤ 31 ∧ d.at_ % 256 = 0 ∧ 0 ≤ d.at_ ∧ d.at_ ≤ 281474976710400)
def Rt.fits (r : Rt) : Bool := decide (0 ≤ r.num ∧ r.num ≤ 4294967295 ∧ 0 ≤ r.coll ∧ r.coll ≤ 65535)
def Dv.word (d : Dv) : Nat := if d.ok = true ∧ d.fits = true then 9223372036854775808 + d.bits.toNat + d.at_.toNat else 0
def Dv.err (d : Dv) : Int := if d.ok = true ∧ d.fits = false then 1 else 0
def Rt.word (r : Rt) : Nat := if r.ok = true ∧ r.fits = true then 9223372036854775808 + r.num.toNat + 4294967296 * r.coll.toNat else 0
def Rt.err (r : Rt) : Int := if r.ok = true ∧ r.fits = false then 1 else 0
theorem Dv.word_lt (d : Dv) : d.word < 18446744073709551616 := by
  unfold Dv.word
  split
  · rename_i h
    have h2 := h.2
    simp only [Dv.fits, decide_eq_true_eq] at h2
    omega
  · omega
theorem Rt.word_lt (r : Rt) : r.word < 18446744073709551616 := by
  unfold Rt.word
  split
  · rename_i h
    have h2 := h.2
    simp only [Rt.fits, decide_eq_true_eq] at h2
    omega
  · omega
/-- A device that is put is told as it is. -/
theorem devV_word (d : Dv) (h : d.err = 0) : devV d.word = if d.ok = true then d else ⟨false, 0, 0⟩ := by
  obtain ⟨o, b, a⟩ := d
  cases o
  · rfl
  · have hf : Dv.fits ⟨true, b, a⟩ = true := by
      cases hf : Dv.fits ⟨true, b, a⟩
      · rw [Dv.err, if_pos ⟨rfl, hf⟩] at h; cases h
      · rfl
    rw [Dv.word, if_pos ⟨rfl, hf⟩]
    simp only [Dv.fits, decide_eq_true_eq] at hf
    obtain ⟨B, rfl⟩ : ∃ B : Nat, b = B := ⟨b.toNat, by omega⟩
    obtain ⟨A, rfl⟩ : ∃ A : Nat, a = ((256 * A : Nat) : Int) := ⟨(a / 256).toNat, by omega⟩
    simp only [Int.toNat_natCast, if_true]
    rw [devV, if_pos (by omega)]
    have e1 : (9223372036854775808 + B + 256 * A) % 32 = B := by omega
    have e2 : (9223372036854775808 + B + 256 * A) / 256 % 1099511627776 = A := by omega
    rw [e1, e2]
theorem routV_word (r : Rt) (h : r.err = 0) : routV r.word = if r.ok = true then r else ⟨0, 0, false⟩ := by
  obtain ⟨n, c, o⟩ := r
  cases o
  · rfl
  · have hf : Rt.fits ⟨n, c, true⟩ = true := by
      cases hf : Rt.fits ⟨n, c, true⟩
      · rw [Rt.err, if_pos ⟨rfl, hf⟩] at h; cases h
      · rfl
    rw [Rt.word, if_pos ⟨rfl, hf⟩]
    simp only [Rt.fits, decide_eq_true_eq] at hf
    obtain ⟨N, rfl⟩ : ∃ N : Nat, n = N := ⟨n.toNat, by omega⟩
    obtain ⟨C, rfl⟩ : ∃ C : Nat, c = C := ⟨c.toNat, by omega⟩
    simp only [Int.toNat_natCast, if_true]
    rw [routV, if_pos (by omega)]
    have e1 : (9223372036854775808 + N + 4294967296 * C) % 4294967296 = N := by omega
    have e2 : (9223372036854775808 + N + 4294967296 * C) / 4294967296 % 65536 = C := by omega
    rw [e1, e2]

/-- What is wrong with a table. -/
def rightE (n : Nat) (t : Tb) : Int :=
  if holdsB n t.at_ t.size = true then (if t.page ≠ 0 ∧ (t.page < 8 ∨ 131072 < t.page ∨ bits .and .i64 t.page (t.page - 1) ≠ 0) then 1 else 0) else 42
theorem rightE_holds {n : Nat} {t : Tb} (h : rightE n t = 0) : holdsB n t.at_ t.size = true ∧ (t.page = 0 ∨ (8 ≤ t.page ∧ t.page ≤ 131072)) := by
  unfold rightE at h
  split at h
  · rename_i hh
    refine ⟨hh, ?_⟩
    split at h
    · cases h
    · omega
  · cases h
/-- How many entries a page has. -/
def perN (t : Tb) : Int := t.page.tdiv 8
/-- Where a device's entry stands. -/
def findP (bs : List Nat) (t : Tb) (id : Int) : Option Nat :=
  if t.page = 0 then nthP bs.length t.at_ t.size id
  else if 0 ≤ id ∧ id < 131072 then
    match nthP bs.length t.at_ t.size (id.tdiv (perN t)) with
    | none => none
    | some q => if 9223372036854775808 ≤ w8 bs q then nthP bs.length ((w8 bs q % 4294967296 : Nat) : Int) t.page (id.tmod (perN t)) else none
  else none
theorem findP_le {bs : List Nat} {t : Tb} {id : Int} {P : Nat} (h : findP bs t id = some P) : P + 8 ≤ bs.length := by
  unfold findP at h
  split at h
  · exact (nthP_some h).2.2
  · split at h
    · split at h
      · cases h
      · split at h
        · exact (nthP_some h).2.2
        · cases h
    · cases h
def entE (bs : List Nat) (t : Tb) (id : Int) : Int := if rightE bs.length t = 0 then (if (findP bs t id).isSome = true then 0 else 180) else rightE bs.length t
def entP (bs : List Nat) (t : Tb) (id : Int) : Nat := (findP bs t id).getD 0
theorem entE_zero {bs : List Nat} {t : Tb} {id : Int} (h : entE bs t id = 0) : rightE bs.length t = 0 ∧ findP bs t id = some (entP bs t id) ∧ entP bs t id + 8 ≤ bs.length := by
  unfold entE at h
  split at h
  · rename_i h0
    split at h
    · rename_i h1
      obtain ⟨P, hP⟩ := Option.isSome_iff_exists.1 h1
      have e : entP bs t id = P := by simp [entP, hP]
      rw [e]
      exact ⟨h0, hP, findP_le hP⟩
    · cases h
  · rename_i h0; exact absurd h h0
/-- Get, Put, Lead. -/
def getV (bs : List Nat) (t : Tb) (id : Int) : Dv := if entE bs t id = 0 then devV (w8 bs (entP bs t id)) else ⟨false, 0, 0⟩
def tputE (bs : List Nat) (t : Tb) (id : Int) (d : Dv) : Int := if entE bs t id = 0 then d.err else entE bs t id
def putB (bs : List Nat) (t : Tb) (id : Int) (d : Dv) : List Nat := if tputE bs t id d = 0 then s8 bs (entP bs t id) d.word else bs
theorem tputE_zero {bs : List Nat} {t : Tb} {id : Int} {d : Dv} (h : tputE bs t id d = 0) : entE bs t id = 0 ∧ d.err = 0 := by
  unfold tputE at h
  split at h
  · rename_i h0; exact ⟨h0, h⟩
  · rename_i h0; exact absurd h h0
theorem putB_len {bs : List Nat} {t : Tb} {id : Int} {d : Dv} : (putB bs t id d).length = bs.length := by
  unfold putB
  split
  · rename_i h; exact s8_len (entE_zero (tputE_zero h).1).2.2
  · rfl
def leadP (bs : List Nat) (t : Tb) (id at_ : Int) : Option Nat := if t.page ≠ 0 ∧ (0 ≤ id ∧ id < 131072) ∧ holdsB bs.length at_ t.page = true then nthP bs.length t.at_ t.size (id.tdiv (perN t)) else none
theorem leadP_le {bs : List Nat} {t : Tb} {id at_ : Int} {P : Nat} (h : leadP bs t id at_ = some P) : P + 8 ≤ bs.length := by
  unfold leadP at h
  split at h
  · exact (nthP_some h).2.2
  · cases h
def leadE (bs : List Nat) (t : Tb) (id at_ : Int) : Int := if rightE bs.length t = 0 then (if (leadP bs t id at_).isSome = true then 0 else 180) else rightE bs.length t
def leadB (bs : List Nat) (t : Tb) (id at_ : Int) : List Nat := if leadE bs t id at_ = 0 then s8 bs ((leadP bs t id at_).getD 0) (9223372036854775808 + at_.toNat) else bs
theorem leadB_len {bs : List Nat} {t : Tb} {id at_ : Int} : (leadB bs t id at_).length = bs.length := by
  unfold leadB
  split
  · rename_i h
    unfold leadE at h
    split at h
    · split at h
      · rename_i h1
        obtain ⟨P, hP⟩ := Option.isSome_iff_exists.1 h1
        rw [hP]
        exact s8_len (leadP_le hP)
      · cases h
    · rename_i h0; exact absurd h h0
  · rfl

/-- How many events a device has. -/
def evN (d : Dv) : Nat := 2 ^ ((min (max d.bits 0) 31).toNat + 1)
theorem evN_le (d : Dv) : evN d ≤ 4294967296 := by
  unfold evN
  have : (min (max d.bits 0) 31).toNat + 1 ≤ 32 := by omega
  exact Nat.le_trans (Nat.pow_le_pow_right (by decide) this) (by decide)
/-- Does an event's entry exist, and where? -/
def evE (n : Nat) (d : Dv) (ev : Int) : Int := if d.ok = true ∧ 0 ≤ ev ∧ ev < evN d then (if holdsB n (d.at_ + 8 * ev) 8 = true then 0 else 180) else 182
def evP (d : Dv) (ev : Int) : Nat := (d.at_ + 8 * ev).toNat
theorem evE_zero {n : Nat} {d : Dv} {ev : Int} (h : evE n d ev = 0) : d.ok = true ∧ 0 ≤ ev ∧ ev < evN d ∧ (evP d ev : Int) = d.at_ + 8 * ev ∧ evP d ev + 8 ≤ n := by
  unfold evE at h
  split at h
  · rename_i h1
    split at h
    · rename_i h2
      obtain ⟨A, S, e1, e2, h3⟩ := holdsB_out h2
      unfold evP
      exact ⟨h1.1, h1.2.1, h1.2.2, by omega, by omega⟩
    · cases h
  · cases h
def routR (bs : List Nat) (d : Dv) (ev : Int) : Rt := if evE bs.length d ev = 0 then routV (w8 bs (evP d ev)) else ⟨0, 0, false⟩
def setE (n : Nat) (d : Dv) (ev : Int) (r : Rt) : Int := if evE n d ev = 0 then r.err else evE n d ev
def setB (bs : List Nat) (d : Dv) (ev : Int) (r : Rt) : List Nat := if setE bs.length d ev r = 0 then s8 bs (evP d ev) r.word else bs
theorem setE_zero {n : Nat} {d : Dv} {ev : Int} {r : Rt} (h : setE n d ev r = 0) : evE n d ev = 0 ∧ r.err = 0 := by
  unfold setE at h
  split at h
  · rename_i h0; exact ⟨h0, h⟩
  · rename_i h0; exact absurd h h0
theorem setB_len {bs : List Nat} {d : Dv} {ev : Int} {r : Rt} : (setB bs d ev r).length = bs.length := by
  unfold setB
  split
  · rename_i h; exact s8_len (evE_zero (setE_zero h).1).2.2.2.2
  · rfl

/-- Collections. -/
def tgE (n : Nat) (a s c : Int) : Int := if nthB n a s c = true then 0 else 183
def tgP (a c : Int) : Nat := (a + 8 * c).toNat
theorem tgE_zero {n : Nat} {a s c : Int} (h : tgE n a s c = 0) : nthB n a s c = true ∧ (tgP a c : Int) = a + 8 * c ∧ tgP a c + 8 ≤ n := by
  unfold tgE at h
  split at h
  · rename_i h1
    obtain ⟨A, S, K, rfl, rfl, rfl, h2, h3, h4⟩ := nthB_out h1
    unfold tgP
    exact ⟨h1, by omega, by omega⟩
  · cases h
def tgIs (bs : List Nat) (a s c : Int) : Bool := decide (tgE bs.length a s c = 0 ∧ 9223372036854775808 ≤ w8 bs (tgP a c))
def tgN (bs : List Nat) (a s c : Int) : Nat := if tgIs bs a s c = true then w8 bs (tgP a c) % 65536 else 0
def stgE (n : Nat) (a s c t : Int) : Int := if 0 ≤ c ∧ c < 131072 then (if 0 ≤ t ∧ t ≤ 65535 then tgE n a s c else 1) else 183
def stgW (t : Int) (b : Bool) : Nat := if b then 9223372036854775808 + t.toNat else 0
def stgB (bs : List Nat) (a s c t : Int) (b : Bool) : List Nat := if stgE bs.length a s c t = 0 then s8 bs (tgP a c) (stgW t b) else bs
theorem stgE_zero {n : Nat} {a s c t : Int} (h : stgE n a s c t = 0) : tgE n a s c = 0 ∧ 0 ≤ t ∧ t ≤ 65535 := by
  unfold stgE at h
  split at h
  · split at h
    · rename_i h1; exact ⟨h, h1.1, h1.2⟩
    · cases h
  · cases h
theorem stgW_lt {t : Int} {b : Bool} (h1 : 0 ≤ t) (h : t ≤ 65535) : stgW t b < 18446744073709551616 := by unfold stgW; split <;> omega
theorem stgB_len {bs : List Nat} {a s c t : Int} {b : Bool} : (stgB bs a s c t b).length = bs.length := by
  unfold stgB
  split
  · rename_i h; exact s8_len (tgE_zero (stgE_zero h).1).2.2
  · rfl

/-- '&' with a mask of k ones. -/
theorem i64_and_mask (p : Int) (n : Nat) (hn : n ≤ 40) : bits .and .i64 p ((2 ^ n - 1 : Nat) : Int) = p % ((2 ^ n : Nat) : Int) := by
  show IntKind.i64.wrap ((BitVec.ofInt 64 p &&& BitVec.ofInt 64 ((2 ^ n - 1 : Nat) : Int)).toNat : Int) = _
  have hp : 2 ^ n ≤ 2 ^ 40 := Nat.pow_le_pow_right (n := 2) (by decide) hn
  have h0 : 0 < 2 ^ n := Nat.two_pow_pos n
  have e : (BitVec.ofInt 64 p &&& BitVec.ofInt 64 ((2 ^ n - 1 : Nat) : Int)).toNat = (BitVec.ofInt 64 p).toNat % 2 ^ n := by
    rw [BitVec.toNat_and, BitVec.ofInt_natCast, BitVec.toNat_ofNat, Nat.mod_eq_of_lt (show 2 ^ n - 1 < 2 ^ 64 by omega), Nat.and_two_pow_sub_one_eq_mod]
  rw [e, BitVec.toNat_ofInt, IntKind.wrap_i64]
  have hd : ((2 ^ 64 : Nat) : Int) = ((2 ^ n : Nat) : Int) * ((2 ^ (64 - n) : Nat) : Int) := by
    rw [← Int.natCast_mul, ← Nat.pow_add, show n + (64 - n) = 64 by omega]
  have h1 : ((p % ((2 ^ 64 : Nat) : Int)).toNat : Int) = p % ((2 ^ 64 : Nat) : Int) := Int.toNat_of_nonneg (Int.emod_nonneg _ (by decide))
  have h2 : (((p % ((2 ^ 64 : Nat) : Int)).toNat % 2 ^ n : Nat) : Int) = p % ((2 ^ n : Nat) : Int) := by
    rw [Int.natCast_emod, h1, hd, Int.emod_emod_of_dvd _ (Int.dvd_mul_right _ _)]
  rw [h2]
  have := Int.emod_nonneg p (show ((2 ^ n : Nat) : Int) ≠ 0 by omega)
  have := Int.emod_lt_of_pos p (show 0 < ((2 ^ n : Nat) : Int) by omega)
  omega
/-- Bit 63. -/
theorem and63 (v : Nat) (hv : v < 18446744073709551616) : bits .and .u64 (v : Int) 9223372036854775808 = if 9223372036854775808 ≤ v then 9223372036854775808 else 0 := by
  rw [show (9223372036854775808 : Int) = ((2 ^ 63 : Nat) : Int) by decide, u64_and_nat v (2 ^ 63) hv (by decide), nat_bit]
  split
  · rw [show v / 2 ^ 63 % 2 = 1 by omega]
  · rw [show v / 2 ^ 63 % 2 = 0 by omega]; rfl

end Go.Proofs.Ytjcjblmaceooaaa
