/-
  Package sets: a set in memory (its 256 words), and the contracts of valid, has, flip, Put, Take, Has. No conditions beyond the words' own range.
  math/bits.OnesCount64 at every word, and the set's Len: how many numbers below 16384 are members.
  math/bits.TrailingZeros64 (its table laid) and the row's seek, next, gap: the next number on whose bit is set (not set), or 16384.
  Package sets: Least, Copy, From, All: what a loop over From goes through is laid in a block of its own.
-/
import Derived.Test.YtobhdjepfhbgaaaDoorCards
import Derived.Test.YtobhdjepfhbgaaaDoorTie
import Derived.Test.YtobhdjepfhbgaaaDoorMjC
import Derived.WalkKit
import Derived.ProofKit
import Derived.Lib.Hide
import Derived.BigQuiet
import Derived.BigRegion
import Derived.Deep.QuietTactic
import Derived.Laws.BitsAll
import Derived.Laws.BitsAllLaws
import Derived.Laws.Bits64
import Derived.Laws.Bits128
import Derived.Deep.MidRow
import Derived.IntWalk
import Derived.Lib.TrailingZeros
import Derived.Laws.Bits64b
import Derived.Shelf.Spec.TrailingZeros
import Derived.RangeFuncBox
import Derived.RangeFuncLeaves
import Derived.RangeFuncCalls
import Derived.RangeFuncNested
import Derived.Shelf.Abstract
import Derived.OwnWalkIn
import Derived.TacticsInMore
import Derived.LoopNIn
import Derived.LoopIn
import Derived.Maps.AppendAt
namespace Go.Proofs.YtobhdjepfhbgaaaDoor
open Go.ChangeShapes Go.WideShapes Go.ChangeAt Go.RowKit
set_option linter.unusedVariables false

/-- A set's words. -/
abbrev Words := Nat → Nat
def rowCells (S : Words) : Array Value := ((List.range 256).map fun i => Value.int .u64 (S i)).toArray
/-- Block b holds the words S (T: Set's type, or the row's). -/
def RowAt (T : TypeId) (W : World) (b : Nat) (S : Words) : Prop := W.heap[b]? = some (.cells (rowCells S) T (0, 0)) ∧ ∀ i, S i < 18446744073709551616

theorem rowCells_get (S : Words) (i : Nat) (h : i < 256) : (rowCells S)[i]? = some (.int .u64 (S i)) := by simp [rowCells, h]
theorem rowCells_at (S : Words) (i : Nat) (h : i < 256) {p : i < (rowCells S).size} : (rowCells S)[i] = .int .u64 (S i) := by simp [rowCells]
theorem rowCells_size (S : Words) : (rowCells S).size = 256 := by simp [rowCells]
theorem RowAt.cell {T : TypeId} {W : World} {b : Nat} {S : Words} (h : RowAt T W b S) (i : Nat) (hi : i < 256) : W.cell? ⟨b, i, none⟩ = some (.int .u64 (S i)) := by
  simp [World.cell?, h.1, rowCells_get S i hi]
theorem RowAt.frozen {T : TypeId} {W : World} {b : Nat} {S : Words} (h : RowAt T W b S) (i : Nat) : W.frozen? ⟨b, i, none⟩ = false := by
  simp [World.frozen?, h.1]
theorem RowAt.lt {T : TypeId} {W : World} {b : Nat} {S : Words} (h : RowAt T W b S) : b < W.heap.size := (Array.getElem?_eq_some_iff.1 h.1).1

def memS (S : Words) (m : Nat) : Bool := (S (m / 64)).testBit (m % 64)
def flipS (S : Words) (m : Nat) : Words := fun i => if i = m / 64 then S i ^^^ 2 ^ (m % 64) else S i

set_option maxHeartbeats 400000 in
theorem valid_yes (m : Int) (w : World) (h0 : 0 ≤ m) (h1 : m < 16384) :
    Calls Tryd.prog 79 #[.int .i64 m] w fun e w' => e = .returned (.bool true) ∧ w = w' := by
  go_enter Tryd.func79, Tryd.ntmps79
  go_wp2
  go_ret
  exact ⟨rfl, rfl⟩
set_option maxHeartbeats 400000 in
theorem valid_no (m : Int) (w : World) (h : m < 0 ∨ 16384 ≤ m) :
    Calls Tryd.prog 79 #[.int .i64 m] w fun e w' => e = .returned (.bool false) ∧ w = w' := by
  by_cases h0 : m < 0
  · clear h
    go_enter Tryd.func79, Tryd.ntmps79
    go_wp2
    go_ret
    exact ⟨rfl, rfl⟩
  · have h1 : 16384 ≤ m := by omega
    have h2 : 0 ≤ m := by omega
    clear h h0
    go_enter Tryd.func79, Tryd.ntmps79
    have h3 : decide (m < 16384) = false := by simpa using h1
    go_wp2
    go_ret
    exact ⟨by simp [h3], rfl⟩

theorem bit_and (x k : Nat) (hx : x < 18446744073709551616) : (bits .and .u64 ((x : Int) / 2 ^ k) 1 == 1) = x.testBit k := by
  have e : ((x : Int) / 2 ^ k) = ((x / 2 ^ k : Nat) : Int) := by simp
  rw [e, show (1 : Int) = ((1 : Nat) : Int) from rfl, u64_and_nat _ _ (Nat.lt_of_le_of_lt (Nat.div_le_self _ _) hx) (by omega), nat_mask1, Nat.testBit_eq_decide_div_mod_eq]
  rcases Nat.mod_two_eq_zero_or_one (x / 2 ^ k) with h | h <;> simp [h]

set_option maxHeartbeats 400000 in
theorem has_row (T : TypeId) (b : Nat) (S : Words) (m : Nat) (w : World) (hR : RowAt T w b S) (h1 : m < 16384) :
    Calls Tryd.prog 80 #[.pointer (some ⟨b, 0, none⟩), .int .i64 (m : Int)] w fun e w' => e = .returned (.bool (memS S m)) ∧ w = w' := by
  have hc := hR.cell (m / 64) (by omega)
  have hb := hR.2 (m / 64)
  obtain ⟨x, hx⟩ : ∃ x, S (m / 64) = x := ⟨_, rfl⟩
  rw [hx] at hc hb
  have HX := Lib.hid hx
  clear hx
  have g1 : (m : Int) < 16384 := by omega
  go_enter Tryd.func80, Tryd.ntmps80
  go_wp2
  go_ret
  refine ⟨?_, rfl⟩
  show Ending.returned (Value.bool (bits .and .u64 ((x : Int) / 2 ^ (m % 64)) 1 == 1)) = _
  rw [bit_and x (m % 64) hb, memS, HX.out]

theorem bit_xor (x k : Nat) (hx : x < 18446744073709551616) (hk : k < 64) : bits .xor .u64 (x : Int) (IntKind.u64.wrap (2 ^ k)) = ((x ^^^ 2 ^ k : Nat) : Int) := by
  have h : 2 ^ k < 18446744073709551616 := Nat.pow_lt_pow_right (a := 2) (m := k) (n := 64) (by omega) hk
  have e0 : ((2 : Int) ^ k) = ((2 ^ k : Nat) : Int) := by simp
  rw [e0]
  obtain ⟨y, hy⟩ : ∃ y : Nat, 2 ^ k = y := ⟨_, rfl⟩
  rw [hy] at h ⊢
  have e : IntKind.u64.wrap (y : Int) = y := by rw [IntKind.wrap_u64]; omega
  rw [e, bits_xor_u64_nat _ _ hx h]

theorem flip_cells (S : Words) (m : Nat) (h : m < 16384) : (rowCells S).setIfInBounds (m / 64) (.int .u64 ((S (m / 64) ^^^ 2 ^ (m % 64) : Nat) : Int)) = rowCells (flipS S m) := by
  apply Array.ext
  · rw [Array.size_setIfInBounds, rowCells_size, rowCells_size]
  · intro i h1 h2
    have hi : i < 256 := by rw [rowCells_size] at h2; exact h2
    rw [Array.getElem_setIfInBounds (by rw [rowCells_size]; exact hi), rowCells_at S i hi, rowCells_at (flipS S m) i hi]
    unfold flipS
    by_cases e : m / 64 = i
    · rw [if_pos e, if_pos e.symm, e]
    · rw [if_neg e, if_neg (fun x => e x.symm)]

theorem flip_lt {S : Words} (hS : ∀ i, S i < 18446744073709551616) (m : Nat) : ∀ i, flipS S m i < 18446744073709551616 := fun i => by
  unfold flipS
  split
  · exact Nat.xor_lt_two_pow (n := 64) (hS i) (Nat.pow_lt_pow_right (by omega) (by omega))
  · exact hS i

theorem RowAt.flip {T : TypeId} {W : World} {b : Nat} {S : Words} (h : RowAt T W b S) (m : Nat) (hm : m < 16384) :
    RowAt T (W.setCell ⟨b, m / 64, none⟩ (.int .u64 ((S (m / 64) ^^^ 2 ^ (m % 64) : Nat) : Int))) b (flipS S m) := by
  refine ⟨?_, flip_lt h.2 m⟩
  obtain ⟨hlt, hk⟩ := Array.getElem?_eq_some_iff.1 h.1
  show (W.heap.modify b _)[b]? = _
  rw [Array.getElem?_eq_getElem (by rw [Array.size_modify]; exact hlt), Array.getElem_modify_self, hk]
  simp [flip_cells S m hm]

set_option maxHeartbeats 400000 in
theorem flip_row (T : TypeId) (b : Nat) (S : Words) (m : Nat) (w : World) (hR : RowAt T w b S) (h1 : m < 16384) :
    Calls Tryd.prog 81 #[.pointer (some ⟨b, 0, none⟩), .int .i64 (m : Int)] w fun e w' => (∃ v, e = .returned v) ∧ RowAt T w' b (flipS S m) ∧ w.grownBy w' (some b) := by
  have hc := hR.cell (m / 64) (by omega)
  have hf := hR.frozen (m / 64)
  have hb := hR.2 (m / 64)
  obtain ⟨x, hx⟩ : ∃ x, S (m / 64) = x := ⟨_, rfl⟩
  rw [hx] at hc hb
  have HX := Lib.hid hx
  have HR := Lib.hid hR
  clear hx hR
  have g1 : (m : Int) < 16384 := by omega
  go_enter Tryd.func81, Tryd.ntmps81
  go_wp2
  go_region
  go_end0
  refine ⟨⟨_, rfl⟩, ?_, ?_⟩
  · rw [bit_xor x (m % 64) hb (by omega), ← HX.out]
    have h := HR.out.flip m h1
    exact ⟨h.1, h.2⟩
  · exact ⟨rfl, rfl, rfl, by simp [World.setCell], fun k hk hne => Below.heap_setCell _ _ _ k (fun e => hne (by rw [e]))⟩

/-- The set behind 'Put' of any number. -/
def okM (m : Int) : Bool := decide (0 ≤ m ∧ m < 16384)
def memZ (S : Words) (m : Int) : Bool := okM m && memS S m.toNat
def putS (S : Words) (m : Int) : Words := if okM m = true ∧ memS S m.toNat = false then flipS S m.toNat else S
def takeS (S : Words) (m : Int) : Words := if okM m = true ∧ memS S m.toNat = true then flipS S m.toNat else S
theorem okM_out {m : Int} (h : okM m = true) : 0 ≤ m ∧ m < 16384 := by simpa [okM] using h
theorem okM_no {m : Int} (h : okM m = false) : m < 0 ∨ 16384 ≤ m := by simp [okM] at h; omega

/-- What a call that may turn the set at b alone leaves. -/
def Turned (T : TypeId) (b : Nat) (S' : Words) (v : Value) (w : World) (e : Ending) (w' : World) : Prop := e = .returned v ∧ RowAt T w' b S' ∧ w.grownBy w' (some b)

theorem RowAt.turned {T : TypeId} {b : Nat} {S : Words} {w : World} (h : RowAt T w b S) : w.grownBy w (some b) := ⟨rfl, rfl, rfl, Nat.le_refl _, fun _ _ _ => rfl⟩

set_option maxHeartbeats 400000 in
theorem sput_any (T : TypeId) (b : Nat) (S : Words) (m : Int) (w : World) (hR : RowAt T w b S) :
    Calls Tryd.prog 48 #[.pointer (some ⟨b, 0, none⟩), .int .i64 m] w (Turned T b (putS S m) (.bool (okM m && !memS S m.toNat)) w) := by
  cases ho : okM m
  · have hno := okM_no ho
    have e : putS S m = S := by simp [putS, ho]
    rw [e]
    have HN := Lib.hid hno
    have HR := Lib.hid hR
    clear hno hR e ho
    go_enter Tryd.func48, Tryd.ntmps48
    go_wp2_with (go_at_call 79; refine (valid_no m _ HN.out).mono ?_; rintro e w' ⟨rfl, rfl⟩)
    go_ret
    exact ⟨rfl, HR.out, HR.out.turned⟩
  · obtain ⟨h0, h1⟩ := okM_out ho
    obtain ⟨k, rfl⟩ : ∃ k : Nat, m = k := ⟨m.toNat, by omega⟩
    have hk : k < 16384 := by omega
    simp only [Int.toNat_natCast]
    cases hm : memS S k
    · have e : putS S k = flipS S k := by simp [putS, ho, hm]
      rw [e]
      have HR := Lib.hid hR
      have hc := hR.cell 0 (by omega)
      have h := has_row T b S k w hR hk
      rw [hm] at h
      have HH := Lib.hid h
      clear e hm h hR ho
      go_enter Tryd.func48, Tryd.ntmps48
      go_wp2_with (first
        | (go_at_call 79; refine (valid_yes _ _ h0 h1).mono ?_; rintro e w' ⟨rfl, rfl⟩)
        | (go_at_call 80; refine HH.out.mono ?_; rintro e w' ⟨rfl, rfl⟩)
        | (go_at_call 81; refine (flip_row T b S k _ HR.out hk).mono ?_; rintro e w' ⟨⟨v, rfl⟩, hR', hg⟩))
      go_ret
      exact ⟨rfl, hR', hg⟩
    · have e : putS S k = S := by simp [putS, hm]
      rw [e]
      have HR := Lib.hid hR
      have hc := hR.cell 0 (by omega)
      have h := has_row T b S k w hR hk
      rw [hm] at h
      have HH := Lib.hid h
      clear e hm h hR ho
      go_enter Tryd.func48, Tryd.ntmps48
      go_wp2_with (first
        | (go_at_call 79; refine (valid_yes _ _ h0 h1).mono ?_; rintro e w' ⟨rfl, rfl⟩)
        | (go_at_call 80; refine HH.out.mono ?_; rintro e w' ⟨rfl, rfl⟩))
      go_ret
      exact ⟨rfl, HR.out, HR.out.turned⟩

set_option maxHeartbeats 400000 in
theorem setHas_any (T : TypeId) (b : Nat) (S : Words) (m : Int) (w : World) (hR : RowAt T w b S) :
    Calls Tryd.prog 60 #[.pointer (some ⟨b, 0, none⟩), .int .i64 m] w fun e w' => e = .returned (.bool (memZ S m)) ∧ w = w' := by
  cases ho : okM m
  · have hno := okM_no ho
    have e : memZ S m = false := by simp [memZ, ho]
    rw [e]
    have HN := Lib.hid hno
    clear hno hR e ho
    go_enter Tryd.func60, Tryd.ntmps60
    go_wp2_with (go_at_call 79; refine (valid_no m _ HN.out).mono ?_; rintro e w' ⟨rfl, rfl⟩)
    go_ret
    exact ⟨rfl, rfl⟩
  · obtain ⟨h0, h1⟩ := okM_out ho
    obtain ⟨k, rfl⟩ : ∃ k : Nat, m = k := ⟨m.toNat, by omega⟩
    have hk : k < 16384 := by omega
    have e : memZ S k = memS S k := by simp [memZ, ho]
    rw [e]
    have hc := hR.cell 0 (by omega)
    have h := has_row T b S k w hR hk
    have HH := Lib.hid h
    clear e h hR ho
    go_enter Tryd.func60, Tryd.ntmps60
    go_wp2_with (first
      | (go_at_call 79; refine (valid_yes _ _ h0 h1).mono ?_; rintro e w' ⟨rfl, rfl⟩)
      | (go_at_call 80; refine HH.out.mono ?_; rintro e w' ⟨rfl, rfl⟩))
    go_ret
    exact ⟨rfl, rfl⟩

set_option maxHeartbeats 400000 in
theorem stake_any (T : TypeId) (b : Nat) (S : Words) (m : Int) (w : World) (hR : RowAt T w b S) :
    Calls Tryd.prog 49 #[.pointer (some ⟨b, 0, none⟩), .int .i64 m] w (Turned T b (takeS S m) (.bool (memZ S m)) w) := by
  have h := setHas_any T b S m w hR
  cases hz : memZ S m
  · have e : takeS S m = S := by simp [takeS, memZ] at hz ⊢; intro a; rw [hz a]; simp
    rw [hz] at h
    rw [e]
    have HR := Lib.hid hR
    have HH := Lib.hid h
    clear h hR e hz
    go_enter Tryd.func49, Tryd.ntmps49
    go_wp2_with (go_at_call 60; refine HH.out.mono ?_; rintro e w' ⟨rfl, rfl⟩)
    go_ret
    exact ⟨rfl, HR.out, HR.out.turned⟩
  · have hz' : okM m = true ∧ memS S m.toNat = true := by simpa [memZ] using hz
    have e : takeS S m = flipS S m.toNat := by simp [takeS, hz']
    rw [hz] at h
    rw [e]
    obtain ⟨h0, h1⟩ := okM_out hz'.1
    obtain ⟨k, rfl⟩ : ∃ k : Nat, m = k := ⟨m.toNat, by omega⟩
    have hk : k < 16384 := by omega
    simp only [Int.toNat_natCast]
    have hc := hR.cell 0 (by omega)
    have HR := Lib.hid hR
    have HH := Lib.hid h
    clear h hR e hz hz'
    go_enter Tryd.func49, Tryd.ntmps49
    go_wp2_with (first
      | (go_at_call 60; refine HH.out.mono ?_; rintro e w' ⟨rfl, rfl⟩)
      | (go_at_call 81; refine (flip_row T b S k _ HR.out hk).mono ?_; rintro e w' ⟨⟨v, rfl⟩, hR', hg⟩))
    go_ret
    exact ⟨rfl, hR', hg⟩

end Go.Proofs.YtobhdjepfhbgaaaDoor

namespace Go.Proofs.YtobhdjepfhbgaaaDoor
open Go.ChangeShapes Go.WideShapes Go.ChangeAt Go.RowKit
set_option linter.unusedVariables false

theorem and64 (a M : Nat) (ha : a < 18446744073709551616) (hM : M < 18446744073709551616) : bits .and .u64 (a : Int) (M : Int) = ((a &&& M : Nat) : Int) := u64_and_nat a M ha hM
theorem wrapU64 (a : Nat) (ha : a < 18446744073709551616) : IntKind.u64.wrap (a : Int) = a := by rw [IntKind.wrap_u64]; omega

def rowList (S : Words) : List Value := (List.range 256).map fun i => Value.int .u64 (S i)
theorem rowList_len (S : Words) : (rowList S).length = 256 := by simp [rowList]
theorem RowAt.range {T : TypeId} {W : World} {b : Nat} {S : Words} (h : RowAt T W b S) : W.rangeAt b 0 (rowList S) := fun j v hv => by
  have hj : j < 256 := by have := (List.getElem?_eq_some_iff.1 hv).1; rwa [rowList_len] at this
  rw [Nat.zero_add, h.cell j hj]
  simp [rowList, hj] at hv
  rw [hv]

theorem under_row : Tryd.prog.underlying 118 = some (.array 256 75) := by kernel_rfl
theorem size_row : (Tryd.prog.info? 118).map (·.size) = some 256 := by kernel_rfl

theorem load_row {T : TypeId} {W : World} {b : Nat} {S : Words} (h : RowAt T W b S) : (Instr.loadAt 118 (.pointer (some ⟨b, 0, none⟩))).run Tryd.prog W = .ok (.agg (rowList S).toArray) W :=
  run_loadAt_mid W b 0 118 (rowList S) _ h.range under_row rfl (by rw [rowList_len]; exact size_row)

theorem under_u64 : Tryd.prog.underlying 75 = some (.int .u64) := by kernel_rfl
theorem info_u64 : (Tryd.prog.info? 75).map (·.size) = some 1 := by kernel_rfl
theorem run_index_row (cs : Array Value) (k : Nat) (v : Value) (W : World) (hk : k < 256) (hv : cs[k]? = some v) : (Instr.index 118 (.agg cs) (.int .i64 (k : Int))).run Tryd.prog W = .ok v W := by
  have h1 : (0 : Int) ≤ (k : Int) ∧ (k : Int) < (256 : Nat) := by omega
  cases hq : Tryd.prog.info? 75 with
  | none => have := info_u64; simp [hq] at this
  | some i =>
    have hs : i.size = 1 := by have := info_u64; simpa [hq] using this
    simp [Instr.index, run_underlying under_row, asIntOf, h1, go_sem, part, sizeOf, typeInfo, hq, hs, hv]
    intro h; omega

end Go.Proofs.YtobhdjepfhbgaaaDoor

namespace Go.Proofs.YtobhdjepfhbgaaaDoor
open Go.ChangeShapes Go.WideShapes Go.ChangeAt Go.RowKit
set_option linter.unusedVariables false

/-- The library's table lies in its variable. -/
def TabW (W : World) : Prop := ∀ j, j < Lib.deBruijn64tab.length → W.cell? ⟨0, j, none⟩ = some (.int .u8 (Lib.deBruijn64tab.getD j 0))

set_option maxHeartbeats 1000000 in
theorem tz_core (x k idx : Nat) (w : World) (hx0 : ((x : Int) == 0) = false)
    (key : IntKind.u64.wrap (bits BinOp.and IntKind.u64 (x : Int) (IntKind.u64.wrap (-(x : Int))) * 285870213051353865) / 288230376151711744 = (idx : Int))
    (hi : (idx : Int) < 64) (hcell : w.cell? ⟨0, idx, none⟩ = some (.int .u8 k)) (hk : (k : Int) < 64) :
    Calls Tryd.prog 94 #[.int .u64 (x : Int)] w fun e w' => e = .returned (.int .i64 (k : Int)) ∧ w = w' := by
  go_enter Tryd.func94, Tryd.ntmps94
  go_wp2_with (simp only [key])
  go_ret
  exact ⟨rfl, rfl⟩

theorem tz_any (x : Nat) (w : World) (hT : TabW w) (hx : x < 18446744073709551616) (hx0 : x ≠ 0) :
    Calls Tryd.prog 94 #[.int .u64 (x : Int)] w fun e w' => e = .returned (.int .i64 (Lib.ctz 64 x : Int)) ∧ w = w' := by
  obtain ⟨hlow, hk⟩ := Lib.lowest_bit 64 x hx0 hx
  obtain ⟨hi, htab⟩ := Lib.deBruijn64_at _ hk
  have hcell := hT _ hi
  rw [htab] at hcell
  have hi' : Lib.deBruijn64tab.length = 64 := by decide
  exact tz_core x _ _ w (by simp; omega) (tz64_key x _ hx hx0 hlow) (by omega) hcell (by omega)

theorem ctz_bits (x : Nat) (hx : x < 18446744073709551616) (hx0 : x ≠ 0) : Lib.ctz 64 x < 64 ∧ x.testBit (Lib.ctz 64 x) = true ∧ ∀ j, j < Lib.ctz 64 x → x.testBit j = false := by
  obtain ⟨m, hm, hk⟩ := Lib.ctzFrom_spec 64 x (by omega) hx
  have e : Lib.ctz 64 x = Lib.ctzFrom 64 x := by simp [Lib.ctz, hx0]
  rw [e]
  clear e
  obtain ⟨c, hc⟩ : ∃ c, Lib.ctzFrom 64 x = c := ⟨_, rfl⟩
  rw [hc] at hm hk ⊢
  clear hc
  subst hm
  refine ⟨hk, ?_, fun j hj => ?_⟩
  · rw [Nat.testBit_two_pow_mul]
    simp
  · rw [Nat.testBit_two_pow_mul]
    simp; omega

/-- k is the next number from m on of which p holds, or 16384. -/
def IsNx (p : Nat → Bool) (m k : Nat) : Prop := m ≤ k ∧ k ≤ 16384 ∧ (∀ j, m ≤ j → j < k → p j = false) ∧ (k < 16384 → p k = true)
theorem IsNx.unique {p : Nat → Bool} {m k l : Nat} (h : IsNx p m k) (g : IsNx p m l) : k = l := by
  obtain ⟨h1, h2, h3, h4⟩ := h
  obtain ⟨g1, g2, g3, g4⟩ := g
  rcases Nat.lt_trichotomy k l with x | x | x
  · have a := g3 k h1 x
    have b := h4 (by omega)
    rw [a] at b; cases b
  · exact x
  · have a := h3 l g1 x
    have b := g4 (by omega)
    rw [a] at b; cases b
theorem nx_ex (p : Nat → Bool) : ∀ (n m : Nat), m + n = 16384 → ∃ k, IsNx p m k
  | 0, m, h => ⟨16384, by omega, Nat.le_refl _, fun j h1 h2 => by omega, fun h => by omega⟩
  | n + 1, m, h => by
    cases hp : p m
    · obtain ⟨k, k1, k2, k3, k4⟩ := nx_ex p n (m + 1) (by omega)
      refine ⟨k, by omega, k2, fun j h1 h2 => ?_, k4⟩
      by_cases e : j = m
      · rw [e]; exact hp
      · exact k3 j (by omega) h2
    · exact ⟨m, Nat.le_refl _, by omega, fun j h1 h2 => by omega, fun _ => hp⟩

open Classical in
noncomputable def nx (p : Nat → Bool) (m : Nat) : Nat := if h : ∃ k, IsNx p m k then Classical.choose h else 16384
theorem nx_spec (p : Nat → Bool) {m : Nat} (hm : m ≤ 16384) : IsNx p m (nx p m) := by
  have h := nx_ex p (16384 - m) m (by omega)
  unfold nx
  rw [dif_pos h]
  exact Classical.choose_spec h
theorem IsNx.eq {p : Nat → Bool} {m k : Nat} (h : IsNx p m k) : k = nx p m := h.unique (nx_spec p (Nat.le_trans h.1 h.2.1))

/-- What a word shifted tells: the bits of the numbers from m on, to the word's end. -/
theorem word_bit {x m j : Nat} (h1 : m ≤ j) (h2 : j / 64 = m / 64) : (x / 2 ^ (m % 64)).testBit (j - m) = x.testBit (j % 64) := by
  rw [← Nat.shiftRight_eq_div_pow, Nat.testBit_shiftRight]
  congr 1
  omega
theorem word_zero {x : Nat} (h : x = 0) (j : Nat) : x.testBit j = false := by rw [h]; simp

/-- The row, combined with a mask. -/
def memX (S : Words) (mask : Nat) (m : Nat) : Bool := (S (m / 64) ^^^ mask).testBit (m % 64)

theorem seek_hit {S : Words} {mask m : Nat} (hS : S (m / 64) ^^^ mask < 18446744073709551616) (hm : m < 16384) (h0 : (S (m / 64) ^^^ mask) / 2 ^ (m % 64) ≠ 0) :
    IsNx (memX S mask) m (m + Lib.ctz 64 ((S (m / 64) ^^^ mask) / 2 ^ (m % 64))) := by
  have hlt : (S (m / 64) ^^^ mask) / 2 ^ (m % 64) < 18446744073709551616 := Nat.lt_of_le_of_lt (Nat.div_le_self _ _) hS
  obtain ⟨c1, c2, c3⟩ := ctz_bits _ hlt h0
  obtain ⟨c, hc⟩ : ∃ c, Lib.ctz 64 ((S (m / 64) ^^^ mask) / 2 ^ (m % 64)) = c := ⟨_, rfl⟩
  rw [hc] at c1 c2 c3 ⊢
  have hin : c + m % 64 < 64 := by
    rcases Nat.lt_or_ge (c + m % 64) 64 with h | h
    · exact h
    · rw [← Nat.shiftRight_eq_div_pow, Nat.testBit_shiftRight] at c2
      have : (S (m / 64) ^^^ mask).testBit (m % 64 + c) = false := Nat.testBit_lt_two_pow (Nat.lt_of_lt_of_le hS (Nat.pow_le_pow_right (n := 2) (i := 64) (by omega) (by omega)))
      rw [this] at c2; cases c2
  refine ⟨by omega, by omega, fun j h1 h2 => ?_, fun _ => ?_⟩
  · have e : j / 64 = m / 64 := by omega
    have := c3 (j - m) (by omega)
    rw [word_bit h1 e] at this
    unfold memX; rw [e]; exact this
  · have e : (m + c) / 64 = m / 64 := by omega
    have h := word_bit (x := S (m / 64) ^^^ mask) (show m ≤ m + c by omega) e
    rw [show m + c - m = c by omega, c2] at h
    unfold memX; rw [e]; exact h.symm

theorem seek_miss {S : Words} {mask m : Nat} (h0 : (S (m / 64) ^^^ mask) / 2 ^ (m % 64) = 0) (j : Nat) (h1 : m ≤ j) (h2 : j < m + (64 - m % 64)) : memX S mask j = false := by
  have e : j / 64 = m / 64 := by omega
  have h := word_bit (x := S (m / 64) ^^^ mask) h1 e
  rw [h0] at h
  unfold memX; rw [e, ← h]; simp

theorem xor_lt {x y : Nat} (hx : x < 18446744073709551616) (hy : y < 18446744073709551616) : x ^^^ y < 18446744073709551616 := Nat.xor_lt_two_pow (n := 64) hx hy

set_option maxHeartbeats 1000000 in
theorem seek_far (p : Option Addr) (mask m : Int) (w : World) (hm : 16384 ≤ m) :
    Calls Tryd.prog 93 #[.pointer p, .int .i64 m, .int .u64 mask] w fun e w' => e = .returned (.int .i64 16384) ∧ w = w' := by
  go_enter Tryd.func93, Tryd.ntmps93
  go_wp2
  go_loop [1] (fun i => i = .int .i64 m) (fun _ => 0)
  case atStart => rfl
  case round =>
    obtain rfl := hrel
    go_wp2
    go_ret
    exact ⟨rfl, rfl⟩

set_option maxRecDepth 100000 in
set_option maxHeartbeats 1000000 in
theorem seek_near (T : TypeId) (b : Nat) (S : Words) (mask m r : Nat) (w : World) (hR : RowAt T w b S) (hT : TabW w) (hmask : mask < 18446744073709551616) (hm : m ≤ 16384) (hr : IsNx (memX S mask) m r) :
    Calls Tryd.prog 93 #[.pointer (some ⟨b, 0, none⟩), .int .i64 (m : Int), .int .u64 (mask : Int)] w fun e w' => e = .returned (.int .i64 (r : Int)) ∧ w = w' := by
  have HR := Lib.hid hR
  have HT := Lib.hid hT
  have HM := Lib.hid hmask
  have HX := Lib.hid hr
  clear hR hT hmask hr
  go_enter Tryd.func93, Tryd.ntmps93
  go_wp2
  go_loop [1] (fun i => ∃ k : Nat, m ≤ k ∧ k ≤ 16384 ∧ i = .int .i64 k ∧ Hid (∀ j, m ≤ j → j < k → memX S mask j = false)) (fun i => 16384 - (intOf i).toNat)
  case atStart => exact ⟨m, Nat.le_refl _, hm, rfl, Lib.hid (fun j h1 h2 => by omega)⟩
  case round =>
    obtain ⟨k, hk1, hk2, rfl, HNO⟩ := hrel
    by_cases hlt : k < 16384
    · have hc := HR.out.cell (k / 64) (by omega)
      have hx := xor_lt (HR.out.2 (k / 64)) HM.out
      obtain ⟨x, ex⟩ : ∃ x, S (k / 64) = x := ⟨_, rfl⟩
      obtain ⟨y, ey⟩ : ∃ y, x ^^^ mask = y := ⟨_, rfl⟩
      obtain ⟨z, ez⟩ : ∃ z, y / 2 ^ (k % 64) = z := ⟨_, rfl⟩
      have hxl := HR.out.2 (k / 64)
      have hbx : bits .xor .u64 (x : Int) (mask : Int) = (y : Int) := by
        rw [bits_xor_u64_nat _ _ (by rw [← ex]; exact hxl) HM.out, ey]
      have hbz : (y : Int) / 2 ^ (k % 64) = (z : Int) := by rw [← ez]; simp
      rw [ex] at hc hx
      rw [ey] at hx
      have hzl : z < 18446744073709551616 := by rw [← ez]; exact Nat.lt_of_le_of_lt (Nat.div_le_self _ _) hx
      have hki : (k : Int) < 16384 := by omega
      have hk0 : (0 : Int) ≤ (k : Int) := by omega
      have HK := Lib.hid (And.intro hk1 (And.intro hk2 hlt))
      have EXYZ : Hid ((S (k / 64) ^^^ mask) / 2 ^ (k % 64) = z ∧ S (k / 64) ^^^ mask < 18446744073709551616) := by rw [ex, ey]; exact ⟨ez, hx⟩
      have HZL := Lib.hid hzl
      by_cases hz : z = 0
      · subst hz
        clear hx ex ey ez hxl hzl hk1 hk2 hlt
        go_wp2
        go_round
        case rel =>
          obtain ⟨h1, h2, h3⟩ := HK.out
          exact ⟨k + (64 - k % 64), by omega, by omega, by simp only [Value.int.injEq, true_and]; omega, Lib.hid (fun j g1 g2 => by
            by_cases x : j < k
            · exact HNO.out j g1 x
            · exact seek_miss EXYZ.out.1 j (by omega) g2)⟩
        case measure =>
          obtain ⟨h1, h2, h3⟩ := HK.out
          simp only [intOf]; omega
      · have hzi : ((z : Int) != 0) = true := by simp; omega
        have HZ := Lib.hid hz
        obtain ⟨c, ec⟩ : ∃ c, Lib.ctz 64 z = c := ⟨_, rfl⟩
        have hcl : (c : Int) < 64 := by have := (ctz_bits z hzl hz).1; omega
        have EC := Lib.hid ec
        clear hx ex ey ez hxl hzl hk1 hk2 hlt hz ec
        go_wp2_with (go_at_call 94; refine (tz_any z _ HT.out HZL.out HZ.out).mono ?_; rw [EC.out]; rintro e w' ⟨rfl, rfl⟩)
        obtain ⟨h1, h2, h3⟩ := HK.out
        have hh := seek_hit (S := S) (mask := mask) (m := k) EXYZ.out.2 h3 (by rw [EXYZ.out.1]; exact HZ.out)
        rw [EXYZ.out.1, EC.out] at hh
        obtain ⟨q1, q2, q3, q4⟩ := hh
        have er : r = k + c := IsNx.unique HX.out ⟨by omega, q2, fun j g1 g2 => by
          by_cases x : j < k
          · exact HNO.out j g1 x
          · exact q3 j (by omega) g2, q4⟩
        go_ret
        exact ⟨by rw [er]; rfl, rfl⟩
    · have ek : k = 16384 := by omega
      subst ek
      have er := IsNx.unique HX.out ⟨hm, Nat.le_refl _, HNO.out, fun h => by omega⟩
      subst er
      go_wp2
      go_ret
      exact ⟨rfl, rfl⟩

theorem memX_0 (S : Words) : memX S 0 = memS S := by funext m; simp [memX, memS]
theorem memX_1 (S : Words) (m : Nat) (hS : ∀ i, S i < 18446744073709551616) : memX S 18446744073709551615 m = !memS S m := by
  unfold memX memS
  rw [Nat.testBit_xor, show (18446744073709551615 : Nat) = 2 ^ 64 - 1 from rfl, Nat.testBit_two_pow_sub_one]
  have : m % 64 < 64 := by omega
  simp [this]

set_option maxHeartbeats 400000 in
theorem next_far (p : Option Addr) (m : Int) (w : World) (hm : 16384 ≤ m) :
    Calls Tryd.prog 91 #[.pointer p, .int .i64 m] w fun e w' => e = .returned (.int .i64 16384) ∧ w = w' := by
  go_enter Tryd.func91, Tryd.ntmps91
  go_wp2_with (go_at_call 93; refine (seek_far _ _ _ _ hm).mono ?_; rintro e w' ⟨rfl, rfl⟩)
  go_ret
  exact ⟨rfl, rfl⟩
set_option maxHeartbeats 400000 in
theorem next_near (T : TypeId) (b : Nat) (S : Words) (m r : Nat) (w : World) (hR : RowAt T w b S) (hT : TabW w) (hm : m ≤ 16384) (hr : IsNx (memS S) m r) :
    Calls Tryd.prog 91 #[.pointer (some ⟨b, 0, none⟩), .int .i64 (m : Int)] w fun e w' => e = .returned (.int .i64 (r : Int)) ∧ w = w' := by
  have h := seek_near T b S 0 m r w hR hT (by omega) hm (by rw [memX_0]; exact hr)
  have HH := Lib.hid h
  clear h hR hT hr
  go_enter Tryd.func91, Tryd.ntmps91
  go_wp2_with (go_at_call 93; refine HH.out.mono ?_; rintro e w' ⟨rfl, rfl⟩)
  go_ret
  exact ⟨rfl, rfl⟩
end Go.Proofs.YtobhdjepfhbgaaaDoor

namespace Go.Proofs.YtobhdjepfhbgaaaDoor
open Go.ChangeShapes Go.WideShapes Go.ChangeAt Go.RowKit Go.Shelf
set_option linter.unusedVariables false

/-- Cells laid over a block's cells. -/
def ow : Array Value → Nat → List Value → Array Value
  | c, _, [] => c
  | c, o, v :: r => ow (c.setIfInBounds o v) (o + 1) r
theorem ow_size : ∀ (vs : List Value) (c : Array Value) (o : Nat), (ow c o vs).size = c.size
  | [], _, _ => rfl
  | v :: r, c, o => by rw [ow, ow_size r]; simp
theorem ow_get : ∀ (vs : List Value) (c : Array Value) (o i : Nat), o + vs.length ≤ c.size → i < c.size → (ow c o vs)[i]? = if o ≤ i ∧ i < o + vs.length then vs[i - o]? else c[i]?
  | [], c, o, i, h, hi => by rw [ow, if_neg (by simp)]
  | v :: r, c, o, i, h, hi => by
    simp only [List.length_cons] at h ⊢
    rw [ow, ow_get r (c.setIfInBounds o v) (o + 1) i (by simp; omega) (by simp; exact hi)]
    by_cases h1 : o + 1 ≤ i ∧ i < o + 1 + r.length
    · rw [if_pos h1, if_pos (by omega)]
      have e : i - o = (i - (o + 1)) + 1 := by omega
      rw [e]; simp
    · rw [if_neg h1]
      by_cases h2 : i = o
      · subst h2
        rw [if_pos (by omega)]
        simp [hi]
      · rw [if_neg (by omega), Array.getElem?_setIfInBounds_ne (fun x => h2 x.symm)]
theorem ow_all (vs : List Value) (c : Array Value) (h : c.size = vs.length) : ow c 0 vs = vs.toArray := by
  apply Array.ext_getElem?
  intro i
  by_cases hi : i < c.size
  · rw [ow_get vs c 0 i (by omega) hi, if_pos (by omega)]; simp
  · have h1 : ¬ i < (ow c 0 vs).size := by rw [ow_size]; exact hi
    rw [Array.getElem?_eq_none (by omega), Array.getElem?_eq_none (by simp; omega)]

theorem heap_setCells (b : Nat) (T : TypeId) (fr : Nat × Nat) : ∀ (vs : List Value) (o : Nat) (w : World) (c : Array Value), w.heap[b]? = some (.cells c T fr) → (w.setCells b o vs).heap[b]? = some (.cells (ow c o vs) T fr)
  | [], o, w, c, h => h
  | v :: r, o, w, c, h => by
    rw [World.setCells, ow]
    refine heap_setCells b T fr r (o + 1) _ _ ?_
    obtain ⟨hlt, hk⟩ := Array.getElem?_eq_some_iff.1 h
    show (w.heap.modify b _)[b]? = _
    rw [Array.getElem?_eq_getElem (by rw [Array.size_modify]; exact hlt), Array.getElem_modify_self, hk]
    rfl
theorem heap_setCells_other (b : Nat) : ∀ (vs : List Value) (o : Nat) (w : World) (k : Nat), k ≠ b → (w.setCells b o vs).heap[k]? = w.heap[k]?
  | [], _, _, _, _ => rfl
  | v :: r, o, w, k, h => by
    rw [World.setCells, heap_setCells_other b r (o + 1) _ k h]
    exact Below.heap_setCell _ _ _ k h
theorem os_setCells (b : Nat) : ∀ (vs : List Value) (o : Nat) (w : World), (w.setCells b o vs).os = w.os
  | [], _, _ => rfl
  | v :: r, o, w => by rw [World.setCells, os_setCells b r]; rfl
theorem tape_setCells (b : Nat) : ∀ (vs : List Value) (o : Nat) (w : World), (w.setCells b o vs).tape = w.tape
  | [], _, _ => rfl
  | v :: r, o, w => by rw [World.setCells, tape_setCells b r]; rfl
theorem output_setCells (b : Nat) : ∀ (vs : List Value) (o : Nat) (w : World), (w.setCells b o vs).output = w.output
  | [], _, _ => rfl
  | v :: r, o, w => by rw [World.setCells, output_setCells b r]; rfl
theorem size_setCells (b : Nat) : ∀ (vs : List Value) (o : Nat) (w : World), (w.setCells b o vs).heap.size = w.heap.size
  | [], _, _ => rfl
  | v :: r, o, w => by rw [World.setCells, size_setCells b r]; simp [World.setCell]

theorem rowCells_list (S : Words) : rowCells S = (rowList S).toArray := rfl

/-- A row of zeros. -/
def zeroRow : Array Value := rowCells fun _ => 0
theorem run_alloc_row (W : World) : (Instr.alloc 118 true (.tuple #[])).run Tryd.prog W = .ok (.pointer (some ⟨W.heap.size, 0, none⟩)) (W.alloc (.cells zeroRow 118)) := by
  kernel_rfl

theorem fold_ow : ∀ (vs : List Value) (o : Nat) (c : Array Value), List.foldl (fun cs x => cs.setIfInBounds x.snd x.fst) c (vs.zipIdx o) = ow c o vs
  | [], _, _ => rfl
  | v :: r, o, c => by rw [List.zipIdx_cons, List.foldl_cons, fold_ow r (o + 1), ow]

theorem run_build_zero (W : World) : (Instr.build 120 #[]).run Tryd.prog W = .ok (.agg zeroRow) W := by
  kernel_rfl
theorem under_set : ∃ f, Tryd.prog.underlying 120 = some (.struct #[f]) ∧ f.offset = 0 ∧ f.type = 118 := ⟨_, Tryd.underlying120, rfl, rfl⟩
theorem zero_set (W : World) : (zeroValue 120).run Tryd.prog W = .ok (.agg zeroRow) W := by kernel_rfl
theorem run_build_row (cs : List Value) (hn : cs.length = 256) (W : World) : (Instr.build 120 #[(0, .agg cs.toArray)]).run Tryd.prog W = .ok (.agg cs.toArray) W := by
  obtain ⟨f, hf, ho, ht⟩ := under_set
  cases hq : Tryd.prog.info? 118 with
  | none => have := size_row; simp [hq] at this
  | some i =>
    have hs : i.size = 256 := by have := size_row; simpa [hq] using this
    have hz : zeroRow.size = 256 := rowCells_size _
    unfold Instr.build
    simp [Sem.run_bind, zero_set, run_underlying hf, ho, ht, sizeOf, typeInfo, hq, hs, Instr.fill, Value.cells, hn, hz]
    rw [fold_ow, ow_all cs _ (by first | rw [hz, hn] | (rw [hn]; kernel_rfl))]

theorem wpList_build_row {ops : Array Oper} {rest : List Oper} {op : Oper} {a : Act} {w : World} {Q : Exit → Act → World → Prop} (hgd : op.guard = none) (x : Operand) (ho : op.op = .build 120 #[(0, x)])
    (cs : List Value) (hx : a.eval x = .agg cs.toArray) (hn : cs.length = 256) (h : wpList Tryd.prog ops Q rest (a.put op.dst (.agg cs.toArray)) w) : wpList Tryd.prog ops Q (op :: rest) a w :=
  wpList_plain hgd fun _ hK => by
    unfold Oper.wp execOp
    simp only [ho, List.map_toArray, List.map_cons, List.map_nil, hx, Sem.run_bind, Result.andThen_ok, run_build_row cs hn]
    exact hK _ _ h
theorem wpList_build_zero {ops : Array Oper} {rest : List Oper} {op : Oper} {a : Act} {w : World} {Q : Exit → Act → World → Prop} (hgd : op.guard = none) (ho : op.op = .build 120 #[])
    (h : wpList Tryd.prog ops Q rest (a.put op.dst (.agg zeroRow)) w) : wpList Tryd.prog ops Q (op :: rest) a w :=
  wpList_plain hgd fun _ hK => by
    unfold Oper.wp execOp
    simp only [ho, List.map_toArray, List.map_nil, Sem.run_bind, Result.andThen_ok, run_build_zero]
    exact hK _ _ h

theorem wpList_alloc_row {ops : Array Oper} {rest : List Oper} {op : Oper} {a : Act} {w : World} {Q : Exit → Act → World → Prop} (hgd : op.guard = none) (ho : op.op = .alloc 118)
    (h : wpList Tryd.prog ops Q rest (a.put op.dst (.pointer (some ⟨w.heap.size, 0, none⟩))) (w.alloc (.cells zeroRow 118))) : wpList Tryd.prog ops Q (op :: rest) a w :=
  wpList_plain hgd fun _ hK => by
    unfold Oper.wp execOp
    simp only [ho, Sem.run_bind, Result.andThen_ok, run_alloc_row]
    exact hK _ _ h

theorem rowList_one (S : Words) : (rowList S).toArray.all (·.oneCell') = true :=
  all_oneCell_toArray fun v hv => by
    simp only [rowList, List.mem_map] at hv
    obtain ⟨i, _, rfl⟩ := hv
    rfl

/-- What From lays: the row's copy, and where to begin. -/
def FromAt (W : World) (b : Nat) (S : Words) (f : Int) : Prop := RowAt 118 W b S ∧ W.heap[b + 1]? = some (.cells #[.int .i64 f] 3 (0, 0))

theorem zeroRow_size : zeroRow.size = 256 := rowCells_size _

/-- The two new blocks behind the store. -/
theorem laid_new (w : World) (Z : Array Value) (cs : List Value) (hZ : Z.size = cs.length) :
    ((w.alloc (.cells Z 118)).alloc (.cells #[.int .i64 0] 3)).there w.heap.size 0 cs.toArray.size ∧
    (((w.alloc (.cells Z 118)).alloc (.cells #[.int .i64 0] 3)).setCells w.heap.size 0 cs).heap[w.heap.size]? = some (.cells cs.toArray 118 (0, 0)) ∧
    Boxed (((w.alloc (.cells Z 118)).alloc (.cells #[.int .i64 0] 3)).setCells w.heap.size 0 cs) (w.heap.size + 1) 3 (.int .i64 0) ∧
    (((w.alloc (.cells Z 118)).alloc (.cells #[.int .i64 0] 3)).setCells w.heap.size 0 cs).heap.size = w.heap.size + 2 ∧
    Below w.heap.size w (((w.alloc (.cells Z 118)).alloc (.cells #[.int .i64 0] 3)).setCells w.heap.size 0 cs) := by
  have h0 : ((w.alloc (.cells Z 118)).alloc (.cells #[.int .i64 0] 3)).heap[w.heap.size]? = some (.cells Z 118 (0, 0)) :=
    (Below.heap_alloc _ _ _ (by simp)).trans (World.alloc_heap_new w _)
  have h1 : ((w.alloc (.cells Z 118)).alloc (.cells #[.int .i64 0] 3)).heap[w.heap.size + 1]? = some (.cells #[.int .i64 0] 3 (0, 0)) := by
    have := World.alloc_heap_new (w.alloc (.cells Z 118)) (.cells #[.int .i64 0] 3)
    rwa [World.size_alloc] at this
  refine ⟨fun j hj => ?_, ?_, ?_, ?_, ?_⟩
  · have hj' : j < Z.size := by rw [hZ]; simpa using hj
    constructor
    · simp [World.cell?, h0, hj']
    · simp [World.frozen?, h0]
  · rw [heap_setCells _ _ _ cs 0 _ _ h0, ow_all cs Z hZ]
  · exact (heap_setCells_other _ cs 0 _ _ (by omega)).trans h1
  · rw [size_setCells]; simp
  · have hb : Below w.heap.size w ((w.alloc (.cells Z 118)).alloc (.cells #[.int .i64 0] 3)) := ((Below.refl _ w).alloc (Nat.le_refl _) _).alloc (by simp) _
    exact hb.trans ⟨os_setCells _ _ _ _, tape_setCells _ _ _ _, output_setCells _ _ _ _, by rw [size_setCells]; exact Nat.le_refl _, fun k hk => heap_setCells_other _ cs 0 _ k (by omega)⟩

set_option maxRecDepth 100000 in
set_option maxHeartbeats 1000000 in
theorem sfrom_any (b : Nat) (S : Words) (m : Int) (w : World) (hR : RowAt 120 w b S) :
    Calls Tryd.prog 82 #[.pointer (some ⟨b, 0, none⟩), .int .i64 m] w fun e w' =>
      e = .returned (.func (.func 90) #[] #[.pointer (some ⟨w.heap.size, 0, none⟩), .pointer (some ⟨w.heap.size + 1, 0, none⟩)]) ∧ FromAt w' w.heap.size S (max m 0) ∧ Below w.heap.size w w' ∧ w'.heap.size = w.heap.size + 2 := by
  have hl := hR.range
  have hc := hR.cell 0 (by omega)
  have hn := rowList_len S
  have h1 := rowList_one S
  obtain ⟨cs, ecs⟩ : ∃ cs, rowList S = cs := ⟨_, rfl⟩
  obtain ⟨Z, eZ⟩ : ∃ Z, zeroRow = Z := ⟨_, rfl⟩
  rw [ecs] at hl hn h1
  have HL := Lib.hid hl
  have HN := Lib.hid hn
  have H1 := Lib.hid h1
  have ECS := Lib.hid ecs
  have hln := laid_new w Z cs (by rw [← eZ, hn]; exact zeroRow_size)
  obtain ⟨W2, hW2⟩ : ∃ W2, ((w.alloc (.cells Z 118)).alloc (.cells #[.int .i64 0] 3)).setCells w.heap.size 0 cs = W2 := ⟨_, rfl⟩
  rw [hW2] at hln
  have LN := Lib.hid hln
  have HW2 := Lib.hid hW2
  have EZ := Lib.hid eZ
  have HR := Lib.hid hR
  clear hln hW2
  clear hl hn h1 ecs hR eZ
  go_enter Tryd.func82, Tryd.ntmps82
  go_wp2_with (first
    | (refine wpList_load_mid rfl 118 (.tmp 9) rfl b 0 rfl cs _ HL.out under_row rfl (by rw [HN.out]; exact size_row) ?_)
    | (refine wpList_alloc_row rfl rfl ?_; rw [EZ.out])
    | (refine wpList_store_mid rfl 118 (.tmp 5) (.tmp 10) rfl w.heap.size 0 cs.toArray rfl rfl LN.out.1 (by simp only [List.size_toArray]; rw [HN.out]; exact size_row) H1.out ?_; simp only [List.toList_toArray]; rw [HW2.out]; have hc2 := LN.out.2.2.1.cell; have hf2 := LN.out.2.2.1.frozen))
  · have e : max m 0 = 0 := by have : m < 0 := by assumption
                               omega
    rw [e]
    go_ret
    exact ⟨rfl, ⟨⟨(Below.heap_setCell _ _ _ _ (by simp)).trans (LN.out.2.1.trans (by rw [← ECS.out]; rfl)), HR.out.2⟩, LN.out.2.2.1.set _⟩, LN.out.2.2.2.2.setCell (by simp) _, by simp [World.setCell]; exact LN.out.2.2.2.1⟩
  · have e : max m 0 = m := by have : 0 ≤ m := by assumption
                               omega
    rw [e]
    go_ret
    exact ⟨rfl, ⟨⟨(Below.heap_setCell _ _ _ _ (by simp)).trans (LN.out.2.1.trans (by rw [← ECS.out]; rfl)), HR.out.2⟩, LN.out.2.2.1.set _⟩, LN.out.2.2.2.2.setCell (by simp) _, by simp [World.setCell]; exact LN.out.2.2.2.1⟩

set_option maxHeartbeats 400000 in
theorem sall_any (b : Nat) (S : Words) (w : World) (hR : RowAt 120 w b S) :
    Calls Tryd.prog 50 #[.pointer (some ⟨b, 0, none⟩)] w fun e w' =>
      e = .returned (.func (.func 90) #[] #[.pointer (some ⟨w.heap.size, 0, none⟩), .pointer (some ⟨w.heap.size + 1, 0, none⟩)]) ∧ FromAt w' w.heap.size S 0 ∧ Below w.heap.size w w' ∧ w'.heap.size = w.heap.size + 2 := by
  have h := sfrom_any b S 0 w hR
  rw [show max (0 : Int) 0 = 0 from rfl] at h
  have HH := Lib.hid h
  clear h hR
  go_enter Tryd.func50, Tryd.ntmps50
  go_wp2_with (go_at_call 82; refine HH.out.mono ?_; rintro e w' ⟨rfl, h1, h2, h3⟩)
  go_ret
  exact ⟨rfl, h1, h2, h3⟩

set_option maxRecDepth 100000 in
set_option maxHeartbeats 1000000 in
theorem scopy_any (b : Nat) (S : Words) (w : World) (hR : RowAt 120 w b S) :
    Calls Tryd.prog 44 #[.pointer (some ⟨b, 0, none⟩)] w fun e w' =>
      e = .returned (.pointer (some ⟨w.heap.size, 0, none⟩)) ∧ RowAt 120 w' w.heap.size S ∧ Below w.heap.size w w' ∧ w'.heap.size = w.heap.size + 1 := by
  have hl := hR.range
  have hc := hR.cell 0 (by omega)
  have hn := rowList_len S
  have h1 := rowList_one S
  obtain ⟨cs, ecs⟩ : ∃ cs, rowList S = cs := ⟨_, rfl⟩
  rw [ecs] at hl hn h1
  have HL := Lib.hid hl
  have HN := Lib.hid hn
  have H1 := Lib.hid h1
  have ECS := Lib.hid ecs
  have HR := Lib.hid hR
  clear hl hn h1 ecs hR
  go_enter Tryd.func44, Tryd.ntmps44
  go_wp2_with (first
    | (refine wpList_load_mid rfl 118 (.tmp 5) rfl b 0 rfl cs _ HL.out under_row rfl (by rw [HN.out]; exact size_row) ?_)
    | (refine wpList_build_row rfl (.tmp 6) rfl cs rfl HN.out ?_))
  go_ret
  refine ⟨rfl, ⟨(World.alloc_heap_new w _).trans (by rw [← ECS.out]; rfl), HR.out.2⟩, (Below.refl _ _).alloc (Nat.le_refl _) _, by simp⟩

end Go.Proofs.YtobhdjepfhbgaaaDoor
