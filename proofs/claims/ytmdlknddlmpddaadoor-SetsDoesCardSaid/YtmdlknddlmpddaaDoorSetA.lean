/-
  Package sets: a set in memory (its 256 words), and the contracts of valid, has, flip, Put, Take, Has. No conditions beyond the words' own range.
-/
import Derived.Test.YtmdlknddlmpddaaDoorCards
import Derived.Test.YtmdlknddlmpddaaDoorTie
import Derived.Test.YtmdlknddlmpddaaDoorPop
import Derived.WalkKit
import Derived.ProofKit
import Derived.Lib.Hide
import Derived.BigQuiet
import Derived.BigRegion
import Derived.Deep.QuietTactic
import Derived.Laws.BitsAll
import Derived.Laws.BitsAllLaws
import Derived.Laws.Bits64
namespace Go.Proofs.YtmdlknddlmpddaaDoor
open Go.ChangeShapes Go.WideShapes Go.ChangeAt Go.RowKit
set_option linter.unusedVariables false

/-- A set's words. -/
abbrev Words := Nat → Nat
def rowCells (S : Words) : Array Value := ((List.range 256).map fun i => Value.int .u64 (S i)).toArray
/-- Block b holds the words S (T: Set's type, or the row's). -/
def RowAt (T : TypeId) (W : World) (b : Nat) (S : Words) : Prop := W.heap[b]? = some (.cells (rowCells S) T (0, 0)) ∧ ∀ i, S i < 18446744073709551616

theorem rowCells_get (S : Words) (i : Nat) (h : i < 256) : (rowCells S)[i]? = some (.int .u64 (S i)) := by simp [rowCells, h]
theorem rowCells_at (S : Words) (i : Nat) (h : i < 256) {p : i < (rowCells S).size} : (rowCells S)[i] = .int .u64 (S i) := by simp [rowCells]
theorem rowCells_size (S : Words) : (rowCells S).size = 256 := by simp [rowCells]
theorem RowAt.cell {T : TypeId} {W : World} {b : Nat} {S : Words} (h : RowAt T W b S) (i : Nat) (hi : i < 256) : W.cell? ⟨b, i, none⟩ = some (.int .u64 (S i)) := by
  simp [World.cell?, h.1, rowCells_get S i hi]
theorem RowAt.frozen {T : TypeId} {W : World} {b : Nat} {S : Words} (h : RowAt T W b S) (i : Nat) : W.frozen? ⟨b, i, none⟩ = false := by
  simp [World.frozen?, h.1]
theorem RowAt.lt {T : TypeId} {W : World} {b : Nat} {S : Words} (h : RowAt T W b S) : b < W.heap.size := (Array.getElem?_eq_some_iff.1 h.1).1

def memS (S : Words) (m : Nat) : Bool := (S (m / 64)).testBit (m % 64)
def flipS (S : Words) (m : Nat) : Words := fun i => if i = m / 64 then S i ^^^ 2 ^ (m % 64) else S i

set_option maxHeartbeats 400000 in
theorem valid_yes (m : Int) (w : World) (h0 : 0 ≤ m) (h1 : m < 16384) :
    Calls Tryd.prog 40 #[.int .i64 m] w fun e w' => e = .returned (.bool true) ∧ w = w' := by
  go_enter Tryd.func40, Tryd.ntmps40
  go_wp2
  go_ret
  exact ⟨rfl, rfl⟩
set_option maxHeartbeats 400000 in
theorem valid_no (m : Int) (w : World) (h : m < 0 ∨ 16384 ≤ m) :
    Calls Tryd.prog 40 #[.int .i64 m] w fun e w' => e = .returned (.bool false) ∧ w = w' := by
  by_cases h0 : m < 0
  · clear h
    go_enter Tryd.func40, Tryd.ntmps40
    go_wp2
    go_ret
    exact ⟨rfl, rfl⟩
  · have h1 : 16384 ≤ m := by omega
    have h2 : 0 ≤ m := by omega
    clear h h0
    go_enter Tryd.func40, Tryd.ntmps40
    have h3 : decide (m < 16384) = false := by simpa using h1
    go_wp2
    go_ret
    exact ⟨by simp [h3], rfl⟩

theorem bit_and (x k : Nat) (hx : x < 18446744073709551616) : (bits .and .u64 ((x : Int) / 2 ^ k) 1 == 1) = x.testBit k := by
  have e : ((x : Int) / 2 ^ k) = ((x / 2 ^ k : Nat) : Int) := by simp
  rw [e, show (1 : Int) = ((1 : Nat) : Int) from rfl, u64_and_nat _ _ (Nat.lt_of_le_of_lt (Nat.div_le_self _ _) hx) (by omega), nat_mask1, Nat.testBit_eq_decide_div_mod_eq]
  rcases Nat.mod_two_eq_zero_or_one (x / 2 ^ k) with h | h <;> simp [h]

set_option maxHeartbeats 400000 in
theorem has_row (T : TypeId) (b : Nat) (S : Words) (m : Nat) (w : World) (hR : RowAt T w b S) (h1 : m < 16384) :
    Calls Tryd.prog 41 #[.pointer (some ⟨b, 0, none⟩), .int .i64 (m : Int)] w fun e w' => e = .returned (.bool (memS S m)) ∧ w = w' := by
  have hc := hR.cell (m / 64) (by omega)
  have hb := hR.2 (m / 64)
  obtain ⟨x, hx⟩ : ∃ x, S (m / 64) = x := ⟨_, rfl⟩
  rw [hx] at hc hb
  have HX := Lib.hid hx
  clear hx
  have g1 : (m : Int) < 16384 := by omega
  go_enter Tryd.func41, Tryd.ntmps41
  go_wp2
  go_ret
  refine ⟨?_, rfl⟩
  show Ending.returned (Value.bool (bits .and .u64 ((x : Int) / 2 ^ (m % 64)) 1 == 1)) = _
  rw [bit_and x (m % 64) hb, memS, HX.out]

theorem bit_xor (x k : Nat) (hx : x < 18446744073709551616) (hk : k < 64) : bits .xor .u64 (x : Int) (IntKind.u64.wrap (2 ^ k)) = ((x ^^^ 2 ^ k : Nat) : Int) := by
  have h : 2 ^ k < 18446744073709551616 := Nat.pow_lt_pow_right (a := 2) (m := k) (n := 64) (by omega) hk
  have e0 : ((2 : Int) ^ k) = ((2 ^ k : Nat) : Int) := by simp
  rw [e0]
  obtain ⟨y, hy⟩ : ∃ y : Nat, 2 ^ k = y := ⟨_, rfl⟩
  rw [hy] at h ⊢
  have e : IntKind.u64.wrap (y : Int) = y := by rw [IntKind.wrap_u64]; omega
  rw [e, bits_xor_u64_nat _ _ hx h]

theorem flip_cells (S : Words) (m : Nat) (h : m < 16384) : (rowCells S).setIfInBounds (m / 64) (.int .u64 ((S (m / 64) ^^^ 2 ^ (m % 64) : Nat) : Int)) = rowCells (flipS S m) := by
  apply Array.ext
  · rw [Array.size_setIfInBounds, rowCells_size, rowCells_size]
  · intro i h1 h2
    have hi : i < 256 := by rw [rowCells_size] at h2; exact h2
    rw [Array.getElem_setIfInBounds (by rw [rowCells_size]; exact hi), rowCells_at S i hi, rowCells_at (flipS S m) i hi]
    unfold flipS
    by_cases e : m / 64 = i
    · rw [if_pos e, if_pos e.symm, e]
    · rw [if_neg e, if_neg (fun x => e x.symm)]

theorem flip_lt {S : Words} (hS : ∀ i, S i < 18446744073709551616) (m : Nat) : ∀ i, flipS S m i < 18446744073709551616 := fun i => by
  unfold flipS
  split
  · exact Nat.xor_lt_two_pow (n := 64) (hS i) (Nat.pow_lt_pow_right (by omega) (by omega))
  · exact hS i

theorem RowAt.flip {T : TypeId} {W : World} {b : Nat} {S : Words} (h : RowAt T W b S) (m : Nat) (hm : m < 16384) :
    RowAt T (W.setCell ⟨b, m / 64, none⟩ (.int .u64 ((S (m / 64) ^^^ 2 ^ (m % 64) : Nat) : Int))) b (flipS S m) := by
  refine ⟨?_, flip_lt h.2 m⟩
  obtain ⟨hlt, hk⟩ := Array.getElem?_eq_some_iff.1 h.1
  show (W.heap.modify b _)[b]? = _
  rw [Array.getElem?_eq_getElem (by rw [Array.size_modify]; exact hlt), Array.getElem_modify_self, hk]
  simp [flip_cells S m hm]

set_option maxHeartbeats 400000 in
theorem flip_row (T : TypeId) (b : Nat) (S : Words) (m : Nat) (w : World) (hR : RowAt T w b S) (h1 : m < 16384) :
    Calls Tryd.prog 42 #[.pointer (some ⟨b, 0, none⟩), .int .i64 (m : Int)] w fun e w' => (∃ v, e = .returned v) ∧ RowAt T w' b (flipS S m) ∧ w.grownBy w' (some b) := by
  have hc := hR.cell (m / 64) (by omega)
  have hf := hR.frozen (m / 64)
  have hb := hR.2 (m / 64)
  obtain ⟨x, hx⟩ : ∃ x, S (m / 64) = x := ⟨_, rfl⟩
  rw [hx] at hc hb
  have HX := Lib.hid hx
  have HR := Lib.hid hR
  clear hx hR
  have g1 : (m : Int) < 16384 := by omega
  go_enter Tryd.func42, Tryd.ntmps42
  go_wp2
  go_region
  go_end0
  refine ⟨⟨_, rfl⟩, ?_, ?_⟩
  · rw [bit_xor x (m % 64) hb (by omega), ← HX.out]
    have h := HR.out.flip m h1
    exact ⟨h.1, h.2⟩
  · exact ⟨rfl, rfl, rfl, by simp [World.setCell], fun k hk hne => Below.heap_setCell _ _ _ k (fun e => hne (by rw [e]))⟩

/-- The set behind 'Put' of any number. -/
def okM (m : Int) : Bool := decide (0 ≤ m ∧ m < 16384)
def memZ (S : Words) (m : Int) : Bool := okM m && memS S m.toNat
def putS (S : Words) (m : Int) : Words := if okM m = true ∧ memS S m.toNat = false then flipS S m.toNat else S
def takeS (S : Words) (m : Int) : Words := if okM m = true ∧ memS S m.toNat = true then flipS S m.toNat else S
theorem okM_out {m : Int} (h : okM m = true) : 0 ≤ m ∧ m < 16384 := by simpa [okM] using h
theorem okM_no {m : Int} (h : okM m = false) : m < 0 ∨ 16384 ≤ m := by simp [okM] at h; omega

/-- What a call that may turn the set at b alone leaves. -/
def Turned (T : TypeId) (b : Nat) (S' : Words) (v : Value) (w : World) (e : Ending) (w' : World) : Prop := e = .returned v ∧ RowAt T w' b S' ∧ w.grownBy w' (some b)

theorem RowAt.turned {T : TypeId} {b : Nat} {S : Words} {w : World} (h : RowAt T w b S) : w.grownBy w (some b) := ⟨rfl, rfl, rfl, Nat.le_refl _, fun _ _ _ => rfl⟩

set_option maxHeartbeats 400000 in
theorem put_any (T : TypeId) (b : Nat) (S : Words) (m : Int) (w : World) (hR : RowAt T w b S) :
    Calls Tryd.prog 15 #[.pointer (some ⟨b, 0, none⟩), .int .i64 m] w (Turned T b (putS S m) (.bool (okM m && !memS S m.toNat)) w) := by
  cases ho : okM m
  · have hno := okM_no ho
    have e : putS S m = S := by simp [putS, ho]
    rw [e]
    have HN := Lib.hid hno
    have HR := Lib.hid hR
    clear hno hR e ho
    go_enter Tryd.func15, Tryd.ntmps15
    go_wp2_with (go_at_call 40; refine (valid_no m _ HN.out).mono ?_; rintro e w' ⟨rfl, rfl⟩)
    go_ret
    exact ⟨rfl, HR.out, HR.out.turned⟩
  · obtain ⟨h0, h1⟩ := okM_out ho
    obtain ⟨k, rfl⟩ : ∃ k : Nat, m = k := ⟨m.toNat, by omega⟩
    have hk : k < 16384 := by omega
    simp only [Int.toNat_natCast]
    cases hm : memS S k
    · have e : putS S k = flipS S k := by simp [putS, ho, hm]
      rw [e]
      have HR := Lib.hid hR
      have hc := hR.cell 0 (by omega)
      have h := has_row T b S k w hR hk
      rw [hm] at h
      have HH := Lib.hid h
      clear e hm h hR ho
      go_enter Tryd.func15, Tryd.ntmps15
      go_wp2_with (first
        | (go_at_call 40; refine (valid_yes _ _ h0 h1).mono ?_; rintro e w' ⟨rfl, rfl⟩)
        | (go_at_call 41; refine HH.out.mono ?_; rintro e w' ⟨rfl, rfl⟩)
        | (go_at_call 42; refine (flip_row T b S k _ HR.out hk).mono ?_; rintro e w' ⟨⟨v, rfl⟩, hR', hg⟩))
      go_ret
      exact ⟨rfl, hR', hg⟩
    · have e : putS S k = S := by simp [putS, hm]
      rw [e]
      have HR := Lib.hid hR
      have hc := hR.cell 0 (by omega)
      have h := has_row T b S k w hR hk
      rw [hm] at h
      have HH := Lib.hid h
      clear e hm h hR ho
      go_enter Tryd.func15, Tryd.ntmps15
      go_wp2_with (first
        | (go_at_call 40; refine (valid_yes _ _ h0 h1).mono ?_; rintro e w' ⟨rfl, rfl⟩)
        | (go_at_call 41; refine HH.out.mono ?_; rintro e w' ⟨rfl, rfl⟩))
      go_ret
      exact ⟨rfl, HR.out, HR.out.turned⟩

set_option maxHeartbeats 400000 in
theorem setHas_any (T : TypeId) (b : Nat) (S : Words) (m : Int) (w : World) (hR : RowAt T w b S) :
    Calls Tryd.prog 21 #[.pointer (some ⟨b, 0, none⟩), .int .i64 m] w fun e w' => e = .returned (.bool (memZ S m)) ∧ w = w' := by
  cases ho : okM m
  · have hno := okM_no ho
    have e : memZ S m = false := by simp [memZ, ho]
    rw [e]
    have HN := Lib.hid hno
    clear hno hR e ho
    go_enter Tryd.func21, Tryd.ntmps21
    go_wp2_with (go_at_call 40; refine (valid_no m _ HN.out).mono ?_; rintro e w' ⟨rfl, rfl⟩)
    go_ret
    exact ⟨rfl, rfl⟩
  · obtain ⟨h0, h1⟩ := okM_out ho
    obtain ⟨k, rfl⟩ : ∃ k : Nat, m = k := ⟨m.toNat, by omega⟩
    have hk : k < 16384 := by omega
    have e : memZ S k = memS S k := by simp [memZ, ho]
    rw [e]
    have hc := hR.cell 0 (by omega)
    have h := has_row T b S k w hR hk
    have HH := Lib.hid h
    clear e h hR ho
    go_enter Tryd.func21, Tryd.ntmps21
    go_wp2_with (first
      | (go_at_call 40; refine (valid_yes _ _ h0 h1).mono ?_; rintro e w' ⟨rfl, rfl⟩)
      | (go_at_call 41; refine HH.out.mono ?_; rintro e w' ⟨rfl, rfl⟩))
    go_ret
    exact ⟨rfl, rfl⟩

set_option maxHeartbeats 400000 in
theorem take_any (T : TypeId) (b : Nat) (S : Words) (m : Int) (w : World) (hR : RowAt T w b S) :
    Calls Tryd.prog 16 #[.pointer (some ⟨b, 0, none⟩), .int .i64 m] w (Turned T b (takeS S m) (.bool (memZ S m)) w) := by
  have h := setHas_any T b S m w hR
  cases hz : memZ S m
  · have e : takeS S m = S := by simp [takeS, memZ] at hz ⊢; intro a; rw [hz a]; simp
    rw [hz] at h
    rw [e]
    have HR := Lib.hid hR
    have HH := Lib.hid h
    clear h hR e hz
    go_enter Tryd.func16, Tryd.ntmps16
    go_wp2_with (go_at_call 21; refine HH.out.mono ?_; rintro e w' ⟨rfl, rfl⟩)
    go_ret
    exact ⟨rfl, HR.out, HR.out.turned⟩
  · have hz' : okM m = true ∧ memS S m.toNat = true := by simpa [memZ] using hz
    have e : takeS S m = flipS S m.toNat := by simp [takeS, hz']
    rw [hz] at h
    rw [e]
    obtain ⟨h0, h1⟩ := okM_out hz'.1
    obtain ⟨k, rfl⟩ : ∃ k : Nat, m = k := ⟨m.toNat, by omega⟩
    have hk : k < 16384 := by omega
    simp only [Int.toNat_natCast]
    have hc := hR.cell 0 (by omega)
    have HR := Lib.hid hR
    have HH := Lib.hid h
    clear h hR e hz hz'
    go_enter Tryd.func16, Tryd.ntmps16
    go_wp2_with (first
      | (go_at_call 21; refine HH.out.mono ?_; rintro e w' ⟨rfl, rfl⟩)
      | (go_at_call 42; refine (flip_row T b S k _ HR.out hk).mono ?_; rintro e w' ⟨⟨v, rfl⟩, hR', hg⟩))
    go_ret
    exact ⟨rfl, hR', hg⟩

end Go.Proofs.YtmdlknddlmpddaaDoor
