/-
  sets.Of at every slice of ints; sets.Same at every two sets.
-/
import Derived.Test.YtmdlknddlmpddaaDoorSetF
namespace Go.Proofs.YtmdlknddlmpddaaDoor
open Go.ChangeShapes Go.WideShapes Go.ChangeAt Go.RowKit Go.Shelf
set_option linter.unusedVariables false

def S0 : Words := fun _ => 0
def putAll (S : Words) (xs : List Int) : Words := xs.foldl putS S
theorem putAll_snoc (S : Words) (xs : List Int) (x : Int) : putAll S (xs ++ [x]) = putS (putAll S xs) x := by simp [putAll]
theorem take_snoc (xs : List Int) {k : Nat} (h : k < xs.length) : xs.take (k + 1) = xs.take k ++ [xs[k]?.getD 0] := by
  rw [List.take_succ_eq_append_getElem h]; simp [h]

/-- A new set: it lies in a block of the call's own. -/
def NewSet (S : Words) (w : World) (e : Ending) (w' : World) : Prop := e = .returned (.pointer (some ⟨w.heap.size, 0, none⟩)) ∧ RowAt 58 w' w.heap.size S ∧ Below w.heap.size w w'

set_option maxRecDepth 100000 in
set_option maxHeartbeats 1000000 in
theorem of_any (xs : List Int) (a : Option Addr) (cap : Nat) (w : World) (hv : IntsAt w (.slice a xs.length cap) xs) (hl : xs.length ≤ 9223372036854775806) :
    Calls Tryd.prog 10 #[.slice a xs.length cap] w (NewSet (putAll S0 xs) w) := by
  obtain ⟨Z, eZ⟩ : ∃ Z, zeroRow = Z := ⟨_, rfl⟩
  have hR0 : RowAt 58 (w.alloc (.cells Z 58)) w.heap.size S0 := ⟨(World.alloc_heap_new w _).trans (by rw [← eZ]; rfl), fun i => by simp [S0]⟩
  have hB0 : Below w.heap.size w (w.alloc (.cells Z 58)) := (Below.refl _ w).alloc (Nat.le_refl _) _
  have HR0 := Lib.hid hR0
  have HV := Lib.hid hv
  have EZ := Lib.hid eZ
  clear hR0 hv eZ
  go_enter Tryd.func10, Tryd.ntmps10
  go_wp2_with (refine wpList_build_zero rfl rfl ?_; rw [EZ.out])
  go_loopw [10] (fun i wr => ∃ k : Nat, i = .int .i64 k ∧ Hid (k ≤ xs.length ∧ RowAt 58 wr w.heap.size (putAll S0 (xs.take k)) ∧ Below w.heap.size w wr)) (fun i _ => xs.length - (intOf i).toNat)
  case atStart => exact ⟨0, rfl, Lib.hid ⟨Nat.zero_le _, HR0.out, hB0⟩⟩
  case round =>
    obtain ⟨k, rfl, HH⟩ := hrel
    obtain ⟨hk, hR, hB⟩ := HH.out
    by_cases hlt : k < xs.length
    · obtain ⟨a', cap', e, hcap, hcs⟩ := HV.out
      simp only [Value.slice.injEq, true_and] at e
      obtain ⟨rfl, rfl⟩ := e
      obtain ⟨b, off, rfl, hcs2⟩ := hcs (fun e => by simp [e] at hlt)
      have hx := hcs2 k hlt
      have hbl := World.block_lt_of_cell? w _ hx
      have hx' := (hB.cell (p := ⟨b, off + k, none⟩) hbl).trans hx
      obtain ⟨x, ex⟩ : ∃ x, xs[k]?.getD 0 = x := ⟨_, rfl⟩
      rw [ex] at hx'
      have EX := Lib.hid ex
      have hki : (k : Int) < (xs.length : Int) := by omega
      have HLT := Lib.hid hlt
      have HR := Lib.hid hR
      have HB := Lib.hid hB
      clear hcs hcs2 hx ex hlt hR hB hB0 hbl hk
      go_wp2_with (go_at_call 15; refine (put_any _ w.heap.size _ x _ HR.out).mono ?_; rintro e w1 ⟨rfl, hR1, hg1⟩)
      go_roundw
      case rel => exact ⟨k + 1, by go_num, Lib.hid ⟨HLT.out, by rw [take_snoc xs HLT.out, putAll_snoc, EX.out]; exact hR1, Below.grown HB.out hg1 HB.out.size (fun j e => by cases e; exact Nat.le_refl _)⟩⟩
      case measure => have := HLT.out; simp only [intOf]; omega
    · have ek : k = xs.length := by omega
      subst ek
      rw [List.take_length] at hR
      have HR := Lib.hid hR
      have HB := Lib.hid hB
      clear hR hB hlt hk HH
      go_wp2
      go_ret
      exact ⟨rfl, HR.out, HB.out⟩

end Go.Proofs.YtmdlknddlmpddaaDoor
