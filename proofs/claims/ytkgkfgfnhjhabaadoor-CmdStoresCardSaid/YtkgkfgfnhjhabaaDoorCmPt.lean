/-
  The document's part at each place of a field.
-/
import Derived.Test.YtkgkfgfnhjhabaaDoorCmW
import Derived.BigQuiet
import Derived.Deep.QuietTactic
namespace Go.Proofs.YtkgkfgfnhjhabaaDoor
open Go.ChangeShapes Go.WideShapes Go.ChangeAt Go.RowKit
set_option linter.unusedVariables false
set_option linter.unusedSimpArgs false

theorem pt_drew (V : World) : Below V.heap.size V V.drew := ⟨rfl, rfl, rfl, Nat.le_refl _, fun _ _ => rfl⟩
theorem pt_ret {a b : Int} (h : a = b) : Ending.returned (.int .i64 a) = Ending.returned (.int .i64 b) := by rw [h]

set_option maxRecDepth 100000 in
set_option maxHeartbeats 2000000 in
theorem part_0_32 (x : Nat) (hx : x < 18446744073709551616) (w : World) : Calls Tryd.prog 37 #[.int .u64 x, .int .i64 0, .int .i64 32] w fun e w' => e = .returned (.int .i64 ((x / 1 % 4294967296 : Nat) : Int)) ∧ Below w.heap.size w w' := by
  go_enter Tryd.func37, Tryd.ntmps37
  go_wp2
  go_region
  go_wp2
  go_ret
  exact ⟨pt_ret (by omega), pt_drew _⟩

set_option maxRecDepth 100000 in
set_option maxHeartbeats 2000000 in
theorem part_32_32 (x : Nat) (hx : x < 18446744073709551616) (w : World) : Calls Tryd.prog 37 #[.int .u64 x, .int .i64 32, .int .i64 32] w fun e w' => e = .returned (.int .i64 ((x / 4294967296 % 4294967296 : Nat) : Int)) ∧ Below w.heap.size w w' := by
  go_enter Tryd.func37, Tryd.ntmps37
  go_wp2
  go_region
  go_wp2
  go_ret
  exact ⟨pt_ret (by omega), pt_drew _⟩

set_option maxRecDepth 100000 in
set_option maxHeartbeats 2000000 in
theorem part_16_16 (x : Nat) (hx : x < 18446744073709551616) (w : World) : Calls Tryd.prog 37 #[.int .u64 x, .int .i64 16, .int .i64 16] w fun e w' => e = .returned (.int .i64 ((x / 65536 % 65536 : Nat) : Int)) ∧ Below w.heap.size w w' := by
  go_enter Tryd.func37, Tryd.ntmps37
  go_wp2
  go_region
  go_wp2
  go_ret
  exact ⟨pt_ret (by omega), pt_drew _⟩

set_option maxRecDepth 100000 in
set_option maxHeartbeats 2000000 in
theorem part_0_16 (x : Nat) (hx : x < 18446744073709551616) (w : World) : Calls Tryd.prog 37 #[.int .u64 x, .int .i64 0, .int .i64 16] w fun e w' => e = .returned (.int .i64 ((x / 1 % 65536 : Nat) : Int)) ∧ Below w.heap.size w w' := by
  go_enter Tryd.func37, Tryd.ntmps37
  go_wp2
  go_region
  go_wp2
  go_ret
  exact ⟨pt_ret (by omega), pt_drew _⟩

set_option maxRecDepth 100000 in
set_option maxHeartbeats 2000000 in
theorem part_0_5 (x : Nat) (hx : x < 18446744073709551616) (w : World) : Calls Tryd.prog 37 #[.int .u64 x, .int .i64 0, .int .i64 5] w fun e w' => e = .returned (.int .i64 ((x / 1 % 32 : Nat) : Int)) ∧ Below w.heap.size w w' := by
  go_enter Tryd.func37, Tryd.ntmps37
  go_wp2
  go_region
  go_wp2
  go_ret
  exact ⟨pt_ret (by omega), pt_drew _⟩

set_option maxRecDepth 100000 in
set_option maxHeartbeats 2000000 in
theorem part_8_40 (x : Nat) (hx : x < 18446744073709551616) (w : World) : Calls Tryd.prog 37 #[.int .u64 x, .int .i64 8, .int .i64 40] w fun e w' => e = .returned (.int .i64 ((x / 256 % 1099511627776 : Nat) : Int)) ∧ Below w.heap.size w w' := by
  go_enter Tryd.func37, Tryd.ntmps37
  go_wp2
  go_region
  go_wp2
  go_ret
  exact ⟨pt_ret (by omega), pt_drew _⟩

set_option maxRecDepth 100000 in
set_option maxHeartbeats 2000000 in
theorem part_63_1 (x : Nat) (hx : x < 18446744073709551616) (w : World) : Calls Tryd.prog 37 #[.int .u64 x, .int .i64 63, .int .i64 1] w fun e w' => e = .returned (.int .i64 ((x / 9223372036854775808 % 2 : Nat) : Int)) ∧ Below w.heap.size w w' := by
  go_enter Tryd.func37, Tryd.ntmps37
  go_wp2
  go_region
  go_wp2
  go_ret
  exact ⟨pt_ret (by omega), pt_drew _⟩

end Go.Proofs.YtkgkfgfnhjhabaaDoor
