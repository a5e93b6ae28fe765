/-
  MemBack: what is written is read: its walk.
-/
import Derived.Test.YthndfkggahhleaaMemN
import Derived.Test.YthndfkggahhleaaMemParts
namespace Go.Proofs.Ythndfkggahhleaa
open Go.ChangeShapes Go.WideShapes Go.ChangeAt Go.RowKit
set_option linter.unusedVariables false

set_option maxHeartbeats 4000000 in
theorem memBack_no (size : Int) (sv : Value) (xs : List ActD) (a s off wd : Int) (v : Nat) (w : World) (hacts : ActsAt w sv xs)
    (ha0 : -9223372036854775808 ≤ a) (ha1 : a ≤ 9223372036854775807) (hs0 : -9223372036854775808 ≤ s) (hs1 : s ≤ 9223372036854775807) (hv : v < 18446744073709551616)
    (hE : accE (newN size) a s off wd ≠ 0) :
    Calls Try.prog 5 #[.int .i64 size, sv, win a s, .int .i64 off, .int .i64 wd, .int .u64 v] w fun e w' => e = .returned (.bool true) ∧ Below w.heap.size w w' := by
  have HS := hi (hacts.below (bal w (.cells #[.int .i64 a, .int .i64 s] 29)))
  have HA := hi (And.intro ha0 (And.intro ha1 (And.intro hs0 hs1)))
  have HE := hi hE
  obtain ⟨sa, scap, rfl, hsl, _, _⟩ := hacts
  clear ha0 ha1 hs0 hs1 hE
  unfold win
  go_enter Try.func5, Try.ntmps5
  go_wp2_with (first
    | (go_at_call 8; ((with_reducible refine (awake_any _).mono ?_); rintro e w1 ⟨rfl, hb1⟩; have HK1 := hi hb1; clear hb1))
    | (go_at_call 9; ((with_reducible refine (lawNew_any size _).mono ?_); rintro e w2 ⟨p, g, q, h, rfl, hB⟩; have HM0 := hi (Since.base hB.mem HK1.out); clear hB)))
  have hnl := newN_le size
  go_loopw [16] (fun i wr => ∃ j : Nat, i = .int .i64 j ∧ Hi (j ≤ xs.length ∧ ∃ bs : List Nat, bs.length = newN size ∧ Since (w.alloc (.cells #[.int .i64 a, .int .i64 s] 29)) p g (newN size) bs wr)) (fun i _ => xs.length - (intOf i).toNat)
  case atStart => exact ⟨0, rfl, hi ⟨Nat.zero_le _, _, List.length_replicate, HM0.out⟩⟩
  case round =>
    obtain ⟨j, rfl, HJ⟩ := hrel
    have hj := HJ.out.1
    obtain ⟨bs, hbl, hsn⟩ := HJ.out.2
    have HSN := hi hsn
    have HBL := hi hbl
    clear hsn hbl
    by_cases hlt : j < xs.length
    · obtain ⟨x, bv, b, off, hmem, rfl, hfair, hy, c0, c1, c2, c3, c4, c5, c6⟩ := actsAt_read HS.out HSN.out.below hlt
      have HX := hi (And.intro hfair hy)
      clear hmem hfair hy
      go_wp2_with (go_at_call 14; ((with_reducible refine (does_out p g (newN size) bs x bv _ HX.out.1 HSN.out.mem HX.out.2).mono ?_); rintro e w3 ⟨rfl, hm3, hk3⟩))
      have HS3 := hi (HSN.out.wrote hk3 hm3)
      clear hm3 hk3
      go_roundw
      case rel => exact ⟨j + 1, by go_num, hi ⟨hlt, _, (doL_len (by rw [HBL.out]; omega)).trans HBL.out, HS3.out⟩⟩
      case measure => simp [intOf]; omega
    · have e : j = xs.length := by omega
      subst e
      obtain ⟨c0, c1, _⟩ := (box2_new w (.int .i64 a) (.int .i64 s) 29).below HSN.out.below
      obtain ⟨m, hm⟩ : ∃ m, accE (newN size) a s off wd = m := ⟨_, rfl⟩
      have HW := hi (fun W (hW : MemAt 60 W p g (newN size) bs) => write_any p g (newN size) bs a s off wd v W hW HA.out.1 HA.out.2.1 HA.out.2.2.1 HA.out.2.2.2 hv)
      rw [HBL.out, hm] at HW
      unfold win at HW
      have hne : (m != 0) = true := by have := HE.out; rw [hm] at this; simpa using this
      clear hm
      go_wp2_with (go_at_call 11; ((with_reducible refine (HW.out _ HSN.out.mem).mono ?_); rintro e w3 ⟨rfl, hm3, hk3⟩))
      go_ret
      exact ⟨rfl, (bal w _).trans ((HSN.out.wrote hk3 hm3).below.mono (by simp))⟩

end Go.Proofs.Ythndfkggahhleaa
