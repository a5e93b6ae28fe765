/-
  The law IrqOnce at every input.
-/
import Derived.Test.YtjcgcnghjcbkeaaIrqI
namespace Go.Proofs.Ytjcgcnghjcbkeaa
open Go.ChangeShapes Go.WideShapes Go.ChangeAt Go.RowKit
set_option linter.unusedVariables false

theorem intsAt_two (W : World) (t : TypeId) (a b : Int) : IntsAt (W.alloc (.cells #[.int .i64 a, .int .i64 b] t)) (.slice (some ⟨W.heap.size, 0, none⟩) 2 2) [a, b] := by
  refine ⟨_, 2, rfl, ⟨by simp, by unfold maxLen; omega⟩, fun _ => ⟨W.heap.size, 0, rfl, fun j hj => ?_⟩⟩
  rw [(CB.new W t _).cell]
  match j, hj with
  | 0, _ => rfl
  | 1, _ => rfl

/-- The state ahead of a round. -/
def onceS (k : Nat) : St := ⟨true, false, decide (0 < k), false⟩
theorem onceS_run (k : Nat) : (onceS k).run [1, 2] = ⟨true, false, true, false⟩ := by
  cases h : decide (0 < k) <;> simp [onceS, h, St.run, St.step]

/-- A box whose state is known, and what lay. -/
structure At1 (w : World) (x : St) (wr : World) : Prop where
  box : CB wr w.heap.size 23 x.cs
  below : Below w.heap.size w wr
theorem At1.call {w wr w1 : World} {x : St} {cs : Array Value} {t : TypeId} (h : At1 w x wr) (k : Below (wr.alloc (.cells cs t)).heap.size (wr.alloc (.cells cs t)) w1) (y : St) :
    At1 w y ((((w1.setCell ⟨w.heap.size, 0, none⟩ (.bool y.e)).setCell ⟨w.heap.size, 1, none⟩ (.bool y.l)).setCell ⟨w.heap.size, 2, none⟩ (.bool y.h)).setCell ⟨w.heap.size, 3, none⟩ (.bool y.a)) :=
  ⟨CB.set4 (z := x) (old_box h.box k) y, below_set4 (after_box h.below k).2 (Nat.le_refl _) y⟩
theorem once_start {w w1 : World} {x : St} (h : CB w1 w.heap.size 23 x.cs) (hB : Below w.heap.size w w1) :
    At1 w (onceS 0) ((((w1.setCell ⟨w.heap.size, 0, none⟩ (.bool true)).setCell ⟨w.heap.size, 3, none⟩ (.bool false)).setCell ⟨w.heap.size, 2, none⟩ (.bool false)).setCell ⟨w.heap.size, 1, none⟩ (.bool false)) :=
  ⟨(((h.set 0 _).set 3 _).set 2 _).set 1 _, below_set (below_set (below_set (below_set hB (Nat.le_refl _) _) (Nat.le_refl _) _) (Nat.le_refl _) _) (Nat.le_refl _) _⟩

set_option maxHeartbeats 4000000 in
theorem lawOnce_any (x : St) (m : Nat) (hm : m < 256) (w : World) : Calls Try.prog 5 #[x.v, .int .u8 (m : Int)] w fun e w' => e = .returned (.bool true) ∧ Below w.heap.size w w' := by
  obtain ⟨e, l, q, a⟩ := x
  dsimp only [St.v] at *
  go_enter Try.func5, Try.ntmps5
  go_wp2_with (first
    | (go_at_call 9; ((with_reducible refine (awake_any _).mono ?_); rintro e' w3 ⟨rfl, hb⟩; obtain ⟨hS, hB⟩ := box_call hb; have HS := hi (once_start (x := ⟨e, l, q, a⟩) hS hB); have f := hS.frozen; obtain ⟨s0, s1, s2, s3⟩ := CB.cells (x := ⟨e, l, q, a⟩) hS; clear hb hS hB)))
  obtain ⟨R, hR⟩ : ∃ R, m % 9 = R := ⟨_, rfl⟩
  have hR9 : R < 9 := by omega
  go_loopw [6] (fun i wr => ∃ k : Nat, k ≤ R + 1 ∧ i = .int .i64 k ∧ Hi (At1 w (onceS k) wr)) (fun i _ => R + 1 - (intOf i).toNat)
  case atStart => exact ⟨0, Nat.zero_le _, rfl, HS⟩
  case round =>
    obtain ⟨k, hk, rfl, HA⟩ := hrel
    obtain ⟨s0, s1, s2, s3⟩ := HA.out.box.cells
    clear HS f
    by_cases hlt : k ≤ R
    · have HC := hi (fun (W : World) (v : Value) (h : IntsAt W v [1, 2]) => play_any (onceS k) [1, 2] v W h (by simp))
      rw [onceS_run] at HC
      have HK := hi (show onceS (k + 1) = ⟨true, false, true, false⟩ by simp [onceS])
      dsimp only [St.v] at HC
      go_wp2_with (go_at_call 25; ((with_reducible refine (HC.out _ _ (intsAt_two _ _ _ _)).mono ?_); rintro e' w4 ⟨rfl, hb⟩; have HX := hi (HA.out.call hb ⟨true, false, true, false⟩); rw [← HK.out] at HX; have hB := old_box HA.out.box hb; obtain ⟨t0, t1, t2, t3⟩ := hB.cells; have f := hB.frozen; clear hb hB))
      go_roundw
      case rel => exact ⟨k + 1, by omega, by go_num, HX⟩
      case measure => simp [intOf]; omega
    · obtain rfl : k = R + 1 := by omega
      have C1 := hi (fun W => step_any ⟨true, false, true, false⟩ 5 W)
      rw [show St.step ⟨true, false, true, false⟩ 5 = ⟨true, false, false, true⟩ by decide] at C1
      have C2 := hi (fun W => step_any ⟨true, false, false, true⟩ 6 W)
      rw [show St.step ⟨true, false, false, true⟩ 6 = ⟨true, false, false, false⟩ by decide] at C2
      have C3 := hi (fun W => ready_any ⟨true, false, true, false⟩ W)
      rw [show St.ready ⟨true, false, true, false⟩ = true by decide] at C3
      have C4 := hi (fun W => pend_any ⟨true, false, false, true⟩ W)
      rw [show St.pend ⟨true, false, false, true⟩ = false by decide] at C4
      have C5 := hi (fun W => phase_any ⟨true, false, false, false⟩ W)
      rw [show St.phase ⟨true, false, false, false⟩ = 0 by decide] at C5
      dsimp only [St.v] at *
      rw [show onceS (R + 1) = ⟨true, false, true, false⟩ by simp [onceS]] at s0 s1 s2 s3 HA
      dsimp only at s0 s1 s2 s3
      go_wp2_with (first
        | (go_at_call 12; ((with_reducible refine (C1.out _).mono ?_); rintro e' w4 ⟨rfl, hb⟩; have HS4 := hi (HA.out.box.below hb); have HB4 := hi (HA.out.below.trans (hb.mono HA.out.below.size)); obtain ⟨q0, q1, q2, q3⟩ := CB.cells (x := ⟨true, false, true, false⟩) HS4.out; clear hb))
        | (go_at_call 12; ((with_reducible refine (C2.out _).mono ?_); rintro e' w5 ⟨rfl, hb⟩; have HS5 := hi (old_box HS4.out hb); obtain ⟨hT, hB⟩ := after_box HB4.out hb; have HT5 := hi (hT.alloc (.cells #[.bool true, .bool false, .bool false, .bool false] 23)); have HB5 := hi hB; obtain ⟨q0, q1, q2, q3⟩ := CB.cells (x := ⟨true, false, true, false⟩) (HS5.out.alloc (.cells #[.bool true, .bool false, .bool false, .bool false] 23)); obtain ⟨p0, p1, p2, p3⟩ := CB.cells (x := ⟨true, false, false, true⟩) HT5.out; clear hb hT hB))
        | (go_at_call 15; ((with_reducible refine (C3.out _).mono ?_); rintro e' w6 ⟨rfl, hb⟩; have HT6 := hi (HT5.out.below hb); obtain ⟨hU, hB⟩ := after_box HB5.out hb; have HU6 := hi hU; have HB6 := hi hB; obtain ⟨p0, p1, p2, p3⟩ := CB.cells (x := ⟨true, false, false, true⟩) HT6.out; clear hb hU hB))
        | (go_at_call 13; ((with_reducible refine (C4.out _).mono ?_); rintro e' w7 ⟨rfl, hb⟩; have HU7 := hi (HU6.out.below hb); have HB7 := hi (HB6.out.trans (hb.mono HB6.out.size)); obtain ⟨p0, p1, p2, p3⟩ := CB.cells (x := ⟨true, false, false, false⟩) HU7.out; clear hb))
        | (go_at_call 17; ((with_reducible refine (C5.out _).mono ?_); rintro e' w8 ⟨rfl, hb⟩; have HB8 := hi (HB7.out.trans (hb.mono HB7.out.size)); clear hb)))
      go_ret
      exact ⟨rfl, HB8.out⟩

end Go.Proofs.Ytjcgcnghjcbkeaa
