/-
  The document's examples, as the statements of ring run them (awake): it answers true, and nothing that lay has turned.
-/
import Derived.Test.YtpabmfmiikmnpaaRingE
import Derived.Test.YtpabmfmiikmnpaaInts
namespace Go.Proofs.Ytpabmfmiikmnpaa
open Go.ChangeShapes Go.WideShapes Go.ChangeAt Go.RowKit Go.Shelf
set_option linter.unusedVariables false

theorem intsAt_grew {W W' : World} {v : Value} {xs : List Int} (h : IntsAt W v xs) (hb : Below W.heap.size W W') : IntsAt W' v xs := by
  obtain ⟨a, cap, hv, hcap, hc⟩ := h
  refine ⟨a, cap, hv, hcap, fun hx => ?_⟩
  obtain ⟨b, off, ha, hcs⟩ := hc hx
  exact ⟨b, off, ha, fun j hj => cell_kept (hcs j hj) (Below.grew hb) (fun r e => by cases e)⟩

theorem lawEach_any (s t r v : Int) (hs : s ≤ 9223372036854775807) (w : World) :
    Calls Try.prog 22 #[.agg #[.int .i64 s, .int .i64 t], .int .i64 r, .int .i64 v] w fun e W' => ∃ o, e = .returned o ∧ OwnsInts w W' o (xsR s t r v) ∧ Below w.heap.size w W' :=
  callsIn_wide.1 (lawEach_in 3 (Nat.le_refl _) s t r v hs w)

/-- The slice that comes is some value that holds the numbers. -/
def SomeInts (w : World) (xs : List Int) (e : Ending) (W' : World) : Prop := ∃ a cap, e = .returned (.slice a xs.length cap) ∧ IntsAt W' (.slice a xs.length cap) xs ∧ Below w.heap.size w W'

theorem lawEach_ints (s t r v : Int) (hs : s ≤ 9223372036854775807) (w : World) :
    Calls Try.prog 22 #[.agg #[.int .i64 s, .int .i64 t], .int .i64 r, .int .i64 v] w (SomeInts w (xsR s t r v)) :=
  (lawEach_any s t r v hs w).mono fun e W' ⟨o, he, ho, hb⟩ => by
    have hi := intsAt_row ho.1
    obtain ⟨a, cap, rfl, hcap, hc⟩ := hi
    exact ⟨a, cap, he, ⟨a, cap, rfl, hcap, hc⟩, hb⟩

theorem aw_next (w : World) : Calls Try.prog 15 #[.agg #[.int .i64 96, .int .i64 32], .int .i64 64] w fun e w' => e = .returned (.tuple #[.int .i64 0, .int .i64 0]) ∧ Below w.heap.size w w' :=
  next_yes 96 32 64 w (by decide) (by decide)
theorem aw_left (w : World) : Calls Try.prog 19 #[.agg #[.int .i64 96, .int .i64 32], .int .i64 64, .int .i64 32] w fun e w' => e = .returned (.tuple #[.int .i64 2, .int .i64 0]) ∧ Below w.heap.size w w' :=
  left_yes 96 32 64 32 w (by decide) (by decide) (by decide)
theorem aw_may (w : World) : Calls Try.prog 13 #[.agg #[.int .i64 96, .int .i64 32], .int .i64 33] w fun e w' => e = .returned (.bool false) ∧ Below w.heap.size w w' :=
  may_no 96 32 33 w (by decide) (by decide)
theorem aw_right (w : World) : Calls Try.prog 12 #[.agg #[.int .i64 96, .int .i64 40]] w fun e w' => e = .returned (.int .i64 1) ∧ Below w.heap.size w w' :=
  right_no 96 40 w (by decide) (by decide)
theorem aw_xs : xsR 96 32 64 32 = [64, 0] := by decide
theorem aw_each (w : World) : Calls Try.prog 22 #[.agg #[.int .i64 96, .int .i64 32], .int .i64 64, .int .i64 32] w (SomeInts w [64, 0]) :=
  (lawEach_ints 96 32 64 32 (by decide) w).mono fun e w' h => by rw [aw_xs] at h; exact h

theorem aw_lit (W : World) : IntsAt (W.alloc (.cells #[.int .i64 64, .int .i64 0] 3)) (.slice (some ⟨W.heap.size, 0, none⟩) 2 2) [64, 0] := by
  refine ⟨_, 2, rfl, ⟨by simp, by unfold maxLen; omega⟩, fun _ => ⟨W.heap.size, 0, rfl, fun j hj => ?_⟩⟩
  match j, hj with
  | 0, _ => simp
  | 1, _ => simp
  | j + 2, hj => exact absurd hj (by simp)

theorem below_drewN {B : Nat} {a w : World} (h : Below B a w) (n : Nat) : Below B a (w.drewN n) := ⟨h.os, h.tape, h.output, h.size, h.block⟩

theorem aw_same (a : Option Addr) (cap : Nat) (W : World) (h : IntsAt W (.slice a 2 cap) [64, 0]) :
    Calls Try.prog 21 #[.slice a 2 cap, .slice (some ⟨W.heap.size, 0, none⟩) 2 2] (W.alloc (.cells #[.int .i64 64, .int .i64 0] 3)) fun e w' => e = .returned (.bool true) ∧ Below W.heap.size W w' := by
  have hb : Below W.heap.size W (W.alloc (.cells #[.int .i64 64, .int .i64 0] 3)) := (Below.refl _ _).alloc (Nat.le_refl _) _
  refine (same_any [64, 0] [64, 0] _ _ _ (intsAt_grew h hb) (aw_lit W) (by decide) (by decide)).mono ?_
  rintro e w' ⟨rfl, m, rfl⟩
  exact ⟨by simp [sameB], below_drewN hb m⟩

set_option maxRecDepth 100000 in
set_option maxHeartbeats 1000000 in
theorem awake_any (w : World) : Calls Try.prog 9 #[] w fun e w' => e = .returned (.bool true) ∧ Below w.heap.size w w' := by
  go_enter Try.func9, Try.ntmps9
  go_wp2_with (first
    | (go_at_call 15; refine (aw_next _).mono ?_; rintro e w1 ⟨rfl, hb⟩; obtain ⟨hc1, hf1⟩ := bcell hb; have hz1 := hsz hb; have HB1 := ba hb; clear hb)
    | (go_at_call 19; refine (aw_left _).mono ?_; rintro e w2 ⟨rfl, hb⟩; obtain ⟨hc2, hf2⟩ := bcell hb; have hz2 := Nat.lt_of_lt_of_le hz1 hb.size; have HB2 := HB1.trans (hb.mono (Nat.le_of_lt hz1)); clear hb)
    | (go_at_call 13; refine (aw_may _).mono ?_; rintro e w3 ⟨rfl, hb⟩; obtain ⟨hc3, hf3⟩ := bcell hb; have hz3 := Nat.lt_of_lt_of_le hz2 hb.size; have HB3 := HB2.trans (hb.mono (Nat.le_of_lt hz2)); clear hb)
    | (go_at_call 12; refine (aw_right _).mono ?_; rintro e w4 ⟨rfl, hb⟩; obtain ⟨hc4, hf4⟩ := bcell hb; have hz4 := Nat.lt_of_lt_of_le hz3 hb.size; have HB4 := HB3.trans (hb.mono (Nat.le_of_lt hz3)); clear hb)
    | (go_at_call 22; refine (aw_each _).mono ?_; rintro e w5 ⟨a5, cap5, rfl, hi5, hb⟩; obtain ⟨hc5, hf5⟩ := bcell hb; have hz5 := Nat.lt_of_lt_of_le hz4 hb.size; have HB5 := HB4.trans (hb.mono (Nat.le_of_lt hz4)); clear hb))
  refine (aw_same a5 cap5 w5 hi5).mono ?_
  rintro e w6 ⟨rfl, hb6⟩
  go_wp2
  go_ret
  exact ⟨rfl, HB5.trans (hb6.mono (Nat.le_of_lt hz5))⟩

end Go.Proofs.Ytpabmfmiikmnpaa
