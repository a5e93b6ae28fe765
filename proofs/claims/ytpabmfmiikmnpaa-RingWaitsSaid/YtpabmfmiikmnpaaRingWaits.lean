/-
  RingWaits: for every ring, read, write and place: what waits, how much of it, and how much room there is, is what the document says (the law answers true). No condition.
-/
import Derived.Test.YtpabmfmiikmnpaaRingWaits2
namespace Go.Proofs.Ytpabmfmiikmnpaa
open Go.ChangeShapes Go.WideShapes Go.ChangeAt Go.RowKit Go.Shelf
set_option linter.unusedVariables false

theorem each_x (s t r v : Int) (xs : List Int) (hs : s ≤ 9223372036854775807) (w : World) (e : xsR s t r v = xs) :
    Calls Try.prog 22 #[.agg #[.int .i64 s, .int .i64 t], .int .i64 r, .int .i64 v] w (SomeInts w xs) := e ▸ lawEach_ints s t r v hs w
theorem refWaits_x (s t r v : Int) (xs : List Int) (hs : s ≤ 9223372036854775807) (w : World) (e : xsR s t r v = xs) :
    Calls Try.prog 18 #[.int .i64 s, .int .i64 t, .int .i64 r, .int .i64 v] w (SomeInts w xs) := e ▸ refWaits_ints s t r v hs w
theorem waits_x (s t r v a : Int) (xs : List Int) (b : Bool) (hs : s ≤ 9223372036854775807) (w : World) (e : xsR s t r v = xs) (eb : isIn xs a = b) :
    Calls Try.prog 23 #[.agg #[.int .i64 s, .int .i64 t], .int .i64 r, .int .i64 v, .int .i64 a] w fun e W' => e = .returned (.bool b) ∧ Below w.heap.size w W' := by
  subst eb; subst e; exact waits_any s t r v a w hs
theorem has_x (xs : List Int) (x : Int) (b : Bool) (a : Option Addr) (cap : Nat) (w : World) (eb : isIn xs x = b) (hx : xs.length ≤ 9223372036854775806) (ha : IntsAt w (.slice a xs.length cap) xs) :
    Calls Try.prog 24 #[.slice a xs.length cap, .int .i64 x] w fun e w' => e = .returned (.bool b) ∧ Below w.heap.size w w' :=
  (has_any xs x _ w ha hx).mono fun e w' ⟨h1, h2⟩ => ⟨by rw [h1, eb], by rw [h2]; exact Below.refl _ _⟩
theorem same_x (xs : List Int) (a b : Option Addr) (cap cap' : Nat) (w : World) (hx : xs.length ≤ 9223372036854775806) (ha : IntsAt w (.slice a xs.length cap) xs) (hb : IntsAt w (.slice b xs.length cap') xs) :
    Calls Try.prog 21 #[.slice a xs.length cap, .slice b xs.length cap'] w fun e w' => e = .returned (.bool true) ∧ Below w.heap.size w w' :=
  (same_any xs xs _ _ w ha hb hx hx).mono fun e w' ⟨h1, m, h2⟩ => ⟨by rw [h1]; simp [sameB], by rw [h2]; exact below_drewN (Below.refl _ _) m⟩
theorem left_x (s t r v : Int) (xs : List Int) (hs : s ≤ 9223372036854775807) (w : World) (e : leftR s t r v = xs.length) (h : mayB s t r = true) (g : mayB s t v = true) :
    Calls Try.prog 19 #[.agg #[.int .i64 s, .int .i64 t], .int .i64 r, .int .i64 v] w fun e w' => e = .returned (.tuple #[.int .i64 xs.length, .int .i64 0]) ∧ Below w.heap.size w w' := e ▸ left_yes s t r v w h g hs
theorem room_x (s t r v : Int) (xs : List Int) (hs : s ≤ 9223372036854775807) (w : World) (e : leftR s t r v = xs.length) (h : mayB s t r = true) (g : mayB s t v = true) :
    Calls Try.prog 20 #[.agg #[.int .i64 s, .int .i64 t], .int .i64 r, .int .i64 v] w fun e w' => e = .returned (.tuple #[.int .i64 (s / t - 1 - xs.length), .int .i64 0]) ∧ Below w.heap.size w w' := e ▸ room_yes s t r v w h g hs

set_option maxRecDepth 100000 in
set_option maxHeartbeats 4000000 in
theorem ringWaits_yes (s t r v a : Int) (xs : List Int) (b : Bool) (w : World) (hs : s ≤ 9223372036854775807) (ex : xsR s t r v = xs) (eb : isIn xs a = b) (hl : xs.length ≤ 9223372036854775806) (hr : mayB s t r = true) (hv : mayB s t v = true) (en : leftR s t r v = xs.length) (hn : (xs.length : Int) < s / t) (ri : 0 ≤ r / t) (vi : 0 ≤ v / t) :
    Calls Try.prog 4 #[.agg #[.int .i64 s, .int .i64 t], .int .i64 r, .int .i64 v, .int .i64 a] w fun e w' => e = .returned (.bool true) ∧ Below w.heap.size w w' := by
  have HB := Below.refl (w.alloc (.cells #[.int .i64 s, .int .i64 t] 23)).heap.size (w.alloc (.cells #[.int .i64 s, .int .i64 t] 23))
  have EX := Lib.hid ex
  have EB := Lib.hid eb
  clear ex eb
  obtain ⟨hright, _⟩ := mayB_out hr
  obtain ⟨k1, k2, _, k4⟩ := rightB_out hright
  have HR := Lib.hid hr
  have HV := Lib.hid hv
  have EN := Lib.hid en
  clear hr hv en hright
  go_enter Try.func4, Try.ntmps4
  go_wp2_with (first
    | (go_at_call 9; ((with_reducible refine (awake_any _).mono ?_); rintro e w1 ⟨rfl, hb⟩; replace HB := HB.trans (hb.mono HB.size); (try clear hc hf); obtain ⟨hc, hf⟩ := bcell HB; clear hb))
    | (go_at_call 18; ((with_reducible refine (refWaits_x s t r v xs hs _ EX.out).mono ?_); rintro e w1 ⟨a1, cap1, rfl, hi1, hb⟩; replace HB := HB.trans (hb.mono HB.size); (try clear hc hf); obtain ⟨hc, hf⟩ := bcell HB; clear hb))
    | (go_at_call 19; ((with_reducible refine (left_x s t r v xs hs _ EN.out HR.out HV.out).mono ?_); rintro e w1 ⟨rfl, hb⟩; replace HB := HB.trans (hb.mono HB.size); (try clear hc hf); obtain ⟨hc, hf⟩ := bcell HB; replace hi1 := intsAt_grew hi1 hb; clear hb))
    | (go_at_call 20; ((with_reducible refine (room_x s t r v xs hs _ EN.out HR.out HV.out).mono ?_); rintro e w1 ⟨rfl, hb⟩; replace HB := HB.trans (hb.mono HB.size); (try clear hc hf); obtain ⟨hc, hf⟩ := bcell HB; replace hi1 := intsAt_grew hi1 hb; clear hb))
    | (go_at_call 22; ((with_reducible refine (each_x s t r v xs hs _ EX.out).mono ?_); rintro e w1 ⟨a2, cap2, rfl, hi2, hb⟩; replace HB := HB.trans (hb.mono HB.size); (try clear hc hf); obtain ⟨hc, hf⟩ := bcell HB; replace hi1 := intsAt_grew hi1 hb; clear hb))
    | (go_at_call 21; ((with_reducible refine (same_x xs _ _ _ _ _ hl hi2 hi1).mono ?_); rintro e w1 ⟨rfl, hb⟩; replace HB := HB.trans (hb.mono HB.size); (try clear hc hf); obtain ⟨hc, hf⟩ := bcell HB; replace hi1 := intsAt_grew hi1 hb; clear hi2; clear hb))
    | (go_at_call 23; ((with_reducible refine (waits_x s t r v a xs b hs _ EX.out EB.out).mono ?_); rintro e w1 ⟨rfl, hb⟩; replace HB := HB.trans (hb.mono HB.size); (try clear hc hf); obtain ⟨hc, hf⟩ := bcell HB; replace hi1 := intsAt_grew hi1 hb; clear hb))
    | (go_at_call 24; ((with_reducible refine (has_x xs a b _ _ _ EB.out hl hi1).mono ?_); rintro e w1 ⟨rfl, hb⟩; replace HB := HB.trans (hb.mono HB.size); (try clear hc hf); obtain ⟨hc, hf⟩ := bcell HB; replace hi1 := intsAt_grew hi1 hb; clear hb))
    | (go_at_call 11; ((with_reducible refine (refIndex_y s t r _ HR.out hs).mono ?_); rintro e w1 ⟨rfl, hb⟩; replace HB := HB.trans (hb.mono HB.size); (try clear hc hf); obtain ⟨hc, hf⟩ := bcell HB; clear hb))
    | (go_at_call 11; ((with_reducible refine (refIndex_y s t v _ HV.out hs).mono ?_); rintro e w1 ⟨rfl, hb⟩; replace HB := HB.trans (hb.mono HB.size); (try clear hc hf); obtain ⟨hc, hf⟩ := bcell HB; clear hb)))
  go_ret
  exact ⟨by first | rfl | (simp; done), ba HB⟩

set_option maxRecDepth 100000 in
set_option maxHeartbeats 4000000 in
theorem ringWaits_no1 (s t r v a : Int) (xs : List Int) (b : Bool) (w : World) (hs : s ≤ 9223372036854775807) (ex : xsR s t r v = xs) (eb : isIn xs a = b) (hl : xs.length ≤ 9223372036854775806) (hr : mayB s t r = false) :
    Calls Try.prog 4 #[.agg #[.int .i64 s, .int .i64 t], .int .i64 r, .int .i64 v, .int .i64 a] w fun e w' => e = .returned (.bool true) ∧ Below w.heap.size w w' := by
  have HB := Below.refl (w.alloc (.cells #[.int .i64 s, .int .i64 t] 23)).heap.size (w.alloc (.cells #[.int .i64 s, .int .i64 t] 23))
  have EX := Lib.hid ex
  have EB := Lib.hid eb
  clear ex eb
  have hm : (mayB s t r && mayB s t v) = false := by simp [hr]
  have HR := Lib.hid hr
  have HM := Lib.hid hm
  clear hr hm
  go_enter Try.func4, Try.ntmps4
  go_wp2_with (first
    | (go_at_call 9; ((with_reducible refine (awake_any _).mono ?_); rintro e w1 ⟨rfl, hb⟩; replace HB := HB.trans (hb.mono HB.size); (try clear hc hf); obtain ⟨hc, hf⟩ := bcell HB; clear hb))
    | (go_at_call 18; ((with_reducible refine (refWaits_x s t r v xs hs _ EX.out).mono ?_); rintro e w1 ⟨a1, cap1, rfl, hi1, hb⟩; replace HB := HB.trans (hb.mono HB.size); (try clear hc hf); obtain ⟨hc, hf⟩ := bcell HB; clear hb))
    | (go_at_call 19; ((with_reducible refine (left_no s t r v _ HM.out hs).mono ?_); rintro e w1 ⟨rfl, hb⟩; replace HB := HB.trans (hb.mono HB.size); (try clear hc hf); obtain ⟨hc, hf⟩ := bcell HB; replace hi1 := intsAt_grew hi1 hb; clear hb))
    | (go_at_call 20; ((with_reducible refine (room_no s t r v _ HM.out hs).mono ?_); rintro e w1 ⟨rfl, hb⟩; replace HB := HB.trans (hb.mono HB.size); (try clear hc hf); obtain ⟨hc, hf⟩ := bcell HB; replace hi1 := intsAt_grew hi1 hb; clear hb))
    | (go_at_call 22; ((with_reducible refine (each_x s t r v xs hs _ EX.out).mono ?_); rintro e w1 ⟨a2, cap2, rfl, hi2, hb⟩; replace HB := HB.trans (hb.mono HB.size); (try clear hc hf); obtain ⟨hc, hf⟩ := bcell HB; replace hi1 := intsAt_grew hi1 hb; clear hb))
    | (go_at_call 21; ((with_reducible refine (same_x xs _ _ _ _ _ hl hi2 hi1).mono ?_); rintro e w1 ⟨rfl, hb⟩; replace HB := HB.trans (hb.mono HB.size); (try clear hc hf); obtain ⟨hc, hf⟩ := bcell HB; replace hi1 := intsAt_grew hi1 hb; clear hi2; clear hb))
    | (go_at_call 23; ((with_reducible refine (waits_x s t r v a xs b hs _ EX.out EB.out).mono ?_); rintro e w1 ⟨rfl, hb⟩; replace HB := HB.trans (hb.mono HB.size); (try clear hc hf); obtain ⟨hc, hf⟩ := bcell HB; replace hi1 := intsAt_grew hi1 hb; clear hb))
    | (go_at_call 24; ((with_reducible refine (has_x xs a b _ _ _ EB.out hl hi1).mono ?_); rintro e w1 ⟨rfl, hb⟩; replace HB := HB.trans (hb.mono HB.size); (try clear hc hf); obtain ⟨hc, hf⟩ := bcell HB; replace hi1 := intsAt_grew hi1 hb; clear hb))
    | (go_at_call 11; ((with_reducible refine (refIndex_n s t r _ HR.out hs).mono ?_); rintro e w1 ⟨rfl, hb⟩; replace HB := HB.trans (hb.mono HB.size); (try clear hc hf); obtain ⟨hc, hf⟩ := bcell HB; clear hb)))
  go_ret
  exact ⟨by first | rfl | (simp; done), ba HB⟩

set_option maxRecDepth 100000 in
set_option maxHeartbeats 4000000 in
theorem ringWaits_no2 (s t r v a : Int) (xs : List Int) (b : Bool) (w : World) (hs : s ≤ 9223372036854775807) (ex : xsR s t r v = xs) (eb : isIn xs a = b) (hl : xs.length ≤ 9223372036854775806) (hr : mayB s t r = true) (hv : mayB s t v = false) (ri : 0 ≤ r / t) :
    Calls Try.prog 4 #[.agg #[.int .i64 s, .int .i64 t], .int .i64 r, .int .i64 v, .int .i64 a] w fun e w' => e = .returned (.bool true) ∧ Below w.heap.size w w' := by
  have HB := Below.refl (w.alloc (.cells #[.int .i64 s, .int .i64 t] 23)).heap.size (w.alloc (.cells #[.int .i64 s, .int .i64 t] 23))
  have EX := Lib.hid ex
  have EB := Lib.hid eb
  clear ex eb
  have hm : (mayB s t r && mayB s t v) = false := by simp [hv]
  have HR := Lib.hid hr
  have HV := Lib.hid hv
  have HM := Lib.hid hm
  clear hr hv hm
  go_enter Try.func4, Try.ntmps4
  go_wp2_with (first
    | (go_at_call 9; ((with_reducible refine (awake_any _).mono ?_); rintro e w1 ⟨rfl, hb⟩; replace HB := HB.trans (hb.mono HB.size); (try clear hc hf); obtain ⟨hc, hf⟩ := bcell HB; clear hb))
    | (go_at_call 18; ((with_reducible refine (refWaits_x s t r v xs hs _ EX.out).mono ?_); rintro e w1 ⟨a1, cap1, rfl, hi1, hb⟩; replace HB := HB.trans (hb.mono HB.size); (try clear hc hf); obtain ⟨hc, hf⟩ := bcell HB; clear hb))
    | (go_at_call 19; ((with_reducible refine (left_no s t r v _ HM.out hs).mono ?_); rintro e w1 ⟨rfl, hb⟩; replace HB := HB.trans (hb.mono HB.size); (try clear hc hf); obtain ⟨hc, hf⟩ := bcell HB; replace hi1 := intsAt_grew hi1 hb; clear hb))
    | (go_at_call 20; ((with_reducible refine (room_no s t r v _ HM.out hs).mono ?_); rintro e w1 ⟨rfl, hb⟩; replace HB := HB.trans (hb.mono HB.size); (try clear hc hf); obtain ⟨hc, hf⟩ := bcell HB; replace hi1 := intsAt_grew hi1 hb; clear hb))
    | (go_at_call 22; ((with_reducible refine (each_x s t r v xs hs _ EX.out).mono ?_); rintro e w1 ⟨a2, cap2, rfl, hi2, hb⟩; replace HB := HB.trans (hb.mono HB.size); (try clear hc hf); obtain ⟨hc, hf⟩ := bcell HB; replace hi1 := intsAt_grew hi1 hb; clear hb))
    | (go_at_call 21; ((with_reducible refine (same_x xs _ _ _ _ _ hl hi2 hi1).mono ?_); rintro e w1 ⟨rfl, hb⟩; replace HB := HB.trans (hb.mono HB.size); (try clear hc hf); obtain ⟨hc, hf⟩ := bcell HB; replace hi1 := intsAt_grew hi1 hb; clear hi2; clear hb))
    | (go_at_call 23; ((with_reducible refine (waits_x s t r v a xs b hs _ EX.out EB.out).mono ?_); rintro e w1 ⟨rfl, hb⟩; replace HB := HB.trans (hb.mono HB.size); (try clear hc hf); obtain ⟨hc, hf⟩ := bcell HB; replace hi1 := intsAt_grew hi1 hb; clear hb))
    | (go_at_call 24; ((with_reducible refine (has_x xs a b _ _ _ EB.out hl hi1).mono ?_); rintro e w1 ⟨rfl, hb⟩; replace HB := HB.trans (hb.mono HB.size); (try clear hc hf); obtain ⟨hc, hf⟩ := bcell HB; replace hi1 := intsAt_grew hi1 hb; clear hb))
    | (go_at_call 11; ((with_reducible refine (refIndex_y s t r _ HR.out hs).mono ?_); rintro e w1 ⟨rfl, hb⟩; replace HB := HB.trans (hb.mono HB.size); (try clear hc hf); obtain ⟨hc, hf⟩ := bcell HB; clear hb))
    | (go_at_call 11; ((with_reducible refine (refIndex_n s t v _ HV.out hs).mono ?_); rintro e w1 ⟨rfl, hb⟩; replace HB := HB.trans (hb.mono HB.size); (try clear hc hf); obtain ⟨hc, hf⟩ := bcell HB; clear hb)))
  go_ret
  exact ⟨by first | rfl | (simp; done), ba HB⟩

theorem ringWaits_any (s t r v a : Int) (w : World) (hs : s ≤ 9223372036854775807) :
    Calls Try.prog 4 #[.agg #[.int .i64 s, .int .i64 t], .int .i64 r, .int .i64 v, .int .i64 a] w fun e w' => e = .returned (.bool true) ∧ Below w.heap.size w w' := by
  have hl := xsR_len s t r v
  cases hr : mayB s t r
  · exact ringWaits_no1 s t r v a _ _ w hs rfl rfl (by omega) hr
  · cases hv : mayB s t v
    · exact ringWaits_no2 s t r v a _ _ w hs rfl rfl (by omega) hr hv (idx_of hr).2.1
    · have hbd := leftR_bd hr hv
      have en : leftR s t r v = (xsR s t r v).length := by rw [xsR_yes hr hv, xsV_len]; omega
      exact ringWaits_yes s t r v a _ _ w hs rfl rfl (by omega) hr hv en (by rw [← en]; exact hbd.2.1) (idx_of hr).2.1 (idx_of hv).2.1

end Go.Proofs.Ytpabmfmiikmnpaa
