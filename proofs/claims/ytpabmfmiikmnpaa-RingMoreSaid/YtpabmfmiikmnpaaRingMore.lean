/-
  RingMore: for every ring, read and write: an entry more waits when write goes on, one less when read does, and room changes with it (the law answers true). No condition.
-/
import Derived.Test.YtpabmfmiikmnpaaRingF
import Derived.Test.YtpabmfmiikmnpaaRingIdx
namespace Go.Proofs.Ytpabmfmiikmnpaa
open Go.ChangeShapes Go.WideShapes Go.ChangeAt Go.RowKit Go.Shelf
set_option linter.unusedVariables false

theorem left_is (s t r v n : Int) (w : World) (e : leftR s t r v = n) (h : mayB s t r = true) (g : mayB s t v = true) (hs : s ≤ 9223372036854775807) :
    Calls Try.prog 19 #[.agg #[.int .i64 s, .int .i64 t], .int .i64 r, .int .i64 v] w fun e w' => e = .returned (.tuple #[.int .i64 n, .int .i64 0]) ∧ Below w.heap.size w w' := e ▸ left_yes s t r v w h g hs
theorem room_is (s t r v m : Int) (w : World) (e : s / t - 1 - leftR s t r v = m) (h : mayB s t r = true) (g : mayB s t v = true) (hs : s ≤ 9223372036854775807) :
    Calls Try.prog 20 #[.agg #[.int .i64 s, .int .i64 t], .int .i64 r, .int .i64 v] w fun e w' => e = .returned (.tuple #[.int .i64 m, .int .i64 0]) ∧ Below w.heap.size w w' := e ▸ room_yes s t r v w h g hs

set_option maxRecDepth 100000 in
set_option maxHeartbeats 4000000 in
theorem ringMore_yes (s t r v n m a b : Int) (w : World) (hs : s ≤ 9223372036854775807) (hr : mayB s t r = true) (hv : mayB s t v = true) (en : leftR s t r v = n) (em : s / t - 1 - leftR s t r v = m)
    (ea : leftR s t r (nextR s t v) = a) (eb : leftR s t (nextR s t r) v = b) (d0 : 0 ≤ n) (d1 : n ≤ 1023) (d2 : s / t ≤ 1024) (d3 : 1 ≤ s / t) (d4 : 0 ≤ m)
    (f1 : (m = 0 ∧ a = 0) ∨ (1 ≤ m ∧ a = n + 1)) (f2 : (n = 0 ∧ b = s / t - 1) ∨ (1 ≤ n ∧ b = n - 1)) (f3 : n + m = s / t - 1) :
    Calls Try.prog 6 #[.agg #[.int .i64 s, .int .i64 t], .int .i64 r, .int .i64 v] w fun e w' => e = .returned (.bool true) ∧ Below w.heap.size w w' := by
  have HB := Below.refl (w.alloc (.cells #[.int .i64 s, .int .i64 t] 23)).heap.size (w.alloc (.cells #[.int .i64 s, .int .i64 t] 23))
  obtain ⟨hright, _⟩ := mayB_out hr
  obtain ⟨k1, k2, _, _⟩ := rightB_out hright
  have HR := Lib.hid hr
  have HV := Lib.hid hv
  have EN := Lib.hid en
  have EM := Lib.hid em
  have EA := Lib.hid ea
  have EB := Lib.hid eb
  have F3 : (n + m == s / t - 1) = true := by simpa using f3
  have F4 : n + m ≤ s / t - 1 := by omega
  have F5 : s / t - 1 ≤ n + m := by omega
  clear hr hv en em ea eb hright f3
  rcases f1 with ⟨rfl, rfl⟩ | ⟨f1, rfl⟩ <;> rcases f2 with ⟨rfl, rfl⟩ | ⟨f2, rfl⟩
  all_goals
    go_enter Try.func6, Try.ntmps6
    go_wp2_with (first
      | (go_at_call 9; ((with_reducible refine (awake_any _).mono ?_); rintro e w1 ⟨rfl, hb⟩; replace HB := HB.trans (hb.mono HB.size); (try clear hc hf); obtain ⟨hc, hf⟩ := bcell HB; clear hb))
      | (go_at_call 19; ((with_reducible refine (left_is s t r v _ _ EN.out HR.out HV.out hs).mono ?_); rintro e w1 ⟨rfl, hb⟩; replace HB := HB.trans (hb.mono HB.size); (try clear hc hf); obtain ⟨hc, hf⟩ := bcell HB; clear hb))
      | (go_at_call 20; ((with_reducible refine (room_is s t r v _ _ EM.out HR.out HV.out hs).mono ?_); rintro e w1 ⟨rfl, hb⟩; replace HB := HB.trans (hb.mono HB.size); (try clear hc hf); obtain ⟨hc, hf⟩ := bcell HB; clear hb))
      | (go_at_call 15; ((with_reducible refine (next_yes s t v _ HV.out hs).mono ?_); rintro e w1 ⟨rfl, hb⟩; replace HB := HB.trans (hb.mono HB.size); (try clear hc hf); obtain ⟨hc, hf⟩ := bcell HB; clear hb))
      | (go_at_call 15; ((with_reducible refine (next_yes s t r _ HR.out hs).mono ?_); rintro e w1 ⟨rfl, hb⟩; replace HB := HB.trans (hb.mono HB.size); (try clear hc hf); obtain ⟨hc, hf⟩ := bcell HB; clear hb))
      | (go_at_call 19; ((with_reducible refine (left_is s t r (nextR s t v) _ _ EA.out HR.out (next_may HV.out) hs).mono ?_); rintro e w1 ⟨rfl, hb⟩; replace HB := HB.trans (hb.mono HB.size); (try clear hc hf); obtain ⟨hc, hf⟩ := bcell HB; clear hb))
      | (go_at_call 19; ((with_reducible refine (left_is s t (nextR s t r) v _ _ EB.out (next_may HR.out) HV.out hs).mono ?_); rintro e w1 ⟨rfl, hb⟩; replace HB := HB.trans (hb.mono HB.size); (try clear hc hf); obtain ⟨hc, hf⟩ := bcell HB; clear hb)))
    go_ret
    exact ⟨by first | rfl | (simp; done) | (simp; omega), ba HB⟩

set_option maxRecDepth 100000 in
set_option maxHeartbeats 2000000 in
theorem ringMore_any (s t r v : Int) (w : World) (hs : s ≤ 9223372036854775807) :
    Calls Try.prog 6 #[.agg #[.int .i64 s, .int .i64 t], .int .i64 r, .int .i64 v] w fun e w' => e = .returned (.bool true) ∧ Below w.heap.size w w' := by
  cases hm : mayB s t r && mayB s t v
  · have HB := Below.refl (w.alloc (.cells #[.int .i64 s, .int .i64 t] 23)).heap.size (w.alloc (.cells #[.int .i64 s, .int .i64 t] 23))
    have HM := Lib.hid hm
    clear hm
    go_enter Try.func6, Try.ntmps6
    go_wp2_with (first
      | (go_at_call 9; ((with_reducible refine (awake_any _).mono ?_); rintro e w1 ⟨rfl, hb⟩; replace HB := HB.trans (hb.mono HB.size); (try clear hc hf); obtain ⟨hc, hf⟩ := bcell HB; clear hb))
      | (go_at_call 19; ((with_reducible refine (left_no s t r v _ HM.out hs).mono ?_); rintro e w1 ⟨rfl, hb⟩; replace HB := HB.trans (hb.mono HB.size); (try clear hc hf); obtain ⟨hc, hf⟩ := bcell HB; clear hb))
      | (go_at_call 20; ((with_reducible refine (room_no s t r v _ HM.out hs).mono ?_); rintro e w1 ⟨rfl, hb⟩; replace HB := HB.trans (hb.mono HB.size); (try clear hc hf); obtain ⟨hc, hf⟩ := bcell HB; clear hb)))
    go_ret
    exact ⟨rfl, ba HB⟩
  · obtain ⟨hr, hv⟩ := mayB_out2 hm
    have hb := leftR_bd hr hv
    refine ringMore_yes s t r v _ _ _ _ w hs hr hv rfl rfl (left_to hr hv) (left_from hr hv) (by omega) (by omega) (by omega) (by omega) (by omega) ?_ ?_ (by omega)
    · split
      · exact .inl ⟨by assumption, rfl⟩
      · exact .inr ⟨by omega, rfl⟩
    · split
      · exact .inl ⟨by assumption, rfl⟩
      · exact .inr ⟨by omega, rfl⟩

end Go.Proofs.Ytpabmfmiikmnpaa
