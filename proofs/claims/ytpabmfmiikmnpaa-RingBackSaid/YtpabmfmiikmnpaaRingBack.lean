/-
  RingBack: for every ring and place: Next and Ahead turn one another about, and as often as there are entries leads back (the law answers true). No condition.
-/
import Derived.Test.YtpabmfmiikmnpaaRingF
import Derived.Test.YtpabmfmiikmnpaaRingIdx
namespace Go.Proofs.Ytpabmfmiikmnpaa
open Go.ChangeShapes Go.WideShapes Go.ChangeAt Go.RowKit Go.Shelf
set_option linter.unusedVariables false

theorem ahead_back (s t a : Int) (w : World) (h : mayB s t a = true) (hs : s ≤ 9223372036854775807) :
    Calls Try.prog 16 #[.agg #[.int .i64 s, .int .i64 t], .int .i64 (nextR s t a)] w fun e w' => e = .returned (.tuple #[.int .i64 a, .int .i64 0]) ∧ Below w.heap.size w w' := by
  have := ahead_yes s t (nextR s t a) w (next_may h) hs
  rwa [ahead_next h] at this
theorem next_back (s t a : Int) (w : World) (h : mayB s t a = true) (hs : s ≤ 9223372036854775807) :
    Calls Try.prog 15 #[.agg #[.int .i64 s, .int .i64 t], .int .i64 (aheadR s t a)] w fun e w' => e = .returned (.tuple #[.int .i64 a, .int .i64 0]) ∧ Below w.heap.size w w' := by
  have := next_yes s t (aheadR s t a) w (ahead_may h) hs
  rwa [next_ahead h] at this
theorem next_seq (s t a : Int) (k : Nat) (w : World) (h : mayB s t a = true) (hs : s ≤ 9223372036854775807) :
    Calls Try.prog 15 #[.agg #[.int .i64 s, .int .i64 t], .int .i64 (seqR s t a k)] w fun e w' => e = .returned (.tuple #[.int .i64 (seqR s t a (k + 1)), .int .i64 0]) ∧ Below w.heap.size w w' :=
  next_yes s t (seqR s t a k) w (seqR_may h k) hs

set_option maxRecDepth 100000 in
set_option maxHeartbeats 4000000 in
theorem ringBack_any (s t a : Int) (w : World) (hs : s ≤ 9223372036854775807) :
    Calls Try.prog 5 #[.agg #[.int .i64 s, .int .i64 t], .int .i64 a] w fun e w' => e = .returned (.bool true) ∧ Below w.heap.size w w' := by
  have HB := Below.refl (w.alloc (.cells #[.int .i64 s, .int .i64 t] 23)).heap.size (w.alloc (.cells #[.int .i64 s, .int .i64 t] 23))
  cases hm : mayB s t a
  · have HM := Lib.hid hm
    clear hm
    go_enter Try.func5, Try.ntmps5
    go_wp2_with (first
      | (go_at_call 9; ((with_reducible refine (awake_any _).mono ?_); rintro e w1 ⟨rfl, hb⟩; replace HB := HB.trans (hb.mono HB.size); (try clear hc hf); obtain ⟨hc, hf⟩ := bcell HB; clear hb))
      | (go_at_call 15; ((with_reducible refine (next_no s t a _ HM.out hs).mono ?_); rintro e w1 ⟨rfl, hb⟩; replace HB := HB.trans (hb.mono HB.size); (try clear hc hf); obtain ⟨hc, hf⟩ := bcell HB; clear hb))
      | (go_at_call 13; ((with_reducible refine (may_no s t a _ HM.out hs).mono ?_); rintro e w1 ⟨rfl, hb⟩; replace HB := HB.trans (hb.mono HB.size); (try clear hc hf); obtain ⟨hc, hf⟩ := bcell HB; clear hb)))
    go_ret
    exact ⟨rfl, ba HB⟩
  · obtain ⟨hright, _⟩ := mayB_out hm
    obtain ⟨k1, k2, k3, k4⟩ := rightB_out hright
    have hpos := (idx_of hm).2
    have hq : 1 ≤ s / t := by omega
    have HM := Lib.hid hm
    clear hm hright k3 hpos
    go_enter Try.func5, Try.ntmps5
    go_wp2_with (first
      | (go_at_call 9; ((with_reducible refine (awake_any _).mono ?_); rintro e w1 ⟨rfl, hb⟩; replace HB := HB.trans (hb.mono HB.size); (try clear hc hf); obtain ⟨hc, hf⟩ := bcell HB; clear hb))
      | (go_at_call 15; ((with_reducible refine (next_yes s t a _ HM.out hs).mono ?_); rintro e w1 ⟨rfl, hb⟩; replace HB := HB.trans (hb.mono HB.size); (try clear hc hf); obtain ⟨hc, hf⟩ := bcell HB; clear hb))
      | (go_at_call 16; ((with_reducible refine (ahead_back s t a _ HM.out hs).mono ?_); rintro e w1 ⟨rfl, hb⟩; replace HB := HB.trans (hb.mono HB.size); (try clear hc hf); obtain ⟨hc, hf⟩ := bcell HB; clear hb))
      | (go_at_call 16; ((with_reducible refine (ahead_yes s t a _ HM.out hs).mono ?_); rintro e w1 ⟨rfl, hb⟩; replace HB := HB.trans (hb.mono HB.size); (try clear hc hf); obtain ⟨hc, hf⟩ := bcell HB; clear hb))
      | (go_at_call 15; ((with_reducible refine (next_back s t a _ HM.out hs).mono ?_); rintro e w1 ⟨rfl, hb⟩; replace HB := HB.trans (hb.mono HB.size); (try clear hc hf); obtain ⟨hc, hf⟩ := bcell HB; clear hb)))
    go_loopw [7, 14, 15] (fun e x i wr => ∃ k : Nat, k ≤ (s / t).toNat ∧ i = .int .i64 k ∧ x = .int .i64 (seqR s t a k) ∧ e = .int .i64 0 ∧ Below (w.alloc (.cells #[.int .i64 s, .int .i64 t] 23)).heap.size (w.alloc (.cells #[.int .i64 s, .int .i64 t] 23)) wr)
      (fun _ _ i _ => (s / t).toNat - (intOf i).toNat)
    case atStart => exact ⟨0, Nat.zero_le _, rfl, rfl, rfl, HB⟩
    case round =>
      clear hc hf HB
      obtain ⟨k, hk, rfl, rfl, rfl, HB⟩ := hrel
      obtain ⟨hc, hf⟩ := bcell HB
      by_cases hlt : (k : Int) < s / t
      · have hks : (k : Int) < s := Int.lt_of_lt_of_le hlt (Int.ediv_le_self t (by omega))
        go_wp2_with (first
          | (go_at_call 15; ((with_reducible refine (next_seq s t a k _ HM.out hs).mono ?_); rintro e w1 ⟨rfl, hb⟩; replace HB := HB.trans (hb.mono HB.size); (try clear hc hf); obtain ⟨hc, hf⟩ := bcell HB; clear hb)))
        all_goals
          go_roundw
          case rel => exact ⟨k + 1, by omega, by go_num, rfl, rfl, HB⟩
          case measure => simp [intOf]; omega
      · have ek : k = (s / t).toNat := by omega
        have er := seq_round HM.out
        rw [← ek] at er
        rw [er]
        have h1 : t ≤ 1 → s ≤ k := fun x => by
          obtain rfl : t = 1 := by omega
          have := Int.ediv_one s
          omega
        clear ek er
        by_cases ht : 1 < t
        · clear h1
          go_wp2
          go_ret
          exact ⟨rfl, ba HB⟩
        · have hsk := h1 (by omega)
          have ht1 : t ≤ 1 := by omega
          clear h1 ht
          go_wp2
          go_ret
          exact ⟨rfl, ba HB⟩

end Go.Proofs.Ytpabmfmiikmnpaa
