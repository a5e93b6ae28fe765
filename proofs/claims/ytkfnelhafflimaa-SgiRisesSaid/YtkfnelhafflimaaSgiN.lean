/-
  The law SgiRises at every number.
-/
import Derived.Test.YtkfnelhafflimaaSgiM
namespace Go.Proofs.Ytkfnelhafflimaa
open Go.ChangeShapes Go.WideShapes Go.ChangeAt Go.RowKit
set_option linter.unusedVariables false

/-! ### Plain -/
theorem rises_at (c : Cl) (fr cores : Int) {k : Nat} (h : k < (nums (toL c fr cores)).length) :
    0 ≤ (nums (toL c fr cores))[k]?.getD 0 ∧ (nums (toL c fr cores))[k]?.getD 0 < cores ∧ (nums (toL c fr cores))[k]?.getD 0 < 8 ∧ (c.all = true → (nums (toL c fr cores))[k]?.getD 0 ≠ fr) := by
  rw [nums_len] at h
  rw [nums_at h]
  obtain ⟨h1, h2⟩ : (toL c fr cores)[k] < capN cores ∧ callV c fr (toL c fr cores)[k] = true := upto_at (callV c fr) (capN cores) k h
  have h3 : capN cores = (min cores 8).toNat := rfl
  refine ⟨by omega, by omega, by omega, fun ha => ?_⟩
  rw [callV, if_pos ha] at h2
  simpa using h2
theorem rises_up (c : Cl) (fr cores : Int) {k : Nat} (h : k + 1 < (nums (toL c fr cores)).length) : (nums (toL c fr cores))[k]?.getD 0 < (nums (toL c fr cores))[k + 1]?.getD 0 := by
  rw [nums_len] at h
  rw [nums_at h, nums_at (show k < (toL c fr cores).length by omega)]
  have : (toL c fr cores)[k] < (toL c fr cores)[k + 1] := upto_rise (callV c fr) (capN cores) k (k + 1) (by omega) h
  omega
theorem rises_all (c : Cl) (fr cores : Int) (h : c.all = true) : (nums (toL c fr cores)).length = if 0 ≤ fr ∧ fr < (capN cores : Int) then capN cores - 1 else capN cores := by
  have e : toL c fr cores = upto (fun k => decide ((k : Int) ≠ fr)) (capN cores) := upto_congr (fun i _ => by rw [callV, if_pos h])
  rw [nums_len, e, upto_but]
theorem rises_spr (id fr cores : Int) (T : Nat) (odd : Bool) (hT : T < 65536) : (nums (toL ⟨id, false, T, odd⟩ fr cores)).length ≤ spr ⟨id, false, T, odd⟩ := by
  have e : ((T : Int) % 65536).toNat = T := by omega
  rw [nums_len, spr]
  show (toL ⟨id, false, T, odd⟩ fr cores).length ≤ pop ((T : Int) % 65536).toNat 16
  rw [e, pop]
  refine Nat.le_trans (upto_mono (g := T.testBit) (fun i _ h => ?_)) (upto_le (Nat.le_trans (capN_le cores) (by decide)))
  simp only [callV, Bool.false_eq_true, if_false, Bool.and_eq_true] at h
  rw [← bt_nat]
  exact h.2

theorem AtG.drewN {w W : World} {L : List (Nat × TypeId × Array Value)} (h : AtG w L W) (n : Nat) : AtG w L (W.drewN n) := ⟨fun p hp => h.box p hp, Below.drewN h.below⟩
set_option maxRecDepth 100000 in
set_option maxHeartbeats 8000000 in
theorem sgiRises_any (v : Nat) (fr cores : Int) (w : World) (hv : v < 18446744073709551616) : Calls Try.prog 7 #[.int .u64 v, .int .i64 fr, .int .i64 cores] w fun e w' => e = .returned (.bool true) ∧ Below w.heap.size w w' := by
  have hcap : capN cores = (min cores 8).toNat := rfl
  have CD := hi (fun W => decode_any v hv W)
  obtain ⟨D, hD⟩ : ∃ D, decV v = D := ⟨_, rfl⟩
  have CT := hi (fun W => lawTo_any D fr cores W)
  have CS := hi (fun W => spread_any D W)
  have h1 := hi (fun (k : Nat) => rises_at D fr cores (k := k))
  have h2 := hi (fun (k : Nat) => rises_up D fr cores (k := k))
  have h3 := rises_all D fr cores
  have h4 : D.all = false → (nums (toL D fr cores)).length ≤ spr D := fun ha => by
    have hT := rises_spr ((v / 2 ^ 24 % 16 : Nat) : Int) fr cores (v % 65536) (decide (v &&& 72041097085255680 ≠ 0)) (by omega)
    have e : D = ⟨((v / 2 ^ 24 % 16 : Nat) : Int), false, ((v % 65536 : Nat) : Int), decide (v &&& 72041097085255680 ≠ 0)⟩ := by
      rw [← ha, ← hD]; rfl
    rw [← e] at hT
    exact hT
  have hl := toL_len D fr cores
  have hs16 : spr D ≤ 16 := pop_le _ _
  rw [← nums_len] at hl
  rw [hD] at CD
  obtain ⟨xs, hx⟩ : ∃ xs, nums (toL D fr cores) = xs := ⟨_, rfl⟩
  rw [hx] at CT h1 h2 h3 h4 hl
  obtain ⟨sp, hsp⟩ : ∃ sp, spr D = sp := ⟨_, rfl⟩
  rw [hsp] at CS h4 hs16
  obtain ⟨id, A, tg, odd⟩ := D
  dsimp only [Cl.v] at CD CT CS h1 h3 h4
  replace h3 := hi h3
  replace h4 := hi h4
  clear hx hsp hD
  go_enter Try.func7, Try.ntmps7
  go_wp2_with (first
    | (go_at_call 10; ((with_reducible refine (awake_any _).mono ?_); rintro e w1 ⟨rfl, hb⟩; have H1 := hi ((AtG.nil w).later hb); clear hb))
    | (go_at_call 9; ((with_reducible refine (CD.out _).mono ?_); rintro e w2 ⟨rfl, hb⟩; have H2 := hi ((H1.out.later hb).new 24 #[.int .i64 id, .bool A, .int .i64 tg, .bool odd]); clear hb))
    | (go_at_call 15; ((with_reducible refine (CT.out _).mono ?_); rintro e w4 ⟨sa, sc, rfl, hI, hb⟩; have H4 := hi (H2.out.later hb); have HI := hi hI; clear hb hI)))
  go_loopw [10] (fun i wr => ∃ k m : Nat, k ≤ xs.length ∧ i = .int .i64 k ∧ wr = w4.drewN m) (fun i _ => xs.length - (intOf i).toNat)
  case atStart => exact ⟨0, 0, Nat.zero_le _, rfl, rfl⟩
  case round =>
    obtain ⟨k, m, hk, rfl, rfl⟩ := hrel
    by_cases hlt : k < xs.length
    · have hne : xs ≠ [] := fun e => by simp [e] at hlt
      obtain ⟨x, ex⟩ : ∃ x, xs[k]?.getD 0 = x := ⟨_, rfl⟩
      obtain ⟨x0, x1, x8, xf⟩ := h1.out k hlt
      obtain ⟨aa, ca, he, _, hcs⟩ := HI.out
      obtain ⟨rfl, rfl⟩ : sa = aa ∧ sc = ca := by simpa using he
      obtain ⟨b1, o1, rfl, hc⟩ := hcs hne
      have hc1 := hc k hlt
      obtain ⟨s0, s1, s2, s3⟩ := H4.out.b0.four
      have d1 : decide (x < 0) = false := by simp; omega
      have d2 : decide (cores ≤ x) = false := by simp; omega
      have d3 : decide (8 ≤ x) = false := by simp; omega
      have HK := hi hlt
      have hki : (k : Int) < (xs.length : Int) := by omega
      rw [ex] at hc1
      rcases Nat.eq_zero_or_pos k with rfl | hkp
      · rw [Nat.add_zero] at hc1
        cases A
        · clear x0 x1 x8 xf hc he hcs ex hne hlt hk hcap
          go_wp2
          go_quiet (fail)
          go_wp2
          go_roundw
          case rel => exact ⟨0 + 1, _, by have := HK.out; omega, by have := HK.out; go_num, rfl⟩
          case measure => have := HK.out; simp only [intOf]; omega
        · have xf2 : (x == fr) = false := by have := xf rfl; rw [ex] at this; simpa using this
          clear x0 x1 x8 xf hc he hcs ex hne hlt hk hcap
          go_wp2
          go_quiet (fail)
          go_wp2
          go_roundw
          case rel => exact ⟨0 + 1, _, by have := HK.out; omega, by have := HK.out; go_num, rfl⟩
          case measure => have := HK.out; simp only [intOf]; omega
      · obtain ⟨j, rfl⟩ : ∃ j, k = j + 1 := ⟨k - 1, by omega⟩
        have hup := h2.out j hlt
        have hc2 := hc j (by omega)
        obtain ⟨y, ey⟩ : ∃ y, xs[j]?.getD 0 = y := ⟨_, rfl⟩
        rw [ey] at hc2
        have d4 : decide (x ≤ y) = false := by rw [ey, ex] at hup; simp; omega
        have dk : decide ((0 : Int) < ((j + 1 : Nat) : Int)) = true := decide_eq_true (by omega)
        have hw : IntKind.i64.wrap (((j + 1 : Nat) : Int) - 1) = (j : Int) := by rw [IntKind.wrap_i64]; omega
        cases A
        · clear x0 x1 x8 xf hc he hcs ex ey hne hlt hk hcap hup hkp
          go_wp2
          go_quiet (fail)
          go_wp2
          go_roundw
          case rel => exact ⟨j + 1 + 1, _, by have := HK.out; omega, by have := HK.out; go_num, rfl⟩
          case measure => have := HK.out; simp only [intOf]; omega
        · have xf2 : (x == fr) = false := by have := xf rfl; rw [ex] at this; simpa using this
          clear x0 x1 x8 xf hc he hcs ex ey hne hlt hk hcap hup hkp
          go_wp2
          go_quiet (fail)
          go_wp2
          go_roundw
          case rel => exact ⟨j + 1 + 1, _, by have := HK.out; omega, by have := HK.out; go_num, rfl⟩
          case measure => have := HK.out; simp only [intOf]; omega
    · obtain rfl : k = xs.length := by omega
      have H5 := hi (H4.out.drewN m)
      obtain ⟨s0, s1, s2, s3⟩ := H5.out.b0.four
      obtain ⟨w5, hw5⟩ : ∃ W, w4.drewN m = W := ⟨_, rfl⟩
      rw [hw5] at H5 s0 s1 s2 s3 ⊢
      clear hk hlt hw5
      by_cases g1 : cores ≤ 8
      · by_cases g0 : 0 < cores
        · cases A
          · have hle := h4.out rfl
            have hq : (xs.length : Int) ≤ (sp : Int) := by omega
            clear hcap hle
            go_wp2_with (go_at_call 20; ((with_reducible refine (CS.out _).mono ?_); rintro e w6 ⟨rfl, hb⟩; have H6 := hi (H5.out.later hb); clear hb))
            go_ret
            exact ⟨rfl, H6.out.below⟩
          · have hlen := h3.out rfl
            by_cases f0 : 0 ≤ fr
            · by_cases f1 : fr < cores
              · rw [if_pos (by omega)] at hlen
                obtain rfl : cores = (xs.length : Int) + 1 := by omega
                clear hcap hlen
                go_wp2
                go_ret
                exact ⟨rfl, H5.out.below⟩
              · rw [if_neg (by omega)] at hlen
                obtain rfl : cores = (xs.length : Int) := by omega
                have d1 : decide (fr < (xs.length : Int)) = false := by simp; omega
                clear f1
                clear hcap hlen
                go_wp2
                go_ret
                exact ⟨rfl, H5.out.below⟩
            · rw [if_neg (by omega)] at hlen
              obtain rfl : cores = (xs.length : Int) := by omega
              have d1 : decide (0 ≤ fr) = false := by simpa using f0
              clear f0
              clear hcap hlen
              go_wp2
              go_ret
              exact ⟨rfl, H5.out.below⟩
        · cases A
          · have hle := h4.out rfl
            have hq : (xs.length : Int) ≤ (sp : Int) := by omega
            clear hcap hle
            go_wp2_with (go_at_call 20; ((with_reducible refine (CS.out _).mono ?_); rintro e w6 ⟨rfl, hb⟩; have H6 := hi (H5.out.later hb); clear hb))
            go_ret
            exact ⟨rfl, H6.out.below⟩
          · have hlen := h3.out rfl
            by_cases f0 : 0 ≤ fr
            · by_cases f1 : fr < 0
              · omega
              · rw [if_neg (by omega)] at hlen
                obtain rfl : xs = [] := List.length_eq_zero_iff.1 (by omega)
                have d1 : decide (fr < 0) = false := by simp; omega
                clear f1
                clear hcap hlen
                go_wp2
                go_ret
                exact ⟨rfl, H5.out.below⟩
            · rw [if_neg (by omega)] at hlen
              obtain rfl : xs = [] := List.length_eq_zero_iff.1 (by omega)
              have d1 : decide (0 ≤ fr) = false := by simpa using f0
              clear f0
              clear hcap hlen
              go_wp2
              go_ret
              exact ⟨rfl, H5.out.below⟩
      · cases A
        · have hle := h4.out rfl
          have hq : (xs.length : Int) ≤ (sp : Int) := by omega
          clear hcap hle
          go_wp2_with (go_at_call 20; ((with_reducible refine (CS.out _).mono ?_); rintro e w6 ⟨rfl, hb⟩; have H6 := hi (H5.out.later hb); clear hb))
          go_ret
          exact ⟨rfl, H6.out.below⟩
        · have hlen := h3.out rfl
          by_cases f0 : 0 ≤ fr
          · by_cases f1 : fr < 8
            · rw [if_pos (by omega)] at hlen
              have hn : xs.length = 7 := by omega
              rw [hn]
              clear hn
              clear hcap hlen
              go_wp2
              go_ret
              exact ⟨rfl, H5.out.below⟩
            · rw [if_neg (by omega)] at hlen
              have hn : xs.length = 8 := by omega
              rw [hn]
              clear hn
              have d1 : decide (fr < 8) = false := by simp; omega
              clear f1
              clear hcap hlen
              go_wp2
              go_ret
              exact ⟨rfl, H5.out.below⟩
          · rw [if_neg (by omega)] at hlen
            have hn : xs.length = 8 := by omega
            rw [hn]
            clear hn
            have d1 : decide (0 ≤ fr) = false := by simpa using f0
            clear f0
            clear hcap hlen
            go_wp2
            go_ret
            exact ⟨rfl, H5.out.below⟩

end Go.Proofs.Ytkfnelhafflimaa
