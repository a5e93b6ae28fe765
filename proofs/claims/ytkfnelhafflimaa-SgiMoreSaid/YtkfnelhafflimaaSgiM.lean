/-
  The law SgiWhom at every slice of processors.
-/
import Derived.Test.YtkfnelhafflimaaSgiL
namespace Go.Proofs.Ytkfnelhafflimaa
open Go.ChangeShapes Go.WideShapes Go.ChangeAt Go.RowKit
set_option linter.unusedVariables false
attribute [local go_sem high] eqlC neqC guardC

/-! ### Plain -/
theorem whom_call {xs : List Int} (id fr : Int) (h : okAll xs = true) (i : Nat) : callV ⟨id, false, (tgN xs : Nat), false⟩ fr i = isIn xs (i : Int) := by
  simp only [callV, Bool.false_eq_true, if_false, Bool.not_false, Bool.true_and]
  rw [bt_nat, tgN_bit h]
theorem whom_in {xs : List Int} (id fr : Int) (h : okAll xs = true) {k : Nat} (hk : k < (nums (toL ⟨id, false, (tgN xs : Nat), false⟩ fr 8)).length) :
    isIn xs ((nums (toL ⟨id, false, (tgN xs : Nat), false⟩ fr 8))[k]?.getD 0) = true := by
  rw [nums_len] at hk
  rw [nums_at hk, ← whom_call id fr h]
  exact (upto_at _ _ k hk).2
theorem whom_has {xs : List Int} (id fr : Int) (h : okAll xs = true) {k : Nat} (hk : k < xs.length) :
    isIn (nums (toL ⟨id, false, (tgN xs : Nat), false⟩ fr 8)) (xs[k]?.getD 0) = true := by
  have hm : xs[k] ∈ xs := List.getElem_mem hk
  have ho : okC xs[k] = true := by
    rw [okAll, List.all_eq_true] at h
    exact h _ hm
  have h0 : 0 ≤ xs[k] ∧ xs[k] < 8 := by simpa [okC] using ho
  rw [List.getElem?_eq_getElem hk, Option.getD_some]
  obtain ⟨i, hi'⟩ : ∃ i : Nat, xs[k] = i := ⟨xs[k].toNat, by omega⟩
  rw [hi'] at h0 hm ⊢
  rw [isIn_nums, decide_eq_true_eq]
  refine (mem_upto _ _ _).2 ⟨by rw [capN_8]; omega, ?_⟩
  rw [whom_call id fr h]
  simp [isIn, hm]
theorem whom_spr {xs : List Int} (id fr : Int) (h : okAll xs = true) : spr ⟨id, false, (tgN xs : Nat), false⟩ = (nums (toL ⟨id, false, (tgN xs : Nat), false⟩ fr 8)).length := by
  have ht := tgN_lt h
  have e : (((tgN xs : Nat) : Int) % 65536).toNat = tgN xs := by omega
  have e2 : upto (fun i => (tgN xs).testBit (8 + i)) 8 = [] := upto_none (fun i _ => Nat.testBit_lt_two_pow (Nat.lt_of_lt_of_le ht (show 2 ^ 8 ≤ 2 ^ (8 + i) from Nat.pow_le_pow_right (by decide) (by omega))))
  have e3 : toL ⟨id, false, (tgN xs : Nat), false⟩ fr 8 = upto (tgN xs).testBit 8 := upto_congr (fun i _ => by rw [whom_call id fr h, tgN_bit h])
  rw [spr, nums_len, e3]
  show pop (((tgN xs : Nat) : Int) % 65536).toNat 16 = _
  rw [e, pop, show 16 = 8 + 8 from rfl, upto_split, e2]
  rfl

set_option maxRecDepth 100000 in
set_option maxHeartbeats 8000000 in
theorem sgiWhom_any (id : Int) (xs : List Int) (va : Value) (fr : Int) (w : World) (ha : IntsAt w va xs) (hx : xs.length ≤ 9223372036854775806) :
    Calls Try.prog 6 #[.int .i64 id, va, .int .i64 fr] w fun e w' => e = .returned (.bool true) ∧ Below w.heap.size w w' := by
  have HA := hi ha
  obtain ⟨a, cap, rfl, _, _⟩ := ha
  have CW := hi (fun W (h : IntsAt W (.slice a xs.length cap) xs) => whom_any id xs _ W h hx)
  obtain ⟨ok, hall⟩ : ∃ ok, okAll xs = ok := ⟨_, rfl⟩
  cases ok
  · rw [show whomC id xs = Cl.zero by rw [whomC, hall]; rfl, show whomE id xs = 130 by rw [whomE, hall]; rfl] at CW
    dsimp only [Cl.v, Cl.zero] at CW
    go_enter Try.func6, Try.ntmps6
    go_wp2_with (first
      | (go_at_call 10; ((with_reducible refine (awake_any _).mono ?_); rintro e w1 ⟨rfl, hb⟩; have H1 := hi ((AtG.nil w).later hb); have HA1 := hi (intsAt_grew HA.out hb); clear hb))
      | (go_at_call 18; ((with_reducible refine (CW.out _ HA1.out).mono ?_); rintro e w2 ⟨rfl, hb⟩; have H2 := hi ((H1.out.later hb).new 24 #[.int .i64 0, .bool false, .int .i64 0, .bool false]); have HA2 := hi (intsAt_grew HA1.out (hb.trans (bal w2 (.cells #[.int .i64 0, .bool false, .int .i64 0, .bool false] 24) |>.mono hb.size))); clear hb)))
    obtain ⟨w3, hw3⟩ : ∃ W, w2.alloc (.cells #[.int .i64 0, .bool false, .int .i64 0, .bool false] 24) = W := ⟨_, rfl⟩
    rw [hw3] at H2 HA2 ⊢
    clear hw3
    go_loop [10, 11] (fun m i => ∃ k : Nat, k ≤ xs.length ∧ i = .int .i64 k ∧ m = .bool (okAll (xs.take k))) (fun m i => xs.length - (intOf i).toNat)
    case atStart => exact ⟨0, Nat.zero_le _, rfl, rfl⟩
    case round =>
      obtain ⟨k, hk, rfl, rfl⟩ := hrel
      by_cases hlt : k < xs.length
      · have hne : xs ≠ [] := fun e => by simp [e] at hlt
        have hok := okAll_take hlt
        obtain ⟨x, ex⟩ : ∃ x, xs[k]?.getD 0 = x := ⟨_, rfl⟩
        obtain ⟨aa, ca, he, _, hcs⟩ := HA2.out
        obtain ⟨rfl, rfl⟩ : a = aa ∧ cap = ca := by simpa using he
        obtain ⟨b1, o1, rfl, hc⟩ := hcs hne
        have hc1 := hc k hlt
        rw [ex] at hc1 hok
        obtain ⟨m, hm⟩ : ∃ m, okAll (xs.take k) = m := ⟨_, rfl⟩
        rw [hm] at hok ⊢
        have HO := hi hok
        clear hok hc he hcs ex hne hm
        have HX := hi hx
        cases m
        · go_wp2
          go_round
          case rel => exact ⟨k + 1, by omega, by go_num, by rw [HO.out]; rfl⟩
          case measure => simp only [intOf]; omega
        · by_cases x0 : 0 ≤ x
          · by_cases x8 : x < 8
            · have hoc : okC x = true := by simp [okC, x0, x8]
              have HC := hi hoc
              clear hoc
              go_wp2
              go_round
              case rel => exact ⟨k + 1, by omega, by go_num, by rw [HO.out, HC.out]; rfl⟩
              case measure => simp only [intOf]; omega
            · have hoc : okC x = false := by simp [okC, x8]
              have d8 : decide (x < 8) = false := by simpa using x8
              have HC := hi hoc
              clear hoc x8
              go_wp2
              go_round
              case rel => exact ⟨k + 1, by omega, by go_num, by rw [HO.out, HC.out]; rfl⟩
              case measure => simp only [intOf]; omega
          · have hoc : okC x = false := by simp [okC, x0]
            have d0 : decide (0 ≤ x) = false := by simpa using x0
            have HC := hi hoc
            clear hoc x0
            go_wp2
            go_round
            case rel => exact ⟨k + 1, by omega, by go_num, by rw [HO.out, HC.out]; rfl⟩
            case measure => simp only [intOf]; omega
      · obtain rfl : k = xs.length := by omega
        obtain ⟨s0, s1, s2, s3⟩ := H2.out.b0.four
        rw [List.take_length, hall]
        clear hk hlt
        go_wp2
        go_ret
        exact ⟨rfl, H2.out.below⟩
  · by_cases h0 : 0 ≤ id
    · by_cases h1 : id ≤ 15
      · have hm : mayI id = true := by simp [mayI, h0, h1]
        have CT := hi (fun W => lawTo_any ⟨id, false, (tgN xs : Nat), false⟩ fr 8 W)
        have CS := hi (fun W => spread_any ⟨id, false, (tgN xs : Nat), false⟩ W)
        have hin := hi (fun (k : Nat) => whom_in id fr hall (k := k))
        have hin2 := hi (fun (k : Nat) => whom_has id fr hall (k := k))
        have hl := toL_len ⟨id, false, (tgN xs : Nat), false⟩ fr 8
        rw [← nums_len] at hl
        rw [whom_spr id fr hall] at CS
        rw [show whomC id xs = ⟨id, false, (tgN xs : Nat), false⟩ by rw [whomC, hall, hm]; rfl, show whomE id xs = 0 by rw [whomE, hall, hm]; rfl] at CW
        obtain ⟨ys, hy⟩ : ∃ ys, nums (toL ⟨id, false, (tgN xs : Nat), false⟩ fr 8) = ys := ⟨_, rfl⟩
        rw [hy] at CT CS hin hin2 hl
        clear hy hm
        obtain ⟨t, ht⟩ : ∃ t : Int, ((tgN xs : Nat) : Int) = t := ⟨_, rfl⟩
        rw [ht] at CT CS CW
        clear ht
        dsimp only [Cl.v] at CW CT CS
        go_enter Try.func6, Try.ntmps6
        go_wp2_with (first
          | (go_at_call 10; ((with_reducible refine (awake_any _).mono ?_); rintro e w1 ⟨rfl, hb⟩; have H1 := hi ((AtG.nil w).later hb); have HA1 := hi (intsAt_grew HA.out hb); clear hb))
          | (go_at_call 18; ((with_reducible refine (CW.out _ HA1.out).mono ?_); rintro e w2 ⟨rfl, hb⟩; have H2 := hi ((H1.out.later hb).new 24 #[.int .i64 id, .bool false, .int .i64 t, .bool false]); have HA2 := hi (intsAt_grew HA1.out (hb.trans (bal w2 (.cells #[.int .i64 id, .bool false, .int .i64 t, .bool false] 24) |>.mono hb.size))); clear hb)))
        obtain ⟨w3, hw3⟩ : ∃ W, w2.alloc (.cells #[.int .i64 id, .bool false, .int .i64 t, .bool false] 24) = W := ⟨_, rfl⟩
        rw [hw3] at H2 HA2 ⊢
        clear hw3
        go_loop [10, 11] (fun m i => ∃ k : Nat, k ≤ xs.length ∧ i = .int .i64 k ∧ m = .bool (okAll (xs.take k))) (fun m i => xs.length - (intOf i).toNat)
        case atStart => exact ⟨0, Nat.zero_le _, rfl, rfl⟩
        case round =>
          obtain ⟨k, hk, rfl, rfl⟩ := hrel
          by_cases hlt : k < xs.length
          · have hne : xs ≠ [] := fun e => by simp [e] at hlt
            have hok := okAll_take hlt
            obtain ⟨x, ex⟩ : ∃ x, xs[k]?.getD 0 = x := ⟨_, rfl⟩
            obtain ⟨aa, ca, he, _, hcs⟩ := HA2.out
            obtain ⟨rfl, rfl⟩ : a = aa ∧ cap = ca := by simpa using he
            obtain ⟨b1, o1, rfl, hc⟩ := hcs hne
            have hc1 := hc k hlt
            rw [ex] at hc1 hok
            obtain ⟨m, hm⟩ : ∃ m, okAll (xs.take k) = m := ⟨_, rfl⟩
            rw [hm] at hok ⊢
            have HO := hi hok
            clear hok hc he hcs ex hne hm
            have HX := hi hx
            cases m
            · go_wp2
              go_round
              case rel => exact ⟨k + 1, by omega, by go_num, by rw [HO.out]; rfl⟩
              case measure => simp only [intOf]; omega
            · by_cases x0 : 0 ≤ x
              · by_cases x8 : x < 8
                · have hoc : okC x = true := by simp [okC, x0, x8]
                  have HC := hi hoc
                  clear hoc
                  go_wp2
                  go_round
                  case rel => exact ⟨k + 1, by omega, by go_num, by rw [HO.out, HC.out]; rfl⟩
                  case measure => simp only [intOf]; omega
                · have hoc : okC x = false := by simp [okC, x8]
                  have d8 : decide (x < 8) = false := by simpa using x8
                  have HC := hi hoc
                  clear hoc x8
                  go_wp2
                  go_round
                  case rel => exact ⟨k + 1, by omega, by go_num, by rw [HO.out, HC.out]; rfl⟩
                  case measure => simp only [intOf]; omega
              · have hoc : okC x = false := by simp [okC, x0]
                have d0 : decide (0 ≤ x) = false := by simpa using x0
                have HC := hi hoc
                clear hoc x0
                go_wp2
                go_round
                case rel => exact ⟨k + 1, by omega, by go_num, by rw [HO.out, HC.out]; rfl⟩
                case measure => simp only [intOf]; omega
          · obtain rfl : k = xs.length := by omega
            obtain ⟨s0, s1, s2, s3⟩ := H2.out.b0.four
            rw [List.take_length, hall]
            clear hk hlt
            go_wp2_with (go_at_call 15; ((with_reducible refine (CT.out _).mono ?_); rintro e w4 ⟨sa, sc, rfl, hI, hb⟩; have H4 := hi (H2.out.later hb); have HA4 := hi (intsAt_grew HA2.out hb); have HI := hi hI; clear hb hI s0 s1 s2 s3))
            go_loop [13] (fun i => ∃ k : Nat, k ≤ ys.length ∧ i = .int .i64 k) (fun i => ys.length - (intOf i).toNat)
            case atStart => exact ⟨0, Nat.zero_le _, rfl⟩
            case round =>
              obtain ⟨k, hk, rfl⟩ := hrel
              by_cases hlt : k < ys.length
              · have hne : ys ≠ [] := fun e => by simp [e] at hlt
                obtain ⟨x, ex⟩ : ∃ x, ys[k]?.getD 0 = x := ⟨_, rfl⟩
                have hi1 := hin.out k hlt
                have HH := hi (fun x => ints_has xs x _ w4 HA4.out hx)
                obtain ⟨aa, ca, he, _, hcs⟩ := HI.out
                obtain ⟨rfl, rfl⟩ : sa = aa ∧ sc = ca := by simpa using he
                obtain ⟨b1, o1, rfl, hc⟩ := hcs hne
                have hc1 := hc k hlt
                rw [ex] at hc1 hi1
                have HH1 := hi (HH.out x)
                rw [hi1] at HH1
                clear hi1 hc he hcs ex hne HH
                go_wp2_with (go_at_call 19; ((with_reducible refine HH1.out.mono ?_); rintro e w5 ⟨rfl, rfl⟩))
                go_round
                case rel => exact ⟨k + 1, by omega, by go_num⟩
                case measure => simp only [intOf]; omega
              · obtain rfl : k = ys.length := by omega
                clear hk hlt
                go_wp2
                go_loop [14] (fun i => ∃ k : Nat, k ≤ xs.length ∧ i = .int .i64 k) (fun i => xs.length - (intOf i).toNat)
                case atStart => exact ⟨0, Nat.zero_le _, rfl⟩
                case round =>
                  obtain ⟨k, hk, rfl⟩ := hrel
                  by_cases hlt : k < xs.length
                  · have hne : xs ≠ [] := fun e => by simp [e] at hlt
                    obtain ⟨x, ex⟩ : ∃ x, xs[k]?.getD 0 = x := ⟨_, rfl⟩
                    have hi1 := hin2.out k hlt
                    have HH := hi (fun x => ints_has ys x _ w4 HI.out (by omega))
                    obtain ⟨aa, ca, he, _, hcs⟩ := HA4.out
                    obtain ⟨rfl, rfl⟩ : a = aa ∧ cap = ca := by simpa using he
                    obtain ⟨b1, o1, rfl, hc⟩ := hcs hne
                    have hc1 := hc k hlt
                    rw [ex] at hc1 hi1
                    have HH1 := hi (HH.out x)
                    rw [hi1] at HH1
                    clear hi1 hc he hcs ex hne HH
                    go_wp2_with (go_at_call 19; ((with_reducible refine HH1.out.mono ?_); rintro e w5 ⟨rfl, rfl⟩))
                    go_round
                    case rel => exact ⟨k + 1, by omega, by go_num⟩
                    case measure => simp only [intOf]; omega
                  · obtain rfl : k = xs.length := by omega
                    obtain ⟨s0, s1, s2, s3⟩ := H4.out.b0.four
                    clear hk hlt
                    go_wp2_with (go_at_call 20; ((with_reducible refine (CS.out _).mono ?_); rintro e w6 ⟨rfl, hb⟩; have H6 := hi (H4.out.later hb); clear hb))
                    go_ret
                    exact ⟨rfl, H6.out.below⟩
      · have hm : mayI id = false := by simp [mayI, h1]
        have d1 : decide ((15 : Int) < id) = true := by simpa using h1
        rw [show whomC id xs = Cl.zero by rw [whomC, hall, hm]; rfl, show whomE id xs = 1 by rw [whomE, hall, hm]; rfl] at CW
        dsimp only [Cl.v, Cl.zero] at CW
        clear hm h1
        go_enter Try.func6, Try.ntmps6
        go_wp2_with (first
          | (go_at_call 10; ((with_reducible refine (awake_any _).mono ?_); rintro e w1 ⟨rfl, hb⟩; have H1 := hi ((AtG.nil w).later hb); have HA1 := hi (intsAt_grew HA.out hb); clear hb))
          | (go_at_call 18; ((with_reducible refine (CW.out _ HA1.out).mono ?_); rintro e w2 ⟨rfl, hb⟩; have H2 := hi ((H1.out.later hb).new 24 #[.int .i64 0, .bool false, .int .i64 0, .bool false]); have HA2 := hi (intsAt_grew HA1.out (hb.trans (bal w2 (.cells #[.int .i64 0, .bool false, .int .i64 0, .bool false] 24) |>.mono hb.size))); clear hb)))
        obtain ⟨w3, hw3⟩ : ∃ W, w2.alloc (.cells #[.int .i64 0, .bool false, .int .i64 0, .bool false] 24) = W := ⟨_, rfl⟩
        rw [hw3] at H2 HA2 ⊢
        clear hw3
        go_loop [10, 11] (fun m i => ∃ k : Nat, k ≤ xs.length ∧ i = .int .i64 k ∧ m = .bool (okAll (xs.take k))) (fun m i => xs.length - (intOf i).toNat)
        case atStart => exact ⟨0, Nat.zero_le _, rfl, rfl⟩
        case round =>
          obtain ⟨k, hk, rfl, rfl⟩ := hrel
          by_cases hlt : k < xs.length
          · have hne : xs ≠ [] := fun e => by simp [e] at hlt
            have hok := okAll_take hlt
            obtain ⟨x, ex⟩ : ∃ x, xs[k]?.getD 0 = x := ⟨_, rfl⟩
            obtain ⟨aa, ca, he, _, hcs⟩ := HA2.out
            obtain ⟨rfl, rfl⟩ : a = aa ∧ cap = ca := by simpa using he
            obtain ⟨b1, o1, rfl, hc⟩ := hcs hne
            have hc1 := hc k hlt
            rw [ex] at hc1 hok
            obtain ⟨m, hm⟩ : ∃ m, okAll (xs.take k) = m := ⟨_, rfl⟩
            rw [hm] at hok ⊢
            have HO := hi hok
            clear hok hc he hcs ex hne hm
            have HX := hi hx
            cases m
            · go_wp2
              go_round
              case rel => exact ⟨k + 1, by omega, by go_num, by rw [HO.out]; rfl⟩
              case measure => simp only [intOf]; omega
            · by_cases x0 : 0 ≤ x
              · by_cases x8 : x < 8
                · have hoc : okC x = true := by simp [okC, x0, x8]
                  have HC := hi hoc
                  clear hoc
                  go_wp2
                  go_round
                  case rel => exact ⟨k + 1, by omega, by go_num, by rw [HO.out, HC.out]; rfl⟩
                  case measure => simp only [intOf]; omega
                · have hoc : okC x = false := by simp [okC, x8]
                  have d8 : decide (x < 8) = false := by simpa using x8
                  have HC := hi hoc
                  clear hoc x8
                  go_wp2
                  go_round
                  case rel => exact ⟨k + 1, by omega, by go_num, by rw [HO.out, HC.out]; rfl⟩
                  case measure => simp only [intOf]; omega
              · have hoc : okC x = false := by simp [okC, x0]
                have d0 : decide (0 ≤ x) = false := by simpa using x0
                have HC := hi hoc
                clear hoc x0
                go_wp2
                go_round
                case rel => exact ⟨k + 1, by omega, by go_num, by rw [HO.out, HC.out]; rfl⟩
                case measure => simp only [intOf]; omega
          · obtain rfl : k = xs.length := by omega
            obtain ⟨s0, s1, s2, s3⟩ := H2.out.b0.four
            rw [List.take_length, hall]
            clear hk hlt
            go_wp2
            go_ret
            exact ⟨rfl, H2.out.below⟩
    · have hm : mayI id = false := by simp [mayI, h0]
      have d1 : decide (id < 0) = true := by simpa using h0
      rw [show whomC id xs = Cl.zero by rw [whomC, hall, hm]; rfl, show whomE id xs = 1 by rw [whomE, hall, hm]; rfl] at CW
      dsimp only [Cl.v, Cl.zero] at CW
      clear hm h0
      go_enter Try.func6, Try.ntmps6
      go_wp2_with (first
        | (go_at_call 10; ((with_reducible refine (awake_any _).mono ?_); rintro e w1 ⟨rfl, hb⟩; have H1 := hi ((AtG.nil w).later hb); have HA1 := hi (intsAt_grew HA.out hb); clear hb))
        | (go_at_call 18; ((with_reducible refine (CW.out _ HA1.out).mono ?_); rintro e w2 ⟨rfl, hb⟩; have H2 := hi ((H1.out.later hb).new 24 #[.int .i64 0, .bool false, .int .i64 0, .bool false]); have HA2 := hi (intsAt_grew HA1.out (hb.trans (bal w2 (.cells #[.int .i64 0, .bool false, .int .i64 0, .bool false] 24) |>.mono hb.size))); clear hb)))
      obtain ⟨w3, hw3⟩ : ∃ W, w2.alloc (.cells #[.int .i64 0, .bool false, .int .i64 0, .bool false] 24) = W := ⟨_, rfl⟩
      rw [hw3] at H2 HA2 ⊢
      clear hw3
      go_loop [10, 11] (fun m i => ∃ k : Nat, k ≤ xs.length ∧ i = .int .i64 k ∧ m = .bool (okAll (xs.take k))) (fun m i => xs.length - (intOf i).toNat)
      case atStart => exact ⟨0, Nat.zero_le _, rfl, rfl⟩
      case round =>
        obtain ⟨k, hk, rfl, rfl⟩ := hrel
        by_cases hlt : k < xs.length
        · have hne : xs ≠ [] := fun e => by simp [e] at hlt
          have hok := okAll_take hlt
          obtain ⟨x, ex⟩ : ∃ x, xs[k]?.getD 0 = x := ⟨_, rfl⟩
          obtain ⟨aa, ca, he, _, hcs⟩ := HA2.out
          obtain ⟨rfl, rfl⟩ : a = aa ∧ cap = ca := by simpa using he
          obtain ⟨b1, o1, rfl, hc⟩ := hcs hne
          have hc1 := hc k hlt
          rw [ex] at hc1 hok
          obtain ⟨m, hm⟩ : ∃ m, okAll (xs.take k) = m := ⟨_, rfl⟩
          rw [hm] at hok ⊢
          have HO := hi hok
          clear hok hc he hcs ex hne hm
          have HX := hi hx
          cases m
          · go_wp2
            go_round
            case rel => exact ⟨k + 1, by omega, by go_num, by rw [HO.out]; rfl⟩
            case measure => simp only [intOf]; omega
          · by_cases x0 : 0 ≤ x
            · by_cases x8 : x < 8
              · have hoc : okC x = true := by simp [okC, x0, x8]
                have HC := hi hoc
                clear hoc
                go_wp2
                go_round
                case rel => exact ⟨k + 1, by omega, by go_num, by rw [HO.out, HC.out]; rfl⟩
                case measure => simp only [intOf]; omega
              · have hoc : okC x = false := by simp [okC, x8]
                have d8 : decide (x < 8) = false := by simpa using x8
                have HC := hi hoc
                clear hoc x8
                go_wp2
                go_round
                case rel => exact ⟨k + 1, by omega, by go_num, by rw [HO.out, HC.out]; rfl⟩
                case measure => simp only [intOf]; omega
            · have hoc : okC x = false := by simp [okC, x0]
              have d0 : decide (0 ≤ x) = false := by simpa using x0
              have HC := hi hoc
              clear hoc x0
              go_wp2
              go_round
              case rel => exact ⟨k + 1, by omega, by go_num, by rw [HO.out, HC.out]; rfl⟩
              case measure => simp only [intOf]; omega
        · obtain rfl : k = xs.length := by omega
          obtain ⟨s0, s1, s2, s3⟩ := H2.out.b0.four
          rw [List.take_length, hall]
          clear hk hlt
          go_wp2
          go_ret
          exact ⟨rfl, H2.out.below⟩

end Go.Proofs.Ytkfnelhafflimaa
