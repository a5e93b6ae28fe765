/-
  BusParts.
-/
import Derived.Test.YthfcadalidfcfaaBusQ
namespace Go.Proofs.Ythfcadalidfcfaa
open Go.ChangeShapes Go.WideShapes Go.ChangeAt Go.RowKit
set_option linter.unusedVariables false

def inG (addr : Int) (g : Int × Int) : Bool := decide (g.1 ≤ addr) && decide (addr < g.1 + g.2)
def inS (addr : Int) (x : Sp) : Bool := decide (x.b ≤ addr) && decide (addr < x.b + x.s)
theorem gap1_count (addr a t : Int) : (gap1 a t).countP (inG addr) = if a ≤ addr ∧ addr < t then 1 else 0 := by
  unfold gap1
  by_cases h : a < t
  · rw [if_pos h]
    by_cases h1 : a ≤ addr
    · by_cases h2 : addr < t
      · rw [if_pos ⟨h1, h2⟩]
        have : addr < a + (t - a) := by omega
        simp [inG, h1, this]
      · rw [if_neg (fun q => h2 q.2)]
        have : ¬ addr < a + (t - a) := by omega
        simp [inG, this]
    · rw [if_neg (fun q => h1 q.1)]
      simp [inG, h1]
  · rw [if_neg h, if_neg (by omega)]
    rfl
theorem parts_count {fin addr : Int} (hf : addr < fin) : ∀ {l : List Sp} {at' : Int}, (∀ x ∈ l, x.Ok) → l.Pairwise Ahead → (∀ x ∈ l, at' ≤ x.b) →
    (gapsFrom fin at' l).countP (inG addr) + l.countP (inS addr) = if at' ≤ addr then 1 else 0
  | [], at', _, _, _ => by
    simp only [gapsFrom, gap1_count, List.countP_nil, Nat.add_zero]
    by_cases h : at' ≤ addr
    · rw [if_pos ⟨h, hf⟩, if_pos h]
    · rw [if_neg (fun q => h q.1), if_neg h]
  | x :: r, at', hok, hp, hat => by
    rw [List.pairwise_cons] at hp
    have ih := parts_count hf (l := r) (at' := x.b + x.s) (fun y hy => hok y (List.mem_cons_of_mem _ hy)) hp.2 (fun y hy => hp.1 y hy)
    have okx := hok x (by simp)
    have hx1 := okx.s1
    have hx2 := hat x (by simp)
    simp only [gapsFrom, List.countP_append, List.countP_cons, gap1_count]
    have e : (if at' ≤ addr ∧ addr < min x.b fin then 1 else 0) + (if inS addr x = true then 1 else 0) + (if x.b + x.s ≤ addr then 1 else 0) = (if at' ≤ addr then 1 else 0 : Nat) := by
      unfold inS
      simp only [Bool.and_eq_true, decide_eq_true_eq]
      by_cases h1 : at' ≤ addr
      · rw [if_pos h1]
        by_cases h2 : addr < x.b
        · rw [if_pos ⟨h1, by omega⟩, if_neg (by omega), if_neg (by omega)]
        · rw [if_neg (by omega)]
          by_cases h3 : addr < x.b + x.s
          · rw [if_pos ⟨by omega, h3⟩, if_neg (by omega)]
          · rw [if_neg (fun q => h3 q.2), if_pos (by omega)]
      · rw [if_neg h1, if_neg (fun q => h1 q.1), if_neg (by omega), if_neg (by omega)]
    omega
theorem parts_one {fin addr : Int} {l : List Sp} (h : Row l) (h0 : 0 ≤ addr) (hf : addr < fin) : (gapsFrom fin 0 l).countP (inG addr) + l.countP (inS addr) = 1 := by
  rw [parts_count hf h.ok h.up (fun x hx => (h.ok x hx).b0), if_pos h0]

set_option maxRecDepth 100000 in
set_option maxHeartbeats 8000000 in
theorem parts_any (hi' : Nat) (v : Value) (xs : List Sp) (fin addr : Int) (w : World) (h : SpIn 0 hi' w v xs) (hh : hi' ≤ w.heap.size) (hf0 : -9223372036854775808 ≤ fin) (hf1 : fin ≤ 9223372036854775807) (ha0 : -9223372036854775808 ≤ addr) (ha1 : addr ≤ 9223372036854775807) :
    Calls Try.prog 8 #[v, .int .i64 fin, .int .i64 addr] w fun e w' => e = .returned (.bool true) ∧ Below w.heap.size w w' := by
  obtain ⟨a, cap, rfl⟩ := h.slice
  have H := hi h
  obtain ⟨n, hn⟩ : ∃ n, xs.length = n := ⟨_, rfl⟩
  have HN := hi hn
  rw [hn]
  have HA := hi (fun W => awake_any W)
  have hat : ∀ W, Below w.heap.size w W → SpIn 0 hi' W (.slice a n cap) xs := fun W hb => by
    have := h.below hb hh
    rwa [hn] at this
  have HAT := hi hat
  have HF := hi h.fair
  clear h hn hat
  by_cases he : newE xs = 0
  · have HRW := hi (row_of_new he)
    have HE := hi he
    clear he
    obtain ⟨ys, hys⟩ : ∃ ys, sortB xs = ys := ⟨_, rfl⟩
    rw [hys] at HRW
    have HYS := hi hys
    have HYF := hi (fun x (hx : x ∈ ys) => HF.out x ((sortB_perm xs).mem_iff.1 (by rw [hys]; exact hx)))
    clear hys
    by_cases hin : 0 ≤ addr ∧ addr < fin
    · have d1 : decide (addr < 0) = false := by simp; omega
      have d2 : decide (fin ≤ addr) = false := by simp; omega
      obtain ⟨hin0, hin1⟩ := hin
      have HP := hi (parts_one HRW.out hin0 hin1)
      have HOK := hi (gaps_ok (fin := fin) (a := 0) HRW.out.ok (Int.le_refl _))
      have hyl := HRW.out.len
      have hgl := gaps_len fin ys
      obtain ⟨gs, hgs⟩ : ∃ gs, gapsFrom fin 0 ys = gs := ⟨_, rfl⟩
      rw [hgs] at HP HOK hgl
      have HGS := hi hgs
      obtain ⟨m, hm⟩ : ∃ m, gs.length = m := ⟨_, rfl⟩
      obtain ⟨q, hq⟩ : ∃ q, ys.length = q := ⟨_, rfl⟩
      rw [hm, hq] at hgl
      rw [hq] at hyl
      have HM := hi hm
      have HQ := hi hq
      have hyl64 : ys.length ≤ 64 := by omega
      clear hgs hm hq
      go_enter Try.func8, Try.ntmps8
      go_wp2_with (first
        | (go_at_call 9; ((with_reducible refine (HA.out _).mono ?_); rintro e w1 ⟨rfl, hb1⟩; replace hb1 := hi hb1))
        | (go_at_call 10; ((with_reducible refine (new_yes w 0 hi' _ xs _ (HAT.out _ hb1.out) (Nat.le_trans hh hb1.out.size) HE.out hb1.out).mono ?_); rintro e w2 ⟨p, sv, rfl, hs2, _⟩; rw [HYS.out] at hs2; replace hs2 := hi hs2))
        | (go_at_call 19; ((with_reducible refine (lfree_any _ _ p sv _ fin _ hs2.out.bus (Nat.le_refl _) HRW.out hf0 hf1).mono ?_); rintro e w3 ⟨fv, rfl, hq3, hb3⟩; rw [HGS.out, HM.out] at hq3; obtain ⟨fa, fc, rfl⟩ := ownI_slice hq3; have hs3 := hi (hs2.out.later hb3); have HO := hi hq3; clear hq3 hb3)))
      go_loopw [10, 12] (fun c i wr => ∃ j k t : Nat, c = .int .i64 t ∧ i = .int .i64 j ∧ j ≤ 2 * m ∧ t ≤ j ∧ Hi (j = 2 * k ∧ t = (gs.take k).countP (inG addr) ∧ Below w3.heap.size w3 wr)) (fun _ i _ => 2 * m - (intOf i).toNat)
      case atStart => exact ⟨0, 0, 0, rfl, rfl, Nat.zero_le _, Nat.le_refl _, hi ⟨rfl, by simp, Below.refl _ _⟩⟩
      case round =>
        obtain ⟨j, k, t, rfl, rfl, hj, ht, HJ⟩ := hrel
        have hjk := HJ.out.1
        by_cases hlt : j < 2 * m
        · obtain ⟨g, hg⟩ : ∃ g, gs[k]? = some g := ⟨gs[k]'(by have := HM.out; omega), List.getElem?_eq_getElem _⟩
          have hoa : ∃ go, fa = some ⟨go, 0, none⟩ ∧ go < w3.heap.size := by
            rcases HO.out.2 with ⟨_, h0⟩ | ⟨g, c, cur, e, _, hg, _⟩
            · omega
            · simp only [Value.slice.injEq] at e; exact ⟨g, e.1, (Array.getElem?_eq_some_iff.1 hg).1⟩
          obtain ⟨go, rfl, hgo⟩ := hoa
          obtain ⟨c0, c1⟩ := gap_cells (ownI_later HO.out HJ.out.2.2) hg hjk
          obtain ⟨g0, g1, g2⟩ := HOK.out g (List.mem_of_getElem? hg)
          have HT := hi (show gs.take (k + 1) = gs.take k ++ [g] by rw [List.take_add_one, hg]; rfl)
          obtain ⟨qa, qn⟩ := g
          dsimp only at c0 c1 g0 g1 g2
          obtain ⟨D, hD⟩ : ∃ D, addr - qa = D := ⟨_, rfl⟩
          have hw1 : IntKind.i64.wrap (addr - qa) = D := by rw [IntKind.wrap_i64]; omega
          have hw3 : IntKind.i64.wrap ((j : Int) + 1) = (j : Int) + 1 := by rw [IntKind.wrap_i64]; omega
          have hw4 : (0 : Int) ≤ (j : Int) + 1 := by omega
          have hw5 : ((j : Int) + 1).toNat = j + 1 := by omega
          have hw6 : (j : Int) + 1 < 2 * (m : Int) := by omega
          have HI := hi (show inG addr (qa, qn) = (decide (qa ≤ addr) && decide (D < qn)) by
            unfold inG
            rw [show decide (addr < (qa, qn).1 + (qa, qn).2) = decide (D < qn) by rw [Bool.eq_iff_iff, decide_eq_true_iff, decide_eq_true_iff]; dsimp only; omega])
          clear hg hgo hjk hD
          by_cases b1 : qa ≤ addr
          · have t1 : decide (qa ≤ addr) = true := by simpa using b1
            by_cases b2 : D < qn
            · have t2 : decide (D < qn) = true := by simpa using b2
              clear b1 b2
              go_wp2
              go_quiet (fail)
              go_wp2
              go_roundw
              case rel => exact ⟨j + 2, k + 1, t + 1, by go_num, by go_num, by have := HJ.out.1; omega, by omega, hi ⟨by have := HJ.out.1; omega, by rw [HT.out, List.countP_append, ← HJ.out.2.1, List.countP_singleton, HI.out, t1, t2]; rfl, Below.drewN HJ.out.2.2⟩⟩
              case measure => simp [intOf]; omega
            · have t2 : decide (D < qn) = false := by simpa using b2
              clear b1 b2
              go_wp2
              go_quiet (fail)
              go_wp2
              go_roundw
              case rel => exact ⟨j + 2, k + 1, t, by go_num, by go_num, by have := HJ.out.1; omega, by omega, hi ⟨by have := HJ.out.1; omega, by rw [HT.out, List.countP_append, ← HJ.out.2.1, List.countP_singleton, HI.out, t1, t2]; rfl, Below.drewN HJ.out.2.2⟩⟩
              case measure => simp [intOf]; omega
          · have t1 : decide (qa ≤ addr) = false := by simpa using b1
            clear b1
            go_wp2
            go_quiet (fail)
            go_wp2
            go_roundw
            case rel => exact ⟨j + 2, k + 1, t, by go_num, by go_num, by have := HJ.out.1; omega, by omega, hi ⟨by have := HJ.out.1; omega, by rw [HT.out, List.countP_append, ← HJ.out.2.1, List.countP_singleton, HI.out, t1]; rfl, Below.drewN HJ.out.2.2⟩⟩
            case measure => simp [intOf]; omega
        · obtain rfl : j = 2 * m := by omega
          have htk : t = gs.countP (inG addr) := by
            have := HJ.out.2.1
            rwa [List.take_of_length_le (by have := HM.out; omega)] at this
          have HTK := hi htk
          have hs4 := hi (hs3.out.later HJ.out.2.2)
          clear htk hlt hjk
          go_wp2_with (first
            | (go_at_call 15; ((with_reducible refine (all_any _ _ p sv ys _ hs4.out.bus (Nat.le_refl _) hyl64).mono ?_); rintro e w9 ⟨v9, rfl, hr9, hb9⟩; rw [HQ.out] at hr9; obtain ⟨a9, c9, rfl⟩ := own_slice hr9; have hs9 := hi (hs4.out.later hb9); have HS9 := hi (spIn_of_own (base := wr.heap.size) (by rw [HQ.out]; exact hr9) (by omega) HYF.out); clear hr9 hb9)))
          go_loopw [10, 74] (fun c i wz => ∃ k s : Nat, c = .int .i64 s ∧ i = .int .i64 k ∧ k ≤ q ∧ s ≤ 200 + k ∧ Hi (s = t + (ys.take k).countP (inS addr) ∧ Below w9.heap.size w9 wz)) (fun _ i _ => q - (intOf i).toNat)
          case atStart => exact ⟨0, t, rfl, rfl, Nat.zero_le _, by omega, hi ⟨by simp, Below.refl _ _⟩⟩
          case round =>
            obtain ⟨k, s, rfl, rfl, hk, hs, HK⟩ := hrel
            by_cases hlt : k < q
            · have H2 := HS9.out.below HK.out.2 (Nat.le_refl _)
              rw [← HQ.out] at hlt H2
              obtain ⟨y, g, o, hy, hmy, rfl, hg1, hg2, hgw, c0, c1, c2, c3⟩ := H2.read hlt
              rw [HQ.out] at hlt
              have oky := HRW.out.ok y hmy
              have hyb := oky.b0
              have hys := oky.s1
              have hye := oky.e1
              have HT := hi (show ys.take (k + 1) = ys.take k ++ [y] by rw [List.take_add_one, hy]; rfl)
              obtain ⟨D, hD⟩ : ∃ D, addr - y.b = D := ⟨_, rfl⟩
              have hw1 : IntKind.i64.wrap (addr - y.b) = D := by rw [IntKind.wrap_i64]; omega
              have HI := hi (show inS addr y = (decide (y.b ≤ addr) && decide (D < y.s)) by
                unfold inS
                rw [show decide (addr < y.b + y.s) = decide (D < y.s) by rw [Bool.eq_iff_iff, decide_eq_true_iff, decide_eq_true_iff]; omega])
              have HBK := hi HK.out.2
              clear H2 hy hmy oky hg1 hg2 hD
              by_cases b1 : y.b ≤ addr
              · have t1 : decide (y.b ≤ addr) = true := by simpa using b1
                by_cases b2 : D < y.s
                · have t2 : decide (D < y.s) = true := by simpa using b2
                  clear b1 b2
                  go_wp2
                  go_roundw
                  case rel => exact ⟨k + 1, s + 1, by go_num, by go_num, by omega, by omega, hi ⟨by rw [HT.out, List.countP_append, List.countP_singleton, HI.out, t1, t2]; have := HK.out.1; simp; omega, HBK.out.trans ((bal _ _).mono HBK.out.size)⟩⟩
                  case measure => simp [intOf]; omega
                · have t2 : decide (D < y.s) = false := by simpa using b2
                  clear b1 b2
                  go_wp2
                  go_roundw
                  case rel => exact ⟨k + 1, s, by go_num, by go_num, by omega, by omega, hi ⟨by rw [HT.out, List.countP_append, List.countP_singleton, HI.out, t1, t2]; have := HK.out.1; simp; omega, HBK.out.trans ((bal _ _).mono HBK.out.size)⟩⟩
                  case measure => simp [intOf]; omega
              · have t1 : decide (y.b ≤ addr) = false := by simpa using b1
                clear b1
                go_wp2
                go_roundw
                case rel => exact ⟨k + 1, s, by go_num, by go_num, by omega, by omega, hi ⟨by rw [HT.out, List.countP_append, List.countP_singleton, HI.out, t1]; have := HK.out.1; simp; omega, HBK.out.trans ((bal _ _).mono HBK.out.size)⟩⟩
                case measure => simp [intOf]; omega
            · obtain rfl : k = q := by omega
              have hs1 : s = 1 := by
                have := HK.out.1
                rw [List.take_of_length_le (by rw [HQ.out]; exact Nat.le_refl _), HTK.out, HP.out] at this
                exact this
              subst hs1
              go_wp2
              go_ret
              exact ⟨rfl, hs9.out.below.trans (HK.out.2.mono hs9.out.below.size)⟩
    · go_enter Try.func8, Try.ntmps8
      have HIN := hi hin
      clear hin
      go_wp2_with (first
        | (go_at_call 9; ((with_reducible refine (HA.out _).mono ?_); rintro e w1 ⟨rfl, hb1⟩; replace hb1 := hi hb1))
        | (go_at_call 10; ((with_reducible refine (new_yes w 0 hi' _ xs _ (HAT.out _ hb1.out) (Nat.le_trans hh hb1.out.size) HE.out hb1.out).mono ?_); rintro e w2 ⟨p, sv, rfl, hs2, _⟩; replace hs2 := hi hs2)))
      all_goals (first
        | (go_ret; exact ⟨rfl, hs2.out.below⟩)
        | (exfalso; have := HIN.out; omega))
  · have HE := hi he
    clear he
    go_enter Try.func8, Try.ntmps8
    go_wp2_with (first
      | (go_at_call 9; ((with_reducible refine (HA.out _).mono ?_); rintro e w1 ⟨rfl, hb1⟩; replace hb1 := hi hb1))
      | (go_at_call 10; ((with_reducible refine (new_no 0 hi' _ xs _ (HAT.out _ hb1.out) (Nat.le_trans hh hb1.out.size) HE.out).mono ?_); rintro e w2 ⟨rfl, hb2⟩; replace hb2 := hi (hb1.out.trans (hb2.mono hb1.out.size)))))
    go_ret
    exact ⟨rfl, hb2.out⟩

end Go.Proofs.Ythfcadalidfcfaa
