/-
  MemMeets: two windows share a byte just if there is one that both hold: its walk.
-/
import Derived.Test.YthndfkggahhleaaMemParts
namespace Go.Proofs.Ythndfkggahhleaa
open Go.ChangeShapes Go.WideShapes Go.ChangeAt Go.RowKit
set_option linter.unusedVariables false

def shB (a b t : Int) : Nat → Bool
  | 0 => false
  | k + 1 => shB a b t k || (decide (b ≤ a + k) && decide (a + k < b + t))
theorem shB_iff (a b t : Int) : ∀ k : Nat, shB a b t k = true ↔ ∃ i : Nat, i < k ∧ b ≤ a + i ∧ a + i < b + t
  | 0 => by simp [shB]
  | k + 1 => by
    simp only [shB, Bool.or_eq_true, Bool.and_eq_true, decide_eq_true_eq, shB_iff a b t k]
    constructor
    · rintro (⟨i, h1, h2⟩ | h)
      · exact ⟨i, by omega, h2⟩
      · exact ⟨k, by omega, h⟩
    · rintro ⟨i, h1, h2⟩
      by_cases e : i = k
      · subst e; exact .inr h2
      · exact .inl ⟨i, by omega, h2⟩
def okMe (a s b t : Int) : Prop := 0 ≤ a ∧ 0 ≤ b ∧ a ≤ 549755813888 ∧ b ≤ 549755813888 ∧ 0 ≤ s ∧ 0 ≤ t ∧ s ≤ 300 ∧ t ≤ 300
theorem shB_meet {a b t : Int} {S : Nat} (h : okMe a S b t) : shB a b t S = meetB a S b t := by
  obtain ⟨h1, h2, h3, h4, h5, h6, h7, h8⟩ := h
  rw [Bool.eq_iff_iff, shB_iff]
  simp only [meetB, fairB, Bool.and_eq_true, decide_eq_true_eq]
  constructor
  · rintro ⟨i, hi, h9, h10⟩
    omega
  · rintro ⟨_, h9, h10, h11, h12⟩
    by_cases e : b ≤ a
    · exact ⟨0, by omega, by omega, by omega⟩
    · exact ⟨(b - a).toNat, by omega, by omega, by omega⟩

set_option maxHeartbeats 4000000 in
theorem memMeets_no (a s b t : Int) (w : World) (hn : ¬ okMe a s b t) :
    Calls Try.prog 7 #[win a s, win b t] w fun e w' => e = .returned (.bool true) ∧ Below w.heap.size w w' := by
  have HN := hi hn
  clear hn
  unfold win
  go_enter Try.func7, Try.ntmps7
  go_wp2_with (go_at_call 8; ((with_reducible refine (awake_any _).mono ?_); rintro e w1 ⟨rfl, hb1⟩; obtain ⟨ca, cb, cc, cd⟩ := two_boxes hb1; have HK1 := hi (((bal w (.cells #[.int .i64 a, .int .i64 s] 29)).alloc (by simp) (.cells #[.int .i64 b, .int .i64 t] 29)).trans (hb1.mono (by simp; omega))); clear hb1))
  all_goals (first
    | (go_ret; exact ⟨rfl, HK1.out⟩)
    | (exfalso; apply HN.out; unfold okMe; omega))

set_option maxHeartbeats 4000000 in
theorem memMeets_yes (a s b t : Int) (w : World) (hn : okMe a s b t) :
    Calls Try.prog 7 #[win a s, win b t] w fun e w' => e = .returned (.bool true) ∧ Below w.heap.size w w' := by
  have HN := hi hn
  obtain ⟨h1, h2, h3, h4, h5, h6, h7, h8⟩ := hn
  have HM := hi (meet_any a s b t)
  obtain ⟨S, rfl⟩ : ∃ S : Nat, s = S := ⟨s.toNat, by omega⟩
  have hm := shB_meet HN.out
  rw [← hm] at HM
  clear hm
  have hwt : IntKind.i64.wrap (b + t) = b + t := by rw [IntKind.wrap_i64]; omega
  unfold win at HM ⊢
  go_enter Try.func7, Try.ntmps7
  go_wp2_with (go_at_call 8; ((with_reducible refine (awake_any _).mono ?_); rintro e w1 ⟨rfl, hb1⟩; obtain ⟨ca, cb, cc, cd⟩ := two_boxes hb1; have HK1 := hi (((bal w (.cells #[.int .i64 a, .int .i64 (S : Int)] 29)).alloc (by simp) (.cells #[.int .i64 b, .int .i64 t] 29)).trans (hb1.mono (by simp; omega))); clear hb1))
  go_loop [6, 7] (fun r i => ∃ k : Nat, i = .int .i64 k ∧ r = .bool (shB a b t k) ∧ Hi (k ≤ S)) (fun _ i => S - (intOf i).toNat)
  case atStart => exact ⟨0, rfl, rfl, hi (Nat.zero_le _)⟩
  case round =>
    obtain ⟨k, rfl, rfl, hk⟩ := hrel
    have hk := hk.out
    by_cases hlt : k < S
    · have hwk : IntKind.i64.wrap (a + k) = a + k := by rw [IntKind.wrap_i64]; omega
      have hS : shB a b t (k + 1) = (shB a b t k || (decide (b ≤ a + k) && decide (a + k < b + t))) := rfl
      cases hb : shB a b t k
      · rw [hb] at hS
        by_cases g1 : b ≤ a + k
        · have hS2 : shB a b t (k + 1) = decide (a + k < b + t) := by rw [hS]; simp [g1]
          have HS := hi hS2
          clear hS hS2 hb
          go_wp2
          go_round
          case rel => exact ⟨k + 1, by go_num, by rw [HS.out], hi hlt⟩
          case measure => simp [intOf]; omega
        · have hS2 : shB a b t (k + 1) = false := by rw [hS]; simp [g1]
          have HS := hi hS2
          have g1' : decide (b ≤ a + k) = false := by simpa using g1
          clear hS hS2 hb g1
          go_wp2
          go_round
          case rel => exact ⟨k + 1, by go_num, by rw [HS.out] <;> rfl, hi hlt⟩
          case measure => simp [intOf]; omega
      · rw [hb] at hS
        have HS := hi hS
        clear hS hb
        go_wp2
        go_round
        case rel => exact ⟨k + 1, by go_num, by rw [HS.out] <;> rfl, hi hlt⟩
        case measure => simp [intOf]; omega
    · have e : k = S := by omega
      subst e
      obtain ⟨r, hr⟩ : ∃ r, shB a b t k = r := ⟨_, rfl⟩
      rw [hr] at HM ⊢
      go_wp2_with (go_at_call 25; ((with_reducible refine (HM.out _).mono ?_); rintro e w2 ⟨rfl, hb2⟩))
      go_ret
      exact ⟨by simp, HK1.out.trans (hb2.mono HK1.out.size)⟩

theorem memMeets_walk (a s b t : Int) (w : World) :
    Calls Try.prog 7 #[win a s, win b t] w fun e w' => e = .returned (.bool true) ∧ Below w.heap.size w w' := by
  by_cases h : okMe a s b t
  · exact memMeets_yes a s b t w h
  · exact memMeets_no a s b t w h

end Go.Proofs.Ythndfkggahhleaa
