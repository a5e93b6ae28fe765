/-
  BusFrees.
-/
import Derived.Test.YtcdfkdlddmkhmaaBusP
namespace Go.Proofs.Ytcdfkdlddmkhmaa
open Go.ChangeShapes Go.WideShapes Go.ChangeAt Go.RowKit
set_option linter.unusedVariables false

theorem rnew_yes (lo hi' : Nat) (v : Value) (xs : List Sp) (w : World) (h : SpIn lo hi' w v xs) (hh : hi' ≤ w.heap.size) (he : newE xs = 0) :
    Calls Try.prog 11 #[v] w fun e w' => ∃ sv, e = .returned (.tuple #[sv, .int .i64 0]) ∧ SpIn 0 w'.heap.size w' sv (sortB xs) ∧ Below w.heap.size w w' := by
  refine (rnew_any lo hi' v xs w h hh).mono ?_
  rintro e w' ⟨hk, ⟨h0, _⟩ | ⟨_, sv, rfl, hB⟩⟩
  · exact absurd he h0
  · exact ⟨sv, rfl, hB.mono (Nat.zero_le _) (Nat.le_refl _), hk⟩
theorem rnew_no (lo hi' : Nat) (v : Value) (xs : List Sp) (w : World) (h : SpIn lo hi' w v xs) (hh : hi' ≤ w.heap.size) (he : newE xs ≠ 0) :
    Calls Try.prog 11 #[v] w fun e w' => e = .returned (.tuple #[.slice none 0 0, .int .i64 (newE xs)]) ∧ Below w.heap.size w w' := by
  refine (rnew_any lo hi' v xs w h hh).mono ?_
  rintro e w' ⟨hk, ⟨_, rfl⟩ | ⟨h0, _⟩⟩
  · exact ⟨rfl, hk⟩
  · exact absurd h0 he
theorem placeV_two (xs : List Sp) (size step fin : Int) : ∃ a e : Int, placeV xs size step fin = .tuple #[.int .i64 a, .int .i64 e] := by
  unfold placeV
  split
  · exact ⟨_, _, rfl⟩
  · cases (gapsFrom fin 0 xs).find? (fitB size step) with
    | none => exact ⟨_, _, rfl⟩
    | some g => exact ⟨_, _, rfl⟩
theorem intsG {W : World} {base : Nat} {v : Value} {gs : List (Int × Int)} (h : W.ownsRow base 3 1 v (2 * gs.length) (ints (flatG gs))) : IntsAt W v (flatG gs) :=
  intsAt_row (base := base) (by rw [flatG_len]; exact h)
theorem sameI_self (xs : List Int) : sameI xs xs = true := by simp [sameI]
theorem sameS_self (xs : List Sp) : sameS xs xs = true := by simp [sameS]

set_option maxRecDepth 100000 in
set_option maxHeartbeats 8000000 in
theorem frees_any (hi' : Nat) (v : Value) (xs : List Sp) (size step fin : Int) (w : World) (h : SpIn 0 hi' w v xs) (hh : hi' ≤ w.heap.size) (hf0 : -9223372036854775808 ≤ fin) (hf1 : fin ≤ 9223372036854775807) :
    Calls Try.prog 4 #[v, .int .i64 size, .int .i64 step, .int .i64 fin] w fun e w' => e = .returned (.bool true) ∧ Below w.heap.size w w' := by
  obtain ⟨a, cap, rfl⟩ := h.slice
  have H := hi h
  obtain ⟨n, hn⟩ : ∃ n, xs.length = n := ⟨_, rfl⟩
  have HN := hi hn
  rw [hn]
  have HA := hi (fun W => awake_any W)
  have hat : ∀ W, Below w.heap.size w W → SpIn 0 hi' W (.slice a n cap) xs := fun W hb => by
    have := h.below hb hh
    rwa [hn] at this
  have HAT := hi hat
  clear h hn hat
  by_cases he : newE xs = 0
  · have HRW := hi (row_of_new he)
    have HE := hi he
    clear he
    obtain ⟨pa, pe, hpv⟩ := placeV_two (sortB xs) size step fin
    have HPV := hi hpv
    clear hpv
    obtain ⟨gs, hgs⟩ : ∃ gs, gapsFrom fin 0 (sortB xs) = gs := ⟨_, rfl⟩
    have HGS := hi hgs
    have hgl : (flatG gs).length ≤ 9223372036854775806 := by
      have h1 := gaps_len fin (sortB xs)
      have h2 := HRW.out.len
      rw [flatG_len, ← hgs]
      omega
    clear hgs
    go_enter Try.func4, Try.ntmps4
    go_wp2_with (first
      | (go_at_call 9; ((with_reducible refine (HA.out _).mono ?_); rintro e w1 ⟨rfl, hb1⟩; replace hb1 := hi hb1))
      | (go_at_call 10; ((with_reducible refine (new_yes w 0 hi' _ xs _ (HAT.out _ hb1.out) (Nat.le_trans hh hb1.out.size) HE.out hb1.out).mono ?_); rintro e w2 ⟨p, sv, rfl, hs2, _⟩; replace hs2 := hi hs2))
      | (go_at_call 11; ((with_reducible refine (rnew_yes 0 hi' _ xs _ (HAT.out _ hs2.out.below) (Nat.le_trans hh hs2.out.below.size) HE.out).mono ?_); rintro e w3 ⟨sr, rfl, hr3, hb3⟩; obtain ⟨ra, rc, rfl⟩ := hr3.slice; have hs3 := hi (hs2.out.later hb3); replace hr3 := hi hr3; clear hb3))
      | (go_at_call 16; ((with_reducible refine (place_any _ _ p sv _ size step fin _ hs3.out.bus (Nat.le_refl _) HRW.out).mono ?_); rintro e w4 ⟨he4, hb4⟩; rw [HPV.out] at he4; subst he4; have hs4 := hi (hs3.out.later hb4); have hr4 := hi (hr3.out.below hb4 (Nat.le_refl _)); have hz4 := hi hb4.size; clear hb4))
      | (go_at_call 17; ((with_reducible refine (rplace_any 0 w3.heap.size _ _ size step fin _ hr4.out hz4.out HRW.out).mono ?_); rintro e w5 ⟨he5, hb5⟩; rw [HPV.out] at he5; subst he5; have hs5 := hi (hs4.out.later hb5); have hr5 := hi (hr4.out.below hb5 hz4.out); have hz5 := hi (Nat.le_trans hz4.out hb5.size); clear hb5))
      | (go_at_call 19; ((with_reducible refine (lfree_any _ _ p sv _ fin _ hs5.out.bus (Nat.le_refl _) HRW.out hf0 hf1).mono ?_); rintro e w6 ⟨fv, rfl, hq6, hb6⟩; rw [HGS.out] at hq6; obtain ⟨fa, fc, rfl⟩ := ownI_slice hq6; have hs6 := hi (hs5.out.later hb6); have hr6 := hi (hr5.out.below hb6 hz5.out); have hz6 := hi (Nat.le_trans hz5.out hb6.size); replace hq6 := hi hq6; clear hb6))
      | (go_at_call 20; ((with_reducible refine (rfree_any 0 w3.heap.size _ _ fin _ hr6.out hz6.out HRW.out hf0 hf1).mono ?_); rintro e w7 ⟨gv, rfl, hq7, hb7⟩; rw [HGS.out] at hq7; obtain ⟨ga, gc, rfl⟩ := ownI_slice hq7; have hs7 := hi (hs6.out.later hb7); have ht7 := hi (ownI_later hq6.out hb7); replace hq7 := hi hq7; clear hb7))
      | (go_at_call 18; ((with_reducible refine (sameI_any _ _ _ _ _ (intsG ht7.out) (intsG hq7.out) hgl hgl).mono ?_); rintro e w8 ⟨he8, m8, rfl⟩; rw [sameI_self] at he8; subst he8)))
    go_ret
    exact ⟨rfl, Below.drewN hs7.out.below⟩
  · have hd : (newE xs != 0) = true := by simpa using he
    have HE := hi he
    clear he
    go_enter Try.func4, Try.ntmps4
    go_wp2_with (first
      | (go_at_call 9; ((with_reducible refine (HA.out _).mono ?_); rintro e w1 ⟨rfl, hb1⟩; replace hb1 := hi hb1))
      | (go_at_call 10; ((with_reducible refine (new_no 0 hi' _ xs _ (HAT.out _ hb1.out) (Nat.le_trans hh hb1.out.size) HE.out).mono ?_); rintro e w2 ⟨rfl, hb2⟩; replace hb2 := hi (hb1.out.trans (hb2.mono hb1.out.size))))
      | (go_at_call 11; ((with_reducible refine (rnew_no 0 hi' _ xs _ (HAT.out _ hb2.out) (Nat.le_trans hh hb2.out.size) HE.out).mono ?_); rintro e w3 ⟨rfl, hb3⟩; replace hb3 := hi (hb2.out.trans (hb3.mono hb2.out.size)))))
    go_ret
    exact ⟨rfl, hb3.out⟩

end Go.Proofs.Ytcdfkdlddmkhmaa
