/-
  BusRoom's walk.
-/
import Derived.Test.YtcdfkdlddmkhmaaBusY
namespace Go.Proofs.Ytcdfkdlddmkhmaa
open Go.ChangeShapes Go.WideShapes Go.ChangeAt Go.RowKit
set_option linter.unusedVariables false
attribute [local go_sem high] neq4 eql4 guard4

theorem SpBox.later {W W' : World} {B : Nat} {x : Sp} (h : SpBox W B x) (k : Below W.heap.size W W') : SpBox W' B x := (k.block B h.lt).trans h

set_option maxRecDepth 100000 in
set_option maxHeartbeats 8000000 in
theorem room_any (hi' : Nat) (v : Value) (xs : List Sp) (size step fin kind : Int) (w : World) (h : SpIn 0 hi' w v xs) (hh : hi' ≤ w.heap.size)
    (hs0 : -9223372036854775808 ≤ size) (hs1 : size ≤ 9223372036854775807) (hk0 : -9223372036854775808 ≤ kind) (hk1 : kind ≤ 9223372036854775807) :
    Calls Try.prog 7 #[v, .int .i64 size, .int .i64 step, .int .i64 fin, .int .i64 kind] w fun e w' => e = .returned (.bool true) ∧ Below w.heap.size w w' := by
  obtain ⟨a, cap, rfl⟩ := h.slice
  have H := hi h
  obtain ⟨n, hn⟩ : ∃ n, xs.length = n := ⟨_, rfl⟩
  have HN := hi hn
  rw [hn]
  have HA := hi (fun W => awake_any W)
  have hat : ∀ W, Below w.heap.size w W → SpIn 0 hi' W (.slice a n cap) xs := fun W hb => by
    have := h.below hb hh
    rwa [hn] at this
  have HAT := hi hat
  have HF := hi h.fair
  have hlen := h.len
  rw [hn] at hlen
  clear h hn hat
  by_cases he : newE xs = 0
  · have HRW := hi (row_of_new he)
    have HE := hi he
    obtain ⟨ys, hys⟩ : ∃ ys, sortB xs = ys := ⟨_, rfl⟩
    have hylen : ys.length = n := by rw [← hys, (sortB_perm xs).length_eq, HN.out]
    rw [hys] at HRW
    have HYS := hi hys
    rcases place_cases HRW.out size step fin with ⟨m, hm, hv⟩ | ⟨A, hv, hr⟩
    · have HV := hi hv
      have hd : (m != 0) = true := by simpa using hm
      clear hv hm he hys hylen
      go_enter Try.func7, Try.ntmps7
      go_wp2_with (first
        | (go_at_call 9; ((with_reducible refine (HA.out _).mono ?_); rintro e w1 ⟨rfl, hb1⟩; replace hb1 := hi hb1))
        | (go_at_call 10; ((with_reducible refine (new_yes w 0 hi' _ xs _ (HAT.out _ hb1.out) (Nat.le_trans hh hb1.out.size) HE.out hb1.out).mono ?_); rintro e w2 ⟨p, sv, rfl, hs2, _⟩; rw [HYS.out] at hs2; replace hs2 := hi hs2))
        | (go_at_call 16; ((with_reducible refine (place_any _ _ p sv _ size step fin _ hs2.out.bus (Nat.le_refl _) HRW.out).mono ?_); rintro e w3 ⟨he3, hb3⟩; rw [HV.out] at he3; unfold two at he3; subst he3; have hs3 := hi (hs2.out.later hb3); clear hb3)))
      go_ret
      exact ⟨rfl, hs3.out.below.trans ((bal _ _).mono hs3.out.below.size)⟩
    · have HV := hi hv
      by_cases hfit : 1 ≤ kind ∧ kind ≤ 4 ∧ n < 32
      · obtain ⟨f1, f2, f3⟩ := hfit
        have hnew : newE (⟨A, size, kind, 0⟩ :: ys) = 0 := by rw [← hys] at hr ⊢; exact room_new he hr (by rw [HN.out]; exact f3) f1 f2
        have hfind := room_find (kind := kind) hr hnew
        have HNEW := hi hnew
        have r1 := hr.s1
        have r2 := hr.t1
        have r3 := hr.a0
        have r4 := hr.ae
        have r5 := hr.f1
        have hrem : (A % step != 0) = false := by simp [hr.am]
        obtain ⟨S, hS⟩ : ∃ S, A + size = S := ⟨_, rfl⟩
        have hw : IntKind.i64.wrap (A + size) = S := by rw [IntKind.wrap_i64]; omega
        have hS2 : S ≤ fin := by omega
        have HFAIR := hi (show (⟨A, size, kind, 0⟩ : Sp).Fair from ⟨by show _ ≤ A; omega, by show A ≤ _; omega, hs0, hs1, hk0, hk1, by show _ ≤ (0 : Int); omega, by show (0 : Int) ≤ _; omega⟩)
        have HFIND := hi hfind
        have HZ := hi (row_of_new hnew)
        obtain ⟨zs, hzs⟩ : ∃ zs, sortB (⟨A, size, kind, 0⟩ :: ys) = zs := ⟨_, rfl⟩
        have hzlen : zs.length = n + 1 := by rw [← hzs, (sortB_perm _).length_eq, List.length_cons, hylen]
        rw [hzs] at HZ HFIND
        have HZS := hi hzs
        have HZL := hi hzlen
        have HYL := hi hylen
        have HYF := hi (fun x (hx : x ∈ ys) => HF.out x ((sortB_perm xs).mem_iff.1 (by rw [hys]; exact hx)))
        have hy64 : ys.length ≤ 64 := by omega
        have hz64 : zs.length ≤ 64 := by omega
        have heq := eq4_self A size kind 0
        have CW := hi (fun (W : World) (p : Nat) (sv : Value) (hs : BS w p sv ys W) => with_yes w.heap.size W.heap.size p sv ys ⟨A, size, kind, 0⟩ W hs.bus (Nat.le_refl _) hy64 HFAIR.out HNEW.out)
        clear hv he hys hylen hr hnew hfind hzs hzlen hS
        go_enter Try.func7, Try.ntmps7
        go_wp2_with (first
          | (go_at_call 9; ((with_reducible refine (HA.out _).mono ?_); rintro e w1 ⟨rfl, hb1⟩; replace hb1 := hi hb1))
          | (go_at_call 10; ((with_reducible refine (new_yes w 0 hi' _ xs _ (HAT.out _ hb1.out) (Nat.le_trans hh hb1.out.size) HE.out hb1.out).mono ?_); rintro e w2 ⟨p, sv, rfl, hs2, _⟩; rw [HYS.out] at hs2; replace hs2 := hi hs2))
          | (go_at_call 16; ((with_reducible refine (place_any _ _ p sv _ size step fin _ hs2.out.bus (Nat.le_refl _) HRW.out).mono ?_); rintro e w3 ⟨he3, hb3⟩; rw [HV.out] at he3; unfold two at he3; subst he3; have hs3 := hi (hs2.out.later hb3); clear hb3))
          | (go_at_call 21; (refine (CW.out _ p sv (hs3.out.later (bal _ _))).mono ?_); rintro e w4 ⟨q, tv, rfl, hb4, hk4⟩; rw [HZS.out] at hb4; have hsp4 := hi ((SpBox.new w3 ⟨A, size, kind, 0⟩).later hk4); have hs4 := hi ((hs3.out.later (bal _ _)).later hk4); have hc4 := hi (show BS w q tv zs w4 from ⟨hb4.mono ((hs3.out.later (bal w3 _)).below.size) (Nat.le_refl _), hs4.out.below⟩); clear hb4 hk4)
          | (go_at_call 13; ((with_reducible refine (find_any _ _ q tv zs A 1 _ hc4.out.bus (Nat.le_refl _) HZ.out.ok).mono ?_); rintro e w5 ⟨he5, hb5⟩; rw [HFIND.out] at he5; unfold tup at he5; subst he5; obtain ⟨z0, z1, z2, z3⟩ := (hsp4.out.later hb5).cells; have hlt5 := Nat.lt_of_lt_of_le hsp4.out.lt hb5.size; dsimp only at z0 z1 z2 z3; have hs5 := hi ((hs4.out.later hb5).later (bal _ (.cells #[.int .i64 A, .int .i64 size, .int .i64 kind, .int .i64 0] 33))); have hc5 := hi ((hc4.out.later hb5).later (bal _ (.cells #[.int .i64 A, .int .i64 size, .int .i64 kind, .int .i64 0] 33))); clear hb5))
          | (go_at_call 15; ((with_reducible refine (all_any _ _ q tv zs _ hc5.out.bus (Nat.le_refl _) hz64).mono ?_); rintro e w7 ⟨v7, rfl, hr7, hb7⟩; rw [HZL.out] at hr7; obtain ⟨a7, c7, rfl⟩ := own_slice hr7; have hs7 := hi (hs5.out.later hb7); clear hr7 hb7))
          | (go_at_call 15; ((with_reducible refine (all_any _ _ p sv ys _ hs7.out.bus (Nat.le_refl _) hy64).mono ?_); rintro e w8 ⟨v8, rfl, hr8, hb8⟩; rw [HYL.out] at hr8; obtain ⟨a8, c8, rfl⟩ := own_slice hr8; have hs8 := hi (hs7.out.later hb8); have HR8 := hi hr8; clear hr8 hb8))
          | (go_at_call 15; ((with_reducible refine (all_any _ _ p sv ys _ hs8.out.bus (Nat.le_refl _) hy64).mono ?_); rintro e w9 ⟨v9, rfl, hr9, hb9⟩; rw [HYL.out] at hr9; obtain ⟨a9, c9, rfl⟩ := own_slice hr9; have hs9 := hi (hs8.out.later hb9); have HI8 := hi (spIn_of_own (by rw [HYL.out]; exact own_later HR8.out hb9) (by omega) HYF.out); have HI9 := hi (spIn_of_own (by rw [HYL.out]; exact hr9) (by omega) HYF.out); clear hr9 hb9))
          | (go_at_call 12; ((with_reducible refine (same_any _ _ _ _ ys ys _ _ _ HI8.out HI9.out).mono ?_); rintro e w10 ⟨he10, m10, rfl⟩; rw [sameS_self] at he10; subst he10)))
        go_ret
        exact ⟨rfl, Below.drewN hs9.out.below⟩
      · have hcas : kind < 1 ∨ (1 ≤ kind ∧ 4 < kind) ∨ (1 ≤ kind ∧ kind ≤ 4 ∧ 32 ≤ n) := by omega
        clear hfit hv he hys hylen hr
        rcases hcas with k1 | ⟨k1, k2⟩ | ⟨k1, k2, k3⟩
        all_goals
          by_cases hA0 : A = 0
          all_goals
            first
              | (have qA : (A == 0) = true := (by simpa using hA0))
              | (have qA : (A == 0) = false := (by simpa using hA0))
            clear hA0
            go_enter Try.func7, Try.ntmps7
            go_wp2_with (first
              | (go_at_call 9; ((with_reducible refine (HA.out _).mono ?_); rintro e w1 ⟨rfl, hb1⟩; replace hb1 := hi hb1))
              | (go_at_call 10; ((with_reducible refine (new_yes w 0 hi' _ xs _ (HAT.out _ hb1.out) (Nat.le_trans hh hb1.out.size) HE.out hb1.out).mono ?_); rintro e w2 ⟨p, sv, rfl, hs2, _⟩; rw [HYS.out] at hs2; replace hs2 := hi hs2))
              | (go_at_call 16; ((with_reducible refine (place_any _ _ p sv _ size step fin _ hs2.out.bus (Nat.le_refl _) HRW.out).mono ?_); rintro e w3 ⟨he3, hb3⟩; rw [HV.out] at he3; unfold two at he3; subst he3; have hs3 := hi (hs2.out.later hb3); clear hb3)))
            go_ret
            exact ⟨rfl, hs3.out.below.trans ((bal _ _).mono hs3.out.below.size)⟩
  · have hd : (newE xs != 0) = true := by simpa using he
    have HE := hi he
    clear he
    go_enter Try.func7, Try.ntmps7
    go_wp2_with (first
      | (go_at_call 9; ((with_reducible refine (HA.out _).mono ?_); rintro e w1 ⟨rfl, hb1⟩; replace hb1 := hi hb1))
      | (go_at_call 10; ((with_reducible refine (new_no 0 hi' _ xs _ (HAT.out _ hb1.out) (Nat.le_trans hh hb1.out.size) HE.out).mono ?_); rintro e w2 ⟨rfl, hb2⟩; replace hb2 := hi (hb1.out.trans (hb2.mono hb1.out.size)))))
    go_ret
    exact ⟨rfl, hb2.out⟩

end Go.Proofs.Ytcdfkdlddmkhmaa
