import Derived.Test.YtieedhdmpabfkaaGreatMg39
set_option linter.unusedSimpArgs false
namespace Go.Proofs.YtieedhdmpabfkaaGreat
open Go.ChangeShapes Go.WideShapes Go.ChangeAt Go.RowKit
set_option linter.unusedVariables false
set_option maxHeartbeats 1000000 in
theorem same_any (xs ys : List Int) (va vb : Value) (w : World) (ha : IntsAt w va xs) (hb : IntsAt w vb ys) (hx : xs.length ≤ 9223372036854775806) (hy : ys.length ≤ 9223372036854775806) :
  Calls Tryz.prog 33 #[va, vb] w fun e w' => e = .returned (.bool (sameB xs ys)) ∧ ∃ m, w' = w.drewN m := by
 obtain ⟨a, cap, rfl, _, ha⟩ := ha
 obtain ⟨b, cap2, rfl, _, hb⟩ := hb
 by_cases hl : xs.length = ys.length
 ·have HL := Lib.hid hl
  rw [← hl]
  clear hl hy
  go_enter Tryz.func33, Tryz.ntmps33
  go_wp2
  go_loopw [5] (fun i wr => ∃ k m : Nat, k ≤ xs.length ∧ i = .int .i64 k ∧ wr = w.drewN m ∧ Upto xs ys k) (fun i _ => xs.length - (intOf i).toNat)
  case atStart => exact ⟨0, 0, Nat.zero_le _, rfl, rfl, Upto.zero _ _⟩
  case round =>
   obtain ⟨k, m, hk, rfl, rfl, hu⟩ := hrel
   by_cases hlt : k < xs.length
   ·have hne : xs ≠ [] := fun e => by simp [e] at hlt
    have hne2 : ys ≠ [] := fun e => by have := HL.out; simp [e] at this; simp [this] at hlt
    obtain ⟨b1, o1, rfl, h1⟩ := ha hne
    obtain ⟨b2, o2, rfl, h2⟩ := hb hne2
    have hc1 := h1 k hlt
    have hc2 := h2 k (by rw [← HL.out]; exact hlt)
    have HU := Lib.hid hu
    clear h1 h2 ha hb hne hne2 hu
    go_wp2
    go_quiet (fail)
    go_wp2
    ·have hq : (xs[k] != ys[k]?.getD 0) = true := by assumption
     go_ret
     exact ⟨by rw [sameB_at (k := k) (by simpa [hlt] using hq)]; rfl, _, World.drewN_drewN _ _ _⟩
    ·have hq : (xs[k] != ys[k]?.getD 0) = false := by assumption
     go_roundw
     case rel => exact ⟨k + 1, _, by omega, by go_num, rfl, HU.out.succ (by simpa [hlt] using hq)⟩
     case measure => simp [intOf]; omega
   ·have e : k = xs.length := by omega
    subst e
    have hs := sameB_upto HL.out hu
    have HS := Lib.hid hs
    clear hs hu ha hb
    go_wp2
    go_ret
    exact ⟨by rw [HS.out]; rfl, _, rfl⟩
 ·have hs := sameB_len hl
  rw [hs]
  clear hs ha hb
  have hb : ((xs.length : Int) != (ys.length : Int)) = true := by simp; omega
  go_enter Tryz.func33, Tryz.ntmps33
  go_wp2
  go_ret
  exact ⟨rfl, 0, rfl⟩
open Go.Shelf
attribute [local go_sem] Oper.semAt_some
section
variable {w W : World} {p q : Nat} {b c : Nat → Nat} {D : Ds}
end
end Go.Proofs.YtieedhdmpabfkaaGreat
