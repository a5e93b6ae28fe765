/-
  Put, Wipe, New, Size and Copy, by the program.
-/
import Derived.Test.YtkgkfgfnhjhabaaDoorMemF
namespace Go.Proofs.YtkgkfgfnhjhabaaDoor
open Go.ChangeShapes Go.WideShapes Go.ChangeAt Go.RowKit
set_option linter.unusedVariables false
set_option linter.unusedSimpArgs false

def putOk (n : Nat) (a s : Int) (m : Nat) : Bool := holdsB n a s && decide ((m : Int) ≤ s)
def putE (n : Nat) (a s : Int) (m : Nat) : Int := if putOk n a s m = true then 0 else 42
def putL (bs : List Nat) (a s : Int) (ys : List Nat) : List Nat := if putOk bs.length a s ys.length = true then splice bs a.toNat ys else bs

set_option maxHeartbeats 1000000 in
theorem put_any (p g cap : Nat) (bs : List Nat) (a s : Int) (sv : Value) (ys : List Nat) (w : World) (hM : MemAt 126 w p g cap bs) (hy : BytesIn w sv ys) (hyl : ys.length ≤ 9223372036854775807)
    (ha0 : -9223372036854775808 ≤ a) (ha1 : a ≤ 9223372036854775807) (hs0 : -9223372036854775808 ≤ s) (hs1 : s ≤ 9223372036854775807) :
    Calls Tryd.prog 41 #[.pointer (some ⟨p, 0, none⟩), win a s, sv] w fun e w' => e = .returned (.int .i64 (putE bs.length a s ys.length)) ∧ MemAt 126 w' p g cap (putL bs a s ys) ∧ Kept (· = g) w w' := by
  have HM := hi hM
  have HY := hi hy
  have HH := hi (holds_any p g cap bs a s (w.alloc (.cells #[.int .i64 a, .int .i64 s] 42)) (hM.below (bal w _)) ha0 ha1 hs0 hs1)
  obtain ⟨sa, sc, rfl, _, _, _⟩ := hy
  clear hM
  cases hh : holdsB bs.length a s
  · rw [hh] at HH
    have e : putE bs.length a s ys.length = 42 := by simp [putE, putOk, hh]
    have e2 : putL bs a s ys = bs := by simp [putL, putOk, hh]
    rw [e, e2]
    clear e e2 hh
    unfold win at HH ⊢
    go_enter Tryd.func41, Tryd.ntmps41
    go_wp2_with (go_at_call 56; ((with_reducible refine HH.out.mono ?_); rintro e w1 ⟨rfl, hb1⟩; obtain ⟨hc1, hc2⟩ := bcell hb1))
    go_ret
    have hb := (bal w (.cells #[.int .i64 a, .int .i64 s] 42)).trans (hb1.mono (by simp))
    exact ⟨rfl, HM.out.below hb, Kept.of hb⟩
  · by_cases hm : (ys.length : Int) ≤ s
    · have e : putE bs.length a s ys.length = 0 := by simp [putE, putOk, hh, hm]
      have e2 : putL bs a s ys = splice bs a.toNat ys := by simp [putL, putOk, hh, hm]
      rw [e, e2]
      rw [hh] at HH
      obtain ⟨A, S, rfl, rfl, hA⟩ := holdsB_out hh
      have HA := hi hA
      have HI := hi (fun W hW => in_any p g cap bs A S W hW hA)
      have hm' : ys.length ≤ S := by omega
      clear e e2 hh hA hm
      simp only [Int.toNat_natCast]
      unfold win at HH HI ⊢
      go_enter Tryd.func41, Tryd.ntmps41
      go_wp2_with (first
        | (go_at_call 56; ((with_reducible refine HH.out.mono ?_); rintro e w1 ⟨rfl, hb1⟩; obtain ⟨hc1, hc2⟩ := bcell hb1))
        | (go_at_call 58; ((with_reducible refine (HI.out _ (HM.out.below ((bal w _).trans (hb1.mono (by simp))))).mono ?_); rintro e w2 ⟨v, rfl, hv, hb2⟩))
        | (refine wpList_copy_bytes rfl _ _ rfl g A S bs ys v _ rfl rfl hv (HY.out.below ((bal w _).trans ((hb1.mono (by simp)).trans (hb2.mono (by have := hb1.size; simp at this; omega))))) (HM.out.bytes.of_block (((bal w _).trans ((hb1.mono (by simp)).trans (hb2.mono (by have := hb1.size; simp at this; omega)))).block g HM.out.bytes.lt)) HA.out hm' ?_; intro w3 hB3 hk3))
      go_ret
      have hb := (bal w (.cells #[.int .i64 A, .int .i64 S] 42)).trans ((hb1.mono (by simp)).trans (hb2.mono (by have := hb1.size; simp at this; omega)))
      exact ⟨rfl, HM.out.set ((Kept.of hb).trans hk3) hB3 (splice_len _ _ _ (by have := HA.out; omega)), (Kept.of hb).trans hk3⟩
    · have e : putE bs.length a s ys.length = 42 := by simp [putE, putOk, hm]
      have e2 : putL bs a s ys = bs := by simp [putL, putOk, hm]
      rw [e, e2]
      rw [hh] at HH
      have hm' : s < (ys.length : Int) := by omega
      clear e e2 hh hm
      unfold win at HH ⊢
      go_enter Tryd.func41, Tryd.ntmps41
      go_wp2_with (go_at_call 56; ((with_reducible refine HH.out.mono ?_); rintro e w1 ⟨rfl, hb1⟩; obtain ⟨hc1, hc2⟩ := bcell hb1))
      go_ret
      have hb := (bal w (.cells #[.int .i64 a, .int .i64 s] 42)).trans (hb1.mono (by simp))
      exact ⟨rfl, HM.out.below hb, Kept.of hb⟩

def wipeL (bs : List Nat) (a s : Int) : List Nat := if holdsB bs.length a s = true then splice bs a.toNat (List.replicate s.toNat 0) else bs

set_option maxHeartbeats 1000000 in
theorem wipe_any (p g cap : Nat) (bs : List Nat) (a s : Int) (w : World) (hM : MemAt 126 w p g cap bs)
    (ha0 : -9223372036854775808 ≤ a) (ha1 : a ≤ 9223372036854775807) (hs0 : -9223372036854775808 ≤ s) (hs1 : s ≤ 9223372036854775807) :
    Calls Tryd.prog 42 #[.pointer (some ⟨p, 0, none⟩), win a s] w fun e w' => e = .returned (.int .i64 (bytesE bs.length a s)) ∧ MemAt 126 w' p g cap (wipeL bs a s) ∧ Kept (· = g) w w' := by
  have HM := hi hM
  have HH := hi (holds_any p g cap bs a s (w.alloc (.cells #[.int .i64 a, .int .i64 s] 42)) (hM.below (bal w _)) ha0 ha1 hs0 hs1)
  clear hM
  cases hh : holdsB bs.length a s
  · rw [hh] at HH
    have e : bytesE bs.length a s = 42 := by simp [bytesE, hh]
    have e2 : wipeL bs a s = bs := by simp [wipeL, hh]
    rw [e, e2]
    clear e e2 hh
    unfold win at HH ⊢
    go_enter Tryd.func42, Tryd.ntmps42
    go_wp2_with (go_at_call 56; ((with_reducible refine HH.out.mono ?_); rintro e w1 ⟨rfl, hb1⟩; obtain ⟨hc1, hc2⟩ := bcell hb1))
    go_ret
    have hb := (bal w (.cells #[.int .i64 a, .int .i64 s] 42)).trans (hb1.mono (by simp))
    exact ⟨rfl, HM.out.below hb, Kept.of hb⟩
  · have e : bytesE bs.length a s = 0 := by simp [bytesE, hh]
    have e2 : wipeL bs a s = splice bs a.toNat (List.replicate s.toNat 0) := by simp [wipeL, hh]
    rw [e, e2]
    rw [hh] at HH
    obtain ⟨A, S, rfl, rfl, hA⟩ := holdsB_out hh
    have HA := hi hA
    have HI := hi (fun W hW => in_any p g cap bs A S W hW hA)
    clear e e2 hh hA
    simp only [Int.toNat_natCast]
    unfold win at HH HI ⊢
    go_enter Tryd.func42, Tryd.ntmps42
    go_wp2_with (first
      | (go_at_call 56; ((with_reducible refine HH.out.mono ?_); rintro e w1 ⟨rfl, hb1⟩; obtain ⟨hc1, hc2⟩ := bcell hb1))
      | (go_at_call 58; ((with_reducible refine (HI.out _ (HM.out.below ((bal w _).trans (hb1.mono (by simp))))).mono ?_); rintro e w2 ⟨v, rfl, hv, hb2⟩))
      | (refine wpList_clear_bytes rfl _ rfl g A S bs v rfl hv (HM.out.bytes.of_block (((bal w _).trans ((hb1.mono (by simp)).trans (hb2.mono (by have := hb1.size; simp at this; omega)))).block g HM.out.bytes.lt)) HA.out ?_; intro w3 hB3 hk3))
    go_ret
    have hb := (bal w (.cells #[.int .i64 A, .int .i64 S] 42)).trans ((hb1.mono (by simp)).trans (hb2.mono (by have := hb1.size; simp at this; omega)))
    exact ⟨rfl, HM.out.set ((Kept.of hb).trans hk3) hB3 (splice_len _ _ _ (by have := HA.out; simp; omega)), (Kept.of hb).trans hk3⟩

set_option maxHeartbeats 1000000 in
theorem size_any (p g cap : Nat) (bs : List Nat) (w : World) (hM : MemAt 126 w p g cap bs) :
    Calls Tryd.prog 48 #[.pointer (some ⟨p, 0, none⟩)] w fun e w' => e = .returned (.int .i64 bs.length) ∧ w = w' := by
  have hc := hM.cell
  clear hM
  go_enter Tryd.func48, Tryd.ntmps48
  go_wp2
  go_ret
  exact ⟨rfl, rfl⟩

end Go.Proofs.YtkgkfgfnhjhabaaDoor
