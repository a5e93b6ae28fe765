/-
  Clone, Bytes, Put, Wipe, New, Size and Copy, by the program.
-/
import Derived.Test.YtkgkfgfnhjhabaaDoorMemE
namespace Go.Proofs.YtkgkfgfnhjhabaaDoor
open Go.ChangeShapes Go.WideShapes Go.ChangeAt Go.RowKit
set_option linter.unusedVariables false
set_option linter.unusedSimpArgs false

set_option maxHeartbeats 1000000 in
theorem clone_any (ad : Addr) (c : Nat) (ys : List Nat) (w : World) (h : BytesIn w (.slice (some ad) ys.length c) ys) (hl : ys.length ≤ 131072) :
    Calls Tryd.prog 57 #[.slice (some ad) ys.length c] w fun e w' => ∃ g v, e = .returned v ∧ OwnB w' w.heap.size g v ys ∧ Below w.heap.size w w' := by
  have H := hi h
  have hm := h.choose_spec.choose_spec.2.2.1
  have hcells : ∀ j u, (u8s ys)[j]? = some u → w.cell? (ad.add j) = some u := by
    intro j u hu
    have hj : j < ys.length := by
      have := (List.getElem?_eq_some_iff.1 hu).1
      rwa [u8s_len] at this
    obtain ⟨a, cap, e, _, _, hr⟩ := h
    simp only [Value.slice.injEq] at e
    obtain ⟨rfl, _, rfl⟩ := e
    obtain ⟨b, off, e2, hc⟩ := hr (fun e => by rw [e] at hj; simp at hj)
    simp only [Option.some.injEq] at e2
    rw [e2, add_mid_, hc j hj]
    rw [u8s_get ys j hj] at hu
    exact hu
  have HC := hi hcells
  have HM := hi hm
  clear h hcells hm
  obtain ⟨i0, hi', hz0, hz1, hz2⟩ := info_parts info_u8
  have HI := hi hi'
  have HZ := hi (And.intro hz0 (And.intro hz1 hz2))
  clear hi' hz0 hz1 hz2
  have q31 : ∀ (w : World) (a : Option Addr) (n c n' c' : Nat), (binOp .eql 48 (.slice a n c) (.slice none n' c')).run Tryd.prog w = .ok (.bool a.isNone) w := fun w a n c n' c' => Lib.run_eql_slice_nil w _ _ a n c n' c' Tryd.underlying48
  go_enter Tryd.func57, Tryd.ntmps57
  go_wp2_with (at_builtin; refine wpList_append_own _ rfl _ _ 48 rfl w.heap.size 5 i0 (.int .u8 0) 1 1 Tryd.underlying48 HI.out HZ.out.1 HZ.out.2.1 HZ.out.2.2 rfl (by decide) _ _ _ rfl (World.ownsRow_made w #[] 0 (Nat.le_refl _) (Nat.zero_le _) (by simp)) ad ys.length c (u8s ys) rfl ?qc1 ?qc2 (u8s_one ys) ?qc4 ?qc5 ?qc6 ?_)
  case qc1 => rw [u8s_len, Nat.mul_one]
  case qc2 =>
    intro j u hj
    exact Lib.cell?_alloc_some _ (HC.out j u hj)
  case qc4 => unfold maxLen; omega
  case qc5 => omega
  case qc6 => simp
  intro v' w1 hown hgrow hnil
  go_wp2
  go_ret
  obtain ⟨g, hg⟩ := OwnB.of_row (v := v') (ys := ys) (by simpa using hown) HM.out hnil
  exact ⟨g, v', rfl, hg, ((Below.refl _ w).alloc (Nat.le_refl _) _).grown hgrow (by simp) (by intro k hk; simp [Value.ownBlock] at hk; omega)⟩

/-- Where a slice of a block's bytes is handed to Clone. -/
theorem clone_sl (g o n : Nat) (bs : List Nat) (v : Value) (w : World) (hB : BytesAt w g bs) (hs : SlOf g o n v) (hn : o + n ≤ bs.length) (hl : bs.length ≤ 131072) :
    Calls Tryd.prog 57 #[v] w fun e w' => ∃ g v, e = .returned v ∧ OwnB w' w.heap.size g v (sub bs o n) ∧ Below w.heap.size w w' := by
  have h := BytesIn.of hB hs hn
  obtain ⟨ad, c, rfl, _, hc, x, rfl⟩ := hs
  have e := sub_len hn
  have := clone_any x c (sub bs o n) w (by rw [e]; exact h) (by omega)
  rwa [e] at this

/-- What Bytes returns: the value and the error. -/
def bytesE (n : Nat) (a s : Int) : Int := if holdsB n a s = true then 0 else 42
def bytesL (bs : List Nat) (a s : Int) : List Nat := if holdsB bs.length a s = true then sub bs a.toNat s.toNat else []

set_option maxHeartbeats 1000000 in
theorem bytes_any (p g cap : Nat) (bs : List Nat) (a s : Int) (w : World) (hM : MemAt 126 w p g cap bs)
    (ha0 : -9223372036854775808 ≤ a) (ha1 : a ≤ 9223372036854775807) (hs0 : -9223372036854775808 ≤ s) (hs1 : s ≤ 9223372036854775807) :
    Calls Tryd.prog 29 #[.pointer (some ⟨p, 0, none⟩), win a s] w fun e w' => ∃ v, e = .returned (tup v (bytesE bs.length a s)) ∧ ((v = .slice none 0 0 ∧ bytesL bs a s = []) ∨ ∃ h, OwnB w' w.heap.size h v (bytesL bs a s)) ∧ Below w.heap.size w w' := by
  have HM := hi hM
  have HH := hi (holds_any p g cap bs a s (w.alloc (.cells #[.int .i64 a, .int .i64 s] 42)) (hM.below (bal w _)) ha0 ha1 hs0 hs1)
  clear hM ha0 ha1 hs0 hs1
  unfold tup
  cases hh : holdsB bs.length a s
  · rw [hh] at HH
    have e : bytesE bs.length a s = 42 := by simp [bytesE, hh]
    have HE := hi (show bytesL bs a s = [] by simp [bytesL, hh])
    rw [e]
    clear e hh
    unfold win at HH ⊢
    go_enter Tryd.func29, Tryd.ntmps29
    go_wp2_with (go_at_call 56; ((with_reducible refine HH.out.mono ?_); rintro e w1 ⟨rfl, hb1⟩; obtain ⟨hc1, hc2⟩ := bcell hb1))
    go_ret2
    exact ⟨_, rfl, .inl ⟨rfl, HE.out⟩, (bal w _).trans (hb1.mono (by simp))⟩
  · have e : bytesE bs.length a s = 0 := by simp [bytesE, hh]
    have e2 : bytesL bs a s = sub bs a.toNat s.toNat := by simp [bytesL, hh]
    rw [e, e2]
    rw [hh] at HH
    obtain ⟨A, S, rfl, rfl, hA⟩ := holdsB_out hh
    have HA := hi hA
    have HI := hi (fun W hW => in_any p g cap bs A S W hW hA)
    clear e e2 hh hA
    simp only [Int.toNat_natCast]
    unfold win at HH HI ⊢
    go_enter Tryd.func29, Tryd.ntmps29
    go_wp2_with (first
      | (go_at_call 56; ((with_reducible refine HH.out.mono ?_); rintro e w1 ⟨rfl, hb1⟩; obtain ⟨hc1, hc2⟩ := bcell hb1))
      | (go_at_call 58; ((with_reducible refine (HI.out _ (HM.out.below ((bal w _).trans (hb1.mono (by simp))))).mono ?_); rintro e w2 ⟨v, rfl, hv, hb2⟩))
      | (go_at_call 57; ((with_reducible refine (clone_sl g A S bs _ _ (HM.out.bytes.of_block (((bal w _).trans ((hb1.mono (by simp)).trans (hb2.mono (by have := hb1.size; simp at this; omega)))).block g HM.out.bytes.lt)) hv HA.out HM.out.len).mono ?_); rintro e w3 ⟨h, v2, rfl, hv2, hb3⟩)))
    go_ret2
    have s1 : w.heap.size ≤ w1.heap.size := by have := hb1.size; simp at this; omega
    have s2 : w.heap.size ≤ w2.heap.size := by have := hb2.size; omega
    refine ⟨_, rfl, .inr ⟨h, ?_⟩, (bal w _).trans ((hb1.mono (by simp)).trans ((hb2.mono s1).trans (hb3.mono s2)))⟩
    obtain ⟨cp, e1, e2, e3⟩ := hv2
    exact ⟨cp, e1, by omega, e3⟩

end Go.Proofs.YtkgkfgfnhjhabaaDoor
