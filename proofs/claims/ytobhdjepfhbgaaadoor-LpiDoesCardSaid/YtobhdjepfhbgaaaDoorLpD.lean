/-
  Package lpi: mark, Has, Set.
-/
import Derived.Test.YtobhdjepfhbgaaaDoorLpC
namespace Go.Proofs.YtobhdjepfhbgaaaDoor
open Go.ChangeShapes Go.WideShapes Go.ChangeAt Go.RowKit Go.Shelf
set_option linter.unusedVariables false
set_option linter.unusedSimpArgs false

theorem write1 (p g cp : Nat) (bs : List Nat) (A Z o v : Nat) (hA : A + Z ≤ bs.length) (ho : o + 1 ≤ Z) (hv : v < 256) (w : World) (hM : MemAt 96 w p g cp bs) :
    Calls Tryd.prog 32 #[.pointer (some ⟨p, 0, none⟩), .agg #[.int .i64 A, .int .i64 Z], .int .i64 o, .int .i64 1, .int .u64 v] w fun e w' => e = .returned (.int .i64 0) ∧ MemAt 96 w' p g cp (bs.set (A + o) v) ∧ Kept (· = g) w w' := by
  have h := write_any p g cp bs A Z o 1 v w hM (by omega) (by have := hM.len; omega) (by omega) (by have := hM.len; omega) (by omega)
  rw [wr1 hA ho hM.len hv, acc1 hA ho hM.len] at h
  exact h

set_option maxHeartbeats 1000000 in
theorem mark_any (l s c cap p g cp : Nat) (S : Words) (x : St) (bs : List Nat) (hx : x.Ok bs.length) (k : Nat) (hk : k < x.n) (is : Bool) (w : World) (h : LpH w l s c cap S x) (hM : MemAt 96 w p g cp bs) :
    Calls Tryd.prog 47 #[.pointer (some ⟨l, 0, none⟩), .pointer (some ⟨p, 0, none⟩), .int .i64 ((8192 + k : Nat) : Int), .bool is] w fun e w' => (∃ v, e = .returned v) ∧ MemAt 96 w' p g cp (putB bs x.qa k is) ∧ Kept (· = g) w w' := by
  have hq := hx.qk hk
  have n5 := hx.n5
  have HP := hi (place_any k (by omega) w)
  have H := hi (And.intro h hM)
  have HL := hi (fun W hW => load_any p g cp bs x.qa x.qs (k / 8) hx.qw (by omega) W hW)
  have hb := getD_lt hM.bytes.2 (x.qa + k / 8)
  have hc := u8_clear _ hb (k % 8) (by omega)
  have hs := u8_set _ hb (k % 8) (by omega)
  have HW := hi (fun W hW => write1 p g cp bs x.qa x.qs (k / 8) (sb (bs[x.qa + k / 8]?.getD 0) (k % 8) is) hx.qw (by omega) (sb_lt hb (by omega) is) W hW)
  have l0 := sb_lt hb (show k % 8 < 8 by omega) false
  have l1 := sb_lt hb (show k % 8 < 8 by omega) true
  have hV : putB bs x.qa k is = bs.set (x.qa + k / 8) (sb (bs[x.qa + k / 8]?.getD 0) (k % 8) is) := rfl
  rw [hV]
  obtain ⟨v1, hv1⟩ : ∃ v, sb (bs[x.qa + k / 8]?.getD 0) (k % 8) true = v := ⟨_, rfl⟩
  obtain ⟨v0, hv0⟩ : ∃ v, sb (bs[x.qa + k / 8]?.getD 0) (k % 8) false = v := ⟨_, rfl⟩
  rw [hv0] at hc hs l0
  rw [hv1] at hs l1
  have hu0 : IntKind.u64.wrap (v0 : Int) = (v0 : Int) := by rw [IntKind.wrap_u64]; omega
  have hu1 : IntKind.u64.wrap (v1 : Int) = (v1 : Int) := by rw [IntKind.wrap_u64]; omega
  cases is
  all_goals first | rw [hv0] at HW ⊢ | rw [hv1] at HW ⊢
  all_goals
    clear hV hv0 hv1
    obtain ⟨v, hv⟩ : ∃ v, bs[x.qa + k / 8]?.getD 0 = v := ⟨_, rfl⟩
    obtain ⟨o, ho⟩ : ∃ o, k / 8 = o := ⟨_, rfl⟩
    obtain ⟨t, ht⟩ : ∃ t, 2 ^ (k % 8) = t := ⟨_, rfl⟩
    obtain ⟨z, hz⟩ : ∃ z : Int, ((8192 + k : Nat) : Int) = z := ⟨_, rfl⟩
    rw [hv] at HL hc
    rw [ho, ht, hz] at HP
    rw [ho] at HL HW
    rw [ht] at hc hs
    rw [hz, ho]
    clear h hM hb hq hv ho ht hz
    go_enter Tryd.func47, Tryd.ntmps47
    go_wp2_with (first
      | (go_at_call 78; ((with_reducible refine HP.out.mono ?_); rintro e w1 ⟨rfl, m, hw1⟩; have HB := hi (show Below w.heap.size w w1 from by rw [hw1]; exact Below.drewN (Below.refl _ _)); clear hw1; obtain ⟨_, _, _, q3, q4, _, _⟩ := (H.out.1.below HB.out).cells))
      | (go_at_call 71; ((with_reducible refine (HL.out _ (H.out.2.below HB.out)).mono ?_); rintro e w2 ⟨rfl, hb2⟩; have HB2 := hi (HB.out.more hb2); clear q3 q4 hb2; obtain ⟨_, _, _, q3, q4, _, _⟩ := (H.out.1.below HB2.out).cells))
      | (go_at_call 32; ((with_reducible refine (HW.out _ (H.out.2.below HB2.out)).mono ?_); rintro e w3 ⟨rfl, hm3, hk3⟩; clear q3 q4)))
    go_end0
    exact ⟨⟨_, rfl⟩, hm3, (Kept.of HB2.out).trans hk3⟩

set_option maxHeartbeats 1000000 in
theorem has_lpi (l s c cap p g cp : Nat) (S : Words) (x : St) (bs : List Nat) (hx : x.Ok bs.length) (id : Int) (w : World) (h : LpH w l s c cap S x) (hM : MemAt 96 w p g cp bs) :
    Calls Tryd.prog 17 #[.pointer (some ⟨l, 0, none⟩), .pointer (some ⟨p, 0, none⟩), .int .i64 id] w fun e w' => e = .returned (.bool (hasV bs x id)) ∧ Below w.heap.size w w' := by
  obtain ⟨c0, _, _, _, _, c5, _⟩ := h.cells
  obtain ⟨on, hon⟩ : ∃ b, x.on = b := ⟨_, rfl⟩
  rw [hon] at c0
  cases on
  · cases ho : ownB x id
    · have HO := hi (owns_is l s c cap S x hx.n5 id false ho w h)
      have e : hasV bs x id = false := by rw [hasV, ho]; rfl
      rw [e]
      clear h hM c5 hon ho e
      go_enter Tryd.func17, Tryd.ntmps17
      go_wp2_with (go_at_call 46; ((with_reducible refine HO.out.mono ?_); rintro e w1 ⟨rfl, rfl⟩))
      go_ret
      exact ⟨rfl, Below.refl _ _⟩
    · obtain ⟨k, hk, rfl⟩ := ownB_out ho
      have HO := hi (owns_is l s c cap S x hx.n5 _ true ho w h)
      have HM := hi (marked_any l s c cap p g cp S x bs hx k hk w h hM)
      have e : hasV bs x ((8192 + k : Nat) : Int) = bitB bs x.qa k := by rw [hasV, ho, Bool.true_and, kOf_at, hasK, if_neg (by rw [hon]; simp)]
      rw [e]
      obtain ⟨z, hz⟩ : ∃ z : Int, ((8192 + k : Nat) : Int) = z := ⟨_, rfl⟩
      rw [hz] at HO HM
      rw [hz]
      clear h hM c5 hon ho e hz
      go_enter Tryd.func17, Tryd.ntmps17
      go_wp2_with (first
        | (go_at_call 46; ((with_reducible refine HO.out.mono ?_); rintro e w1 ⟨rfl, rfl⟩))
        | (go_at_call 61; ((with_reducible refine HM.out.mono ?_); rintro e w1 ⟨rfl, hb1⟩)))
      go_ret
      exact ⟨rfl, hb1⟩
  · have HS := hi (setHas_any _ s S id w (h.set hon).1)
    have e : hasV bs x id = memZ S id := by rw [(h.set hon).2 id, hasV, hasK, if_pos hon]
    rw [e]
    clear h hM hon e
    go_enter Tryd.func17, Tryd.ntmps17
    go_wp2_with (go_at_call 60; ((with_reducible refine HS.out.mono ?_); rintro e w1 ⟨rfl, rfl⟩))
    go_ret
    exact ⟨rfl, Below.refl _ _⟩
theorem has_is2 (l s c cap p g cp : Nat) (S : Words) (x : St) (bs : List Nat) (hx : x.Ok bs.length) (id : Int) (b : Bool) (hb : hasV bs x id = b) (w : World) (h : LpH w l s c cap S x) (hM : MemAt 96 w p g cp bs) :
    Calls Tryd.prog 17 #[.pointer (some ⟨l, 0, none⟩), .pointer (some ⟨p, 0, none⟩), .int .i64 id] w fun e w' => e = .returned (.bool b) ∧ Below w.heap.size w w' := hb ▸ has_lpi l s c cap p g cp S x bs hx id w h hM

/-- What a call that may tell that an interrupt waits leaves. -/
structure SetP (w : World) (l s c cap p g cp : Nat) (bs' : List Nat) (x' : St) (W : World) : Prop where
  lp : ∃ S', LpB W l s c cap S' x'
  mem : MemAt 96 W p g cp bs'
  kept : Kept (fun b => b = s ∨ b = g) w W

set_option maxHeartbeats 1000000 in
theorem set_lpi (l s c cap p g cp : Nat) (S : Words) (x : St) (bs : List Nat) (hx : x.Ok bs.length) (id : Int) (is : Bool) (w : World) (h : LpB w l s c cap S x) (hM : MemAt 96 w p g cp bs) (hgc : g ≠ c) :
    Calls Tryd.prog 13 #[.pointer (some ⟨l, 0, none⟩), .pointer (some ⟨p, 0, none⟩), .int .i64 id, .bool is] w fun e w' => e = .returned (.tuple #[.bool (hasV bs x id), .int .i64 (errL x id)]) ∧ SetP w l s c cap p g cp (setV bs x id is).1 (setV bs x id is).2 w' := by
  obtain ⟨a1, a2, a3, a4, a5⟩ := h.apart hM
  have HO := hi (owns_any l s c cap S x hx.n5 id w h.hd)
  obtain ⟨hv, hhv⟩ : ∃ b, hasV bs x id = b := ⟨_, rfl⟩
  have HH := hi (has_is2 l s c cap p g cp S x bs hx id hv hhv w h.hd hM)
  cases ho : ownB x id
  · have e1 : hv = false := by rw [← hhv, hasV, ho]; rfl
    subst e1
    have e2 : errL x id = 150 := by rw [errL, if_neg (by rw [ho]; simp)]
    have e3 : setV bs x id is = (bs, x) := by rw [setV, if_neg (by rw [ho]; simp)]
    rw [e2, e3, hhv]
    rw [ho] at HO
    have HR := hi (show SetP w l s c cap p g cp bs x w from ⟨⟨S, h⟩, hM, Kept.refl _ _⟩)
    clear h hM HH e2 e3
    go_enter Tryd.func13, Tryd.ntmps13
    go_wp2_with (go_at_call 46; ((with_reducible refine HO.out.mono ?_); rintro e w1 ⟨rfl, rfl⟩))
    go_ret2
    exact ⟨rfl, HR.out⟩
  · obtain ⟨k, hk, rfl⟩ := ownB_out ho
    have e2 : errL x ((8192 + k : Nat) : Int) = 0 := by rw [errL, if_pos ho]
    have e3 : setV bs x ((8192 + k : Nat) : Int) is = setS bs x k is := by rw [setV, if_pos ho, kOf_at]
    rw [e2, e3, hhv]
    rw [ho] at HO
    have H := hi (And.intro h hM)
    clear e2 e3
    obtain ⟨on, hon⟩ : ∃ b, x.on = b := ⟨_, rfl⟩
    cases on
    · have HK := hi (fun W h1 h2 => mark_any l s c cap p g cp S x bs hx k hk is W h1 h2)
      have e : setS bs x k is = (putB bs x.qa k is, x) := by rw [setS, if_neg (by rw [hon]; simp)]
      rw [e]
      obtain ⟨z, hz⟩ : ∃ z : Int, ((8192 + k : Nat) : Int) = z := ⟨_, rfl⟩
      rw [hz] at HO HH HK
      rw [hz]
      clear h hM e hz ho hhv
      go_enter Tryd.func13, Tryd.ntmps13
      go_wp2_with (first
        | (go_at_call 46; ((with_reducible refine HO.out.mono ?_); rintro e w1 ⟨rfl, rfl⟩))
        | (go_at_call 17; ((with_reducible refine HH.out.mono ?_); rintro e w1 ⟨rfl, hb1⟩; have HB := hi hb1; clear hb1; obtain ⟨c0, _, _, _, _, c5, _⟩ := (H.out.1.below HB.out).cells; rw [hon] at c0))
        | (go_at_call 47; ((with_reducible refine (HK.out _ (H.out.1.below HB.out).hd (H.out.2.below HB.out)).mono ?_); rintro e w2 ⟨⟨v, rfl⟩, hm2, hk2⟩)))
      go_ret2
      exact ⟨rfl, ⟨S, (H.out.1.below HB.out).kept hk2 a1 a2 (fun e => hgc e.symm)⟩, hm2, ((Kept.of HB.out).trans hk2).mono (fun _ e => Or.inr e)⟩
    · have e : setS bs x k is = (bs, { x with P := updP x.P k is }) := by rw [setS, if_pos hon]
      rw [e]
      have hU := h.is.upd hx.n5 hk is
      have HU := hi (And.intro hU (And.intro a2 (And.intro a3 (And.intro h.ls h.sc))))
      obtain ⟨z, hz⟩ : ∃ z : Int, ((8192 + k : Nat) : Int) = z := ⟨_, rfl⟩
      rw [hz] at HO HH HU
      rw [hz]
      clear h hM e hz ho hhv hU
      have fin : ∀ {w1 w2 : World} {S2 : Words}, Below w.heap.size w w1 → RowAt 120 w2 s S2 → w1.grownBy w2 (some s) → SetIs S2 { x with P := updP x.P k is } → SetP w l s c cap p g cp bs { x with P := updP x.P k is } w2 := fun {w1 w2 S2} hb hr hg hs => by
        have hB := H.out.1.below hb
        have hk2 := Kept.grownT hg
        exact ⟨⟨S2, hB.box.keptB hk2 (fun e => HU.out.2.2.2.1 e), hr, hs, hB.cfg.of_block (hk2.block c hB.cfg.lt (fun e => HU.out.2.2.2.2 e.symm)), hB.len, hB.cap⟩, (H.out.2.below hb).kept hk2 (fun e => HU.out.2.2.1 e) (fun e => HU.out.2.1 e.symm), ((Kept.of hb).trans hk2).mono (fun _ e => Or.inl e)⟩
      have FIN := hi @fin
      clear fin
      cases is
      · simp only [Bool.false_eq_true, if_false] at HU
        go_enter Tryd.func13, Tryd.ntmps13
        go_wp2_with (first
          | (go_at_call 46; ((with_reducible refine HO.out.mono ?_); rintro e w1 ⟨rfl, rfl⟩))
          | (go_at_call 17; ((with_reducible refine HH.out.mono ?_); rintro e w1 ⟨rfl, hb1⟩; have HB := hi hb1; clear hb1; obtain ⟨c0, _, _, _, _, c5, _⟩ := (H.out.1.below HB.out).cells; rw [hon] at c0))
          | (go_at_call 49; ((with_reducible refine (stake_any _ s S z _ (H.out.1.below HB.out).set).mono ?_); rintro e w2 ⟨rfl, hr2, hg2⟩; have HR2 := hi (FIN.out HB.out hr2 hg2 HU.out.1); clear hr2 hg2)))
        go_ret2
        exact ⟨rfl, HR2.out⟩
      · simp only [if_true] at HU
        go_enter Tryd.func13, Tryd.ntmps13
        go_wp2_with (first
          | (go_at_call 46; ((with_reducible refine HO.out.mono ?_); rintro e w1 ⟨rfl, rfl⟩))
          | (go_at_call 17; ((with_reducible refine HH.out.mono ?_); rintro e w1 ⟨rfl, hb1⟩; have HB := hi hb1; clear hb1; obtain ⟨c0, _, _, _, _, c5, _⟩ := (H.out.1.below HB.out).cells; rw [hon] at c0))
          | (go_at_call 48; ((with_reducible refine (sput_any _ s S z _ (H.out.1.below HB.out).set).mono ?_); rintro e w2 ⟨rfl, hr2, hg2⟩; have HR2 := hi (FIN.out HB.out hr2 hg2 HU.out.1); clear hr2 hg2)))
        go_ret2
        exact ⟨rfl, HR2.out⟩

end Go.Proofs.YtobhdjepfhbgaaaDoor
