/-
  The document's Move and MoveAll, beside the program's parts.
-/
import Derived.Test.YtobhdjepfhbgaaaDoorLrB
namespace Go.Proofs.YtobhdjepfhbgaaaDoor
open Go.ChangeShapes Go.WideShapes Go.ChangeAt Go.RowKit Go.Shelf
set_option linter.unusedVariables false
set_option linter.unusedSimpArgs false

set_option maxRecDepth 100000 in
set_option maxHeartbeats 4000000 in
theorem rmove_pr {w0 : World} {N : Nat → Prop} {p q l0 l1 d0 d1 : Nat} {t td : Tw} {W : World} (h : PrX w0 N p q l0 l1 d0 d1 t td W) {L : Nat} (ok : td.Ok L) (id : Int) :
    Calls Tryd.prog 58 #[.pointer (some ⟨q, 0, none⟩), .int .i64 id, .pointer (some ⟨d0, 0, none⟩), .pointer (some ⟨d1, 0, none⟩), .bool true] W fun e W' => e = .returned (.bool (mvB td.bs td.x td.y id)) ∧ PrX w0 N p q l0 l1 d0 d1 t (mvS td id) W' ∧ NK N W W' := by
  have hlen := ok.len
  have okx : td.x.Ok td.bs.length := by rw [hlen]; exact ok.x
  have HH := hi (rhas_pr h okx id)
  have H := hi h
  have HOF := hi (fun W' (h' : PrX w0 N p q l0 l1 d0 d1 t td W') => rof_pr (h'.swap) (show (sw td).x.Ok (sw td).bs.length by show td.y.Ok td.bs.length; rw [hlen]; exact ok.y) id)
  have e0 : ownB (sw td).x id = ownB td.y id := rfl
  rw [e0] at HOF
  obtain ⟨hv, hhv⟩ : ∃ b, hasV td.bs td.x id = b := ⟨_, rfl⟩
  obtain ⟨ho, hho⟩ : ∃ b, ownB td.y id = b := ⟨_, rfl⟩
  have hmb : mvB td.bs td.x td.y id = (ho && hv) := by rw [mvB, hhv, hho]
  rw [hmb]
  cases hv
  · have e1 : mvS td id = td := by rw [mvS, if_neg (by rw [hmb]; cases ho <;> simp)]
    rw [e1, Bool.and_false]
    rw [hhv] at HH
    clear h ok okx e0 hmb e1 HOF
    go_enter Tryd.func58, Tryd.ntmps58
    go_wp2_with (go_at_call 18; ((with_reducible refine HH.out.mono ?_); rintro e w1 ⟨rfl, hb1⟩; have HB := hi hb1; clear hb1))
    go_ret
    exact ⟨rfl, H.out.later HB.out, NK.of_below HB.out⟩
  · rw [hhv] at HH
    rw [hho] at HOF
    cases ho
    · have e1 : mvS td id = td := by rw [mvS, if_neg (by rw [hmb]; simp)]
      rw [e1, Bool.false_and]
      clear h ok okx e0 hmb e1
      go_enter Tryd.func58, Tryd.ntmps58
      go_wp2_with (first
        | (go_at_call 18; ((with_reducible refine HH.out.mono ?_); rintro e w1 ⟨rfl, hb1⟩; have HB := hi hb1; clear hb1))
        | (go_at_call 62; ((with_reducible refine (HOF.out _ (H.out.later HB.out)).mono ?_); rintro e w2 ⟨rfl, hb2⟩; have HB2 := hi (HB.out.more hb2); clear hb2)))
      go_ret
      exact ⟨rfl, H.out.later HB2.out, NK.of_below HB2.out⟩
    · have hox : ownB td.x id = true := by
        cases e : ownB td.x id
        · rw [hasV, e, Bool.false_and] at hhv; cases hhv
        · rfl
      have e1 := mvS_doc ok (id := id) (by rw [hmb]; rfl)
      have s1 : setV td.bs td.x id false = setS td.bs td.x (kOf id) false := by rw [setV, if_pos hox]
      have s2 : ∀ b, setV b td.y id true = setS b td.y (kOf id) true := fun b => by rw [setV, if_pos hho]
      have HS1 := hi (fun W' (h' : PrX w0 N p q l0 l1 d0 d1 t td W') => rset_pr h' okx id false)
      rw [s1] at HS1
      have l1' : (setS td.bs td.x (kOf id) false).1.length = L := by rw [setS_len]; exact hlen
      have HS2 := hi (fun W' (h' : PrX w0 N p q l0 l1 d0 d1 t ⟨(setS td.bs td.x (kOf id) false).1, (setS td.bs td.x (kOf id) false).2, td.y⟩ W') => rset_pr h'.swap (show td.y.Ok (setS td.bs td.x (kOf id) false).1.length by rw [l1']; exact ok.y) id true)
      dsimp only [sw] at HS2
      rw [s2] at HS2
      rw [e1]
      obtain ⟨b1, hb1⟩ : ∃ b, hasV td.bs td.x id = b := ⟨_, rfl⟩
      obtain ⟨i1, hi1⟩ : ∃ b, errL td.x id = b := ⟨_, rfl⟩
      obtain ⟨b2, hb2⟩ : ∃ b, hasV (setS td.bs td.x (kOf id) false).1 td.y id = b := ⟨_, rfl⟩
      obtain ⟨i2, hi2⟩ : ∃ b, errL td.y id = b := ⟨_, rfl⟩
      rw [hb1, hi1] at HS1
      rw [hb2, hi2] at HS2
      clear h ok okx e0 hmb e1 s1 s2 l1' hb1 hi1 hb2 hi2 hhv hho
      go_enter Tryd.func58, Tryd.ntmps58
      go_wp2_with (first
        | (go_at_call 18; ((with_reducible refine HH.out.mono ?_); rintro e w1 ⟨rfl, hb1⟩; have HB := hi hb1; clear hb1))
        | (go_at_call 62; ((with_reducible refine (HOF.out _ (H.out.later HB.out)).mono ?_); rintro e w2 ⟨rfl, hb2⟩; have HB2 := hi (HB.out.more hb2); clear hb2))
        | (go_at_call 54; ((with_reducible refine (HS1.out _ (H.out.later HB2.out)).mono ?_); rintro e w3 ⟨rfl, hp3, hk3⟩; have H3 := hi (And.intro hp3 ((NK.of_below HB2.out).trans hk3)); clear hp3 hk3))
        | (go_at_call 54; ((with_reducible refine (HS2.out _ H3.out.1).mono ?_); rintro e w4 ⟨rfl, hp4, hk4⟩; have H4 := hi (And.intro hp4 (H3.out.2.trans hk4)); clear hp4 hk4)))
      go_ret
      exact ⟨rfl, H4.out.1.swap, H4.out.2⟩

set_option maxRecDepth 100000 in
set_option maxHeartbeats 4000000 in
theorem rmoveAll_pr {w0 : World} {N : Nat → Prop} {p q l0 l1 d0 d1 : Nat} {t td : Tw} {W : World} (h : PrX w0 N p q l0 l1 d0 d1 t td W) {L : Nat} (ok : td.Ok L) :
    Calls Tryd.prog 59 #[.pointer (some ⟨q, 0, none⟩), .pointer (some ⟨d0, 0, none⟩), .pointer (some ⟨d1, 0, none⟩), .bool true] W fun e W' => e = .returned (.int .i64 (mvAll td).2) ∧ PrX w0 N p q l0 l1 d0 d1 t (mvAll td).1 W' ∧ NK N W W' := by
  have hlen := ok.len
  have okx : td.x.Ok td.bs.length := by rw [hlen]; exact ok.x
  have HW := hi (rwaiting_pr h okx)
  have H := hi h
  have em : mvAll td = mvN td (ids (waitL td.bs td.x)) := rfl
  rw [em]
  have hmx : (ids (waitL td.bs td.x)).length ≤ 512 := by rw [ids_len]; exact Nat.le_trans (lst_len _ _) ok.x.n5
  obtain ⟨xs, hxs⟩ : ∃ xs, ids (waitL td.bs td.x) = xs := ⟨_, rfl⟩
  rw [hxs] at HW hmx ⊢
  have HOK := hi (fun k => mvN_ok ok (xs.take k))
  have HLE := hi (fun k => mvN_le td (xs.take k))
  clear em hxs okx hlen ok h
  -- the slice's block is the law's own while the loop runs
  have key : ∀ (W1 : World) (a : Option Addr) (cap : Nat), Col W (.slice a xs.length cap) xs W1 → ∃ N' : Nat → Prop, (∀ b, N b → N' b) ∧ PrX w0 N' p q l0 l1 d0 d1 t td W1 ∧ NK N W W1 ∧ ∀ W2, NK N' W1 W2 → IntsAt W2 (.slice a xs.length cap) xs := by
    intro W1 a cap hC
    obtain ⟨⟨κ, m, aa, c, hl, hn⟩, ht, hb, hp⟩ := H.out.later hC.below
    obtain ⟨⟨κ0, m0, a0, c0, hl0, hn0⟩, ht0, hb0, hp0⟩ := H.out
    have hi1 := intsAt_row hC.own
    have hy1 := own_yb hC.own
    have hy2 := own_yl hC.own
    have kk : Kept (fun _ => False) W W1 := Kept.of hC.below
    have G : ∀ b, b < W.heap.size → grow κ0 W.heap.size 7 b = κ0 b := fun b hb => grow_old hb
    refine ⟨fun b => N b ∨ Yb (.slice a xs.length cap) b, fun b hb => .inl hb, ⟨⟨grow κ0 W.heap.size 7, ⟨m0.1.keep kk (fun _ _ x => x) G, m0.2.keep kk (fun _ _ x => x) G⟩, ⟨a0.1.keep kk (fun _ _ x => x) G, a0.2.keep kk (fun _ _ x => x) G⟩, ⟨c0.1.keep kk (fun _ _ x => x) G, c0.2.keep kk (fun _ _ x => x) G⟩, fun b h0 => by rw [G _ (Nat.lt_of_lt_of_le h0 hb0.size)]; exact hl0 b h0, fun b hb => ?_⟩, ht, hb, hp⟩, NK.of_below hC.below, fun W2 k => ?_⟩
    · rcases hb with hb | hb
      · rw [G _ (hn0 b hb).2]; exact ⟨(hn0 b hb).1, Nat.lt_of_lt_of_le (hn0 b hb).2 hC.below.size⟩
      · rw [grow_new (hy1 b hb)]; exact ⟨rfl, hy2 b hb⟩
    · obtain ⟨a', cap', e, hcap, hcs⟩ := hi1
      simp only [Value.slice.injEq, true_and] at e
      obtain ⟨rfl, rfl⟩ := e
      refine ⟨a, cap, rfl, hcap, fun hx => ?_⟩
      obtain ⟨b, off, rfl, hcell⟩ := hcs hx
      refine ⟨b, off, rfl, fun j hj => ?_⟩
      have hlt := World.block_lt_of_cell? W1 _ (hcell j hj)
      exact (World.cell?_of_block (w := W1) (k.same b (.inr ⟨_, _, _, rfl⟩) hlt)).trans (hcell j hj)
  have KEY := hi key
  have HMV := hi (fun (N' : Nat → Prop) (u : Tw) (hu : u.Ok L) (id : Int) (W' : World) (hW : PrX w0 N' p q l0 l1 d0 d1 t u W') => rmove_pr hW hu id)
  clear key
  go_enter Tryd.func59, Tryd.ntmps59
  go_wp2_with (go_at_call 41; ((with_reducible refine HW.out.mono ?_); rintro e w1 ⟨a, cap, rfl, hC⟩; obtain ⟨N', hNN, hp1, hk1, hint⟩ := KEY.out w1 a cap hC; have H1 := hi (And.intro hp1 (And.intro hk1 (And.intro hint hNN))); clear hp1 hk1 hint hNN hC))
  go_loopw [9, 16] (fun nn i wr => ∃ j : Nat, j ≤ xs.length ∧ i = .int .i64 j ∧ nn = .int .i64 (mvN td (xs.take j)).2 ∧ Hi (PrX w0 N' p q l0 l1 d0 d1 t (mvN td (xs.take j)).1 wr ∧ NK N' w1 wr)) (fun _ i _ => xs.length - (intOf i).toNat)
  case atStart => exact ⟨0, Nat.zero_le _, rfl, rfl, hi ⟨H1.out.1, NK.refl _ _⟩⟩
  case round =>
    obtain ⟨j, hj, rfl, rfl, HP⟩ := hrel
    by_cases hlt : j < xs.length
    · have x1 : (j : Int) < (xs.length : Int) := by omega
      obtain ⟨b, off, hab, hbl, hx0, hx⟩ := intsAt_read (H1.out.2.2.1 wr HP.out.2) (Below.refl _ _) hlt
      subst hab
      obtain ⟨z, hz⟩ : ∃ z, xs[j]?.getD 0 = z := ⟨_, rfl⟩
      rw [hz] at hx0 hx
      have hsn : mvN td (xs.take (j + 1)) = mvF (mvN td (xs.take j)) z := by rw [take_snoc' xs hlt, mvN_snoc, hz]
      have hle := HLE.out j
      have hlt2 : (xs.take j).length ≤ 512 := Nat.le_trans (List.length_take_le _ _) (by omega)
      have hcn : (mvN td (xs.take j)).2 ≤ 512 := by omega
      have HC := hi (HMV.out N' _ (HOK.out j) z wr HP.out.1)
      have HSN := hi hsn
      obtain ⟨st, hst⟩ : ∃ st, mvN td (xs.take j) = st := ⟨_, rfl⟩
      rw [hst] at HC HSN hcn
      have HP2 := hi HP.out.2
      obtain ⟨bb, hbb⟩ : ∃ b, mvB st.1.bs st.1.x st.1.y z = b := ⟨_, rfl⟩
      rw [hbb] at HC
      have HF := hi (show mvF st z = (mvS st.1 z, st.2 + if bb = true then 1 else 0) by rw [mvF, hbb])
      rw [hst]
      clear hx0 hz hsn hst hbb hle hlt2
      obtain ⟨t1, cn⟩ := st
      dsimp only at HC HF hcn ⊢
      cases bb
      · have HN2 := hi (show (mvN td (xs.take (j + 1))).2 = cn by rw [HSN.out, HF.out]; simp)
        go_wp2_with (go_at_call 58; ((with_reducible refine HC.out.mono ?_); rintro e w3 ⟨rfl, h3, hk3⟩; have HR := hi (And.intro h3 (HP2.out.trans hk3)); clear h3 hk3))
        go_roundw
        case rel => exact ⟨j + 1, by omega, by go_num, by rw [HN2.out], hi ⟨by rw [HSN.out, HF.out]; exact HR.out.1, HR.out.2⟩⟩
        case measure => simp [intOf]; omega
      · have HN2 := hi (show (mvN td (xs.take (j + 1))).2 = cn + 1 by rw [HSN.out, HF.out]; simp)
        go_wp2_with (go_at_call 58; ((with_reducible refine HC.out.mono ?_); rintro e w3 ⟨rfl, h3, hk3⟩; have HR := hi (And.intro h3 (HP2.out.trans hk3)); clear h3 hk3))
        go_roundw
        case rel => exact ⟨j + 1, by omega, by go_num, by rw [HN2.out]; go_num, hi ⟨by rw [HSN.out, HF.out]; exact HR.out.1, HR.out.2⟩⟩
        case measure => simp [intOf]; omega
    · obtain rfl : j = xs.length := by omega
      have x1 : ¬ (xs.length : Int) < (xs.length : Int) := by omega
      rw [List.take_length] at HP ⊢
      go_wp2
      go_ret
      exact ⟨rfl, HP.out.1.less H1.out.2.2.2, ⟨Nat.le_trans H1.out.2.1.size HP.out.2.size, fun b hb hl => (HP.out.2.same b (H1.out.2.2.2 b hb) (Nat.lt_of_lt_of_le hl H1.out.2.1.size)).trans (H1.out.2.1.same b hb hl)⟩⟩

end Go.Proofs.YtobhdjepfhbgaaaDoor
