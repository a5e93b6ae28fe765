/-
  The document's part: Waiting, Best.
-/
import Derived.Test.YtobhdjepfhbgaaaDoorLqE
namespace Go.Proofs.YtobhdjepfhbgaaaDoor
open Go.ChangeShapes Go.WideShapes Go.ChangeAt Go.RowKit Go.Shelf
set_option linter.unusedVariables false
set_option linter.unusedSimpArgs false

theorem IntsAt.keptY2 {A W : World} {v : Value} {xs : List Int} (h : IntsAt A v xs) {bs : Nat → Prop} (k : Kept bs A W) (hb : ∀ b, Yb v b → b < A.heap.size → ¬ bs b) : IntsAt W v xs := by
  obtain ⟨a, cap, rfl, hcap, hc⟩ := h
  refine ⟨a, cap, rfl, hcap, fun hx => ?_⟩
  obtain ⟨b, off, rfl, hcs⟩ := hc hx
  refine ⟨b, off, rfl, fun j hj => ?_⟩
  have hlt := World.block_lt_of_cell? A _ (hcs j hj)
  exact (World.cell?_of_block (w := A) (k.block b hlt (hb b ⟨_, _, _, rfl⟩ hlt))).trans (hcs j hj)
theorem LdB.kept2 {A W : World} {d f capf : Nat} {yv : Value} {x : St} (h : LdB A d f capf yv x) {bs : Nat → Prop} (k : Kept bs A W) (h1 : ¬ bs d) (h2 : ¬ bs f) (h3 : ∀ b, Yb yv b → b < A.heap.size → ¬ bs b) : LdB W d f capf yv x :=
  ⟨h.box.keptB k h1, h.cfg.of_block (k.block f h.cfg.lt h2), h.len, h.cap, h.ws.keptY2 k h3⟩
set_option maxRecDepth 100000 in
set_option maxHeartbeats 4000000 in
theorem rwaiting_lpi (d f capf q h cq : Nat) (yv : Value) (x : St) (bs : List Nat) (hx : x.Ok bs.length) (w : World) (a : LdB w d f capf yv x) (m : MemAt 107 w q h cq bs) :
    Calls Tryd.prog 41 #[.pointer (some ⟨d, 0, none⟩), .pointer (some ⟨q, 0, none⟩)] w (GivesCol w (ids (waitL bs x))) := by
  obtain ⟨i0, hi', hz0, hz1, hz2⟩ := info_parts info_int
  have H := hi (And.intro a m)
  have hn5 := hx.n5
  have hw8 : IntKind.i64.wrap (8192 + (x.n : Int)) = 8192 + (x.n : Int) := by rw [IntKind.wrap_i64]; omega
  have HH := hi (fun (id : Int) (b : Bool) (hb : hasV bs x id = b) (W : World) (ha : LdB W d f capf yv x) (hm : MemAt 107 W q h cq bs) => rhas_is d f capf q h cq yv x bs hx id b hb W ha hm)
  clear a m
  go_enter Tryd.func41, Tryd.ntmps41
  go_wp2
  go_loopw [5, 6] (fun o i wr => ∃ k : Nat, i = .int .i64 ((8192 + k : Nat) : Int) ∧ Hi (k ≤ x.n ∧ Col w o (ids (lst (hasK bs x) k)) wr)) (fun _ i _ => 16384 - (intOf i).toNat)
  case atStart => exact ⟨0, rfl, hi ⟨Nat.zero_le _, Col.nil _ _ (Below.refl _ _)⟩⟩
  case round =>
    obtain ⟨k, rfl, HP⟩ := hrel
    obtain ⟨hk, hC⟩ := HP.out
    have HC := hi hC
    obtain ⟨ao, co, rfl⟩ := hC.slice
    have c0 := (ldCells (H.out.1.below hC.below).box).1
    have hql : (ids (lst (hasK bs x) k)).length ≤ 512 := by rw [ids_len]; have := lst_len (hasK bs x) k; omega
    by_cases hlt : k < x.n
    · obtain ⟨b, hb⟩ : ∃ b, hasK bs x k = b := ⟨_, rfl⟩
      have hv : hasV bs x ((8192 + k : Nat) : Int) = b := by rw [hasV, ownB_at, kOf_at, hb, decide_eq_true hlt, Bool.true_and]
      have HR := hi (HH.out _ b hv wr (H.out.1.below hC.below) (H.out.2.below hC.below))
      have hsn := ids_snoc (lst (hasK bs x) k) k
      have hLT := hi hlt
      obtain ⟨q', hq'⟩ : ∃ q, ids (lst (hasK bs x) k) = q := ⟨_, rfl⟩
      rw [hq'] at HC hql hsn hC ⊢
      have HY := hi (fun (hh : hasK bs x k = true) => show ids (lst (hasK bs x) (k + 1)) = q' ++ [((8192 + k : Nat) : Int)] by rw [lst_yes hh, hsn])
      have HNO := hi (fun (hh : hasK bs x k = false) => show ids (lst (hasK bs x) (k + 1)) = q' by rw [lst_no hh, hq'])
      obtain ⟨z, hz⟩ : ∃ z : Int, ((8192 + k : Nat) : Int) = z := ⟨_, rfl⟩
      have x1 : z < 8192 + (x.n : Int) := by omega
      have hz9 : z ≤ 16383 := by omega
      have hz8 : 0 ≤ z := by omega
      rw [hz] at HR HY ⊢
      have HZ := hi hz
      have HBK := hi hb
      cases b
      · have HE := hi (HNO.out HBK.out)
        clear hz hb hv hsn hq' hlt hC HP hk
        go_wp2_with (go_at_call 18; ((with_reducible refine HR.out.mono ?_); rintro e w1 ⟨rfl, hb1⟩; have HB := hi hb1; clear hb1))
        go_roundw
        case rel => exact ⟨k + 1, by have := HZ.out; go_num, hi ⟨hLT.out, by rw [HE.out]; exact HC.out.later HB.out⟩⟩
        case measure => have := HZ.out; simp only [intOf]; omega
      · have HE := hi (HY.out HBK.out)
        clear hz hb hv hsn hq' hlt hC HP hk
        go_wp2_with (first
          | (go_at_call 18; ((with_reducible refine HR.out.mono ?_); rintro e w1 ⟨rfl, hb1⟩; have HB := hi hb1; replace HC := hi (HC.out.later hb1); clear hb1))
          | (at_builtin; refine wpList_append_own _ rfl (.tmp 20) (.tmp 22) 57 rfl w.heap.size 3 i0 (.int .i64 0) 1 8 Tryd.underlying57 hi' hz0 hz1 hz2 rfl (by decide) _ _ _ rfl (HC.out.own.alloc _) _ 1 1 [.int .i64 z] rfl rfl (cell_one_new _ _ _) (by simp [Value.oneCell']) (by unfold maxLen; omega) (by omega) (by have := HC.out.sz; simp; omega) ?_; intro v' w2 hown' hgrow _; obtain ⟨hc1, g', cap', rfl⟩ := HC.out.app hown' hgrow; replace HC := hi hc1; clear hown' hgrow hc1))
        go_roundw
        case rel => exact ⟨k + 1, by have := HZ.out; go_num, hi ⟨hLT.out, by rw [HE.out]; simpa using HC.out⟩⟩
        case measure => have := HZ.out; simp only [intOf]; omega
    · obtain rfl : k = x.n := by omega
      have x1 : ¬ ((8192 + x.n : Nat) : Int) < 8192 + (x.n : Int) := by omega
      clear hlt hC HP hk
      go_wp2
      go_ret
      exact gives HC.out rfl

set_option maxRecDepth 100000 in
set_option maxHeartbeats 4000000 in
theorem rbest_lpi (d f capf : Nat) (yv : Value) (x : St) (L0 : Nat) (hx : x.Ok L0) (w : World) (a : LdB w d f capf yv x) :
    Calls Tryd.prog 39 #[.pointer (some ⟨d, 0, none⟩)] w fun e w' => e = .returned (bestV x).v ∧ Below w.heap.size w w' := by
  have hn5 := hx.n5
  have hB0 := bal2' w (.cells (⟨0, 0, 0, false⟩ : Cd).cs 63) (.cells (⟨0, 0, 0, false⟩ : Cd).cs 63)
  have hr0 := (CB.new w 63 (⟨0, 0, 0, false⟩ : Cd).cs).alloc (.cells (⟨0, 0, 0, false⟩ : Cd).cs 63)
  have hr1 := CB.new (w.alloc (.cells (⟨0, 0, 0, false⟩ : Cd).cs 63)) 63 (⟨0, 0, 0, false⟩ : Cd).cs
  rw [World.size_alloc] at hr1
  have hon : ∀ j, j < (lst x.P x.n).length → x.on = true := fun j hj => by
    cases ho : x.on
    · rw [lst_none (hx.off ho)] at hj; simp at hj
    · rfl
  have HON := hi hon
  have HAT := hi (fun j (h : j < (lst x.P x.n).length) => lst_at h)
  have hmax : (lst x.P x.n).length ≤ 512 := Nat.le_trans (lst_len _ _) hn5
  have hbv : bestV x = bestL x (lst x.P x.n) := rfl
  rw [hbv]
  have HWS := hi a.ws
  obtain ⟨ya, yc, hyv, _⟩ := a.ws
  rw [ints_len] at hyv
  have HLQ := hi a
  obtain ⟨L, hL⟩ : ∃ L, lst x.P x.n = L := ⟨_, rfl⟩
  rw [hL] at HAT hyv hmax HWS HON ⊢
  subst hyv
  obtain ⟨w1, hw1⟩ : ∃ w1, (w.alloc (.cells (⟨0, 0, 0, false⟩ : Cd).cs 63)).alloc (.cells (⟨0, 0, 0, false⟩ : Cd).cs 63) = w1 := ⟨_, rfl⟩
  have hz1 : w1.heap.size = w.heap.size + 2 := by rw [← hw1]; simp
  rw [hw1] at hB0 hr0 hr1
  have HW := hi (And.intro hB0 (And.intro hr0 hr1))
  have HW1 := hi hw1
  have hdl := a.box.lt
  have hfl := a.cfg.lt
  clear hon hbv a hL hw1 hB0 hr0 hr1
  go_enter Tryd.func39, Tryd.ntmps39
  go_wp2
  rw [HW1.out]
  go_loopw [4] (fun i wr => ∃ j : Nat, j ≤ L.length ∧ i = .int .i64 j ∧ Hi (CB wr (w.heap.size + 1) 63 (bestL x (L.take j)).cs ∧ Kept (· = w.heap.size + 1) w1 wr)) (fun i _ => L.length - (intOf i).toNat)
  case atStart => exact ⟨0, Nat.zero_le _, rfl, hi ⟨HW.out.2.2, Kept.refl _ _⟩⟩
  case round =>
    obtain ⟨j, hj, rfl, HP⟩ := hrel
    have hkw := (Kept.of (bs := (· = w.heap.size + 1)) HW.out.1).trans HP.out.2
    have hLd := HLQ.out.kept2 hkw (fun e => by omega) (fun e => by omega) (fun b _ hlt e => by omega)
    obtain ⟨_, c1, _, _, _, _, _, c7⟩ := ldCells hLd.box
    have hws : IntsAt wr (.slice ya (ints L).length yc) (ints L) := by rw [ints_len]; exact HWS.out.keptY2 hkw (fun b _ hlt e => by omega)
    by_cases hlt : j < L.length
    · have x1 : (j : Int) < (L.length : Int) := by omega
      rw [HON.out j hlt] at c1
      obtain ⟨b, off, hya, hbl, hx0, hxx⟩ := intsAt_read hws (Below.refl _ _) (by rw [ints_len]; exact hlt)
      subst hya
      rw [ints_at L j hlt] at hx0 hxx
      have hkn := HAT.out j hlt
      have htk : L.take (j + 1) = L.take j ++ [L[j]?.getD 0] := by rw [List.take_succ_eq_append_getElem hlt, List.getElem?_eq_getElem hlt]; rfl
      obtain ⟨k, hk⟩ : ∃ k, L[j]?.getD 0 = k := ⟨_, rfl⟩
      rw [hk] at hx0 hxx hkn htk
      have hw9 : IntKind.i64.wrap (8192 + (k : Int)) = idOf k := by rw [IntKind.wrap_i64, idOf_eq]; omega
      have HS := hi (rsetup_lpi d f capf _ x hn5 hx.cm (idOf k) wr hLd)
      have e1 : inV x (idOf k) = decide (cfgK x k % 2 = 1) := by rw [inV, idOf_eq, ownB_at, decide_eq_true hkn, Bool.true_and, kOf_at]
      have e2 : prV x (idOf k) = (realN (cfgK x k) : Int) := by rw [prV, idOf_eq, if_pos (by rw [ownB_at, decide_eq_true hkn]), kOf_at]
      rw [e1, e2] at HS
      have HYES := @bestC_yes x (bestL x (L.take j)) k
      have HNO := @bestC_no x (bestL x (L.take j)) k
      have hbx := HP.out.1
      have HPK := hi HP.out.2
      obtain ⟨cd, hcd⟩ : ∃ d, bestL x (L.take j) = d := ⟨_, rfl⟩
      have HSN := hi (show bestL x (L.take (j + 1)) = bestC x cd k by rw [htk, bestL_snoc, hcd])
      rw [hcd] at HYES HNO hbx
      obtain ⟨rv, hrv⟩ : ∃ r : Int, (realN (cfgK x k) : Int) = r := ⟨_, rfl⟩
      rw [hrv] at HS HYES HNO
      obtain ⟨z, hz⟩ : ∃ z : Int, idOf k = z := ⟨_, rfl⟩
      rw [hz] at HS HYES HNO hw9
      have HBF := hi (fun W => refBefore_any rv z cd.p cd.id W)
      obtain ⟨bb, hbb⟩ : ∃ b, beforeB rv z cd.p cd.id = b := ⟨_, rfl⟩
      rw [hbb] at HYES HNO HBF
      clear hz e1 e2 hcd hrv hbb htk hk hx0 hws hLd hkw
      obtain ⟨ci, cp, cg, cis⟩ := cd
      dsimp only at HYES HNO HBF hbx
      obtain ⟨q0, q1, q2, q3⟩ := hbx.four
      have qf := hbx.frozen
      have qz := hbx.lt
      have HBX := hi hbx
      have fin : ∀ (V' : World) (dd : Cd), CB V' (w.heap.size + 1) 63 dd.cs → Kept (· = w.heap.size + 1) wr V' → bestC x ⟨ci, cp, cg, cis⟩ k = dd → Hi (CB V' (w.heap.size + 1) 63 (bestL x (L.take (j + 1))).cs ∧ Kept (· = w.heap.size + 1) w1 V') := fun V' dd h1 h2 h3 =>
        hi ⟨by rw [HSN.out, h3]; exact h1, HPK.out.trans h2⟩
      have FIN := hi fin
      clear fin hbx
      by_cases hcf : cfgK x k % 2 = 1
      · have hcd : decide (cfgK x k % 2 = 1) = true := decide_eq_true hcf
        rw [hcd] at HS
        cases cis
        · have HE := hi (HYES hcf (.inl rfl))
          clear HYES HNO hcf hcd
          go_wp2_with (go_at_call 42; ((with_reducible refine HS.out.mono ?_); rintro e w2 ⟨rfl, rfl⟩))
          go_roundw
          case rel => exact ⟨j + 1, by omega, by go_num, FIN.out _ _ (HBX.out.set4 _ _ _ _) (kept_s4 _ _ _ _ _ _) HE.out⟩
          case measure => simp [intOf]; omega
        · cases bb
          · have HE := hi (HNO (.inr ⟨rfl, rfl⟩))
            clear HYES HNO hcf hcd
            go_wp2_with (first
              | (go_at_call 42; ((with_reducible refine HS.out.mono ?_); rintro e w2 ⟨rfl, rfl⟩))
              | (go_at_call 74; ((with_reducible refine (HBF.out _).mono ?_); rintro e w2 ⟨rfl, rfl⟩)))
            go_roundw
            case rel => exact ⟨j + 1, by omega, by go_num, FIN.out _ _ HBX.out (Kept.refl _ _) HE.out⟩
            case measure => simp [intOf]; omega
          · have HE := hi (HYES hcf (.inr rfl))
            clear HYES HNO hcf hcd
            go_wp2_with (first
              | (go_at_call 42; ((with_reducible refine HS.out.mono ?_); rintro e w2 ⟨rfl, rfl⟩))
              | (go_at_call 74; ((with_reducible refine (HBF.out _).mono ?_); rintro e w2 ⟨rfl, rfl⟩)))
            go_roundw
            case rel => exact ⟨j + 1, by omega, by go_num, FIN.out _ _ (HBX.out.set4 _ _ _ _) (kept_s4 _ _ _ _ _ _) HE.out⟩
            case measure => simp [intOf]; omega
      · have hcd : decide (cfgK x k % 2 = 1) = false := decide_eq_false hcf
        rw [hcd] at HS
        have HE := hi (HNO (.inl hcf))
        clear HYES HNO hcf hcd
        go_wp2_with (go_at_call 42; ((with_reducible refine HS.out.mono ?_); rintro e w2 ⟨rfl, rfl⟩))
        all_goals try (exact absurd (show some undef = some (Value.bool _) from by assumption) (by unfold undef; simp))
        go_roundw
        case rel => exact ⟨j + 1, by omega, by go_num, FIN.out _ _ HBX.out (Kept.refl _ _) HE.out⟩
        case measure => simp [intOf]; omega
    · obtain rfl : j = L.length := by omega
      have x1 : ¬ (L.length : Int) < (L.length : Int) := by omega
      have hP := HP.out
      rw [List.take_length] at hP
      obtain ⟨q0, q1, q2, q3⟩ := hP.1.four
      have HR := hi (HW.out.2.1.keptB hP.2 (fun e => by omega))
      obtain ⟨r0, r1, r2, r3⟩ := HR.out.four
      have rf := HR.out.frozen
      have rz := HR.out.lt
      obtain ⟨cd, hcd⟩ : ∃ d, bestL x L = d := ⟨_, rfl⟩
      rw [hcd] at q0 q1 q2 q3
      have HCD := hi hcd
      obtain ⟨ci, cp, cg, cis⟩ := cd
      dsimp only at q0 q1 q2 q3
      have HK := hi hkw
      clear hcd hP hws hLd hkw
      go_wp2
      have hk4 := kept_s4 wr w.heap.size (.int .i64 ci) (.int .i64 cp) (.int .i64 cg) (.bool cis)
      refine bodyPost_ret (results_cd rfl _ _ w.heap.size _ _ _ _ rfl (HR.out.set4 _ _ _ _)) rfl ⟨by rw [HCD.out], ?_⟩
      exact ((HK.out.mono (cs := fun b => b = w.heap.size + 1 ∨ b = w.heap.size) (fun _ e => .inl e)).trans (hk4.mono (fun _ e => .inr e))).toBelow (Nat.le_refl _) (fun k e => by omega)

end Go.Proofs.YtobhdjepfhbgaaaDoor
