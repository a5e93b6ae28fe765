import Derived.Test.YtdmlpdghhogkaaaGreatMg47
namespace Go.Proofs.YtdmlpdghhogkaaaGreat
open Go.ChangeShapes Go.WideShapes Go.ChangeAt Go.RowKit
set_option linter.unusedVariables false
set_option maxHeartbeats 1000000 in
theorem same_any (xs ys : List Int) (va vb : Value) (w : World) (ha : IntsAt w va xs) (hb : IntsAt w vb ys) (hx : xs.length ≤ 9223372036854775806) (hy : ys.length ≤ 9223372036854775806) :
    Calls Tryz.prog 33 #[va, vb] w fun e w' => e = .returned (.bool (sameB xs ys)) ∧ ∃ m, w' = w.drewN m := by
  obtain ⟨a, cap, rfl, _, ha⟩ := ha
  obtain ⟨b, cap2, rfl, _, hb⟩ := hb
  by_cases hl : xs.length = ys.length
  · have HL := Lib.hid hl
    rw [← hl]
    clear hl hy
    go_enter Tryz.func33, Tryz.ntmps33
    go_wp2
    go_loopw [5] (fun i wr => ∃ k m : Nat, k ≤ xs.length ∧ i = .int .i64 k ∧ wr = w.drewN m ∧ Upto xs ys k) (fun i _ => xs.length - (intOf i).toNat)
    case atStart => exact ⟨0, 0, Nat.zero_le _, rfl, rfl, Upto.zero _ _⟩
    case round =>
      obtain ⟨k, m, hk, rfl, rfl, hu⟩ := hrel
      by_cases hlt : k < xs.length
      · have hne : xs ≠ [] := fun e => by simp [e] at hlt
        have hne2 : ys ≠ [] := fun e => by have := HL.out; simp [e] at this; simp [this] at hlt
        obtain ⟨b1, o1, rfl, h1⟩ := ha hne
        obtain ⟨b2, o2, rfl, h2⟩ := hb hne2
        have hc1 := h1 k hlt
        have hc2 := h2 k (by rw [← HL.out]; exact hlt)
        have HU := Lib.hid hu
        clear h1 h2 ha hb hne hne2 hu
        go_wp2
        go_quiet (fail)
        go_wp2
        · have hq : (xs[k] != ys[k]?.getD 0) = true := by assumption
          go_ret
          exact ⟨by rw [sameB_at (k := k) (by simpa [hlt] using hq)]; rfl, _, World.drewN_drewN _ _ _⟩
        · have hq : (xs[k] != ys[k]?.getD 0) = false := by assumption
          go_roundw
          case rel => exact ⟨k + 1, _, by omega, by go_num, rfl, HU.out.succ (by simpa [hlt] using hq)⟩
          case measure => simp [intOf]; omega
      · have e : k = xs.length := by omega
        subst e
        have hs := sameB_upto HL.out hu
        have HS := Lib.hid hs
        clear hs hu ha hb
        go_wp2
        go_ret
        exact ⟨by rw [HS.out]; rfl, _, rfl⟩
  · have hs := sameB_len hl
    rw [hs]
    clear hs ha hb
    have hb : ((xs.length : Int) != (ys.length : Int)) = true := by simp; omega
    go_enter Tryz.func33, Tryz.ntmps33
    go_wp2
    go_ret
    exact ⟨rfl, 0, rfl⟩
open Go.Shelf
attribute [local go_sem] Oper.semAt_some
theorem setSl_again (D : Ds) {k : Nat} (hk : k < D.cs.length) (a b : Bool) : (D.setSl k a).setSl k b = D.setSl k b := by
  unfold Ds.setSl
  rw [show ({ D with cs := D.cs.set k ⟨(D.nth k).es, a⟩ } : Ds).nth k = ⟨(D.nth k).es, a⟩ from by rw [Ds.nth_set hk, if_pos rfl]]
  simp
theorem wakes_w (D : Ds) {k : Nat} (hk : k < D.cs.length) (v : Nat) : writeOwnV D k ⟨3, 0, 0⟩ v = (D.setSl k (onB v 1), 0) := by
  unfold writeOwnV
  rw [if_pos (by simp [hasN]; omega)]
  simp
theorem wakes_on : onB 0 1 = false ∧ onB 2 1 = true := by decide +kernel
theorem wakes_r (D : Ds) {k : Nat} (hk : k < D.cs.length) : readOwnV (D.setSl k true) k ⟨3, 0, 0⟩ = (6, 0) := by
  unfold readOwnV
  rw [Ds.sl_len, if_pos (by simp [hasN]; omega)]
  simp only [if_true, Int.toNat_natCast]
  rw [Ds.sl_same hk]
  rfl
theorem wakes_none (D : Ds) {k : Nat} (hk : k < D.cs.length) : readyL (D.setSl k true) k = [] := by
  unfold readyL asleepV
  rw [Int.toNat_natCast, Ds.sl_same hk]
  simp
theorem pl_waker : ∃ n, PlOk ⟨3, 0, 0⟩ n := ⟨0, rfl, by decide, by decide, by decide⟩
section
variable {w W : World} {p q : Nat} {b c : Nat → Nat} {D : Ds}
theorem wk_write (h : DiW w p q b c D W) {k : Nat} (hk : k < D.cs.length) (v : Nat) (hv : v < 18446744073709551616) {kz vz : Int} (e : (k : Int) = kz) (e2 : (v : Int) = vz) :
    Calls Tryz.prog 30 #[.pointer (some ⟨b 0, 0, none⟩), .int .i64 kz, .agg #[.int .i64 3, .int .i64 0, .int .i64 0], .int .u64 vz] W fun e w' => e = .returned (.int .i64 0) ∧ DiW w p q b c (D.setSl k (onB v 1)) w' ∧ Kept (InR p q) W w' := by
  subst e
  subst e2
  refine (writeOwn_dist h.di h.ok (k := k) (p := ⟨3, 0, 0⟩) v hv pl_waker).mono ?_
  rintro e w' ⟨rfl, hA⟩
  rw [wakes_w D hk] at hA ⊢
  exact ⟨rfl, h.act hA (h.ok.setSl hk _), hA.kept⟩
theorem wk_read {k : Nat} (h : DiW w p q b c (D.setSl k true) W) (hk : k < D.cs.length) {kz : Int} (e : (k : Int) = kz) :
    Calls Tryz.prog 32 #[.pointer (some ⟨b 0, 0, none⟩), .int .i64 kz, .agg #[.int .i64 3, .int .i64 0, .int .i64 0]] W fun e w' => e = .returned (.tuple #[.int .u64 6, .int .i64 0]) ∧ Below W.heap.size W w' := by
  subst e
  refine (readOwn_dist h.di h.ok (k := k) (p := ⟨3, 0, 0⟩) pl_waker).mono ?_
  rintro e w' ⟨rfl, hB⟩
  rw [wakes_r D hk]
  exact ⟨rfl, hB⟩
end
set_option maxRecDepth 100000 in
set_option maxHeartbeats 8000000 in
theorem wakes_law (f : Int) (v : Value) (xs : List Xa) (o : Int) (w : World) (hf0 : 0 ≤ f) (hf1 : f < 256) (h : ActsAt w v xs) (hl : xs.length ≤ 9223372036854775806) (ho0 : 0 ≤ o) (ho1 : o < 256) :
    Calls Tryz.prog 9 #[.int .u8 f, v, .int .u8 o] w fun e w' => e = .returned (.bool true) ∧ Below w.heap.size w w' := by
  have HP := hi (fun W (k : Below w.heap.size w W) => played_any f 0 v xs W hf0 hf1 (by decide) (by decide) (h.below k) hl)
  clear h hl
  go_enter Tryz.func9, Tryz.ntmps9
  go_wp2_with (first
    | (go_at_call 10; ((with_reducible refine (awake_any _).mono ?_); rintro e w1 ⟨rfl, hb⟩; have HB1 := hi hb; clear hb))
    | (go_at_call 20; ((with_reducible refine (HP.out _ HB1.out).mono ?_); rintro e w2 ⟨p, q, b, c, D, rfl, hd⟩; have HD := hi hd; clear hd)))
  have hok := HD.out.ok
  have hn1' := hok.n1
  have hn8' := hok.n8
  obtain ⟨k, hk, hko⟩ := tmod_core ho0 ho1 hok.n1 hok.n8
  obtain ⟨kz, hkz⟩ : ∃ kz : Int, (k : Int) = kz := ⟨_, rfl⟩
  rw [hkz] at hko
  have HCO := cores_any HD.out.di
  have HKZ := hi hkz
  have HK := hi hk
  have HDD := hi (HD.out.later (bal w2 (.cells #[.int .i64 3, .int .i64 0, .int .i64 0] 70)))
  have HPL := hi (CB.new w2 70 #[.int .i64 3, .int .i64 0, .int .i64 0])
  have HQ := hi HD.out.di.le
  have W1 := hi (wk_write HDD.out hk 0 (by decide) (vz := 0) hkz rfl)
  rw [wakes_on.1] at W1
  have hk1 : k < (D.setSl k false).cs.length := by rw [Ds.sl_len]; exact hk
  have W2 := hi (fun W (z : DiW w1 p q b c (D.setSl k false) W) => wk_write z hk1 2 (by decide) (vz := 2) hkz rfl)
  rw [wakes_on.2, setSl_again D hk] at W2
  have R2 := hi (fun W (z : DiW w1 p q b c (D.setSl k true) W) => wk_read z hk hkz)
  have hk2 : k < (D.setSl k true).cs.length := by rw [Ds.sl_len]; exact hk
  have W3 := hi (fun W (z : DiW w1 p q b c (D.setSl k true) W) => wk_write z hk2 0 (by decide) (vz := 0) hkz rfl)
  rw [wakes_on.1, setSl_again D hk] at W3
  have RD := hi (fun (x : Bool) W (z : DiW w1 p q b c (D.setSl k x) W) => ready_dist z.di z.ok kz)
  have ID := hi (fun (x : Bool) R fv W (z : IterS encLn R fv (readyL (D.setSl k x) kz) W) => idsS_any z (by have := readyL_len (hok.setSl hk x) kz; omega))
  have e0 : idsOf (readyL (D.setSl k true) kz) = [] := by rw [← hkz, wakes_none D hk]; rfl
  obtain ⟨X1, hX1⟩ : ∃ X, idsOf (readyL (D.setSl k false) kz) = X := ⟨_, rfl⟩
  have HL := hi (show X1.length ≤ 9223372036854775806 from by rw [← hX1, idsOf_len]; have := readyL_len (hok.setSl hk false) kz; omega)
  have IF := hi (fun R fv W (z : IterS encLn R fv (readyL (D.setSl k false) kz) W) => ID.out false R fv W z)
  have IT := hi (fun R fv W (z : IterS encLn R fv (readyL (D.setSl k true) kz) W) => ID.out true R fv W z)
  rw [hX1] at IF
  rw [e0] at IT
  have SM := hi (fun a a' W (z1 : IntsAt W a X1) (z2 : IntsAt W a' X1) => same_any X1 X1 a a' W z1 z2 HL.out HL.out)
  rw [show sameB X1 X1 = true from by simp [sameB]] at SM
  obtain ⟨n9, hn9⟩ : ∃ n9, D.cs.length = n9 := ⟨_, rfl⟩
  have HCO := hi (show Calls Tryz.prog 21 #[.pointer (some ⟨b 0, 0, none⟩)] w2 fun e w' => e = .returned (.int .i64 n9) ∧ w2 = w' from by rw [← hn9]; exact HCO)
  rw [hn9] at hko hk hn1' hn8'
  have hn0' : (n9 : Int) ≠ 0 := by omega
  have hwk : IntKind.i64.wrap kz = kz := by rw [IntKind.wrap_i64]; omega
  clear hX1 e0 ID hok hn9 hk1 hk2 HP
  rcases (show n9 = 1 ∨ 1 < n9 by omega) with rfl | h19
  · obtain rfl : kz = 0 := by omega
    clear hkz
    have HCO := HCO.out
    (with_reducible refine HCO.mono ?_); rintro e w2' ⟨rfl, rfl⟩; have HCO := hi trivial
    have pl0 := HPL.out.cell 0
    have pl1 := HPL.out.cell 1
    have pl2 := HPL.out.cell 2
    go_wp2_with (first
      | (go_at_call 30; ((with_reducible refine W1.out.mono ?_); rintro e w3 ⟨rfl, hd, hk3⟩; have D3 := hi hd; have P3 := hi (HPL.out.keptB hk3 (fun z => by have := z.2; have := HQ.out; omega)); clear hd hk3))
      | (go_at_call 22; ((with_reducible refine (RD.out false _ D3.out).mono ?_); rintro e w4 ⟨R4, gf4, lb4, rfl, _, hit, hb⟩; have I4 := hi hit; have D4 := hi (D3.out.later hb); have P4 := hi (P3.out.below hb); clear hit hb))
      | (go_at_call 31; ((with_reducible refine (IF.out _ _ _ I4.out).mono ?_); rintro e w5 ⟨v5, rfl, ho, hb⟩; have O5 := hi ho; have D5 := hi (D4.out.later hb); have P5 := hi (P4.out.below hb); have Q5 := hi (Nat.le_trans D4.out.di.le (Nat.le_refl _)); have pl0 := P5.out.cell 0; have pl1 := P5.out.cell 1; have pl2 := P5.out.cell 2; obtain ⟨a5, c5, rfl⟩ := ho.slice; clear ho hb))
      | (go_at_call 30; ((with_reducible refine (W2.out _ D5.out).mono ?_); rintro e w6 ⟨rfl, hd, hk6⟩; have D6 := hi hd; have P6 := hi (P5.out.keptB hk6 (fun z => by have := z.2; have := HQ.out; omega)); have O6 := hi (O5.out.kept hk6 (fun i z => by have := z.2; have := Q5.out; omega)); have pl0 := P6.out.cell 0; have pl1 := P6.out.cell 1; have pl2 := P6.out.cell 2; clear hd hk6))
      | (go_at_call 32; ((with_reducible refine (R2.out _ D6.out).mono ?_); rintro e w7 ⟨rfl, hb⟩; have D7 := hi (D6.out.later hb); have P7 := hi (P6.out.below hb); have O7 := hi (O6.out.below hb); clear hb))
      | (go_at_call 22; ((with_reducible refine (RD.out true _ D7.out).mono ?_); rintro e w8 ⟨R8, gf8, lb8, rfl, _, hit, hb⟩; have I8 := hi hit; have D8 := hi (D7.out.later hb); have P8 := hi (P7.out.below hb); have O8 := hi (O7.out.below hb); clear hit hb))
      | (go_at_call 31; ((with_reducible refine (IT.out _ _ _ I8.out).mono ?_); rintro e w9 ⟨v9, rfl, ho, hb⟩; have D9 := hi (D8.out.later hb); have P9 := hi (P8.out.below hb); have O9 := hi (O8.out.below hb); have pl0 := P9.out.cell 0; have pl1 := P9.out.cell 1; have pl2 := P9.out.cell 2; obtain ⟨a9, c9, rfl⟩ := ho.slice; clear ho hb))
      | (go_at_call 30; ((with_reducible refine (W3.out _ D9.out).mono ?_); rintro e w10 ⟨rfl, hd, hk10⟩; have D10 := hi hd; have O10 := hi (O9.out.kept hk10 (fun i z => by have := z.2; have := Q5.out; omega)); clear hd hk10))
      | (go_at_call 22; ((with_reducible refine (RD.out false _ D10.out).mono ?_); rintro e w11 ⟨R11, gf11, lb11, rfl, _, hit, hb⟩; have I11 := hi hit; have D11 := hi (D10.out.later hb); have O11 := hi (O10.out.below hb); clear hit hb))
      | (go_at_call 31; ((with_reducible refine (IF.out _ _ _ I11.out).mono ?_); rintro e w12 ⟨v12, rfl, ho, hb⟩; have O12 := hi ho; have D12 := hi (D11.out.later hb); have O5b := hi (O11.out.below hb); obtain ⟨a12, c12, rfl⟩ := ho.slice; clear ho hb))
      | (go_at_call 33; ((with_reducible refine (SM.out _ _ _ O12.out.at_ O5b.out.at_).mono ?_); rintro e w13 ⟨rfl, m13, rfl⟩; have D13 := hi (Below.drewN (m := m13) D12.out.below))))
    go_ret
    exact ⟨rfl, HB1.out.trans (D13.out.mono HB1.out.size)⟩
  · have hd19 : decide ((1 : Int) < n9) = true := by simp; omega
    have hi19 : (1 : Int) < n9 := by omega
    clear hkz
    have HCO := HCO.out
    (with_reducible refine HCO.mono ?_); rintro e w2' ⟨rfl, rfl⟩; have HCO := hi trivial
    have pl0 := HPL.out.cell 0
    have pl1 := HPL.out.cell 1
    have pl2 := HPL.out.cell 2
    go_wp2_with (first
      | (go_at_call 30; ((with_reducible refine W1.out.mono ?_); rintro e w3 ⟨rfl, hd, hk3⟩; have D3 := hi hd; have P3 := hi (HPL.out.keptB hk3 (fun z => by have := z.2; have := HQ.out; omega)); clear hd hk3))
      | (go_at_call 22; ((with_reducible refine (RD.out false _ D3.out).mono ?_); rintro e w4 ⟨R4, gf4, lb4, rfl, _, hit, hb⟩; have I4 := hi hit; have D4 := hi (D3.out.later hb); have P4 := hi (P3.out.below hb); clear hit hb))
      | (go_at_call 31; ((with_reducible refine (IF.out _ _ _ I4.out).mono ?_); rintro e w5 ⟨v5, rfl, ho, hb⟩; have O5 := hi ho; have D5 := hi (D4.out.later hb); have P5 := hi (P4.out.below hb); have Q5 := hi (Nat.le_trans D4.out.di.le (Nat.le_refl _)); have pl0 := P5.out.cell 0; have pl1 := P5.out.cell 1; have pl2 := P5.out.cell 2; obtain ⟨a5, c5, rfl⟩ := ho.slice; clear ho hb))
      | (go_at_call 30; ((with_reducible refine (W2.out _ D5.out).mono ?_); rintro e w6 ⟨rfl, hd, hk6⟩; have D6 := hi hd; have P6 := hi (P5.out.keptB hk6 (fun z => by have := z.2; have := HQ.out; omega)); have O6 := hi (O5.out.kept hk6 (fun i z => by have := z.2; have := Q5.out; omega)); have pl0 := P6.out.cell 0; have pl1 := P6.out.cell 1; have pl2 := P6.out.cell 2; clear hd hk6))
      | (go_at_call 32; ((with_reducible refine (R2.out _ D6.out).mono ?_); rintro e w7 ⟨rfl, hb⟩; have D7 := hi (D6.out.later hb); have P7 := hi (P6.out.below hb); have O7 := hi (O6.out.below hb); clear hb))
      | (go_at_call 22; ((with_reducible refine (RD.out true _ D7.out).mono ?_); rintro e w8 ⟨R8, gf8, lb8, rfl, _, hit, hb⟩; have I8 := hi hit; have D8 := hi (D7.out.later hb); have P8 := hi (P7.out.below hb); have O8 := hi (O7.out.below hb); clear hit hb))
      | (go_at_call 31; ((with_reducible refine (IT.out _ _ _ I8.out).mono ?_); rintro e w9 ⟨v9, rfl, ho, hb⟩; have D9 := hi (D8.out.later hb); have P9 := hi (P8.out.below hb); have O9 := hi (O8.out.below hb); have pl0 := P9.out.cell 0; have pl1 := P9.out.cell 1; have pl2 := P9.out.cell 2; obtain ⟨a9, c9, rfl⟩ := ho.slice; clear ho hb))
      | (go_at_call 30; ((with_reducible refine (W3.out _ D9.out).mono ?_); rintro e w10 ⟨rfl, hd, hk10⟩; have D10 := hi hd; have O10 := hi (O9.out.kept hk10 (fun i z => by have := z.2; have := Q5.out; omega)); clear hd hk10))
      | (go_at_call 22; ((with_reducible refine (RD.out false _ D10.out).mono ?_); rintro e w11 ⟨R11, gf11, lb11, rfl, _, hit, hb⟩; have I11 := hi hit; have D11 := hi (D10.out.later hb); have O11 := hi (O10.out.below hb); clear hit hb))
      | (go_at_call 31; ((with_reducible refine (IF.out _ _ _ I11.out).mono ?_); rintro e w12 ⟨v12, rfl, ho, hb⟩; have O12 := hi ho; have D12 := hi (D11.out.later hb); have O5b := hi (O11.out.below hb); obtain ⟨a12, c12, rfl⟩ := ho.slice; clear ho hb))
      | (go_at_call 33; ((with_reducible refine (SM.out _ _ _ O12.out.at_ O5b.out.at_).mono ?_); rintro e w13 ⟨rfl, m13, rfl⟩; have D13 := hi (Below.drewN (m := m13) D12.out.below))))
    go_ret
    exact ⟨rfl, HB1.out.trans (D13.out.mono HB1.out.size)⟩
end Go.Proofs.YtdmlpdghhogkaaaGreat
