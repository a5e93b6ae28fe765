/-
  Package tables: what an entry becomes, Right, Events, at every call.
-/
import Derived.Test.YtjcjblmaceooaaaTbC
namespace Go.Proofs.Ytjcjblmaceooaaa
open Go.ChangeShapes Go.WideShapes Go.ChangeAt Go.RowKit
set_option linter.unusedVariables false
set_option linter.unusedSimpArgs false

theorem or_two (B C : Nat) (hB : B < 9223372036854775808) : bits .or .u64 9223372036854775808 (B : Int) = ((9223372036854775808 + B : Nat) : Int) := by
  rw [show (9223372036854775808 : Int) = ((9223372036854775808 : Nat) : Int) from rfl, u64_or_nat _ B (by omega) (by omega), nat_join 63 _ _ (by decide) (by omega)]
theorem or_three (B C i : Nat) (hB : B < 2 ^ i) (hC : C % 2 ^ i = 0) (hs : C + B < 9223372036854775808) : bits .or .u64 ((9223372036854775808 + B : Nat) : Int) (C : Int) = ((9223372036854775808 + B + C : Nat) : Int) := by
  rw [u64_or_nat (9223372036854775808 + B) C (by omega) (by omega)]
  congr 1
  have e1 := nat_join 63 9223372036854775808 B (by decide) (by omega)
  rw [show (9223372036854775808 + B) ||| C = 9223372036854775808 ||| (C ||| B) by rw [← e1, Nat.or_assoc, Nat.or_comm B C], nat_join i C B hC hB, nat_join 63 9223372036854775808 (C + B) (by decide) (by omega)]
  omega

/-- A device's box. -/
structure DvB (w : World) (b : Nat) (d : Dv) (W : World) : Prop where
  q : CB W b 36 (Dv.cs d)
  below : Below w.heap.size w W
theorem DvB.later {w : World} {b : Nat} {d : Dv} {W W' : World} (h : DvB w b d W) (k : Below W.heap.size W W') : DvB w b d W' := ⟨h.q.below k, h.below.more k⟩
theorem DvB.held {w : World} {b : Nat} {d : Dv} {W : World} (h : DvB w b d W) : (W.cell? ⟨b, 0, none⟩ = some (.bool d.ok) ∧ W.cell? ⟨b, 1, none⟩ = some (.int .i64 d.bits) ∧ W.cell? ⟨b, 2, none⟩ = some (.int .i64 d.at_)) ∧ DvB w b d W := ⟨CB.three h.q, h⟩
structure RtB (w : World) (b : Nat) (d : Rt) (W : World) : Prop where
  q : CB W b 52 (Rt.cs d)
  below : Below w.heap.size w W
theorem RtB.later {w : World} {b : Nat} {d : Rt} {W W' : World} (h : RtB w b d W) (k : Below W.heap.size W W') : RtB w b d W' := ⟨h.q.below k, h.below.more k⟩
theorem RtB.held {w : World} {b : Nat} {d : Rt} {W : World} (h : RtB w b d W) : (W.cell? ⟨b, 0, none⟩ = some (.int .i64 d.num) ∧ W.cell? ⟨b, 1, none⟩ = some (.int .i64 d.coll) ∧ W.cell? ⟨b, 2, none⟩ = some (.bool d.ok)) ∧ RtB w b d W := ⟨CB.three h.q, h⟩

theorem tdiv_i64 {p : Int} (h : i64B p) (n : Int) (hn : 0 < n) : IntKind.i64.wrap (p.tdiv n) = p.tdiv n ∧ i64B (p.tdiv n) := by
  obtain ⟨h1, h2⟩ := h
  have hb : i64B (p.tdiv n) := by
    rcases Int.le_total 0 p with h | h
    · have e1 := Int.tdiv_nonneg h (Int.le_of_lt hn)
      have e2 : p.tdiv n ≤ p := by rw [Int.tdiv_eq_ediv_of_nonneg h]; exact Int.ediv_le_self _ h
      exact ⟨by omega, by omega⟩
    · obtain ⟨q, rfl⟩ : ∃ q, p = -q := ⟨-p, by omega⟩
      rw [Int.neg_tdiv]
      have e1 := Int.tdiv_nonneg (a := q) (b := n) (by omega) (Int.le_of_lt hn)
      have e2 : q.tdiv n ≤ q := by rw [Int.tdiv_eq_ediv_of_nonneg (by omega)]; exact Int.ediv_le_self _ (by omega)
      exact ⟨by omega, by omega⟩
  refine ⟨?_, hb⟩
  obtain ⟨x, hx⟩ : ∃ x, p.tdiv n = x := ⟨_, rfl⟩
  rw [hx] at hb ⊢
  obtain ⟨b1, b2⟩ := hb
  rw [IntKind.wrap_i64]; omega
theorem tmod256 (a : Int) : a.tmod 256 = 0 ↔ a % 256 = 0 := by
  rcases Int.le_total 0 a with h | h
  · rw [Int.tmod_eq_emod_of_nonneg h]
  · obtain ⟨q, rfl⟩ : ∃ q, a = -q := ⟨-a, by omega⟩
    rw [Int.neg_tmod, Int.tmod_eq_emod_of_nonneg (by omega)]
    omega
theorem word_parts (d : Dv) : d.fits = (fitB 1 d.bits && decide (d.at_.tmod 256 = 0) && fitB 2 (d.at_.tdiv 256)) := by
  obtain ⟨o, b, a⟩ := d
  simp only [Dv.fits, fitB]
  rw [Bool.eq_iff_iff]
  simp only [Bool.and_eq_true, decide_eq_true_eq, tmod256]
  have e1 : ((fM 1 : Nat) : Int) = 31 := by decide
  have e2 : ((fM 2 : Nat) : Int) = 1099511627775 := by decide
  rw [e1, e2]
  constructor
  · rintro ⟨h1, h2, h3, h4, h5⟩
    rw [Int.tdiv_eq_ediv_of_nonneg h4]
    omega
  · rintro ⟨⟨h1, h2⟩, h3⟩
    rcases Int.le_total 0 a with h | h
    · rw [Int.tdiv_eq_ediv_of_nonneg h] at h3
      omega
    · obtain ⟨q, rfl⟩ : ∃ q, a = -q := ⟨-a, by omega⟩
      rw [Int.neg_tdiv, Int.tdiv_eq_ediv_of_nonneg (by omega)] at h3
      omega
theorem rword_parts (r : Rt) : r.fits = (fitB 3 r.num && fitB 4 r.coll) := by
  obtain ⟨n, c, o⟩ := r
  simp only [Rt.fits, fitB]
  rw [Bool.eq_iff_iff]
  simp only [Bool.and_eq_true, decide_eq_true_eq]
  have e1 : ((fM 3 : Nat) : Int) = 4294967295 := by decide
  have e2 : ((fM 4 : Nat) : Int) = 65535 := by decide
  rw [e1, e2]
  omega

set_option maxRecDepth 100000 in
set_option maxHeartbeats 4000000 in
theorem word_any (d : Dv) (hF : d.Fair) (w : World) : Calls Try.prog 33 #[d.v] w fun e w' => e = .returned (.tuple #[.int .u64 d.word, .int .i64 d.err]) ∧ Below w.heap.size w w' := by
  have H0 := hi (show DvB w w.heap.size d (w.alloc (.cells (Dv.cs d) 36)) from ⟨CB.new w _ _, bal w _⟩)
  have hfp := word_parts d
  have HF1 := hi (show ∀ W, Calls Try.prog 36 #[.int .i64 1, .int .i64 d.bits] W fun e w' => e = .returned (.bool (fitB 1 d.bits)) ∧ Below W.heap.size W w' from fun W => fits_any 1 (by decide) d.bits W)
  have HF2 := hi (show ∀ W, Calls Try.prog 36 #[.int .i64 2, .int .i64 (d.at_.tdiv 256)] W fun e w' => e = .returned (.bool (fitB 2 (d.at_.tdiv 256))) ∧ Below W.heap.size W w' from fun W => fits_any 2 (by decide) (d.at_.tdiv 256) W)
  have hw := (tdiv_i64 hF.a 256 (by decide)).1
  obtain ⟨o, b, a⟩ := d
  dsimp only at hfp HF1 HF2 hw ⊢
  cases o
  · have e1 : Dv.word ⟨false, b, a⟩ = 0 := by simp [Dv.word]
    have e2 : Dv.err ⟨false, b, a⟩ = 0 := by simp [Dv.err]
    rw [e1, e2]
    clear e1 e2 hfp hw
    go_enter Try.func33, Try.ntmps33
    go_wp2
    go_ret2
    exact ⟨rfl, H0.out.below⟩
  · obtain ⟨q, hq⟩ : ∃ q, a.tdiv 256 = q := ⟨_, rfl⟩
    cases h1 : fitB 1 b
    · have e0 : Dv.fits ⟨true, b, a⟩ = false := by rw [hfp, h1]; rfl
      have e1 : Dv.word ⟨true, b, a⟩ = 0 := by simp [Dv.word, e0]
      have e2 : Dv.err ⟨true, b, a⟩ = 1 := by simp [Dv.err, e0]
      rw [e1, e2]
      rw [h1] at HF1
      clear e0 e1 e2 h1 hfp hw hq
      go_enter Try.func33, Try.ntmps33
      go_wp2_with (go_at_call 36; ((with_reducible refine (HF1.out _).mono ?_); rintro e w1 ⟨rfl, hb1⟩; have H1 := hi (H0.out.later hb1); clear hb1))
      go_ret2
      exact ⟨rfl, H1.out.below⟩
    · rw [h1] at HF1
      by_cases h2 : a.tmod 256 = 0
      · have g2 : (a.tmod 256 != 0) = false := by simpa using h2
        cases h3 : fitB 2 (a.tdiv 256)
        · have e0 : Dv.fits ⟨true, b, a⟩ = false := by rw [hfp, h1, h3]; simp
          have e1 : Dv.word ⟨true, b, a⟩ = 0 := by simp [Dv.word, e0]
          have e2 : Dv.err ⟨true, b, a⟩ = 1 := by simp [Dv.err, e0]
          rw [e1, e2]
          rw [h3] at HF2
          clear e0 e1 e2 h1 h2 h3 hfp hq
          go_enter Try.func33, Try.ntmps33
          go_wp2_with (first
            | (go_at_call 36; ((with_reducible refine (HF1.out _).mono ?_); rintro e w1 ⟨rfl, hb1⟩; have H1 := hi (H0.out.later hb1); clear hb1; obtain ⟨a0, a1, a2⟩ := CB.three H1.out.q))
            | (go_at_call 36; ((with_reducible refine (HF2.out _).mono ?_); rintro e w2 ⟨rfl, hb2⟩; have H2 := hi (H1.out.later hb2); clear hb2)))
          go_ret2
          exact ⟨rfl, H2.out.below⟩
        · have e0 : Dv.fits ⟨true, b, a⟩ = true := by rw [hfp, h1, h3, h2]; rfl
          have hfit := e0
          simp only [Dv.fits, decide_eq_true_eq] at hfit
          obtain ⟨B, rfl⟩ : ∃ B : Nat, b = B := ⟨b.toNat, by omega⟩
          obtain ⟨Q, hQ⟩ : ∃ Q : Nat, a.tdiv 256 = Q := ⟨(a / 256).toNat, by rw [Int.tdiv_eq_ediv_of_nonneg hfit.2.2.2.1]; omega⟩
          have haQ : a = 256 * Q := by rw [Int.tdiv_eq_ediv_of_nonneg hfit.2.2.2.1] at hQ; omega
          have e1 : Dv.word ⟨true, (B : Int), a⟩ = 9223372036854775808 + B + 256 * Q := by
            rw [Dv.word, if_pos ⟨rfl, e0⟩, haQ]; simp; omega
          have e2 : Dv.err ⟨true, (B : Int), a⟩ = 0 := by simp [Dv.err, e0]
          rw [e1, e2]
          rw [h3, hQ] at HF2
          rw [hQ] at hw
          have hBl : B ≤ 31 := by omega
          have hQl : Q ≤ 1099511627775 := by omega
          have hb0 := of_any 1 B (by decide) (by simp [fF]; omega) (by omega)
          have hb1 := of_any 2 Q (by decide) (by simp [fF]; omega) (by omega)
          have HO1 := hi (show ∀ W, Calls Try.prog 29 #[.int .i64 1, .int .i64 B] W fun e w' => e = .returned (.int .u64 B) ∧ Below W.heap.size W w' from fun W => by have := hb0 W; rwa [show ofN 1 B = B by simp [ofN, fF]] at this)
          have HO2 := hi (show ∀ W, Calls Try.prog 29 #[.int .i64 2, .int .i64 Q] W fun e w' => e = .returned (.int .u64 (256 * Q : Nat)) ∧ Below W.heap.size W w' from fun W => by have := hb1 W; rwa [show ofN 2 Q = 256 * Q by simp [ofN, fF]; omega] at this)
          have or1 := or_two B 0 (by omega)
          have or2 := or_three B (256 * Q) 8 (by omega) (by omega) (by omega)
          obtain ⟨u, hu⟩ : ∃ u, 9223372036854775808 + B = u := ⟨_, rfl⟩
          obtain ⟨v, hv⟩ : ∃ v, 256 * Q = v := ⟨_, rfl⟩
          rw [hv] at HO2 or2 ⊢
          rw [hu] at or1 or2 ⊢
          obtain ⟨r, hr⟩ : ∃ r, u + v = r := ⟨_, rfl⟩
          rw [hr] at or2 ⊢
          have htd : a.tdiv 256 = Q := hQ
          clear e0 e1 e2 h1 h2 h3 hfp hq hfit hQ haQ hb0 hb1 hu hv hr hBl hQl
          go_enter Try.func33, Try.ntmps33
          go_wp2_with (first
            | (go_at_call 36; ((with_reducible refine (HF1.out _).mono ?_); rintro e w1 ⟨rfl, hb1⟩; have H1 := hi (H0.out.later hb1); clear hb1; obtain ⟨a0, a1, a2⟩ := CB.three H1.out.q))
            | (go_at_call 36; ((with_reducible refine (HF2.out _).mono ?_); rintro e w2 ⟨rfl, hb2⟩; have H2 := hi (H1.out.later hb2); clear hb2 a0 a1 a2)))
          refine wp_region_noPanic ?_
          refine wp_region_last_drew (S := (fun V => (V.cell? ⟨w.heap.size, 0, none⟩ = some (.bool true) ∧ V.cell? ⟨w.heap.size, 1, none⟩ = some (.int .i64 (B : Int)) ∧ V.cell? ⟨w.heap.size, 2, none⟩ = some (.int .i64 a)) ∧ DvB w w.heap.size ⟨true, (B : Int), a⟩ V)) [] (by kernel_rfl) ((H2.out.later (below_dr _)).held) (fun hHeld => ?_)
          (try simp only [Array.replicate_succ, Array.replicate_zero, List.push_toArray, List.nil_append, List.cons_append])
          refine wpAnyF_take (i := 0) (v := ?_) (by kernel_rfl) (by kernel_rfl) rfl (by kernel_rfl) (by kernel_rfl) (by kernel_rfl) (fun _ _ _ h => h) (Or.inl ⟨by rfl, ?_⟩) (by assumption) ?_
          rotate_left
          · intro w' hSw; (try dsimp only at hSw); clear hSw; go_simp; (try with_reducible rfl)
          (try simp only [Act.put, List.getElem_toArray, List.getElem_cons_zero, List.getElem_cons_succ, List.setIfInBounds_toArray, List.set_cons_zero, List.set_cons_succ])
          refine wpAnyF_take (i := 1) (v := ?_) (by kernel_rfl) (by kernel_rfl) rfl (by kernel_rfl) (by kernel_rfl) (by kernel_rfl) (fun _ _ _ h => h) (Or.inl ⟨by rfl, ?_⟩) (by assumption) ?_
          rotate_left
          · intro w' hSw; (try dsimp only at hSw); have hq := hSw.1; clear hSw; obtain ⟨a0, a1, a2⟩ := hq; go_simp; (try with_reducible rfl)
          (try simp only [Act.put, List.getElem_toArray, List.getElem_cons_zero, List.getElem_cons_succ, List.setIfInBounds_toArray, List.set_cons_zero, List.set_cons_succ])
          refine wpAnyF_take (i := 4) (v := ?_) (by kernel_rfl) (by kernel_rfl) rfl (by kernel_rfl) (by kernel_rfl) (by kernel_rfl) (fun _ _ _ h => h) (Or.inl ⟨by rfl, ?_⟩) (by assumption) ?_
          rotate_left
          · intro w' hSw; (try dsimp only at hSw); clear hSw; go_simp; (try with_reducible rfl)
          (try simp only [Act.put, List.getElem_toArray, List.getElem_cons_zero, List.getElem_cons_succ, List.setIfInBounds_toArray, List.set_cons_zero, List.set_cons_succ])
          refine wpAnyF_take (i := 5) (v := ?_) (by kernel_rfl) (by kernel_rfl) rfl (by kernel_rfl) (by kernel_rfl) (by kernel_rfl) (fun _ _ _ h => h) (Or.inl ⟨by rfl, ?_⟩) (by assumption) ?_
          rotate_left
          · intro w' hSw; (try dsimp only at hSw); have hq := hSw.1; clear hSw; obtain ⟨a0, a1, a2⟩ := hq; go_simp; (try with_reducible rfl)
          (try simp only [Act.put, List.getElem_toArray, List.getElem_cons_zero, List.getElem_cons_succ, List.setIfInBounds_toArray, List.set_cons_zero, List.set_cons_succ])
          refine wpAnyF_take (i := 6) (v := ?_) (by kernel_rfl) (by kernel_rfl) rfl (by kernel_rfl) (by kernel_rfl) (by kernel_rfl) (fun _ _ _ h => h) (Or.inl ⟨by rfl, ?_⟩) (by assumption) ?_
          rotate_left
          · intro w' hSw; (try dsimp only at hSw); clear hSw; go_simp; (try with_reducible rfl)
          (try simp only [Act.put, List.getElem_toArray, List.getElem_cons_zero, List.getElem_cons_succ, List.setIfInBounds_toArray, List.set_cons_zero, List.set_cons_succ])
          refine wpAnyF_ready (rs := [2]) (by kernel_rfl) (by simp) ?_
          refine AllReadyF.cons rfl (fun KK hKK => ?_) AllReadyF.nil
          go_simp
          ((with_reducible refine (HO1.out _).mono ?_); rintro e' w3 ⟨rfl, hbb⟩; have hHw3 := (hHeld.2.later hbb).held; clear hbb)
          (try go_simp)
          refine hKK.out _ _ hHw3 (fun hHeld => ?_)
          clear hKK KK
          (try simp only [Act.put, List.getElem_toArray, List.getElem_cons_zero, List.getElem_cons_succ, List.setIfInBounds_toArray, List.set_cons_zero, List.set_cons_succ])
          refine wpAnyF_take (i := 3) (v := ?_) (by kernel_rfl) (by kernel_rfl) rfl (by kernel_rfl) (by kernel_rfl) (by kernel_rfl) (fun _ _ _ h => h) (Or.inl ⟨by rfl, ?_⟩) (by assumption) ?_
          rotate_left
          · intro w' hSw; (try dsimp only at hSw); clear hSw; go_simp; (try with_reducible rfl)
          (try simp only [Act.put, List.getElem_toArray, List.getElem_cons_zero, List.getElem_cons_succ, List.setIfInBounds_toArray, List.set_cons_zero, List.set_cons_succ])
          refine wpAnyF_ready (rs := [7]) (by kernel_rfl) (by simp) ?_
          refine AllReadyF.cons rfl (fun KK hKK => ?_) AllReadyF.nil
          go_simp
          ((with_reducible refine (HO2.out _).mono ?_); rintro e' w4 ⟨rfl, hbb⟩; have hHw4 := (hHeld.2.later hbb).held; clear hbb)
          (try go_simp)
          refine hKK.out _ _ hHw4 (fun hHeld => ?_)
          clear hKK KK
          (try simp only [Act.put, List.getElem_toArray, List.getElem_cons_zero, List.getElem_cons_succ, List.setIfInBounds_toArray, List.set_cons_zero, List.set_cons_succ])
          refine wpAnyF_take (i := 8) (v := ?_) (by kernel_rfl) (by kernel_rfl) rfl (by kernel_rfl) (by kernel_rfl) (by kernel_rfl) (fun _ _ _ h => h) (Or.inl ⟨by rfl, ?_⟩) (by assumption) ?_
          rotate_left
          · intro w' hSw; (try dsimp only at hSw); clear hSw; go_simp; (try with_reducible rfl)
          (try simp only [Act.put, List.getElem_toArray, List.getElem_cons_zero, List.getElem_cons_succ, List.setIfInBounds_toArray, List.set_cons_zero, List.set_cons_succ])
          refine wpAnyF_take (i := 9) (v := ?_) (by kernel_rfl) (by kernel_rfl) rfl (by kernel_rfl) (by kernel_rfl) (by kernel_rfl) (fun _ _ _ h => h) (Or.inl ⟨by rfl, ?_⟩) (by assumption) ?_
          rotate_left
          · intro w' hSw; (try dsimp only at hSw); clear hSw; go_simp; (try with_reducible rfl)
          (try simp only [Act.put, List.getElem_toArray, List.getElem_cons_zero, List.getElem_cons_succ, List.setIfInBounds_toArray, List.set_cons_zero, List.set_cons_succ])
          refine wpAnyF_take (i := 10) (v := ?_) (by kernel_rfl) (by kernel_rfl) rfl (by kernel_rfl) (by kernel_rfl) (by kernel_rfl) (fun _ _ _ h => h) (Or.inl ⟨by rfl, ?_⟩) (by assumption) ?_
          rotate_left
          · intro w' hSw; (try dsimp only at hSw); clear hSw; go_simp; (try with_reducible rfl)
          (try simp only [Act.put, List.getElem_toArray, List.getElem_cons_zero, List.getElem_cons_succ, List.setIfInBounds_toArray, List.set_cons_zero, List.set_cons_succ])
          refine wpAnyF_done (by kernel_rfl) ?_ _
          refine NoPanic.normal ?_
          go_wp2
          go_ret2
          exact ⟨rfl, hHeld.2.below⟩
      · have e0 : Dv.fits ⟨true, b, a⟩ = false := by rw [hfp]; simp [h2]
        have e1 : Dv.word ⟨true, b, a⟩ = 0 := by simp [Dv.word, e0]
        have e2 : Dv.err ⟨true, b, a⟩ = 1 := by simp [Dv.err, e0]
        have g2 : (a.tmod 256 != 0) = true := by simpa using h2
        rw [e1, e2]
        clear e0 e1 e2 h1 h2 hfp hq hw
        go_enter Try.func33, Try.ntmps33
        go_wp2_with (go_at_call 36; ((with_reducible refine (HF1.out _).mono ?_); rintro e w1 ⟨rfl, hb1⟩; have H1 := hi (H0.out.later hb1); clear hb1; obtain ⟨a0, a1, a2⟩ := CB.three H1.out.q))
        go_ret2
        exact ⟨rfl, H1.out.below⟩

set_option maxRecDepth 100000 in
set_option maxHeartbeats 4000000 in
theorem rword_any (r : Rt) (w : World) : Calls Try.prog 39 #[r.v] w fun e w' => e = .returned (.tuple #[.int .u64 r.word, .int .i64 r.err]) ∧ Below w.heap.size w w' := by
  have H0 := hi (show RtB w w.heap.size r (w.alloc (.cells (Rt.cs r) 52)) from ⟨CB.new w _ _, bal w _⟩)
  have hfp := rword_parts r
  have HF1 := hi (show ∀ W, Calls Try.prog 36 #[.int .i64 3, .int .i64 r.num] W fun e w' => e = .returned (.bool (fitB 3 r.num)) ∧ Below W.heap.size W w' from fun W => fits_any 3 (by decide) r.num W)
  have HF2 := hi (show ∀ W, Calls Try.prog 36 #[.int .i64 4, .int .i64 r.coll] W fun e w' => e = .returned (.bool (fitB 4 r.coll)) ∧ Below W.heap.size W w' from fun W => fits_any 4 (by decide) r.coll W)
  obtain ⟨b, a, o⟩ := r
  dsimp only at hfp HF1 HF2 ⊢
  cases o
  · have e1 : Rt.word ⟨b, a, false⟩ = 0 := by simp [Rt.word]
    have e2 : Rt.err ⟨b, a, false⟩ = 0 := by simp [Rt.err]
    rw [e1, e2]
    clear e1 e2 hfp
    go_enter Try.func39, Try.ntmps39
    go_wp2
    go_ret2
    exact ⟨rfl, H0.out.below⟩
  · cases h1 : fitB 3 b
    · have e0 : Rt.fits ⟨b, a, true⟩ = false := by rw [hfp, h1]; rfl
      have e1 : Rt.word ⟨b, a, true⟩ = 0 := by simp [Rt.word, e0]
      have e2 : Rt.err ⟨b, a, true⟩ = 1 := by simp [Rt.err, e0]
      rw [e1, e2]
      rw [h1] at HF1
      clear e0 e1 e2 h1 hfp
      go_enter Try.func39, Try.ntmps39
      go_wp2_with (go_at_call 36; ((with_reducible refine (HF1.out _).mono ?_); rintro e w1 ⟨rfl, hb1⟩; have H1 := hi (H0.out.later hb1); clear hb1))
      go_ret2
      exact ⟨rfl, H1.out.below⟩
    · rw [h1] at HF1
      cases h3 : fitB 4 a
      · have e0 : Rt.fits ⟨b, a, true⟩ = false := by rw [hfp, h1, h3]; rfl
        have e1 : Rt.word ⟨b, a, true⟩ = 0 := by simp [Rt.word, e0]
        have e2 : Rt.err ⟨b, a, true⟩ = 1 := by simp [Rt.err, e0]
        rw [e1, e2]
        rw [h3] at HF2
        clear e0 e1 e2 h1 h3 hfp
        go_enter Try.func39, Try.ntmps39
        go_wp2_with (first
          | (go_at_call 36; ((with_reducible refine (HF1.out _).mono ?_); rintro e w1 ⟨rfl, hb1⟩; have H1 := hi (H0.out.later hb1); clear hb1; obtain ⟨a0, a1, a2⟩ := CB.three H1.out.q))
          | (go_at_call 36; ((with_reducible refine (HF2.out _).mono ?_); rintro e w2 ⟨rfl, hb2⟩; have H2 := hi (H1.out.later hb2); clear hb2)))
        go_ret2
        exact ⟨rfl, H2.out.below⟩
      · have e0 : Rt.fits ⟨b, a, true⟩ = true := by rw [hfp, h1, h3]; rfl
        have hfit := e0
        simp only [Rt.fits, decide_eq_true_eq] at hfit
        obtain ⟨B, rfl⟩ : ∃ B : Nat, b = B := ⟨b.toNat, by omega⟩
        obtain ⟨Q, rfl⟩ : ∃ Q : Nat, a = Q := ⟨a.toNat, by omega⟩
        have e1 : Rt.word ⟨(B : Int), Q, true⟩ = 9223372036854775808 + B + 4294967296 * Q := by rw [Rt.word, if_pos ⟨rfl, e0⟩]; simp
        have e2 : Rt.err ⟨(B : Int), Q, true⟩ = 0 := by simp [Rt.err, e0]
        rw [e1, e2]
        rw [h3] at HF2
        have hBl : B ≤ 4294967295 := by omega
        have hQl : Q ≤ 65535 := by omega
        have hb0 := of_any 3 B (by decide) (by simp [fF]; omega) (by omega)
        have hb1 := of_any 4 Q (by decide) (by simp [fF]; omega) (by omega)
        have HO1 := hi (show ∀ W, Calls Try.prog 29 #[.int .i64 3, .int .i64 B] W fun e w' => e = .returned (.int .u64 B) ∧ Below W.heap.size W w' from fun W => by have := hb0 W; rwa [show ofN 3 B = B by simp [ofN, fF]] at this)
        have HO2 := hi (show ∀ W, Calls Try.prog 29 #[.int .i64 4, .int .i64 Q] W fun e w' => e = .returned (.int .u64 (4294967296 * Q : Nat)) ∧ Below W.heap.size W w' from fun W => by have := hb1 W; rwa [show ofN 4 Q = 4294967296 * Q by simp [ofN, fF]; omega] at this)
        have or1 := or_two B 0 (by omega)
        have or2 := or_three B (4294967296 * Q) 32 (by omega) (by omega) (by omega)
        obtain ⟨u, hu⟩ : ∃ u, 9223372036854775808 + B = u := ⟨_, rfl⟩
        obtain ⟨v, hv⟩ : ∃ v, 4294967296 * Q = v := ⟨_, rfl⟩
        rw [hv] at HO2 or2 ⊢
        rw [hu] at or1 or2 ⊢
        obtain ⟨r, hr⟩ : ∃ r, u + v = r := ⟨_, rfl⟩
        rw [hr] at or2 ⊢
        clear e0 e1 e2 h1 h3 hfp hfit hb0 hb1 hu hv hr hBl hQl
        go_enter Try.func39, Try.ntmps39
        go_wp2_with (first
          | (go_at_call 36; ((with_reducible refine (HF1.out _).mono ?_); rintro e w1 ⟨rfl, hb1⟩; have H1 := hi (H0.out.later hb1); clear hb1; obtain ⟨a0, a1, a2⟩ := CB.three H1.out.q))
          | (go_at_call 36; ((with_reducible refine (HF2.out _).mono ?_); rintro e w2 ⟨rfl, hb2⟩; have H2 := hi (H1.out.later hb2); clear hb2 a0 a1 a2)))
        refine wp_region_noPanic ?_
        refine wp_region_last_drew (S := (fun V => (V.cell? ⟨w.heap.size, 0, none⟩ = some (.int .i64 (B : Int)) ∧ V.cell? ⟨w.heap.size, 1, none⟩ = some (.int .i64 (Q : Int)) ∧ V.cell? ⟨w.heap.size, 2, none⟩ = some (.bool true)) ∧ RtB w w.heap.size ⟨(B : Int), (Q : Int), true⟩ V)) [] (by kernel_rfl) ((H2.out.later (below_dr _)).held) (fun hHeld => ?_)
        (try simp only [Array.replicate_succ, Array.replicate_zero, List.push_toArray, List.nil_append, List.cons_append])
        refine wpAnyF_take (i := 0) (v := ?_) (by kernel_rfl) (by kernel_rfl) rfl (by kernel_rfl) (by kernel_rfl) (by kernel_rfl) (fun _ _ _ h => h) (Or.inl ⟨by rfl, ?_⟩) (by assumption) ?_
        rotate_left
        · intro w' hSw; (try dsimp only at hSw); clear hSw; go_simp; (try with_reducible rfl)
        (try simp only [Act.put, List.getElem_toArray, List.getElem_cons_zero, List.getElem_cons_succ, List.setIfInBounds_toArray, List.set_cons_zero, List.set_cons_succ])
        refine wpAnyF_take (i := 1) (v := ?_) (by kernel_rfl) (by kernel_rfl) rfl (by kernel_rfl) (by kernel_rfl) (by kernel_rfl) (fun _ _ _ h => h) (Or.inl ⟨by rfl, ?_⟩) (by assumption) ?_
        rotate_left
        · intro w' hSw; (try dsimp only at hSw); have hq := hSw.1; clear hSw; obtain ⟨a0, a1, a2⟩ := hq; go_simp; (try with_reducible rfl)
        (try simp only [Act.put, List.getElem_toArray, List.getElem_cons_zero, List.getElem_cons_succ, List.setIfInBounds_toArray, List.set_cons_zero, List.set_cons_succ])
        refine wpAnyF_take (i := 4) (v := ?_) (by kernel_rfl) (by kernel_rfl) rfl (by kernel_rfl) (by kernel_rfl) (by kernel_rfl) (fun _ _ _ h => h) (Or.inl ⟨by rfl, ?_⟩) (by assumption) ?_
        rotate_left
        · intro w' hSw; (try dsimp only at hSw); clear hSw; go_simp; (try with_reducible rfl)
        (try simp only [Act.put, List.getElem_toArray, List.getElem_cons_zero, List.getElem_cons_succ, List.setIfInBounds_toArray, List.set_cons_zero, List.set_cons_succ])
        refine wpAnyF_take (i := 5) (v := ?_) (by kernel_rfl) (by kernel_rfl) rfl (by kernel_rfl) (by kernel_rfl) (by kernel_rfl) (fun _ _ _ h => h) (Or.inl ⟨by rfl, ?_⟩) (by assumption) ?_
        rotate_left
        · intro w' hSw; (try dsimp only at hSw); have hq := hSw.1; clear hSw; obtain ⟨a0, a1, a2⟩ := hq; go_simp; (try with_reducible rfl)
        (try simp only [Act.put, List.getElem_toArray, List.getElem_cons_zero, List.getElem_cons_succ, List.setIfInBounds_toArray, List.set_cons_zero, List.set_cons_succ])
        refine wpAnyF_ready (rs := [2]) (by kernel_rfl) (by simp) ?_
        refine AllReadyF.cons rfl (fun KK hKK => ?_) AllReadyF.nil
        go_simp
        ((with_reducible refine (HO1.out _).mono ?_); rintro e' w3 ⟨rfl, hbb⟩; have hHw3 := (hHeld.2.later hbb).held; clear hbb)
        (try go_simp)
        refine hKK.out _ _ hHw3 (fun hHeld => ?_)
        clear hKK KK
        (try simp only [Act.put, List.getElem_toArray, List.getElem_cons_zero, List.getElem_cons_succ, List.setIfInBounds_toArray, List.set_cons_zero, List.set_cons_succ])
        refine wpAnyF_take (i := 3) (v := ?_) (by kernel_rfl) (by kernel_rfl) rfl (by kernel_rfl) (by kernel_rfl) (by kernel_rfl) (fun _ _ _ h => h) (Or.inl ⟨by rfl, ?_⟩) (by assumption) ?_
        rotate_left
        · intro w' hSw; (try dsimp only at hSw); clear hSw; go_simp; (try with_reducible rfl)
        (try simp only [Act.put, List.getElem_toArray, List.getElem_cons_zero, List.getElem_cons_succ, List.setIfInBounds_toArray, List.set_cons_zero, List.set_cons_succ])
        refine wpAnyF_ready (rs := [6]) (by kernel_rfl) (by simp) ?_
        refine AllReadyF.cons rfl (fun KK hKK => ?_) AllReadyF.nil
        go_simp
        ((with_reducible refine (HO2.out _).mono ?_); rintro e' w4 ⟨rfl, hbb⟩; have hHw4 := (hHeld.2.later hbb).held; clear hbb)
        (try go_simp)
        refine hKK.out _ _ hHw4 (fun hHeld => ?_)
        clear hKK KK
        (try simp only [Act.put, List.getElem_toArray, List.getElem_cons_zero, List.getElem_cons_succ, List.setIfInBounds_toArray, List.set_cons_zero, List.set_cons_succ])
        refine wpAnyF_take (i := 7) (v := ?_) (by kernel_rfl) (by kernel_rfl) rfl (by kernel_rfl) (by kernel_rfl) (by kernel_rfl) (fun _ _ _ h => h) (Or.inl ⟨by rfl, ?_⟩) (by assumption) ?_
        rotate_left
        · intro w' hSw; (try dsimp only at hSw); clear hSw; go_simp; (try with_reducible rfl)
        (try simp only [Act.put, List.getElem_toArray, List.getElem_cons_zero, List.getElem_cons_succ, List.setIfInBounds_toArray, List.set_cons_zero, List.set_cons_succ])
        refine wpAnyF_take (i := 8) (v := ?_) (by kernel_rfl) (by kernel_rfl) rfl (by kernel_rfl) (by kernel_rfl) (by kernel_rfl) (fun _ _ _ h => h) (Or.inl ⟨by rfl, ?_⟩) (by assumption) ?_
        rotate_left
        · intro w' hSw; (try dsimp only at hSw); clear hSw; go_simp; (try with_reducible rfl)
        (try simp only [Act.put, List.getElem_toArray, List.getElem_cons_zero, List.getElem_cons_succ, List.setIfInBounds_toArray, List.set_cons_zero, List.set_cons_succ])
        refine wpAnyF_take (i := 9) (v := ?_) (by kernel_rfl) (by kernel_rfl) rfl (by kernel_rfl) (by kernel_rfl) (by kernel_rfl) (fun _ _ _ h => h) (Or.inl ⟨by rfl, ?_⟩) (by assumption) ?_
        rotate_left
        · intro w' hSw; (try dsimp only at hSw); clear hSw; go_simp; (try with_reducible rfl)
        (try simp only [Act.put, List.getElem_toArray, List.getElem_cons_zero, List.getElem_cons_succ, List.setIfInBounds_toArray, List.set_cons_zero, List.set_cons_succ])
        refine wpAnyF_done (by kernel_rfl) ?_ _
        refine NoPanic.normal ?_
        go_wp2
        go_ret2
        exact ⟨rfl, hHeld.2.below⟩

theorem fM1 : (fM 1 : Int) = 31 := by decide
set_option maxRecDepth 100000 in
set_option maxHeartbeats 4000000 in
theorem events_small (o : Bool) (b a m : Int) (k : Nat) (hk : k ≤ 31) (hm : (if (31 : Int) < (if b < 0 then 0 else b) then 31 else (if b < 0 then 0 else b)) = (k : Int)) (w : World) : Calls Try.prog 15 #[.agg #[.bool o, .int .i64 b, .int .i64 a]] w fun e w' => e = .returned (.int .i64 (2 ^ (k + 1) : Nat)) ∧ Below w.heap.size w w' := by
  have H0 := hi (show DvB w w.heap.size ⟨o, b, a⟩ (w.alloc (.cells (Dv.cs ⟨o, b, a⟩) 36)) from ⟨CB.new w _ _, bal w _⟩)
  have HM := hi (show ∀ W, Calls Try.prog 37 #[.int .i64 1] W fun e w' => e = .returned (.int .i64 31) ∧ Below W.heap.size W w' from fun W => by have := most_any 1 (by decide) W; rwa [fM1] at this)
  have hp : (2 ^ (k + 1) : Nat) ≤ 4294967296 := Nat.pow_le_pow_right (n := 2) (by decide) (show k + 1 ≤ 32 by omega)
  have hsh0 : ((2 : Int) ^ (k + 1)) = ((2 ^ (k + 1) : Nat) : Int) := by simp
  obtain ⟨r, hr⟩ : ∃ r : Nat, 2 ^ (k + 1) = r := ⟨_, rfl⟩
  rw [hr] at hsh0 hp ⊢
  have hsh : IntKind.i64.wrap (2 ^ (k + 1)) = (r : Int) := by rw [hsh0, IntKind.wrap_i64]; omega
  clear hsh0
  have hk1 : IntKind.i64.wrap ((k : Int) + 1) = (k : Int) + 1 := by rw [IntKind.wrap_i64]; omega
  have hk2 : 0 ≤ (k : Int) + 1 := by omega
  have hk3 : ((k : Int) + 1).toNat = k + 1 := by omega
  clear hr
  go_enter Try.func15, Try.ntmps15
  go_wp2
  refine wp_region_noPanic ?_
  refine wp_region_last_drew (S := (fun V => (V.cell? ⟨w.heap.size, 0, none⟩ = some (.bool o) ∧ V.cell? ⟨w.heap.size, 1, none⟩ = some (.int .i64 b) ∧ V.cell? ⟨w.heap.size, 2, none⟩ = some (.int .i64 a)) ∧ DvB w w.heap.size ⟨o, b, a⟩ V)) [] (by kernel_rfl) ((H0.out.later (below_dr _)).held) (fun hHeld => ?_)
  (try simp only [Array.replicate_succ, Array.replicate_zero, List.push_toArray, List.nil_append, List.cons_append])
  refine wpAnyF_take (i := 0) (v := ?_) (by kernel_rfl) (by kernel_rfl) rfl (by kernel_rfl) (by kernel_rfl) (by kernel_rfl) (fun _ _ _ h => h) (Or.inl ⟨by rfl, ?_⟩) (by assumption) ?_
  rotate_left
  · intro w' hSw; (try dsimp only at hSw); clear hSw; go_simp; (try with_reducible rfl)
  (try simp only [Act.put, List.getElem_toArray, List.getElem_cons_zero, List.getElem_cons_succ, List.setIfInBounds_toArray, List.set_cons_zero, List.set_cons_succ])
  refine wpAnyF_take (i := 1) (v := ?_) (by kernel_rfl) (by kernel_rfl) rfl (by kernel_rfl) (by kernel_rfl) (by kernel_rfl) (fun _ _ _ h => h) (Or.inl ⟨by rfl, ?_⟩) (by assumption) ?_
  rotate_left
  · intro w' hSw; (try dsimp only at hSw); have hq := hSw.1; clear hSw; obtain ⟨a0, a1, a2⟩ := hq; go_simp; (try with_reducible rfl)
  (try simp only [Act.put, List.getElem_toArray, List.getElem_cons_zero, List.getElem_cons_succ, List.setIfInBounds_toArray, List.set_cons_zero, List.set_cons_succ])
  refine wpAnyF_take (i := 2) (v := ?_) (by kernel_rfl) (by kernel_rfl) rfl (by kernel_rfl) (by kernel_rfl) (by kernel_rfl) (fun _ _ _ h => h) (Or.inl ⟨by rfl, ?_⟩) (by assumption) ?_
  rotate_left
  · intro w' hSw; (try dsimp only at hSw); clear hSw; go_simp; (try with_reducible rfl)
  (try simp only [Act.put, List.getElem_toArray, List.getElem_cons_zero, List.getElem_cons_succ, List.setIfInBounds_toArray, List.set_cons_zero, List.set_cons_succ])
  refine wpAnyF_ready (rs := [3]) (by kernel_rfl) (by simp) ?_
  refine AllReadyF.cons rfl (fun KK hKK => ?_) AllReadyF.nil
  go_simp
  ((with_reducible refine (HM.out _).mono ?_); rintro e' w1 ⟨rfl, hbb⟩; have hHw1 := (hHeld.2.later hbb).held; clear hbb)
  (try go_simp)
  refine hKK.out _ _ hHw1 (fun hHeld => ?_)
  clear hKK KK
  (try simp only [Act.put, List.getElem_toArray, List.getElem_cons_zero, List.getElem_cons_succ, List.setIfInBounds_toArray, List.set_cons_zero, List.set_cons_succ])
  refine wpAnyF_take (i := 4) (v := ?_) (by kernel_rfl) (by kernel_rfl) rfl (by kernel_rfl) (by kernel_rfl) (by kernel_rfl) (fun _ _ _ h => h) (Or.inl ⟨by rfl, ?_⟩) (by assumption) ?_
  rotate_left
  · intro w' hSw; (try dsimp only at hSw); clear hSw; go_simp; (try with_reducible rfl)
  (try simp only [Act.put, List.getElem_toArray, List.getElem_cons_zero, List.getElem_cons_succ, List.setIfInBounds_toArray, List.set_cons_zero, List.set_cons_succ])
  refine wpAnyF_take (i := 5) (v := ?_) (by kernel_rfl) (by kernel_rfl) rfl (by kernel_rfl) (by kernel_rfl) (by kernel_rfl) (fun _ _ _ h => h) (Or.inl ⟨by rfl, ?_⟩) (by assumption) ?_
  rotate_left
  · intro w' hSw; (try dsimp only at hSw); clear hSw; go_simp; (try with_reducible rfl)
  (try simp only [Act.put, List.getElem_toArray, List.getElem_cons_zero, List.getElem_cons_succ, List.setIfInBounds_toArray, List.set_cons_zero, List.set_cons_succ])
  refine wpAnyF_take (i := 6) (v := ?_) (by kernel_rfl) (by kernel_rfl) rfl (by kernel_rfl) (by kernel_rfl) (by kernel_rfl) (fun _ _ _ h => h) (Or.inl ⟨by rfl, ?_⟩) (by assumption) ?_
  rotate_left
  · intro w' hSw; (try dsimp only at hSw); clear hSw; go_simp; (try with_reducible rfl)
  (try simp only [Act.put, List.getElem_toArray, List.getElem_cons_zero, List.getElem_cons_succ, List.setIfInBounds_toArray, List.set_cons_zero, List.set_cons_succ])
  refine wpAnyF_take (i := 7) (v := ?_) (by kernel_rfl) (by kernel_rfl) rfl (by kernel_rfl) (by kernel_rfl) (by kernel_rfl) (fun _ _ _ h => h) (Or.inl ⟨by rfl, ?_⟩) (by assumption) ?_
  rotate_left
  · intro w' hSw; (try dsimp only at hSw); clear hSw; go_simp; (try with_reducible rfl)
  (try simp only [Act.put, List.getElem_toArray, List.getElem_cons_zero, List.getElem_cons_succ, List.setIfInBounds_toArray, List.set_cons_zero, List.set_cons_succ])
  refine wpAnyF_done (by kernel_rfl) ?_ _
  refine NoPanic.normal ?_
  go_wp2
  all_goals go_ret
  all_goals exact ⟨rfl, hHeld.2.below⟩
theorem events_any (d : Dv) (w : World) : Calls Try.prog 15 #[d.v] w fun e w' => e = .returned (.int .i64 (evN d)) ∧ Below w.heap.size w w' := by
  obtain ⟨o, b, a⟩ := d
  unfold evN
  dsimp only
  exact events_small o b a 0 _ (by omega) (by split <;> split <;> omega) w

/-- A table's box. -/
structure TbBx (w : World) (b : Nat) (t : Tb) (W : World) : Prop where
  q : CB W b 32 (Tb.cs t)
  below : Below w.heap.size w W
theorem TbBx.later {w : World} {b : Nat} {t : Tb} {W W' : World} (h : TbBx w b t W) (k : Below W.heap.size W W') : TbBx w b t W' := ⟨h.q.below k, h.below.more k⟩
set_option maxRecDepth 100000 in
set_option maxHeartbeats 4000000 in
theorem right_any (p g cap : Nat) (bs : List Nat) (t : Tb) (hF : t.Fair) (w : World) (hM : MemAt 89 w p g cap bs) : Calls Try.prog 23 #[t.v, .pointer (some ⟨p, 0, none⟩)] w fun e w' => e = .returned (.int .i64 (rightE bs.length t)) ∧ Below w.heap.size w w' := by
  have H0 := hi (show TbBx w w.heap.size t (w.alloc (.cells (Tb.cs t) 32)) from ⟨CB.new w _ _, bal w _⟩)
  have HH := hi (holds_any p g cap bs t.at_ t.size (w.alloc (.cells (Tb.cs t) 32)) (hM.below (bal w _)) hF.a.1 hF.a.2 hF.s.1 hF.s.2)
  have hpb := hF.p
  have HR := hi (show rightE bs.length t = if holdsB bs.length t.at_ t.size = true then (if t.page ≠ 0 ∧ (t.page < 8 ∨ 131072 < t.page ∨ bits .and .i64 t.page (t.page - 1) ≠ 0) then 1 else 0) else 42 from rfl)
  obtain ⟨a, s, g'⟩ := t
  dsimp only at HH HR hpb ⊢
  obtain ⟨re, hre⟩ : ∃ r, rightE bs.length ⟨a, s, g'⟩ = r := ⟨_, rfl⟩
  rw [hre] at HR ⊢
  obtain ⟨hb, hhb⟩ : ∃ v, holdsB bs.length a s = v := ⟨_, rfl⟩
  rw [hhb] at HH HR
  clear hre hhb hM hF
  unfold win at HH
  cases hb
  · have e : re = 42 := by have := HR.out; simpa using this
    subst e
    clear HR hpb
    go_enter Try.func23, Try.ntmps23
    go_wp2_with (go_at_call 25; ((with_reducible refine HH.out.mono ?_); rintro e w1 ⟨rfl, hb1⟩; have H1 := hi (H0.out.later hb1); clear hb1))
    go_ret
    exact ⟨rfl, H1.out.below⟩
  · by_cases h0 : g' = 0
    · have e : re = 0 := by have := HR.out; simpa [h0] using this
      subst e h0
      clear HR hpb
      go_enter Try.func23, Try.ntmps23
      go_wp2_with (go_at_call 25; ((with_reducible refine HH.out.mono ?_); rintro e w1 ⟨rfl, hb1⟩; have H1 := hi (H0.out.later hb1); clear hb1; obtain ⟨a0, a1, a2⟩ := CB.three H1.out.q))
      go_ret
      exact ⟨rfl, H1.out.below⟩
    · have g0 : (g' != 0) = true := by simpa using h0
      by_cases h1 : g' < 8
      · have e : re = 1 := by have := HR.out; simpa [h0, h1] using this
        subst e
        clear HR hpb h0
        go_enter Try.func23, Try.ntmps23
        go_wp2_with (go_at_call 25; ((with_reducible refine HH.out.mono ?_); rintro e w1 ⟨rfl, hb1⟩; have H1 := hi (H0.out.later hb1); clear hb1; obtain ⟨a0, a1, a2⟩ := CB.three H1.out.q))
        go_ret
        exact ⟨rfl, H1.out.below⟩
      · by_cases h2 : 131072 < g'
        · have e : re = 1 := by have := HR.out; simpa [h0, h2] using this
          subst e
          clear HR hpb h0
          go_enter Try.func23, Try.ntmps23
          go_wp2_with (go_at_call 25; ((with_reducible refine HH.out.mono ?_); rintro e w1 ⟨rfl, hb1⟩; have H1 := hi (H0.out.later hb1); clear hb1; obtain ⟨a0, a1, a2⟩ := CB.three H1.out.q))
          go_ret
          exact ⟨rfl, H1.out.below⟩
        · have hw1 : IntKind.i64.wrap (g' - 1) = g' - 1 := by rw [IntKind.wrap_i64]; omega
          by_cases h3 : bits .and .i64 g' (g' - 1) = 0
          · have e : re = 0 := by have := HR.out; simpa [h1, h2, h3] using this
            have g3 : (bits .and .i64 g' (g' - 1) != 0) = false := by simpa using h3
            subst e
            clear HR hpb h0 h3
            go_enter Try.func23, Try.ntmps23
            go_wp2_with (go_at_call 25; ((with_reducible refine HH.out.mono ?_); rintro e w1 ⟨rfl, hb1⟩; have H1 := hi (H0.out.later hb1); clear hb1; obtain ⟨a0, a1, a2⟩ := CB.three H1.out.q))
            go_ret
            exact ⟨rfl, H1.out.below⟩
          · have e : re = 1 := by have := HR.out; simpa [h0, h3] using this
            have g3 : (bits .and .i64 g' (g' - 1) != 0) = true := by simpa using h3
            subst e
            clear HR hpb h0 h3
            go_enter Try.func23, Try.ntmps23
            go_wp2_with (go_at_call 25; ((with_reducible refine HH.out.mono ?_); rintro e w1 ⟨rfl, hb1⟩; have H1 := hi (H0.out.later hb1); clear hb1; obtain ⟨a0, a1, a2⟩ := CB.three H1.out.q))
            go_ret
            exact ⟨rfl, H1.out.below⟩

end Go.Proofs.Ytjcjblmaceooaaa
