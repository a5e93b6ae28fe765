import Derived.Test.YtggeakkofcaklaaGreatMg14
namespace Go.Proofs.YtggeakkofcaklaaGreat
open Go.ChangeShapes Go.WideShapes Go.ChangeAt Go.RowKit Go.Shelf
set_option linter.unusedVariables false
attribute [local go_sem] Oper.semAt_some
set_option maxRecDepth 100000 in
set_option maxHeartbeats 16000000 in
theorem find4_any (g cap : Nat) (xs : List Rr) (sz off : Int) (w : World) (h : Row w g 184 (flR xs)) (hall : xs.all rowOk2 = true) (hn : xs.length ≤ 100) (hs0 : 8 ≤ sz) (hs1 : sz ≤ 200000) (ho : Int64 off) :
    Calls Tryz.prog 92 #[.slice (some ⟨g, 0, none⟩) xs.length cap, .int .i64 sz, .int .i64 off, .int .i64 4] w (Finds w (findV xs sz off 4)) := by
  obtain ⟨h1, h2⟩ := ho
  unfold findV
  rw [if_neg (by decide)]
  by_cases hm : off.tmod 4 = 0
  · rw [if_neg (by simpa using hm)]
    have hq : (off.tmod 4 != 0) = false := by simpa using hm
    by_cases hneg : off < 0
    · rw [if_pos (.inl hneg)]
      go_enter Tryz.func92, Tryz.ntmps92
      go_wp2
      exact bodyPost_ret (results_pl rfl _ _ w.heap.size Pl.zero (.int .i64 42) rfl rfl (CB.new w _ _)) rfl ⟨rfl, bal w _⟩
    · by_cases hbig : sz - 4 < off
      · rw [if_pos (.inr hbig)]
        go_enter Tryz.func92, Tryz.ntmps92
        go_wp2
        exact bodyPost_ret (results_pl rfl _ _ w.heap.size Pl.zero (.int .i64 42) rfl rfl (CB.new w _ _)) rfl ⟨rfl, bal w _⟩
      · rw [if_neg (by omega)]
        have hm4 : off % 4 = 0 := by rw [Int.tmod_eq_emod_of_nonneg (by omega)] at hm; exact hm
        have H0 := hi (show FA w g xs (w.alloc (.cells #[.int .i64 0, .int .i64 0, .int .i64 0] 70)) from ⟨CB.new w _ _, h.below (bal w _), bal w _⟩)
        have hw4 : IntKind.i64.wrap (off + 4) = off + 4 := by rw [IntKind.wrap_i64]; omega
        have hneg0 : 0 ≤ off := by omega
        have hoff : off ≤ 200000 := by omega
        clear hm h
        go_enter Tryz.func92, Tryz.ntmps92
        go_wp2
        go_loopw [10] (fun i wr => ∃ k : Nat, k ≤ xs.length ∧ i = .int .i64 k ∧ Hi (FA w g xs wr ∧ goV off 4 xs = goV off 4 (xs.drop k))) (fun i _ => xs.length - (intOf i).toNat)
        case atStart => exact ⟨0, Nat.zero_le _, rfl, hi ⟨H0.out, rfl⟩⟩
        case round =>
          obtain ⟨k, hk, rfl, HX⟩ := hrel
          clear H0
          by_cases hlt : k < xs.length
          · have hok := nth_ok2 hall hlt
            have HG := hi (HX.out.2.trans (by rw [drop_nth hlt]))
            have HRC := hi (HX.out.1.row.rrc (nthR_at (xs := xs) (k := k) hlt))
            obtain ⟨x, hx⟩ : ∃ x, nthR xs k = x := ⟨_, rfl⟩
            rw [hx] at hok HRC HG
            obtain ⟨d0, d1, d2, d3, d4, d5, d6⟩ := HRC.out
            clear hx
            obtain ⟨fr, to, wd, rr, ff, oo, pp⟩ := x
            dsimp only at d0 d1 d2 d3 d4 d5 d6
            simp only [rowOk2, Bool.and_eq_true, Bool.or_eq_true, decide_eq_true_eq, beq_iff_eq] at hok
            have HNB := hi (CB.new wr 184 (Rr.ca ⟨fr, to, wd, rr, ff, oo, pp⟩))
            have HX2 := hi (HX.out.1.later (bal wr (.cells (Rr.ca ⟨fr, to, wd, rr, ff, oo, pp⟩) 184)))
            have hk9 : (k : Int) < xs.length := by omega
            go_wp2
            obtain ⟨wq, hwq⟩ : ∃ wq, wr.alloc (.cells #[.int .i64 fr, .int .i64 to, .int .i64 wd, .int .i64 rr, .int .i64 ff, .int .i64 oo, .int .i64 pp] 184) = wq := ⟨_, rfl⟩
            have hnb : wr.heap.size < wq.heap.size := by rw [← hwq]; simp
            rw [hwq] at HNB HX2 ⊢
            obtain ⟨R, hR⟩ : ∃ R, wr.heap.size = R := ⟨_, rfl⟩
            rw [hR] at HNB hnb ⊢
            clear hwq d0 d1 d2 d3 d4 d5 d6 HRC HX hR
            obtain ⟨hfr0, hft, hto, ho0, ho8, hf0, hf64, hok⟩ := hok
            have HOK := hi hok
            clear hok
            go_loopw [12] (fun i wr2 => ∃ d : Nat, d ≤ 4 ∧ i = .int .i64 (off + (d : Int)) ∧ wr2 = wq ∧ Hi (NoByte ⟨fr, to, wd, rr, ff, oo, pp⟩ off d)) (fun i _ => (off + 4 - intOf i).toNat)
            case atStart => exact ⟨0, by omega, by simp, rfl, hi (NoByte.zero _ _)⟩
            case round =>
              obtain ⟨d, hd, rfl, rfl, HN⟩ := hrel
              obtain ⟨d0, d1, d2, d3, d4, d5, d6⟩ := CB.rrc (x := ⟨fr, to, wd, rr, ff, oo, pp⟩) HNB.out
              dsimp only at d0 d1 d2 d3 d4 d5 d6
              by_cases hdl : d < 4
              · obtain ⟨a, ha⟩ : ∃ a, off + (d : Int) = a := ⟨_, rfl⟩
                have hwd : IntKind.i64.wrap (a + 1) = off + ((d + 1 : Nat) : Int) := by rw [IntKind.wrap_i64]; omega
                have ha4 : a < off + 4 := by omega
                rw [ha]
                by_cases hlo : a < fr
                · have HN2 := hi (HN.out.succ (by show ¬ (fr ≤ off + (d : Int) ∧ off + (d : Int) < to); omega))
                  go_wp2
                  go_roundw
                  case rel => exact ⟨d + 1, by omega, by first | rfl | simp, trivial, HN2⟩
                  case measure => simp only [intOf]; omega
                · by_cases hhi : to ≤ a
                  · have HN2 := hi (HN.out.succ (by show ¬ (fr ≤ off + (d : Int) ∧ off + (d : Int) < to); omega))
                    go_wp2
                    go_roundw
                    case rel => exact ⟨d + 1, by omega, by first | rfl | simp, trivial, HN2⟩
                    case measure => simp only [intOf]; omega
                  · have hmt : meets ⟨fr, to, wd, rr, ff, oo, pp⟩ off 4 = true := meets_at (x := ⟨fr, to, wd, rr, ff, oo, pp⟩) (d := d) (w := 4) (by show fr ≤ off + (d : Int); omega) (by show off + (d : Int) < to; omega) hdl
                    have z0 := HX2.out.z.cell 0
                    have z1 := HX2.out.z.cell 1
                    have z2 := HX2.out.z.cell 2
                    have zf := HX2.out.z.frozen
                    by_cases hww : wd = 4
                    · subst hww
                      rcases HOK.out with ⟨hw, rfl, hal⟩ | ⟨hw, rfl | rfl, hal⟩
                      · clear hw
                        have hge : fr ≤ off := by omega
                        have HV := hi (goV_yes (xs := xs.drop (k + 1)) (show meets ⟨fr, to, 4, rr, ff, oo, 1⟩ off 4 = true from hmt) rfl)
                        obtain ⟨df, hdf⟩ : ∃ df, off - fr = df := ⟨_, rfl⟩
                        have hdf0 : 0 ≤ df ∧ df ≤ 200000 := by omega
                        have hqd : df.tdiv 1 = df := by simp
                        have hD0 : 0 ≤ df ∧ df ≤ 200000 := by omega
                        have hm0 : 0 ≤ df * oo := Int.mul_nonneg hD0.1 ho0
                        have hml : df * oo ≤ df * 32 := Int.mul_le_mul_of_nonneg_left ho8 hD0.1
                        have HPV := hi (show placeV ⟨fr, to, 4, rr, ff, oo, 1⟩ off 4 = ⟨rr, ff + df * oo, 4 * oo⟩ by simp only [placeV, hdf]; simp)
                        obtain ⟨T, hT⟩ : ∃ T, df * oo = T := ⟨_, rfl⟩
                        have hw2 : IntKind.i64.wrap df = df := by rw [IntKind.wrap_i64]; omega
                        have hwD : IntKind.i64.wrap df = df := by rw [IntKind.wrap_i64]; omega
                        have hwT : IntKind.i64.wrap (df * oo) = df * oo := by rw [IntKind.wrap_i64]; omega
                        rw [hT] at HPV hm0 hml hwT
                        have hw5 : IntKind.i64.wrap (ff + T) = ff + T := by rw [IntKind.wrap_i64]; omega
                        have hw1 : IntKind.i64.wrap (4 * oo) = 4 * oo := by rw [IntKind.wrap_i64]; omega
                        obtain ⟨c4, hc4⟩ : ∃ c4, 4 * oo = c4 := ⟨_, rfl⟩
                        rw [hc4] at hw1 HPV
                        have hq4 : (4 : Int).tdiv 1 = 4 := by decide
                        have HNB4 := hi (show CB wr R 184 #[.int .i64 fr, .int .i64 to, .int .i64 4, .int .i64 rr, .int .i64 ff, .int .i64 oo, .int .i64 1] from HNB.out)
                        clear hml hD0 hdf0 hwd ha4
                        go_wp2
                        have HFD := hi HX2.out.fz.drew
                        have hS17 : (fun W' => CB W' R 184 #[.int .i64 fr, .int .i64 to, .int .i64 4, .int .i64 rr, .int .i64 ff, .int .i64 oo, .int .i64 1]) wr.drew := HNB4.out.drew
                        obtain ⟨wd, hwd'⟩ : ∃ wd, wr.drew = wd := ⟨_, rfl⟩
                        rw [hwd'] at HFD
                        refine wp_region_noPanic ?_
                        refine wp_region_last_drew (S := (fun W' => CB W' R 184 #[.int .i64 fr, .int .i64 to, .int .i64 4, .int .i64 rr, .int .i64 ff, .int .i64 oo, .int .i64 1])) [13] (by kernel_rfl) hS17 (fun hHeld => ?_)
                        rw [hwd'] at hHeld ⊢
                        clear hwd' hS17
                        (try simp only [Array.replicate_succ, Array.replicate_zero, List.push_toArray, List.nil_append, List.cons_append])
                        refine wpAnyF_take (i := 0) (v := ?_) (by kernel_rfl) (by kernel_rfl) rfl (by kernel_rfl) (by kernel_rfl) (by kernel_rfl) (fun _ _ _ h => h) (Or.inl ⟨by rfl, ?_⟩) (by assumption) ?_
                        rotate_left
                        · intro w' hSw; (try dsimp only at hSw); obtain ⟨d0, d1, d2, d3, d4, d5, d6⟩ := CB.rrc (x := ⟨fr, to, 4, rr, ff, oo, 1⟩) hSw; dsimp only at d0 d1 d2 d3 d4 d5 d6; go_simp; (try with_reducible rfl)
                        (try simp only [Act.put, List.getElem_toArray, List.getElem_cons_zero, List.setIfInBounds_toArray, List.set_cons_zero, List.set_cons_succ])
                        refine wpAnyF_take (i := 1) (v := ?_) (by kernel_rfl) (by kernel_rfl) rfl (by kernel_rfl) (by kernel_rfl) (by kernel_rfl) (fun _ _ _ h => h) (Or.inl ⟨by rfl, ?_⟩) (by assumption) ?_
                        rotate_left
                        · intro w' hSw; (try dsimp only at hSw); obtain ⟨d0, d1, d2, d3, d4, d5, d6⟩ := CB.rrc (x := ⟨fr, to, 4, rr, ff, oo, 1⟩) hSw; dsimp only at d0 d1 d2 d3 d4 d5 d6; go_simp; (try with_reducible rfl)
                        (try simp only [Act.put, List.getElem_toArray, List.getElem_cons_zero, List.getElem_cons_succ, List.setIfInBounds_toArray, List.set_cons_zero, List.set_cons_succ])
                        refine wpAnyF_take (i := 2) (v := ?_) (by kernel_rfl) (by kernel_rfl) rfl (by kernel_rfl) (by kernel_rfl) (by kernel_rfl) (fun _ _ _ h => h) (Or.inl ⟨by rfl, ?_⟩) (by assumption) ?_
                        rotate_left
                        · intro w' hSw; (try dsimp only at hSw); obtain ⟨d0, d1, d2, d3, d4, d5, d6⟩ := CB.rrc (x := ⟨fr, to, 4, rr, ff, oo, 1⟩) hSw; dsimp only at d0 d1 d2 d3 d4 d5 d6; go_simp; (try with_reducible rfl)
                        (try simp only [Act.put, List.getElem_toArray, List.getElem_cons_zero, List.getElem_cons_succ, List.setIfInBounds_toArray, List.set_cons_zero, List.set_cons_succ])
                        refine wpAnyF_take (i := 3) (v := ?_) (by kernel_rfl) (by kernel_rfl) rfl (by kernel_rfl) (by kernel_rfl) (by kernel_rfl) (fun _ _ _ h => h) (Or.inl ⟨by rfl, ?_⟩) (by assumption) ?_
                        rotate_left
                        · intro w' hSw; (try dsimp only at hSw); obtain ⟨d0, d1, d2, d3, d4, d5, d6⟩ := CB.rrc (x := ⟨fr, to, 4, rr, ff, oo, 1⟩) hSw; dsimp only at d0 d1 d2 d3 d4 d5 d6; go_simp; (try with_reducible rfl)
                        (try simp only [Act.put, List.getElem_toArray, List.getElem_cons_zero, List.getElem_cons_succ, List.setIfInBounds_toArray, List.set_cons_zero, List.set_cons_succ])
                        refine wpAnyF_take (i := 4) (v := ?_) (by kernel_rfl) (by kernel_rfl) rfl (by kernel_rfl) (by kernel_rfl) (by kernel_rfl) (fun _ _ _ h => h) (Or.inl ⟨by rfl, ?_⟩) (by assumption) ?_
                        rotate_left
                        · intro w' hSw; (try dsimp only at hSw); obtain ⟨d0, d1, d2, d3, d4, d5, d6⟩ := CB.rrc (x := ⟨fr, to, 4, rr, ff, oo, 1⟩) hSw; dsimp only at d0 d1 d2 d3 d4 d5 d6; go_simp; (try with_reducible rfl)
                        (try simp only [Act.put, List.getElem_toArray, List.getElem_cons_zero, List.getElem_cons_succ, List.setIfInBounds_toArray, List.set_cons_zero, List.set_cons_succ])
                        refine wpAnyF_take (i := 5) (v := ?_) (by kernel_rfl) (by kernel_rfl) rfl (by kernel_rfl) (by kernel_rfl) (by kernel_rfl) (fun _ _ _ h => h) (Or.inl ⟨by rfl, ?_⟩) (by assumption) ?_
                        rotate_left
                        · intro w' hSw; (try dsimp only at hSw); obtain ⟨d0, d1, d2, d3, d4, d5, d6⟩ := CB.rrc (x := ⟨fr, to, 4, rr, ff, oo, 1⟩) hSw; dsimp only at d0 d1 d2 d3 d4 d5 d6; go_simp; (try with_reducible rfl)
                        (try simp only [Act.put, List.getElem_toArray, List.getElem_cons_zero, List.getElem_cons_succ, List.setIfInBounds_toArray, List.set_cons_zero, List.set_cons_succ])
                        refine wpAnyF_take (i := 6) (v := ?_) (by kernel_rfl) (by kernel_rfl) rfl (by kernel_rfl) (by kernel_rfl) (by kernel_rfl) (fun _ _ _ h => h) (Or.inl ⟨by rfl, ?_⟩) (by assumption) ?_
                        rotate_left
                        · intro w' hSw; (try dsimp only at hSw); obtain ⟨d0, d1, d2, d3, d4, d5, d6⟩ := CB.rrc (x := ⟨fr, to, 4, rr, ff, oo, 1⟩) hSw; dsimp only at d0 d1 d2 d3 d4 d5 d6; go_simp; (try with_reducible rfl)
                        (try simp only [Act.put, List.getElem_toArray, List.getElem_cons_zero, List.getElem_cons_succ, List.setIfInBounds_toArray, List.set_cons_zero, List.set_cons_succ])
                        refine wpAnyF_take (i := 7) (v := ?_) (by kernel_rfl) (by kernel_rfl) rfl (by kernel_rfl) (by kernel_rfl) (by kernel_rfl) (fun _ _ _ h => h) (Or.inl ⟨by rfl, ?_⟩) (by assumption) ?_
                        rotate_left
                        · intro w' hSw; (try dsimp only at hSw); obtain ⟨d0, d1, d2, d3, d4, d5, d6⟩ := CB.rrc (x := ⟨fr, to, 4, rr, ff, oo, 1⟩) hSw; dsimp only at d0 d1 d2 d3 d4 d5 d6; go_simp; (try with_reducible rfl)
                        (try simp only [Act.put, List.getElem_toArray, List.getElem_cons_zero, List.getElem_cons_succ, List.setIfInBounds_toArray, List.set_cons_zero, List.set_cons_succ])
                        refine wpAnyF_take (i := 8) (v := ?_) (by kernel_rfl) (by kernel_rfl) rfl (by kernel_rfl) (by kernel_rfl) (by kernel_rfl) (fun _ _ _ h => h) (Or.inl ⟨by rfl, ?_⟩) (by assumption) ?_
                        rotate_left
                        · intro w' hSw; (try dsimp only at hSw); obtain ⟨d0, d1, d2, d3, d4, d5, d6⟩ := CB.rrc (x := ⟨fr, to, 4, rr, ff, oo, 1⟩) hSw; dsimp only at d0 d1 d2 d3 d4 d5 d6; go_simp; (try with_reducible rfl)
                        (try simp only [Act.put, List.getElem_toArray, List.getElem_cons_zero, List.getElem_cons_succ, List.setIfInBounds_toArray, List.set_cons_zero, List.set_cons_succ])
                        refine wpAnyF_take (i := 9) (v := ?_) (by kernel_rfl) (by kernel_rfl) rfl (by kernel_rfl) (by kernel_rfl) (by kernel_rfl) (fun _ _ _ h => h) (Or.inl ⟨by rfl, ?_⟩) (by assumption) ?_
                        rotate_left
                        · intro w' hSw; (try dsimp only at hSw); obtain ⟨d0, d1, d2, d3, d4, d5, d6⟩ := CB.rrc (x := ⟨fr, to, 4, rr, ff, oo, 1⟩) hSw; dsimp only at d0 d1 d2 d3 d4 d5 d6; go_simp; (try with_reducible rfl)
                        (try simp only [Act.put, List.getElem_toArray, List.getElem_cons_zero, List.getElem_cons_succ, List.setIfInBounds_toArray, List.set_cons_zero, List.set_cons_succ])
                        refine wpAnyF_take (i := 10) (v := ?_) (by kernel_rfl) (by kernel_rfl) rfl (by kernel_rfl) (by kernel_rfl) (by kernel_rfl) (fun _ _ _ h => h) (Or.inl ⟨by rfl, ?_⟩) (by assumption) ?_
                        rotate_left
                        · intro w' hSw; (try dsimp only at hSw); obtain ⟨d0, d1, d2, d3, d4, d5, d6⟩ := CB.rrc (x := ⟨fr, to, 4, rr, ff, oo, 1⟩) hSw; dsimp only at d0 d1 d2 d3 d4 d5 d6; go_simp; (try with_reducible rfl)
                        (try simp only [Act.put, List.getElem_toArray, List.getElem_cons_zero, List.getElem_cons_succ, List.setIfInBounds_toArray, List.set_cons_zero, List.set_cons_succ])
                        refine wpAnyF_take (i := 11) (v := ?_) (by kernel_rfl) (by kernel_rfl) rfl (by kernel_rfl) (by kernel_rfl) (by kernel_rfl) (fun _ _ _ h => h) (Or.inl ⟨by rfl, ?_⟩) (by assumption) ?_
                        rotate_left
                        · intro w' hSw; (try dsimp only at hSw); obtain ⟨d0, d1, d2, d3, d4, d5, d6⟩ := CB.rrc (x := ⟨fr, to, 4, rr, ff, oo, 1⟩) hSw; dsimp only at d0 d1 d2 d3 d4 d5 d6; go_simp; (try with_reducible rfl)
                        (try simp only [Act.put, List.getElem_toArray, List.getElem_cons_zero, List.getElem_cons_succ, List.setIfInBounds_toArray, List.set_cons_zero, List.set_cons_succ])
                        refine wpAnyF_ready (rs := [12]) (by kernel_rfl) (by simp) ?_
                        refine AllReadyF.cons rfl (fun KK hKK => ?_) AllReadyF.nil
                        go_simp
                        have HF1 := hi (HFD.out.later (bal wd (.cells #[.int .i64 0, .int .i64 0, .int .i64 0] 70)))
                        have HR1 := hi (CB.below hHeld (bal wd (.cells #[.int .i64 0, .int .i64 0, .int .i64 0] 70)))
                        have HZ1 := hi (CB.new wd 70 #[.int .i64 0, .int .i64 0, .int .i64 0])
                        obtain ⟨V1, hV1⟩ : ∃ V1, wd.alloc (.cells #[.int .i64 0, .int .i64 0, .int .i64 0] 70) = V1 := ⟨_, rfl⟩
                        rw [hV1] at HF1 HR1 HZ1 ⊢
                        obtain ⟨N, hN⟩ : ∃ N, wd.heap.size = N := ⟨_, rfl⟩
                        have hN1 : w.heap.size < N ∧ R < N := by have h9 := HFD.out.z.lt; have h8 := CB.lt hHeld; omega
                        rw [hN] at HZ1 ⊢
                        clear hV1 hN
                        refine hKK.out _ _ HR1.out (fun hHeld => ?_)
                        clear hKK KK
                        (try simp only [Act.put, List.getElem_toArray, List.getElem_cons_zero, List.getElem_cons_succ, List.setIfInBounds_toArray, List.set_cons_zero, List.set_cons_succ])
                        refine wpAnyF_ready (rs := [13]) (by kernel_rfl) (by simp) ?_
                        refine AllReadyF.last (by kernel_rfl) rfl (fun KK hKK => ?_) AllReadyF.nil
                        have y0 := HZ1.out.cell 0
                        have y1 := HZ1.out.cell 1
                        have y2 := HZ1.out.cell 2
                        have yf := HZ1.out.frozen
                        go_simp
                        refine hKK.out _ _ ?_
                        clear hKK KK
                        (try simp only [Act.put, List.getElem_toArray, List.getElem_cons_zero, List.getElem_cons_succ, List.setIfInBounds_toArray, List.set_cons_zero, List.set_cons_succ])
                        refine wpAnyF_done (by kernel_rfl) ?_ _
                        refine NoPanic.normal ?_
                        have hw1' : IntKind.i64.wrap (IntKind.i64.wrap 4 * oo) = c4 := by rw [show IntKind.i64.wrap 4 = 4 from by decide, hc4]; exact hw1
                        have HN2 := hi (CB.put3 HZ1.out (.int .i64 rr) (.int .i64 ff) (.int .i64 c4))
                        have HF3 := hi (show FZ w (((V1.setCell ⟨N, 0, none⟩ (.int .i64 rr)).setCell ⟨N, 1, none⟩ (.int .i64 ff)).setCell ⟨N, 2, none⟩ (.int .i64 c4)) from HF1.out.put3 hN1.1 _ _ _)
                        have HR3 := hi (HR1.out.other3 (show R ≠ N by omega) (.int .i64 rr) (.int .i64 ff) (.int .i64 c4))
                        rw [hw1']
                        obtain ⟨V2, hV2⟩ : ∃ V2, ((V1.setCell ⟨N, 0, none⟩ (.int .i64 rr)).setCell ⟨N, 1, none⟩ (.int .i64 ff)).setCell ⟨N, 2, none⟩ (.int .i64 c4) = V2 := ⟨_, rfl⟩
                        rw [hV2] at HN2 HF3 HR3 ⊢
                        clear hV2 hHeld hw1' hc4
                        go_wp2
                        have HS18 := hi (And.intro HN2.out.drew HR3.out.drew)
                        refine wp_region_noPanic ?_
                        refine wp_region_last_drew (S := (fun W' => CB W' N 70 #[.int .i64 rr, .int .i64 ff, .int .i64 c4] ∧ CB W' R 184 #[.int .i64 fr, .int .i64 to, .int .i64 4, .int .i64 rr, .int .i64 ff, .int .i64 oo, .int .i64 1])) [14] (by kernel_rfl) HS18.out (fun hHeld => ?_)
                        (try simp only [Array.replicate_succ, Array.replicate_zero, List.push_toArray, List.nil_append, List.cons_append])
                        refine wpAnyF_take (i := 0) (v := ?_) (by kernel_rfl) (by kernel_rfl) rfl (by kernel_rfl) (by kernel_rfl) (by kernel_rfl) (fun _ _ _ h => h) (Or.inl ⟨by rfl, ?_⟩) (by assumption) ?_
                        rotate_left
                        · intro w' hSw; (try dsimp only at hSw); obtain ⟨hs1, hs2⟩ := hSw; have y0 := hs1.cell 0; have y1 := hs1.cell 1; have y2 := hs1.cell 2; obtain ⟨d0, d1, d2, d3, d4, d5, d6⟩ := CB.rrc (x := ⟨fr, to, 4, rr, ff, oo, 1⟩) hs2; dsimp only at d0 d1 d2 d3 d4 d5 d6; go_simp; (try with_reducible rfl)
                        (try simp only [Act.put, List.getElem_toArray, List.getElem_cons_zero, List.setIfInBounds_toArray, List.set_cons_zero, List.set_cons_succ])
                        refine wpAnyF_take (i := 1) (v := ?_) (by kernel_rfl) (by kernel_rfl) rfl (by kernel_rfl) (by kernel_rfl) (by kernel_rfl) (fun _ _ _ h => h) (Or.inl ⟨by rfl, ?_⟩) (by assumption) ?_
                        rotate_left
                        · intro w' hSw; (try dsimp only at hSw); obtain ⟨hs1, hs2⟩ := hSw; have y0 := hs1.cell 0; have y1 := hs1.cell 1; have y2 := hs1.cell 2; obtain ⟨d0, d1, d2, d3, d4, d5, d6⟩ := CB.rrc (x := ⟨fr, to, 4, rr, ff, oo, 1⟩) hs2; dsimp only at d0 d1 d2 d3 d4 d5 d6; go_simp; (try with_reducible rfl)
                        (try simp only [Act.put, List.getElem_toArray, List.getElem_cons_zero, List.getElem_cons_succ, List.setIfInBounds_toArray, List.set_cons_zero, List.set_cons_succ])
                        refine wpAnyF_take (i := 2) (v := ?_) (by kernel_rfl) (by kernel_rfl) rfl (by kernel_rfl) (by kernel_rfl) (by kernel_rfl) (fun _ _ _ h => h) (Or.inl ⟨by rfl, ?_⟩) (by assumption) ?_
                        rotate_left
                        · intro w' hSw; (try dsimp only at hSw); obtain ⟨hs1, hs2⟩ := hSw; have y0 := hs1.cell 0; have y1 := hs1.cell 1; have y2 := hs1.cell 2; obtain ⟨d0, d1, d2, d3, d4, d5, d6⟩ := CB.rrc (x := ⟨fr, to, 4, rr, ff, oo, 1⟩) hs2; dsimp only at d0 d1 d2 d3 d4 d5 d6; go_simp; (try with_reducible rfl)
                        (try simp only [Act.put, List.getElem_toArray, List.getElem_cons_zero, List.getElem_cons_succ, List.setIfInBounds_toArray, List.set_cons_zero, List.set_cons_succ])
                        refine wpAnyF_take (i := 3) (v := ?_) (by kernel_rfl) (by kernel_rfl) rfl (by kernel_rfl) (by kernel_rfl) (by kernel_rfl) (fun _ _ _ h => h) (Or.inl ⟨by rfl, ?_⟩) (by assumption) ?_
                        rotate_left
                        · intro w' hSw; (try dsimp only at hSw); obtain ⟨hs1, hs2⟩ := hSw; have y0 := hs1.cell 0; have y1 := hs1.cell 1; have y2 := hs1.cell 2; obtain ⟨d0, d1, d2, d3, d4, d5, d6⟩ := CB.rrc (x := ⟨fr, to, 4, rr, ff, oo, 1⟩) hs2; dsimp only at d0 d1 d2 d3 d4 d5 d6; go_simp; (try with_reducible rfl)
                        (try simp only [Act.put, List.getElem_toArray, List.getElem_cons_zero, List.getElem_cons_succ, List.setIfInBounds_toArray, List.set_cons_zero, List.set_cons_succ])
                        refine wpAnyF_take (i := 4) (v := ?_) (by kernel_rfl) (by kernel_rfl) rfl (by kernel_rfl) (by kernel_rfl) (by kernel_rfl) (fun _ _ _ h => h) (Or.inl ⟨by rfl, ?_⟩) (by assumption) ?_
                        rotate_left
                        · intro w' hSw; (try dsimp only at hSw); obtain ⟨hs1, hs2⟩ := hSw; have y0 := hs1.cell 0; have y1 := hs1.cell 1; have y2 := hs1.cell 2; obtain ⟨d0, d1, d2, d3, d4, d5, d6⟩ := CB.rrc (x := ⟨fr, to, 4, rr, ff, oo, 1⟩) hs2; dsimp only at d0 d1 d2 d3 d4 d5 d6; go_simp; (try with_reducible rfl)
                        (try simp only [Act.put, List.getElem_toArray, List.getElem_cons_zero, List.getElem_cons_succ, List.setIfInBounds_toArray, List.set_cons_zero, List.set_cons_succ])
                        refine wpAnyF_take (i := 5) (v := ?_) (by kernel_rfl) (by kernel_rfl) rfl (by kernel_rfl) (by kernel_rfl) (by kernel_rfl) (fun _ _ _ h => h) (Or.inl ⟨by rfl, ?_⟩) (by assumption) ?_
                        rotate_left
                        · intro w' hSw; (try dsimp only at hSw); obtain ⟨hs1, hs2⟩ := hSw; have y0 := hs1.cell 0; have y1 := hs1.cell 1; have y2 := hs1.cell 2; obtain ⟨d0, d1, d2, d3, d4, d5, d6⟩ := CB.rrc (x := ⟨fr, to, 4, rr, ff, oo, 1⟩) hs2; dsimp only at d0 d1 d2 d3 d4 d5 d6; go_simp; (try with_reducible rfl)
                        (try simp only [Act.put, List.getElem_toArray, List.getElem_cons_zero, List.getElem_cons_succ, List.setIfInBounds_toArray, List.set_cons_zero, List.set_cons_succ])
                        refine wpAnyF_take (i := 6) (v := ?_) (by kernel_rfl) (by kernel_rfl) rfl (by kernel_rfl) (by kernel_rfl) (by kernel_rfl) (fun _ _ _ h => h) (Or.inl ⟨by rfl, ?_⟩) (by assumption) ?_
                        rotate_left
                        · intro w' hSw; (try dsimp only at hSw); obtain ⟨hs1, hs2⟩ := hSw; have y0 := hs1.cell 0; have y1 := hs1.cell 1; have y2 := hs1.cell 2; obtain ⟨d0, d1, d2, d3, d4, d5, d6⟩ := CB.rrc (x := ⟨fr, to, 4, rr, ff, oo, 1⟩) hs2; dsimp only at d0 d1 d2 d3 d4 d5 d6; go_simp; (try with_reducible rfl)
                        (try simp only [Act.put, List.getElem_toArray, List.getElem_cons_zero, List.getElem_cons_succ, List.setIfInBounds_toArray, List.set_cons_zero, List.set_cons_succ])
                        refine wpAnyF_take (i := 7) (v := ?_) (by kernel_rfl) (by kernel_rfl) rfl (by kernel_rfl) (by kernel_rfl) (by kernel_rfl) (fun _ _ _ h => h) (Or.inl ⟨by rfl, ?_⟩) (by assumption) ?_
                        rotate_left
                        · intro w' hSw; (try dsimp only at hSw); obtain ⟨hs1, hs2⟩ := hSw; have y0 := hs1.cell 0; have y1 := hs1.cell 1; have y2 := hs1.cell 2; obtain ⟨d0, d1, d2, d3, d4, d5, d6⟩ := CB.rrc (x := ⟨fr, to, 4, rr, ff, oo, 1⟩) hs2; dsimp only at d0 d1 d2 d3 d4 d5 d6; go_simp; (try with_reducible rfl)
                        (try simp only [Act.put, List.getElem_toArray, List.getElem_cons_zero, List.getElem_cons_succ, List.setIfInBounds_toArray, List.set_cons_zero, List.set_cons_succ])
                        refine wpAnyF_take (i := 8) (v := ?_) (by kernel_rfl) (by kernel_rfl) rfl (by kernel_rfl) (by kernel_rfl) (by kernel_rfl) (fun _ _ _ h => h) (Or.inl ⟨by rfl, ?_⟩) (by assumption) ?_
                        rotate_left
                        · intro w' hSw; (try dsimp only at hSw); obtain ⟨hs1, hs2⟩ := hSw; have y0 := hs1.cell 0; have y1 := hs1.cell 1; have y2 := hs1.cell 2; obtain ⟨d0, d1, d2, d3, d4, d5, d6⟩ := CB.rrc (x := ⟨fr, to, 4, rr, ff, oo, 1⟩) hs2; dsimp only at d0 d1 d2 d3 d4 d5 d6; go_simp; (try with_reducible rfl)
                        (try simp only [Act.put, List.getElem_toArray, List.getElem_cons_zero, List.getElem_cons_succ, List.setIfInBounds_toArray, List.set_cons_zero, List.set_cons_succ])
                        refine wpAnyF_take (i := 9) (v := ?_) (by kernel_rfl) (by kernel_rfl) rfl (by kernel_rfl) (by kernel_rfl) (by kernel_rfl) (fun _ _ _ h => h) (Or.inl ⟨by rfl, ?_⟩) (by assumption) ?_
                        rotate_left
                        · intro w' hSw; (try dsimp only at hSw); obtain ⟨hs1, hs2⟩ := hSw; have y0 := hs1.cell 0; have y1 := hs1.cell 1; have y2 := hs1.cell 2; obtain ⟨d0, d1, d2, d3, d4, d5, d6⟩ := CB.rrc (x := ⟨fr, to, 4, rr, ff, oo, 1⟩) hs2; dsimp only at d0 d1 d2 d3 d4 d5 d6; go_simp; (try with_reducible rfl)
                        (try simp only [Act.put, List.getElem_toArray, List.getElem_cons_zero, List.getElem_cons_succ, List.setIfInBounds_toArray, List.set_cons_zero, List.set_cons_succ])
                        refine wpAnyF_take (i := 10) (v := ?_) (by kernel_rfl) (by kernel_rfl) rfl (by kernel_rfl) (by kernel_rfl) (by kernel_rfl) (fun _ _ _ h => h) (Or.inl ⟨by rfl, ?_⟩) (by assumption) ?_
                        rotate_left
                        · intro w' hSw; (try dsimp only at hSw); obtain ⟨hs1, hs2⟩ := hSw; have y0 := hs1.cell 0; have y1 := hs1.cell 1; have y2 := hs1.cell 2; obtain ⟨d0, d1, d2, d3, d4, d5, d6⟩ := CB.rrc (x := ⟨fr, to, 4, rr, ff, oo, 1⟩) hs2; dsimp only at d0 d1 d2 d3 d4 d5 d6; go_simp; (try with_reducible rfl)
                        (try simp only [Act.put, List.getElem_toArray, List.getElem_cons_zero, List.getElem_cons_succ, List.setIfInBounds_toArray, List.set_cons_zero, List.set_cons_succ])
                        refine wpAnyF_take (i := 11) (v := ?_) (by kernel_rfl) (by kernel_rfl) rfl (by kernel_rfl) (by kernel_rfl) (by kernel_rfl) (fun _ _ _ h => h) (Or.inl ⟨by rfl, ?_⟩) (by assumption) ?_
                        rotate_left
                        · intro w' hSw; (try dsimp only at hSw); obtain ⟨hs1, hs2⟩ := hSw; have y0 := hs1.cell 0; have y1 := hs1.cell 1; have y2 := hs1.cell 2; obtain ⟨d0, d1, d2, d3, d4, d5, d6⟩ := CB.rrc (x := ⟨fr, to, 4, rr, ff, oo, 1⟩) hs2; dsimp only at d0 d1 d2 d3 d4 d5 d6; go_simp; (try with_reducible rfl)
                        (try simp only [Act.put, List.getElem_toArray, List.getElem_cons_zero, List.getElem_cons_succ, List.setIfInBounds_toArray, List.set_cons_zero, List.set_cons_succ])
                        refine wpAnyF_take (i := 12) (v := ?_) (by kernel_rfl) (by kernel_rfl) rfl (by kernel_rfl) (by kernel_rfl) (by kernel_rfl) (fun _ _ _ h => h) (Or.inl ⟨by rfl, ?_⟩) (by assumption) ?_
                        rotate_left
                        · intro w' hSw; (try dsimp only at hSw); obtain ⟨hs1, hs2⟩ := hSw; have y0 := hs1.cell 0; have y1 := hs1.cell 1; have y2 := hs1.cell 2; obtain ⟨d0, d1, d2, d3, d4, d5, d6⟩ := CB.rrc (x := ⟨fr, to, 4, rr, ff, oo, 1⟩) hs2; dsimp only at d0 d1 d2 d3 d4 d5 d6; go_simp; (try with_reducible rfl)
                        (try simp only [Act.put, List.getElem_toArray, List.getElem_cons_zero, List.getElem_cons_succ, List.setIfInBounds_toArray, List.set_cons_zero, List.set_cons_succ])
                        refine wpAnyF_take (i := 13) (v := ?_) (by kernel_rfl) (by kernel_rfl) rfl (by kernel_rfl) (by kernel_rfl) (by kernel_rfl) (fun _ _ _ h => h) (Or.inl ⟨by rfl, ?_⟩) (by assumption) ?_
                        rotate_left
                        · intro w' hSw; (try dsimp only at hSw); obtain ⟨hs1, hs2⟩ := hSw; have y0 := hs1.cell 0; have y1 := hs1.cell 1; have y2 := hs1.cell 2; obtain ⟨d0, d1, d2, d3, d4, d5, d6⟩ := CB.rrc (x := ⟨fr, to, 4, rr, ff, oo, 1⟩) hs2; dsimp only at d0 d1 d2 d3 d4 d5 d6; go_simp; (try with_reducible rfl)
                        (try simp only [Act.put, List.getElem_toArray, List.getElem_cons_zero, List.getElem_cons_succ, List.setIfInBounds_toArray, List.set_cons_zero, List.set_cons_succ])
                        refine wpAnyF_ready (rs := [14]) (by kernel_rfl) (by simp) ?_
                        refine AllReadyF.last (by kernel_rfl) rfl (fun KK hKK => ?_) AllReadyF.nil
                        have y1 := HN2.out.cell 1
                        have yf := HN2.out.frozen 1
                        have y1' : V2.drew.cell? ⟨N, 1, none⟩ = some (.int .i64 ff) := y1
                        have yf' : V2.drew.frozen? ⟨N, 1, none⟩ = false := yf
                        go_simp
                        refine hKK.out _ _ ?_
                        clear hKK KK
                        (try simp only [Act.put, List.getElem_toArray, List.getElem_cons_zero, List.getElem_cons_succ, List.setIfInBounds_toArray, List.set_cons_zero, List.set_cons_succ])
                        refine wpAnyF_done (by kernel_rfl) ?_ _
                        refine NoPanic.normal ?_
                        have HN4 := hi (show CB (V2.setCell ⟨N, 1, none⟩ (.int .i64 (ff + T))).drew N 70 #[.int .i64 rr, .int .i64 (ff + T), .int .i64 c4] from (HN2.out.set3m (.int .i64 (ff + T))).drew)
                        have HF2 := hi ((HF3.out.set1 (o := 1) hN1.1 (.int .i64 (ff + T))).drew)
                        obtain ⟨V4, hV4⟩ : ∃ V4, (V2.setCell ⟨N, 1, none⟩ (.int .i64 (ff + T))).drew = V4 := ⟨_, rfl⟩
                        rw [hV4] at HN4 HF2 ⊢
                        clear hV4 hHeld HS18
                        have y0 := HN4.out.cell 0
                        have y1 := HN4.out.cell 1
                        have y2 := HN4.out.cell 2
                        have z0 := HF2.out.z.cell 0
                        have z1 := HF2.out.z.cell 1
                        have z2 := HF2.out.z.cell 2
                        have zf := HF2.out.z.frozen
                        go_wp2
                        exact bodyPost_ret (results_pl rfl _ _ w.heap.size ⟨rr, ff + T, c4⟩ (.int .i64 0) rfl rfl (CB.put3 HF2.out.z _ _ _)) rfl ⟨by rw [HG.out, HV.out, HPV.out], below_put3 HF2.out.below (Nat.le_refl _) _ _ _⟩
                      · exact absurd hw (by decide)
                      · exact absurd hw (by decide)
                    · have HV := hi (HG.out.trans (goV_bad hmt (fun e => hww e.symm)))
                      have hne : ((4 : Int) != wd) = true := by simp; omega
                      go_wp2
                      exact bodyPost_ret (results_pl rfl _ _ w.heap.size Pl.zero (.int .i64 40) rfl rfl (CB.put3 HX2.out.z _ _ _)) rfl ⟨by rw [HV.out], below_put3 HX2.out.below (Nat.le_refl _) _ _ _⟩
              · obtain rfl : d = 4 := by omega
                have HV := hi (HG.out.trans (goV_no (HN.out.meets hft (by decide))))
                go_wp2
                go_roundw
                case rel => exact ⟨k + 1, by omega, by go_num, hi ⟨HX2.out, HV.out⟩⟩
                case measure => simp only [intOf]; omega
          · obtain rfl : k = xs.length := by omega
            have HV := hi (show goV off 4 xs = (Pl.zero, 0) by rw [HX.out.2, List.drop_length]; rfl)
            have z0 := HX.out.1.z.cell 0
            have z1 := HX.out.1.z.cell 1
            have z2 := HX.out.1.z.cell 2
            have zf := HX.out.1.z.frozen
            go_wp2
            exact bodyPost_ret (results_pl rfl _ _ w.heap.size Pl.zero (.int .i64 0) rfl rfl (CB.put3 HX.out.1.z _ _ _)) rfl ⟨by rw [HV.out], below_put3 HX.out.1.below (Nat.le_refl _) _ _ _⟩
  · rw [if_pos hm]
    have hq : (off.tmod 4 != 0) = true := by simpa using hm
    go_enter Tryz.func92, Tryz.ntmps92
    go_wp2
    exact bodyPost_ret (results_pl rfl _ _ w.heap.size Pl.zero (.int .i64 41) rfl rfl (CB.new w _ _)) rfl ⟨rfl, bal w _⟩
set_option maxRecDepth 100000 in
set_option maxHeartbeats 16000000 in
theorem find8_any (g cap : Nat) (xs : List Rr) (sz off : Int) (w : World) (h : Row w g 184 (flR xs)) (hall : xs.all rowOk2 = true) (hn : xs.length ≤ 100) (hs0 : 8 ≤ sz) (hs1 : sz ≤ 200000) (ho : Int64 off) :
    Calls Tryz.prog 92 #[.slice (some ⟨g, 0, none⟩) xs.length cap, .int .i64 sz, .int .i64 off, .int .i64 8] w (Finds w (findV xs sz off 8)) := by
  obtain ⟨h1, h2⟩ := ho
  unfold findV
  rw [if_neg (by decide)]
  by_cases hm : off.tmod 8 = 0
  · rw [if_neg (by simpa using hm)]
    have hq : (off.tmod 8 != 0) = false := by simpa using hm
    by_cases hneg : off < 0
    · rw [if_pos (.inl hneg)]
      go_enter Tryz.func92, Tryz.ntmps92
      go_wp2
      exact bodyPost_ret (results_pl rfl _ _ w.heap.size Pl.zero (.int .i64 42) rfl rfl (CB.new w _ _)) rfl ⟨rfl, bal w _⟩
    · by_cases hbig : sz - 8 < off
      · rw [if_pos (.inr hbig)]
        go_enter Tryz.func92, Tryz.ntmps92
        go_wp2
        exact bodyPost_ret (results_pl rfl _ _ w.heap.size Pl.zero (.int .i64 42) rfl rfl (CB.new w _ _)) rfl ⟨rfl, bal w _⟩
      · rw [if_neg (by omega)]
        have hm4 : off % 8 = 0 := by rw [Int.tmod_eq_emod_of_nonneg (by omega)] at hm; exact hm
        have H0 := hi (show FA w g xs (w.alloc (.cells #[.int .i64 0, .int .i64 0, .int .i64 0] 70)) from ⟨CB.new w _ _, h.below (bal w _), bal w _⟩)
        have hw4 : IntKind.i64.wrap (off + 8) = off + 8 := by rw [IntKind.wrap_i64]; omega
        have hneg0 : 0 ≤ off := by omega
        have hoff : off ≤ 200000 := by omega
        clear hm h
        go_enter Tryz.func92, Tryz.ntmps92
        go_wp2
        go_loopw [10] (fun i wr => ∃ k : Nat, k ≤ xs.length ∧ i = .int .i64 k ∧ Hi (FA w g xs wr ∧ goV off 8 xs = goV off 8 (xs.drop k))) (fun i _ => xs.length - (intOf i).toNat)
        case atStart => exact ⟨0, Nat.zero_le _, rfl, hi ⟨H0.out, rfl⟩⟩
        case round =>
          obtain ⟨k, hk, rfl, HX⟩ := hrel
          clear H0
          by_cases hlt : k < xs.length
          · have hok := nth_ok2 hall hlt
            have HG := hi (HX.out.2.trans (by rw [drop_nth hlt]))
            have HRC := hi (HX.out.1.row.rrc (nthR_at (xs := xs) (k := k) hlt))
            obtain ⟨x, hx⟩ : ∃ x, nthR xs k = x := ⟨_, rfl⟩
            rw [hx] at hok HRC HG
            obtain ⟨d0, d1, d2, d3, d4, d5, d6⟩ := HRC.out
            clear hx
            obtain ⟨fr, to, wd, rr, ff, oo, pp⟩ := x
            dsimp only at d0 d1 d2 d3 d4 d5 d6
            simp only [rowOk2, Bool.and_eq_true, Bool.or_eq_true, decide_eq_true_eq, beq_iff_eq] at hok
            have HNB := hi (CB.new wr 184 (Rr.ca ⟨fr, to, wd, rr, ff, oo, pp⟩))
            have HX2 := hi (HX.out.1.later (bal wr (.cells (Rr.ca ⟨fr, to, wd, rr, ff, oo, pp⟩) 184)))
            have hk9 : (k : Int) < xs.length := by omega
            go_wp2
            obtain ⟨wq, hwq⟩ : ∃ wq, wr.alloc (.cells #[.int .i64 fr, .int .i64 to, .int .i64 wd, .int .i64 rr, .int .i64 ff, .int .i64 oo, .int .i64 pp] 184) = wq := ⟨_, rfl⟩
            have hnb : wr.heap.size < wq.heap.size := by rw [← hwq]; simp
            rw [hwq] at HNB HX2 ⊢
            obtain ⟨R, hR⟩ : ∃ R, wr.heap.size = R := ⟨_, rfl⟩
            rw [hR] at HNB hnb ⊢
            clear hwq d0 d1 d2 d3 d4 d5 d6 HRC HX hR
            obtain ⟨hfr0, hft, hto, ho0, ho8, hf0, hf64, hok⟩ := hok
            have HOK := hi hok
            clear hok
            go_loopw [12] (fun i wr2 => ∃ d : Nat, d ≤ 8 ∧ i = .int .i64 (off + (d : Int)) ∧ wr2 = wq ∧ Hi (NoByte ⟨fr, to, wd, rr, ff, oo, pp⟩ off d)) (fun i _ => (off + 8 - intOf i).toNat)
            case atStart => exact ⟨0, by omega, by simp, rfl, hi (NoByte.zero _ _)⟩
            case round =>
              obtain ⟨d, hd, rfl, rfl, HN⟩ := hrel
              obtain ⟨d0, d1, d2, d3, d4, d5, d6⟩ := CB.rrc (x := ⟨fr, to, wd, rr, ff, oo, pp⟩) HNB.out
              dsimp only at d0 d1 d2 d3 d4 d5 d6
              by_cases hdl : d < 8
              · obtain ⟨a, ha⟩ : ∃ a, off + (d : Int) = a := ⟨_, rfl⟩
                have hwd : IntKind.i64.wrap (a + 1) = off + ((d + 1 : Nat) : Int) := by rw [IntKind.wrap_i64]; omega
                have ha4 : a < off + 8 := by omega
                rw [ha]
                by_cases hlo : a < fr
                · have HN2 := hi (HN.out.succ (by show ¬ (fr ≤ off + (d : Int) ∧ off + (d : Int) < to); omega))
                  go_wp2
                  go_roundw
                  case rel => exact ⟨d + 1, by omega, by first | rfl | simp, trivial, HN2⟩
                  case measure => simp only [intOf]; omega
                · by_cases hhi : to ≤ a
                  · have HN2 := hi (HN.out.succ (by show ¬ (fr ≤ off + (d : Int) ∧ off + (d : Int) < to); omega))
                    go_wp2
                    go_roundw
                    case rel => exact ⟨d + 1, by omega, by first | rfl | simp, trivial, HN2⟩
                    case measure => simp only [intOf]; omega
                  · have hmt : meets ⟨fr, to, wd, rr, ff, oo, pp⟩ off 8 = true := meets_at (x := ⟨fr, to, wd, rr, ff, oo, pp⟩) (d := d) (w := 8) (by show fr ≤ off + (d : Int); omega) (by show off + (d : Int) < to; omega) hdl
                    have z0 := HX2.out.z.cell 0
                    have z1 := HX2.out.z.cell 1
                    have z2 := HX2.out.z.cell 2
                    have zf := HX2.out.z.frozen
                    by_cases hww : wd = 8
                    · subst hww
                      rcases HOK.out with ⟨hw, rfl, hal⟩ | ⟨hw, rfl | rfl, hal⟩
                      · exact absurd hw (by decide)
                      · clear hw
                        have hge : fr ≤ off := by omega
                        have HV := hi (goV_yes (xs := xs.drop (k + 1)) (show meets ⟨fr, to, 8, rr, ff, oo, 8⟩ off 8 = true from hmt) rfl)
                        obtain ⟨df, hdf⟩ : ∃ df, off - fr = df := ⟨_, rfl⟩
                        have hdf0 : 0 ≤ df ∧ df ≤ 200000 := by omega
                        obtain ⟨D, hD⟩ : ∃ D, df / 8 = D := ⟨_, rfl⟩
                        have hqd : df.tdiv 8 = D := by rw [Int.tdiv_eq_ediv_of_nonneg hdf0.1, hD]
                        have hD0 : 0 ≤ D ∧ D ≤ 200000 := by omega
                        have hm0 : 0 ≤ D * oo := Int.mul_nonneg hD0.1 ho0
                        have hml : D * oo ≤ D * 32 := Int.mul_le_mul_of_nonneg_left ho8 hD0.1
                        have HPV := hi (show placeV ⟨fr, to, 8, rr, ff, oo, 8⟩ off 8 = ⟨rr, ff + D * oo, 1 * oo⟩ by simp only [placeV, hdf]; rw [hD]; rfl)
                        obtain ⟨T, hT⟩ : ∃ T, D * oo = T := ⟨_, rfl⟩
                        have hw2 : IntKind.i64.wrap df = df := by rw [IntKind.wrap_i64]; omega
                        have hwD : IntKind.i64.wrap D = D := by rw [IntKind.wrap_i64]; omega
                        have hwT : IntKind.i64.wrap (D * oo) = D * oo := by rw [IntKind.wrap_i64]; omega
                        rw [hT] at HPV hm0 hml hwT
                        have hw5 : IntKind.i64.wrap (ff + T) = ff + T := by rw [IntKind.wrap_i64]; omega
                        have hw1 : IntKind.i64.wrap (1 * oo) = 1 * oo := by rw [IntKind.wrap_i64]; omega
                        obtain ⟨c4, hc4⟩ : ∃ c4, 1 * oo = c4 := ⟨_, rfl⟩
                        rw [hc4] at hw1 HPV
                        have hq4 : (8 : Int).tdiv 8 = 1 := by decide
                        have HNB4 := hi (show CB wr R 184 #[.int .i64 fr, .int .i64 to, .int .i64 8, .int .i64 rr, .int .i64 ff, .int .i64 oo, .int .i64 8] from HNB.out)
                        clear hml hD0 hdf0 hwd ha4
                        go_wp2
                        have HFD := hi HX2.out.fz.drew
                        have hS17 : (fun W' => CB W' R 184 #[.int .i64 fr, .int .i64 to, .int .i64 8, .int .i64 rr, .int .i64 ff, .int .i64 oo, .int .i64 8]) wr.drew := HNB4.out.drew
                        obtain ⟨wd, hwd'⟩ : ∃ wd, wr.drew = wd := ⟨_, rfl⟩
                        rw [hwd'] at HFD
                        refine wp_region_noPanic ?_
                        refine wp_region_last_drew (S := (fun W' => CB W' R 184 #[.int .i64 fr, .int .i64 to, .int .i64 8, .int .i64 rr, .int .i64 ff, .int .i64 oo, .int .i64 8])) [13] (by kernel_rfl) hS17 (fun hHeld => ?_)
                        rw [hwd'] at hHeld ⊢
                        clear hwd' hS17
                        (try simp only [Array.replicate_succ, Array.replicate_zero, List.push_toArray, List.nil_append, List.cons_append])
                        refine wpAnyF_take (i := 0) (v := ?_) (by kernel_rfl) (by kernel_rfl) rfl (by kernel_rfl) (by kernel_rfl) (by kernel_rfl) (fun _ _ _ h => h) (Or.inl ⟨by rfl, ?_⟩) (by assumption) ?_
                        rotate_left
                        · intro w' hSw; (try dsimp only at hSw); obtain ⟨d0, d1, d2, d3, d4, d5, d6⟩ := CB.rrc (x := ⟨fr, to, 8, rr, ff, oo, 8⟩) hSw; dsimp only at d0 d1 d2 d3 d4 d5 d6; go_simp; (try with_reducible rfl)
                        (try simp only [Act.put, List.getElem_toArray, List.getElem_cons_zero, List.setIfInBounds_toArray, List.set_cons_zero, List.set_cons_succ])
                        refine wpAnyF_take (i := 1) (v := ?_) (by kernel_rfl) (by kernel_rfl) rfl (by kernel_rfl) (by kernel_rfl) (by kernel_rfl) (fun _ _ _ h => h) (Or.inl ⟨by rfl, ?_⟩) (by assumption) ?_
                        rotate_left
                        · intro w' hSw; (try dsimp only at hSw); obtain ⟨d0, d1, d2, d3, d4, d5, d6⟩ := CB.rrc (x := ⟨fr, to, 8, rr, ff, oo, 8⟩) hSw; dsimp only at d0 d1 d2 d3 d4 d5 d6; go_simp; (try with_reducible rfl)
                        (try simp only [Act.put, List.getElem_toArray, List.getElem_cons_zero, List.getElem_cons_succ, List.setIfInBounds_toArray, List.set_cons_zero, List.set_cons_succ])
                        refine wpAnyF_take (i := 2) (v := ?_) (by kernel_rfl) (by kernel_rfl) rfl (by kernel_rfl) (by kernel_rfl) (by kernel_rfl) (fun _ _ _ h => h) (Or.inl ⟨by rfl, ?_⟩) (by assumption) ?_
                        rotate_left
                        · intro w' hSw; (try dsimp only at hSw); obtain ⟨d0, d1, d2, d3, d4, d5, d6⟩ := CB.rrc (x := ⟨fr, to, 8, rr, ff, oo, 8⟩) hSw; dsimp only at d0 d1 d2 d3 d4 d5 d6; go_simp; (try with_reducible rfl)
                        (try simp only [Act.put, List.getElem_toArray, List.getElem_cons_zero, List.getElem_cons_succ, List.setIfInBounds_toArray, List.set_cons_zero, List.set_cons_succ])
                        refine wpAnyF_take (i := 3) (v := ?_) (by kernel_rfl) (by kernel_rfl) rfl (by kernel_rfl) (by kernel_rfl) (by kernel_rfl) (fun _ _ _ h => h) (Or.inl ⟨by rfl, ?_⟩) (by assumption) ?_
                        rotate_left
                        · intro w' hSw; (try dsimp only at hSw); obtain ⟨d0, d1, d2, d3, d4, d5, d6⟩ := CB.rrc (x := ⟨fr, to, 8, rr, ff, oo, 8⟩) hSw; dsimp only at d0 d1 d2 d3 d4 d5 d6; go_simp; (try with_reducible rfl)
                        (try simp only [Act.put, List.getElem_toArray, List.getElem_cons_zero, List.getElem_cons_succ, List.setIfInBounds_toArray, List.set_cons_zero, List.set_cons_succ])
                        refine wpAnyF_take (i := 4) (v := ?_) (by kernel_rfl) (by kernel_rfl) rfl (by kernel_rfl) (by kernel_rfl) (by kernel_rfl) (fun _ _ _ h => h) (Or.inl ⟨by rfl, ?_⟩) (by assumption) ?_
                        rotate_left
                        · intro w' hSw; (try dsimp only at hSw); obtain ⟨d0, d1, d2, d3, d4, d5, d6⟩ := CB.rrc (x := ⟨fr, to, 8, rr, ff, oo, 8⟩) hSw; dsimp only at d0 d1 d2 d3 d4 d5 d6; go_simp; (try with_reducible rfl)
                        (try simp only [Act.put, List.getElem_toArray, List.getElem_cons_zero, List.getElem_cons_succ, List.setIfInBounds_toArray, List.set_cons_zero, List.set_cons_succ])
                        refine wpAnyF_take (i := 5) (v := ?_) (by kernel_rfl) (by kernel_rfl) rfl (by kernel_rfl) (by kernel_rfl) (by kernel_rfl) (fun _ _ _ h => h) (Or.inl ⟨by rfl, ?_⟩) (by assumption) ?_
                        rotate_left
                        · intro w' hSw; (try dsimp only at hSw); obtain ⟨d0, d1, d2, d3, d4, d5, d6⟩ := CB.rrc (x := ⟨fr, to, 8, rr, ff, oo, 8⟩) hSw; dsimp only at d0 d1 d2 d3 d4 d5 d6; go_simp; (try with_reducible rfl)
                        (try simp only [Act.put, List.getElem_toArray, List.getElem_cons_zero, List.getElem_cons_succ, List.setIfInBounds_toArray, List.set_cons_zero, List.set_cons_succ])
                        refine wpAnyF_take (i := 6) (v := ?_) (by kernel_rfl) (by kernel_rfl) rfl (by kernel_rfl) (by kernel_rfl) (by kernel_rfl) (fun _ _ _ h => h) (Or.inl ⟨by rfl, ?_⟩) (by assumption) ?_
                        rotate_left
                        · intro w' hSw; (try dsimp only at hSw); obtain ⟨d0, d1, d2, d3, d4, d5, d6⟩ := CB.rrc (x := ⟨fr, to, 8, rr, ff, oo, 8⟩) hSw; dsimp only at d0 d1 d2 d3 d4 d5 d6; go_simp; (try with_reducible rfl)
                        (try simp only [Act.put, List.getElem_toArray, List.getElem_cons_zero, List.getElem_cons_succ, List.setIfInBounds_toArray, List.set_cons_zero, List.set_cons_succ])
                        refine wpAnyF_take (i := 7) (v := ?_) (by kernel_rfl) (by kernel_rfl) rfl (by kernel_rfl) (by kernel_rfl) (by kernel_rfl) (fun _ _ _ h => h) (Or.inl ⟨by rfl, ?_⟩) (by assumption) ?_
                        rotate_left
                        · intro w' hSw; (try dsimp only at hSw); obtain ⟨d0, d1, d2, d3, d4, d5, d6⟩ := CB.rrc (x := ⟨fr, to, 8, rr, ff, oo, 8⟩) hSw; dsimp only at d0 d1 d2 d3 d4 d5 d6; go_simp; (try with_reducible rfl)
                        (try simp only [Act.put, List.getElem_toArray, List.getElem_cons_zero, List.getElem_cons_succ, List.setIfInBounds_toArray, List.set_cons_zero, List.set_cons_succ])
                        refine wpAnyF_take (i := 8) (v := ?_) (by kernel_rfl) (by kernel_rfl) rfl (by kernel_rfl) (by kernel_rfl) (by kernel_rfl) (fun _ _ _ h => h) (Or.inl ⟨by rfl, ?_⟩) (by assumption) ?_
                        rotate_left
                        · intro w' hSw; (try dsimp only at hSw); obtain ⟨d0, d1, d2, d3, d4, d5, d6⟩ := CB.rrc (x := ⟨fr, to, 8, rr, ff, oo, 8⟩) hSw; dsimp only at d0 d1 d2 d3 d4 d5 d6; go_simp; (try with_reducible rfl)
                        (try simp only [Act.put, List.getElem_toArray, List.getElem_cons_zero, List.getElem_cons_succ, List.setIfInBounds_toArray, List.set_cons_zero, List.set_cons_succ])
                        refine wpAnyF_take (i := 9) (v := ?_) (by kernel_rfl) (by kernel_rfl) rfl (by kernel_rfl) (by kernel_rfl) (by kernel_rfl) (fun _ _ _ h => h) (Or.inl ⟨by rfl, ?_⟩) (by assumption) ?_
                        rotate_left
                        · intro w' hSw; (try dsimp only at hSw); obtain ⟨d0, d1, d2, d3, d4, d5, d6⟩ := CB.rrc (x := ⟨fr, to, 8, rr, ff, oo, 8⟩) hSw; dsimp only at d0 d1 d2 d3 d4 d5 d6; go_simp; (try with_reducible rfl)
                        (try simp only [Act.put, List.getElem_toArray, List.getElem_cons_zero, List.getElem_cons_succ, List.setIfInBounds_toArray, List.set_cons_zero, List.set_cons_succ])
                        refine wpAnyF_take (i := 10) (v := ?_) (by kernel_rfl) (by kernel_rfl) rfl (by kernel_rfl) (by kernel_rfl) (by kernel_rfl) (fun _ _ _ h => h) (Or.inl ⟨by rfl, ?_⟩) (by assumption) ?_
                        rotate_left
                        · intro w' hSw; (try dsimp only at hSw); obtain ⟨d0, d1, d2, d3, d4, d5, d6⟩ := CB.rrc (x := ⟨fr, to, 8, rr, ff, oo, 8⟩) hSw; dsimp only at d0 d1 d2 d3 d4 d5 d6; go_simp; (try with_reducible rfl)
                        (try simp only [Act.put, List.getElem_toArray, List.getElem_cons_zero, List.getElem_cons_succ, List.setIfInBounds_toArray, List.set_cons_zero, List.set_cons_succ])
                        refine wpAnyF_take (i := 11) (v := ?_) (by kernel_rfl) (by kernel_rfl) rfl (by kernel_rfl) (by kernel_rfl) (by kernel_rfl) (fun _ _ _ h => h) (Or.inl ⟨by rfl, ?_⟩) (by assumption) ?_
                        rotate_left
                        · intro w' hSw; (try dsimp only at hSw); obtain ⟨d0, d1, d2, d3, d4, d5, d6⟩ := CB.rrc (x := ⟨fr, to, 8, rr, ff, oo, 8⟩) hSw; dsimp only at d0 d1 d2 d3 d4 d5 d6; go_simp; (try with_reducible rfl)
                        (try simp only [Act.put, List.getElem_toArray, List.getElem_cons_zero, List.getElem_cons_succ, List.setIfInBounds_toArray, List.set_cons_zero, List.set_cons_succ])
                        refine wpAnyF_ready (rs := [12]) (by kernel_rfl) (by simp) ?_
                        refine AllReadyF.cons rfl (fun KK hKK => ?_) AllReadyF.nil
                        go_simp
                        have HF1 := hi (HFD.out.later (bal wd (.cells #[.int .i64 0, .int .i64 0, .int .i64 0] 70)))
                        have HR1 := hi (CB.below hHeld (bal wd (.cells #[.int .i64 0, .int .i64 0, .int .i64 0] 70)))
                        have HZ1 := hi (CB.new wd 70 #[.int .i64 0, .int .i64 0, .int .i64 0])
                        obtain ⟨V1, hV1⟩ : ∃ V1, wd.alloc (.cells #[.int .i64 0, .int .i64 0, .int .i64 0] 70) = V1 := ⟨_, rfl⟩
                        rw [hV1] at HF1 HR1 HZ1 ⊢
                        obtain ⟨N, hN⟩ : ∃ N, wd.heap.size = N := ⟨_, rfl⟩
                        have hN1 : w.heap.size < N ∧ R < N := by have h9 := HFD.out.z.lt; have h8 := CB.lt hHeld; omega
                        rw [hN] at HZ1 ⊢
                        clear hV1 hN
                        refine hKK.out _ _ HR1.out (fun hHeld => ?_)
                        clear hKK KK
                        (try simp only [Act.put, List.getElem_toArray, List.getElem_cons_zero, List.getElem_cons_succ, List.setIfInBounds_toArray, List.set_cons_zero, List.set_cons_succ])
                        refine wpAnyF_ready (rs := [13]) (by kernel_rfl) (by simp) ?_
                        refine AllReadyF.last (by kernel_rfl) rfl (fun KK hKK => ?_) AllReadyF.nil
                        have y0 := HZ1.out.cell 0
                        have y1 := HZ1.out.cell 1
                        have y2 := HZ1.out.cell 2
                        have yf := HZ1.out.frozen
                        go_simp
                        refine hKK.out _ _ ?_
                        clear hKK KK
                        (try simp only [Act.put, List.getElem_toArray, List.getElem_cons_zero, List.getElem_cons_succ, List.setIfInBounds_toArray, List.set_cons_zero, List.set_cons_succ])
                        refine wpAnyF_done (by kernel_rfl) ?_ _
                        refine NoPanic.normal ?_
                        have hw1' : IntKind.i64.wrap (IntKind.i64.wrap 1 * oo) = c4 := by rw [show IntKind.i64.wrap 1 = 1 from by decide, hc4]; exact hw1
                        have HN2 := hi (CB.put3 HZ1.out (.int .i64 rr) (.int .i64 ff) (.int .i64 c4))
                        have HF3 := hi (show FZ w (((V1.setCell ⟨N, 0, none⟩ (.int .i64 rr)).setCell ⟨N, 1, none⟩ (.int .i64 ff)).setCell ⟨N, 2, none⟩ (.int .i64 c4)) from HF1.out.put3 hN1.1 _ _ _)
                        have HR3 := hi (HR1.out.other3 (show R ≠ N by omega) (.int .i64 rr) (.int .i64 ff) (.int .i64 c4))
                        rw [hw1']
                        obtain ⟨V2, hV2⟩ : ∃ V2, ((V1.setCell ⟨N, 0, none⟩ (.int .i64 rr)).setCell ⟨N, 1, none⟩ (.int .i64 ff)).setCell ⟨N, 2, none⟩ (.int .i64 c4) = V2 := ⟨_, rfl⟩
                        rw [hV2] at HN2 HF3 HR3 ⊢
                        clear hV2 hHeld hw1' hc4
                        go_wp2
                        have HS18 := hi (And.intro HN2.out.drew HR3.out.drew)
                        refine wp_region_noPanic ?_
                        refine wp_region_last_drew (S := (fun W' => CB W' N 70 #[.int .i64 rr, .int .i64 ff, .int .i64 c4] ∧ CB W' R 184 #[.int .i64 fr, .int .i64 to, .int .i64 8, .int .i64 rr, .int .i64 ff, .int .i64 oo, .int .i64 8])) [14] (by kernel_rfl) HS18.out (fun hHeld => ?_)
                        (try simp only [Array.replicate_succ, Array.replicate_zero, List.push_toArray, List.nil_append, List.cons_append])
                        refine wpAnyF_take (i := 0) (v := ?_) (by kernel_rfl) (by kernel_rfl) rfl (by kernel_rfl) (by kernel_rfl) (by kernel_rfl) (fun _ _ _ h => h) (Or.inl ⟨by rfl, ?_⟩) (by assumption) ?_
                        rotate_left
                        · intro w' hSw; (try dsimp only at hSw); obtain ⟨hs1, hs2⟩ := hSw; have y0 := hs1.cell 0; have y1 := hs1.cell 1; have y2 := hs1.cell 2; obtain ⟨d0, d1, d2, d3, d4, d5, d6⟩ := CB.rrc (x := ⟨fr, to, 8, rr, ff, oo, 8⟩) hs2; dsimp only at d0 d1 d2 d3 d4 d5 d6; go_simp; (try with_reducible rfl)
                        (try simp only [Act.put, List.getElem_toArray, List.getElem_cons_zero, List.setIfInBounds_toArray, List.set_cons_zero, List.set_cons_succ])
                        refine wpAnyF_take (i := 1) (v := ?_) (by kernel_rfl) (by kernel_rfl) rfl (by kernel_rfl) (by kernel_rfl) (by kernel_rfl) (fun _ _ _ h => h) (Or.inl ⟨by rfl, ?_⟩) (by assumption) ?_
                        rotate_left
                        · intro w' hSw; (try dsimp only at hSw); obtain ⟨hs1, hs2⟩ := hSw; have y0 := hs1.cell 0; have y1 := hs1.cell 1; have y2 := hs1.cell 2; obtain ⟨d0, d1, d2, d3, d4, d5, d6⟩ := CB.rrc (x := ⟨fr, to, 8, rr, ff, oo, 8⟩) hs2; dsimp only at d0 d1 d2 d3 d4 d5 d6; go_simp; (try with_reducible rfl)
                        (try simp only [Act.put, List.getElem_toArray, List.getElem_cons_zero, List.getElem_cons_succ, List.setIfInBounds_toArray, List.set_cons_zero, List.set_cons_succ])
                        refine wpAnyF_take (i := 2) (v := ?_) (by kernel_rfl) (by kernel_rfl) rfl (by kernel_rfl) (by kernel_rfl) (by kernel_rfl) (fun _ _ _ h => h) (Or.inl ⟨by rfl, ?_⟩) (by assumption) ?_
                        rotate_left
                        · intro w' hSw; (try dsimp only at hSw); obtain ⟨hs1, hs2⟩ := hSw; have y0 := hs1.cell 0; have y1 := hs1.cell 1; have y2 := hs1.cell 2; obtain ⟨d0, d1, d2, d3, d4, d5, d6⟩ := CB.rrc (x := ⟨fr, to, 8, rr, ff, oo, 8⟩) hs2; dsimp only at d0 d1 d2 d3 d4 d5 d6; go_simp; (try with_reducible rfl)
                        (try simp only [Act.put, List.getElem_toArray, List.getElem_cons_zero, List.getElem_cons_succ, List.setIfInBounds_toArray, List.set_cons_zero, List.set_cons_succ])
                        refine wpAnyF_take (i := 3) (v := ?_) (by kernel_rfl) (by kernel_rfl) rfl (by kernel_rfl) (by kernel_rfl) (by kernel_rfl) (fun _ _ _ h => h) (Or.inl ⟨by rfl, ?_⟩) (by assumption) ?_
                        rotate_left
                        · intro w' hSw; (try dsimp only at hSw); obtain ⟨hs1, hs2⟩ := hSw; have y0 := hs1.cell 0; have y1 := hs1.cell 1; have y2 := hs1.cell 2; obtain ⟨d0, d1, d2, d3, d4, d5, d6⟩ := CB.rrc (x := ⟨fr, to, 8, rr, ff, oo, 8⟩) hs2; dsimp only at d0 d1 d2 d3 d4 d5 d6; go_simp; (try with_reducible rfl)
                        (try simp only [Act.put, List.getElem_toArray, List.getElem_cons_zero, List.getElem_cons_succ, List.setIfInBounds_toArray, List.set_cons_zero, List.set_cons_succ])
                        refine wpAnyF_take (i := 4) (v := ?_) (by kernel_rfl) (by kernel_rfl) rfl (by kernel_rfl) (by kernel_rfl) (by kernel_rfl) (fun _ _ _ h => h) (Or.inl ⟨by rfl, ?_⟩) (by assumption) ?_
                        rotate_left
                        · intro w' hSw; (try dsimp only at hSw); obtain ⟨hs1, hs2⟩ := hSw; have y0 := hs1.cell 0; have y1 := hs1.cell 1; have y2 := hs1.cell 2; obtain ⟨d0, d1, d2, d3, d4, d5, d6⟩ := CB.rrc (x := ⟨fr, to, 8, rr, ff, oo, 8⟩) hs2; dsimp only at d0 d1 d2 d3 d4 d5 d6; go_simp; (try with_reducible rfl)
                        (try simp only [Act.put, List.getElem_toArray, List.getElem_cons_zero, List.getElem_cons_succ, List.setIfInBounds_toArray, List.set_cons_zero, List.set_cons_succ])
                        refine wpAnyF_take (i := 5) (v := ?_) (by kernel_rfl) (by kernel_rfl) rfl (by kernel_rfl) (by kernel_rfl) (by kernel_rfl) (fun _ _ _ h => h) (Or.inl ⟨by rfl, ?_⟩) (by assumption) ?_
                        rotate_left
                        · intro w' hSw; (try dsimp only at hSw); obtain ⟨hs1, hs2⟩ := hSw; have y0 := hs1.cell 0; have y1 := hs1.cell 1; have y2 := hs1.cell 2; obtain ⟨d0, d1, d2, d3, d4, d5, d6⟩ := CB.rrc (x := ⟨fr, to, 8, rr, ff, oo, 8⟩) hs2; dsimp only at d0 d1 d2 d3 d4 d5 d6; go_simp; (try with_reducible rfl)
                        (try simp only [Act.put, List.getElem_toArray, List.getElem_cons_zero, List.getElem_cons_succ, List.setIfInBounds_toArray, List.set_cons_zero, List.set_cons_succ])
                        refine wpAnyF_take (i := 6) (v := ?_) (by kernel_rfl) (by kernel_rfl) rfl (by kernel_rfl) (by kernel_rfl) (by kernel_rfl) (fun _ _ _ h => h) (Or.inl ⟨by rfl, ?_⟩) (by assumption) ?_
                        rotate_left
                        · intro w' hSw; (try dsimp only at hSw); obtain ⟨hs1, hs2⟩ := hSw; have y0 := hs1.cell 0; have y1 := hs1.cell 1; have y2 := hs1.cell 2; obtain ⟨d0, d1, d2, d3, d4, d5, d6⟩ := CB.rrc (x := ⟨fr, to, 8, rr, ff, oo, 8⟩) hs2; dsimp only at d0 d1 d2 d3 d4 d5 d6; go_simp; (try with_reducible rfl)
                        (try simp only [Act.put, List.getElem_toArray, List.getElem_cons_zero, List.getElem_cons_succ, List.setIfInBounds_toArray, List.set_cons_zero, List.set_cons_succ])
                        refine wpAnyF_take (i := 7) (v := ?_) (by kernel_rfl) (by kernel_rfl) rfl (by kernel_rfl) (by kernel_rfl) (by kernel_rfl) (fun _ _ _ h => h) (Or.inl ⟨by rfl, ?_⟩) (by assumption) ?_
                        rotate_left
                        · intro w' hSw; (try dsimp only at hSw); obtain ⟨hs1, hs2⟩ := hSw; have y0 := hs1.cell 0; have y1 := hs1.cell 1; have y2 := hs1.cell 2; obtain ⟨d0, d1, d2, d3, d4, d5, d6⟩ := CB.rrc (x := ⟨fr, to, 8, rr, ff, oo, 8⟩) hs2; dsimp only at d0 d1 d2 d3 d4 d5 d6; go_simp; (try with_reducible rfl)
                        (try simp only [Act.put, List.getElem_toArray, List.getElem_cons_zero, List.getElem_cons_succ, List.setIfInBounds_toArray, List.set_cons_zero, List.set_cons_succ])
                        refine wpAnyF_take (i := 8) (v := ?_) (by kernel_rfl) (by kernel_rfl) rfl (by kernel_rfl) (by kernel_rfl) (by kernel_rfl) (fun _ _ _ h => h) (Or.inl ⟨by rfl, ?_⟩) (by assumption) ?_
                        rotate_left
                        · intro w' hSw; (try dsimp only at hSw); obtain ⟨hs1, hs2⟩ := hSw; have y0 := hs1.cell 0; have y1 := hs1.cell 1; have y2 := hs1.cell 2; obtain ⟨d0, d1, d2, d3, d4, d5, d6⟩ := CB.rrc (x := ⟨fr, to, 8, rr, ff, oo, 8⟩) hs2; dsimp only at d0 d1 d2 d3 d4 d5 d6; go_simp; (try with_reducible rfl)
                        (try simp only [Act.put, List.getElem_toArray, List.getElem_cons_zero, List.getElem_cons_succ, List.setIfInBounds_toArray, List.set_cons_zero, List.set_cons_succ])
                        refine wpAnyF_take (i := 9) (v := ?_) (by kernel_rfl) (by kernel_rfl) rfl (by kernel_rfl) (by kernel_rfl) (by kernel_rfl) (fun _ _ _ h => h) (Or.inl ⟨by rfl, ?_⟩) (by assumption) ?_
                        rotate_left
                        · intro w' hSw; (try dsimp only at hSw); obtain ⟨hs1, hs2⟩ := hSw; have y0 := hs1.cell 0; have y1 := hs1.cell 1; have y2 := hs1.cell 2; obtain ⟨d0, d1, d2, d3, d4, d5, d6⟩ := CB.rrc (x := ⟨fr, to, 8, rr, ff, oo, 8⟩) hs2; dsimp only at d0 d1 d2 d3 d4 d5 d6; go_simp; (try with_reducible rfl)
                        (try simp only [Act.put, List.getElem_toArray, List.getElem_cons_zero, List.getElem_cons_succ, List.setIfInBounds_toArray, List.set_cons_zero, List.set_cons_succ])
                        refine wpAnyF_take (i := 10) (v := ?_) (by kernel_rfl) (by kernel_rfl) rfl (by kernel_rfl) (by kernel_rfl) (by kernel_rfl) (fun _ _ _ h => h) (Or.inl ⟨by rfl, ?_⟩) (by assumption) ?_
                        rotate_left
                        · intro w' hSw; (try dsimp only at hSw); obtain ⟨hs1, hs2⟩ := hSw; have y0 := hs1.cell 0; have y1 := hs1.cell 1; have y2 := hs1.cell 2; obtain ⟨d0, d1, d2, d3, d4, d5, d6⟩ := CB.rrc (x := ⟨fr, to, 8, rr, ff, oo, 8⟩) hs2; dsimp only at d0 d1 d2 d3 d4 d5 d6; go_simp; (try with_reducible rfl)
                        (try simp only [Act.put, List.getElem_toArray, List.getElem_cons_zero, List.getElem_cons_succ, List.setIfInBounds_toArray, List.set_cons_zero, List.set_cons_succ])
                        refine wpAnyF_take (i := 11) (v := ?_) (by kernel_rfl) (by kernel_rfl) rfl (by kernel_rfl) (by kernel_rfl) (by kernel_rfl) (fun _ _ _ h => h) (Or.inl ⟨by rfl, ?_⟩) (by assumption) ?_
                        rotate_left
                        · intro w' hSw; (try dsimp only at hSw); obtain ⟨hs1, hs2⟩ := hSw; have y0 := hs1.cell 0; have y1 := hs1.cell 1; have y2 := hs1.cell 2; obtain ⟨d0, d1, d2, d3, d4, d5, d6⟩ := CB.rrc (x := ⟨fr, to, 8, rr, ff, oo, 8⟩) hs2; dsimp only at d0 d1 d2 d3 d4 d5 d6; go_simp; (try with_reducible rfl)
                        (try simp only [Act.put, List.getElem_toArray, List.getElem_cons_zero, List.getElem_cons_succ, List.setIfInBounds_toArray, List.set_cons_zero, List.set_cons_succ])
                        refine wpAnyF_take (i := 12) (v := ?_) (by kernel_rfl) (by kernel_rfl) rfl (by kernel_rfl) (by kernel_rfl) (by kernel_rfl) (fun _ _ _ h => h) (Or.inl ⟨by rfl, ?_⟩) (by assumption) ?_
                        rotate_left
                        · intro w' hSw; (try dsimp only at hSw); obtain ⟨hs1, hs2⟩ := hSw; have y0 := hs1.cell 0; have y1 := hs1.cell 1; have y2 := hs1.cell 2; obtain ⟨d0, d1, d2, d3, d4, d5, d6⟩ := CB.rrc (x := ⟨fr, to, 8, rr, ff, oo, 8⟩) hs2; dsimp only at d0 d1 d2 d3 d4 d5 d6; go_simp; (try with_reducible rfl)
                        (try simp only [Act.put, List.getElem_toArray, List.getElem_cons_zero, List.getElem_cons_succ, List.setIfInBounds_toArray, List.set_cons_zero, List.set_cons_succ])
                        refine wpAnyF_take (i := 13) (v := ?_) (by kernel_rfl) (by kernel_rfl) rfl (by kernel_rfl) (by kernel_rfl) (by kernel_rfl) (fun _ _ _ h => h) (Or.inl ⟨by rfl, ?_⟩) (by assumption) ?_
                        rotate_left
                        · intro w' hSw; (try dsimp only at hSw); obtain ⟨hs1, hs2⟩ := hSw; have y0 := hs1.cell 0; have y1 := hs1.cell 1; have y2 := hs1.cell 2; obtain ⟨d0, d1, d2, d3, d4, d5, d6⟩ := CB.rrc (x := ⟨fr, to, 8, rr, ff, oo, 8⟩) hs2; dsimp only at d0 d1 d2 d3 d4 d5 d6; go_simp; (try with_reducible rfl)
                        (try simp only [Act.put, List.getElem_toArray, List.getElem_cons_zero, List.getElem_cons_succ, List.setIfInBounds_toArray, List.set_cons_zero, List.set_cons_succ])
                        refine wpAnyF_ready (rs := [14]) (by kernel_rfl) (by simp) ?_
                        refine AllReadyF.last (by kernel_rfl) rfl (fun KK hKK => ?_) AllReadyF.nil
                        have y1 := HN2.out.cell 1
                        have yf := HN2.out.frozen 1
                        have y1' : V2.drew.cell? ⟨N, 1, none⟩ = some (.int .i64 ff) := y1
                        have yf' : V2.drew.frozen? ⟨N, 1, none⟩ = false := yf
                        go_simp
                        refine hKK.out _ _ ?_
                        clear hKK KK
                        (try simp only [Act.put, List.getElem_toArray, List.getElem_cons_zero, List.getElem_cons_succ, List.setIfInBounds_toArray, List.set_cons_zero, List.set_cons_succ])
                        refine wpAnyF_done (by kernel_rfl) ?_ _
                        refine NoPanic.normal ?_
                        have HN4 := hi (show CB (V2.setCell ⟨N, 1, none⟩ (.int .i64 (ff + T))).drew N 70 #[.int .i64 rr, .int .i64 (ff + T), .int .i64 c4] from (HN2.out.set3m (.int .i64 (ff + T))).drew)
                        have HF2 := hi ((HF3.out.set1 (o := 1) hN1.1 (.int .i64 (ff + T))).drew)
                        obtain ⟨V4, hV4⟩ : ∃ V4, (V2.setCell ⟨N, 1, none⟩ (.int .i64 (ff + T))).drew = V4 := ⟨_, rfl⟩
                        rw [hV4] at HN4 HF2 ⊢
                        clear hV4 hHeld HS18
                        have y0 := HN4.out.cell 0
                        have y1 := HN4.out.cell 1
                        have y2 := HN4.out.cell 2
                        have z0 := HF2.out.z.cell 0
                        have z1 := HF2.out.z.cell 1
                        have z2 := HF2.out.z.cell 2
                        have zf := HF2.out.z.frozen
                        go_wp2
                        exact bodyPost_ret (results_pl rfl _ _ w.heap.size ⟨rr, ff + T, c4⟩ (.int .i64 0) rfl rfl (CB.put3 HF2.out.z _ _ _)) rfl ⟨by rw [HG.out, HV.out, HPV.out], below_put3 HF2.out.below (Nat.le_refl _) _ _ _⟩
                      · clear hw
                        have hge : fr ≤ off := by omega
                        have HV := hi (goV_yes (xs := xs.drop (k + 1)) (show meets ⟨fr, to, 8, rr, ff, oo, 1⟩ off 8 = true from hmt) rfl)
                        obtain ⟨df, hdf⟩ : ∃ df, off - fr = df := ⟨_, rfl⟩
                        have hdf0 : 0 ≤ df ∧ df ≤ 200000 := by omega
                        have hqd : df.tdiv 1 = df := by simp
                        have hD0 : 0 ≤ df ∧ df ≤ 200000 := by omega
                        have hm0 : 0 ≤ df * oo := Int.mul_nonneg hD0.1 ho0
                        have hml : df * oo ≤ df * 32 := Int.mul_le_mul_of_nonneg_left ho8 hD0.1
                        have HPV := hi (show placeV ⟨fr, to, 8, rr, ff, oo, 1⟩ off 8 = ⟨rr, ff + df * oo, 8 * oo⟩ by simp only [placeV, hdf]; simp)
                        obtain ⟨T, hT⟩ : ∃ T, df * oo = T := ⟨_, rfl⟩
                        have hw2 : IntKind.i64.wrap df = df := by rw [IntKind.wrap_i64]; omega
                        have hwD : IntKind.i64.wrap df = df := by rw [IntKind.wrap_i64]; omega
                        have hwT : IntKind.i64.wrap (df * oo) = df * oo := by rw [IntKind.wrap_i64]; omega
                        rw [hT] at HPV hm0 hml hwT
                        have hw5 : IntKind.i64.wrap (ff + T) = ff + T := by rw [IntKind.wrap_i64]; omega
                        have hw1 : IntKind.i64.wrap (8 * oo) = 8 * oo := by rw [IntKind.wrap_i64]; omega
                        obtain ⟨c4, hc4⟩ : ∃ c4, 8 * oo = c4 := ⟨_, rfl⟩
                        rw [hc4] at hw1 HPV
                        have hq4 : (8 : Int).tdiv 1 = 8 := by decide
                        have HNB4 := hi (show CB wr R 184 #[.int .i64 fr, .int .i64 to, .int .i64 8, .int .i64 rr, .int .i64 ff, .int .i64 oo, .int .i64 1] from HNB.out)
                        clear hml hD0 hdf0 hwd ha4
                        go_wp2
                        have HFD := hi HX2.out.fz.drew
                        have hS17 : (fun W' => CB W' R 184 #[.int .i64 fr, .int .i64 to, .int .i64 8, .int .i64 rr, .int .i64 ff, .int .i64 oo, .int .i64 1]) wr.drew := HNB4.out.drew
                        obtain ⟨wd, hwd'⟩ : ∃ wd, wr.drew = wd := ⟨_, rfl⟩
                        rw [hwd'] at HFD
                        refine wp_region_noPanic ?_
                        refine wp_region_last_drew (S := (fun W' => CB W' R 184 #[.int .i64 fr, .int .i64 to, .int .i64 8, .int .i64 rr, .int .i64 ff, .int .i64 oo, .int .i64 1])) [13] (by kernel_rfl) hS17 (fun hHeld => ?_)
                        rw [hwd'] at hHeld ⊢
                        clear hwd' hS17
                        (try simp only [Array.replicate_succ, Array.replicate_zero, List.push_toArray, List.nil_append, List.cons_append])
                        refine wpAnyF_take (i := 0) (v := ?_) (by kernel_rfl) (by kernel_rfl) rfl (by kernel_rfl) (by kernel_rfl) (by kernel_rfl) (fun _ _ _ h => h) (Or.inl ⟨by rfl, ?_⟩) (by assumption) ?_
                        rotate_left
                        · intro w' hSw; (try dsimp only at hSw); obtain ⟨d0, d1, d2, d3, d4, d5, d6⟩ := CB.rrc (x := ⟨fr, to, 8, rr, ff, oo, 1⟩) hSw; dsimp only at d0 d1 d2 d3 d4 d5 d6; go_simp; (try with_reducible rfl)
                        (try simp only [Act.put, List.getElem_toArray, List.getElem_cons_zero, List.setIfInBounds_toArray, List.set_cons_zero, List.set_cons_succ])
                        refine wpAnyF_take (i := 1) (v := ?_) (by kernel_rfl) (by kernel_rfl) rfl (by kernel_rfl) (by kernel_rfl) (by kernel_rfl) (fun _ _ _ h => h) (Or.inl ⟨by rfl, ?_⟩) (by assumption) ?_
                        rotate_left
                        · intro w' hSw; (try dsimp only at hSw); obtain ⟨d0, d1, d2, d3, d4, d5, d6⟩ := CB.rrc (x := ⟨fr, to, 8, rr, ff, oo, 1⟩) hSw; dsimp only at d0 d1 d2 d3 d4 d5 d6; go_simp; (try with_reducible rfl)
                        (try simp only [Act.put, List.getElem_toArray, List.getElem_cons_zero, List.getElem_cons_succ, List.setIfInBounds_toArray, List.set_cons_zero, List.set_cons_succ])
                        refine wpAnyF_take (i := 2) (v := ?_) (by kernel_rfl) (by kernel_rfl) rfl (by kernel_rfl) (by kernel_rfl) (by kernel_rfl) (fun _ _ _ h => h) (Or.inl ⟨by rfl, ?_⟩) (by assumption) ?_
                        rotate_left
                        · intro w' hSw; (try dsimp only at hSw); obtain ⟨d0, d1, d2, d3, d4, d5, d6⟩ := CB.rrc (x := ⟨fr, to, 8, rr, ff, oo, 1⟩) hSw; dsimp only at d0 d1 d2 d3 d4 d5 d6; go_simp; (try with_reducible rfl)
                        (try simp only [Act.put, List.getElem_toArray, List.getElem_cons_zero, List.getElem_cons_succ, List.setIfInBounds_toArray, List.set_cons_zero, List.set_cons_succ])
                        refine wpAnyF_take (i := 3) (v := ?_) (by kernel_rfl) (by kernel_rfl) rfl (by kernel_rfl) (by kernel_rfl) (by kernel_rfl) (fun _ _ _ h => h) (Or.inl ⟨by rfl, ?_⟩) (by assumption) ?_
                        rotate_left
                        · intro w' hSw; (try dsimp only at hSw); obtain ⟨d0, d1, d2, d3, d4, d5, d6⟩ := CB.rrc (x := ⟨fr, to, 8, rr, ff, oo, 1⟩) hSw; dsimp only at d0 d1 d2 d3 d4 d5 d6; go_simp; (try with_reducible rfl)
                        (try simp only [Act.put, List.getElem_toArray, List.getElem_cons_zero, List.getElem_cons_succ, List.setIfInBounds_toArray, List.set_cons_zero, List.set_cons_succ])
                        refine wpAnyF_take (i := 4) (v := ?_) (by kernel_rfl) (by kernel_rfl) rfl (by kernel_rfl) (by kernel_rfl) (by kernel_rfl) (fun _ _ _ h => h) (Or.inl ⟨by rfl, ?_⟩) (by assumption) ?_
                        rotate_left
                        · intro w' hSw; (try dsimp only at hSw); obtain ⟨d0, d1, d2, d3, d4, d5, d6⟩ := CB.rrc (x := ⟨fr, to, 8, rr, ff, oo, 1⟩) hSw; dsimp only at d0 d1 d2 d3 d4 d5 d6; go_simp; (try with_reducible rfl)
                        (try simp only [Act.put, List.getElem_toArray, List.getElem_cons_zero, List.getElem_cons_succ, List.setIfInBounds_toArray, List.set_cons_zero, List.set_cons_succ])
                        refine wpAnyF_take (i := 5) (v := ?_) (by kernel_rfl) (by kernel_rfl) rfl (by kernel_rfl) (by kernel_rfl) (by kernel_rfl) (fun _ _ _ h => h) (Or.inl ⟨by rfl, ?_⟩) (by assumption) ?_
                        rotate_left
                        · intro w' hSw; (try dsimp only at hSw); obtain ⟨d0, d1, d2, d3, d4, d5, d6⟩ := CB.rrc (x := ⟨fr, to, 8, rr, ff, oo, 1⟩) hSw; dsimp only at d0 d1 d2 d3 d4 d5 d6; go_simp; (try with_reducible rfl)
                        (try simp only [Act.put, List.getElem_toArray, List.getElem_cons_zero, List.getElem_cons_succ, List.setIfInBounds_toArray, List.set_cons_zero, List.set_cons_succ])
                        refine wpAnyF_take (i := 6) (v := ?_) (by kernel_rfl) (by kernel_rfl) rfl (by kernel_rfl) (by kernel_rfl) (by kernel_rfl) (fun _ _ _ h => h) (Or.inl ⟨by rfl, ?_⟩) (by assumption) ?_
                        rotate_left
                        · intro w' hSw; (try dsimp only at hSw); obtain ⟨d0, d1, d2, d3, d4, d5, d6⟩ := CB.rrc (x := ⟨fr, to, 8, rr, ff, oo, 1⟩) hSw; dsimp only at d0 d1 d2 d3 d4 d5 d6; go_simp; (try with_reducible rfl)
                        (try simp only [Act.put, List.getElem_toArray, List.getElem_cons_zero, List.getElem_cons_succ, List.setIfInBounds_toArray, List.set_cons_zero, List.set_cons_succ])
                        refine wpAnyF_take (i := 7) (v := ?_) (by kernel_rfl) (by kernel_rfl) rfl (by kernel_rfl) (by kernel_rfl) (by kernel_rfl) (fun _ _ _ h => h) (Or.inl ⟨by rfl, ?_⟩) (by assumption) ?_
                        rotate_left
                        · intro w' hSw; (try dsimp only at hSw); obtain ⟨d0, d1, d2, d3, d4, d5, d6⟩ := CB.rrc (x := ⟨fr, to, 8, rr, ff, oo, 1⟩) hSw; dsimp only at d0 d1 d2 d3 d4 d5 d6; go_simp; (try with_reducible rfl)
                        (try simp only [Act.put, List.getElem_toArray, List.getElem_cons_zero, List.getElem_cons_succ, List.setIfInBounds_toArray, List.set_cons_zero, List.set_cons_succ])
                        refine wpAnyF_take (i := 8) (v := ?_) (by kernel_rfl) (by kernel_rfl) rfl (by kernel_rfl) (by kernel_rfl) (by kernel_rfl) (fun _ _ _ h => h) (Or.inl ⟨by rfl, ?_⟩) (by assumption) ?_
                        rotate_left
                        · intro w' hSw; (try dsimp only at hSw); obtain ⟨d0, d1, d2, d3, d4, d5, d6⟩ := CB.rrc (x := ⟨fr, to, 8, rr, ff, oo, 1⟩) hSw; dsimp only at d0 d1 d2 d3 d4 d5 d6; go_simp; (try with_reducible rfl)
                        (try simp only [Act.put, List.getElem_toArray, List.getElem_cons_zero, List.getElem_cons_succ, List.setIfInBounds_toArray, List.set_cons_zero, List.set_cons_succ])
                        refine wpAnyF_take (i := 9) (v := ?_) (by kernel_rfl) (by kernel_rfl) rfl (by kernel_rfl) (by kernel_rfl) (by kernel_rfl) (fun _ _ _ h => h) (Or.inl ⟨by rfl, ?_⟩) (by assumption) ?_
                        rotate_left
                        · intro w' hSw; (try dsimp only at hSw); obtain ⟨d0, d1, d2, d3, d4, d5, d6⟩ := CB.rrc (x := ⟨fr, to, 8, rr, ff, oo, 1⟩) hSw; dsimp only at d0 d1 d2 d3 d4 d5 d6; go_simp; (try with_reducible rfl)
                        (try simp only [Act.put, List.getElem_toArray, List.getElem_cons_zero, List.getElem_cons_succ, List.setIfInBounds_toArray, List.set_cons_zero, List.set_cons_succ])
                        refine wpAnyF_take (i := 10) (v := ?_) (by kernel_rfl) (by kernel_rfl) rfl (by kernel_rfl) (by kernel_rfl) (by kernel_rfl) (fun _ _ _ h => h) (Or.inl ⟨by rfl, ?_⟩) (by assumption) ?_
                        rotate_left
                        · intro w' hSw; (try dsimp only at hSw); obtain ⟨d0, d1, d2, d3, d4, d5, d6⟩ := CB.rrc (x := ⟨fr, to, 8, rr, ff, oo, 1⟩) hSw; dsimp only at d0 d1 d2 d3 d4 d5 d6; go_simp; (try with_reducible rfl)
                        (try simp only [Act.put, List.getElem_toArray, List.getElem_cons_zero, List.getElem_cons_succ, List.setIfInBounds_toArray, List.set_cons_zero, List.set_cons_succ])
                        refine wpAnyF_take (i := 11) (v := ?_) (by kernel_rfl) (by kernel_rfl) rfl (by kernel_rfl) (by kernel_rfl) (by kernel_rfl) (fun _ _ _ h => h) (Or.inl ⟨by rfl, ?_⟩) (by assumption) ?_
                        rotate_left
                        · intro w' hSw; (try dsimp only at hSw); obtain ⟨d0, d1, d2, d3, d4, d5, d6⟩ := CB.rrc (x := ⟨fr, to, 8, rr, ff, oo, 1⟩) hSw; dsimp only at d0 d1 d2 d3 d4 d5 d6; go_simp; (try with_reducible rfl)
                        (try simp only [Act.put, List.getElem_toArray, List.getElem_cons_zero, List.getElem_cons_succ, List.setIfInBounds_toArray, List.set_cons_zero, List.set_cons_succ])
                        refine wpAnyF_ready (rs := [12]) (by kernel_rfl) (by simp) ?_
                        refine AllReadyF.cons rfl (fun KK hKK => ?_) AllReadyF.nil
                        go_simp
                        have HF1 := hi (HFD.out.later (bal wd (.cells #[.int .i64 0, .int .i64 0, .int .i64 0] 70)))
                        have HR1 := hi (CB.below hHeld (bal wd (.cells #[.int .i64 0, .int .i64 0, .int .i64 0] 70)))
                        have HZ1 := hi (CB.new wd 70 #[.int .i64 0, .int .i64 0, .int .i64 0])
                        obtain ⟨V1, hV1⟩ : ∃ V1, wd.alloc (.cells #[.int .i64 0, .int .i64 0, .int .i64 0] 70) = V1 := ⟨_, rfl⟩
                        rw [hV1] at HF1 HR1 HZ1 ⊢
                        obtain ⟨N, hN⟩ : ∃ N, wd.heap.size = N := ⟨_, rfl⟩
                        have hN1 : w.heap.size < N ∧ R < N := by have h9 := HFD.out.z.lt; have h8 := CB.lt hHeld; omega
                        rw [hN] at HZ1 ⊢
                        clear hV1 hN
                        refine hKK.out _ _ HR1.out (fun hHeld => ?_)
                        clear hKK KK
                        (try simp only [Act.put, List.getElem_toArray, List.getElem_cons_zero, List.getElem_cons_succ, List.setIfInBounds_toArray, List.set_cons_zero, List.set_cons_succ])
                        refine wpAnyF_ready (rs := [13]) (by kernel_rfl) (by simp) ?_
                        refine AllReadyF.last (by kernel_rfl) rfl (fun KK hKK => ?_) AllReadyF.nil
                        have y0 := HZ1.out.cell 0
                        have y1 := HZ1.out.cell 1
                        have y2 := HZ1.out.cell 2
                        have yf := HZ1.out.frozen
                        go_simp
                        refine hKK.out _ _ ?_
                        clear hKK KK
                        (try simp only [Act.put, List.getElem_toArray, List.getElem_cons_zero, List.getElem_cons_succ, List.setIfInBounds_toArray, List.set_cons_zero, List.set_cons_succ])
                        refine wpAnyF_done (by kernel_rfl) ?_ _
                        refine NoPanic.normal ?_
                        have hw1' : IntKind.i64.wrap (IntKind.i64.wrap 8 * oo) = c4 := by rw [show IntKind.i64.wrap 8 = 8 from by decide, hc4]; exact hw1
                        have HN2 := hi (CB.put3 HZ1.out (.int .i64 rr) (.int .i64 ff) (.int .i64 c4))
                        have HF3 := hi (show FZ w (((V1.setCell ⟨N, 0, none⟩ (.int .i64 rr)).setCell ⟨N, 1, none⟩ (.int .i64 ff)).setCell ⟨N, 2, none⟩ (.int .i64 c4)) from HF1.out.put3 hN1.1 _ _ _)
                        have HR3 := hi (HR1.out.other3 (show R ≠ N by omega) (.int .i64 rr) (.int .i64 ff) (.int .i64 c4))
                        rw [hw1']
                        obtain ⟨V2, hV2⟩ : ∃ V2, ((V1.setCell ⟨N, 0, none⟩ (.int .i64 rr)).setCell ⟨N, 1, none⟩ (.int .i64 ff)).setCell ⟨N, 2, none⟩ (.int .i64 c4) = V2 := ⟨_, rfl⟩
                        rw [hV2] at HN2 HF3 HR3 ⊢
                        clear hV2 hHeld hw1' hc4
                        go_wp2
                        have HS18 := hi (And.intro HN2.out.drew HR3.out.drew)
                        refine wp_region_noPanic ?_
                        refine wp_region_last_drew (S := (fun W' => CB W' N 70 #[.int .i64 rr, .int .i64 ff, .int .i64 c4] ∧ CB W' R 184 #[.int .i64 fr, .int .i64 to, .int .i64 8, .int .i64 rr, .int .i64 ff, .int .i64 oo, .int .i64 1])) [14] (by kernel_rfl) HS18.out (fun hHeld => ?_)
                        (try simp only [Array.replicate_succ, Array.replicate_zero, List.push_toArray, List.nil_append, List.cons_append])
                        refine wpAnyF_take (i := 0) (v := ?_) (by kernel_rfl) (by kernel_rfl) rfl (by kernel_rfl) (by kernel_rfl) (by kernel_rfl) (fun _ _ _ h => h) (Or.inl ⟨by rfl, ?_⟩) (by assumption) ?_
                        rotate_left
                        · intro w' hSw; (try dsimp only at hSw); obtain ⟨hs1, hs2⟩ := hSw; have y0 := hs1.cell 0; have y1 := hs1.cell 1; have y2 := hs1.cell 2; obtain ⟨d0, d1, d2, d3, d4, d5, d6⟩ := CB.rrc (x := ⟨fr, to, 8, rr, ff, oo, 1⟩) hs2; dsimp only at d0 d1 d2 d3 d4 d5 d6; go_simp; (try with_reducible rfl)
                        (try simp only [Act.put, List.getElem_toArray, List.getElem_cons_zero, List.setIfInBounds_toArray, List.set_cons_zero, List.set_cons_succ])
                        refine wpAnyF_take (i := 1) (v := ?_) (by kernel_rfl) (by kernel_rfl) rfl (by kernel_rfl) (by kernel_rfl) (by kernel_rfl) (fun _ _ _ h => h) (Or.inl ⟨by rfl, ?_⟩) (by assumption) ?_
                        rotate_left
                        · intro w' hSw; (try dsimp only at hSw); obtain ⟨hs1, hs2⟩ := hSw; have y0 := hs1.cell 0; have y1 := hs1.cell 1; have y2 := hs1.cell 2; obtain ⟨d0, d1, d2, d3, d4, d5, d6⟩ := CB.rrc (x := ⟨fr, to, 8, rr, ff, oo, 1⟩) hs2; dsimp only at d0 d1 d2 d3 d4 d5 d6; go_simp; (try with_reducible rfl)
                        (try simp only [Act.put, List.getElem_toArray, List.getElem_cons_zero, List.getElem_cons_succ, List.setIfInBounds_toArray, List.set_cons_zero, List.set_cons_succ])
                        refine wpAnyF_take (i := 2) (v := ?_) (by kernel_rfl) (by kernel_rfl) rfl (by kernel_rfl) (by kernel_rfl) (by kernel_rfl) (fun _ _ _ h => h) (Or.inl ⟨by rfl, ?_⟩) (by assumption) ?_
                        rotate_left
                        · intro w' hSw; (try dsimp only at hSw); obtain ⟨hs1, hs2⟩ := hSw; have y0 := hs1.cell 0; have y1 := hs1.cell 1; have y2 := hs1.cell 2; obtain ⟨d0, d1, d2, d3, d4, d5, d6⟩ := CB.rrc (x := ⟨fr, to, 8, rr, ff, oo, 1⟩) hs2; dsimp only at d0 d1 d2 d3 d4 d5 d6; go_simp; (try with_reducible rfl)
                        (try simp only [Act.put, List.getElem_toArray, List.getElem_cons_zero, List.getElem_cons_succ, List.setIfInBounds_toArray, List.set_cons_zero, List.set_cons_succ])
                        refine wpAnyF_take (i := 3) (v := ?_) (by kernel_rfl) (by kernel_rfl) rfl (by kernel_rfl) (by kernel_rfl) (by kernel_rfl) (fun _ _ _ h => h) (Or.inl ⟨by rfl, ?_⟩) (by assumption) ?_
                        rotate_left
                        · intro w' hSw; (try dsimp only at hSw); obtain ⟨hs1, hs2⟩ := hSw; have y0 := hs1.cell 0; have y1 := hs1.cell 1; have y2 := hs1.cell 2; obtain ⟨d0, d1, d2, d3, d4, d5, d6⟩ := CB.rrc (x := ⟨fr, to, 8, rr, ff, oo, 1⟩) hs2; dsimp only at d0 d1 d2 d3 d4 d5 d6; go_simp; (try with_reducible rfl)
                        (try simp only [Act.put, List.getElem_toArray, List.getElem_cons_zero, List.getElem_cons_succ, List.setIfInBounds_toArray, List.set_cons_zero, List.set_cons_succ])
                        refine wpAnyF_take (i := 4) (v := ?_) (by kernel_rfl) (by kernel_rfl) rfl (by kernel_rfl) (by kernel_rfl) (by kernel_rfl) (fun _ _ _ h => h) (Or.inl ⟨by rfl, ?_⟩) (by assumption) ?_
                        rotate_left
                        · intro w' hSw; (try dsimp only at hSw); obtain ⟨hs1, hs2⟩ := hSw; have y0 := hs1.cell 0; have y1 := hs1.cell 1; have y2 := hs1.cell 2; obtain ⟨d0, d1, d2, d3, d4, d5, d6⟩ := CB.rrc (x := ⟨fr, to, 8, rr, ff, oo, 1⟩) hs2; dsimp only at d0 d1 d2 d3 d4 d5 d6; go_simp; (try with_reducible rfl)
                        (try simp only [Act.put, List.getElem_toArray, List.getElem_cons_zero, List.getElem_cons_succ, List.setIfInBounds_toArray, List.set_cons_zero, List.set_cons_succ])
                        refine wpAnyF_take (i := 5) (v := ?_) (by kernel_rfl) (by kernel_rfl) rfl (by kernel_rfl) (by kernel_rfl) (by kernel_rfl) (fun _ _ _ h => h) (Or.inl ⟨by rfl, ?_⟩) (by assumption) ?_
                        rotate_left
                        · intro w' hSw; (try dsimp only at hSw); obtain ⟨hs1, hs2⟩ := hSw; have y0 := hs1.cell 0; have y1 := hs1.cell 1; have y2 := hs1.cell 2; obtain ⟨d0, d1, d2, d3, d4, d5, d6⟩ := CB.rrc (x := ⟨fr, to, 8, rr, ff, oo, 1⟩) hs2; dsimp only at d0 d1 d2 d3 d4 d5 d6; go_simp; (try with_reducible rfl)
                        (try simp only [Act.put, List.getElem_toArray, List.getElem_cons_zero, List.getElem_cons_succ, List.setIfInBounds_toArray, List.set_cons_zero, List.set_cons_succ])
                        refine wpAnyF_take (i := 6) (v := ?_) (by kernel_rfl) (by kernel_rfl) rfl (by kernel_rfl) (by kernel_rfl) (by kernel_rfl) (fun _ _ _ h => h) (Or.inl ⟨by rfl, ?_⟩) (by assumption) ?_
                        rotate_left
                        · intro w' hSw; (try dsimp only at hSw); obtain ⟨hs1, hs2⟩ := hSw; have y0 := hs1.cell 0; have y1 := hs1.cell 1; have y2 := hs1.cell 2; obtain ⟨d0, d1, d2, d3, d4, d5, d6⟩ := CB.rrc (x := ⟨fr, to, 8, rr, ff, oo, 1⟩) hs2; dsimp only at d0 d1 d2 d3 d4 d5 d6; go_simp; (try with_reducible rfl)
                        (try simp only [Act.put, List.getElem_toArray, List.getElem_cons_zero, List.getElem_cons_succ, List.setIfInBounds_toArray, List.set_cons_zero, List.set_cons_succ])
                        refine wpAnyF_take (i := 7) (v := ?_) (by kernel_rfl) (by kernel_rfl) rfl (by kernel_rfl) (by kernel_rfl) (by kernel_rfl) (fun _ _ _ h => h) (Or.inl ⟨by rfl, ?_⟩) (by assumption) ?_
                        rotate_left
                        · intro w' hSw; (try dsimp only at hSw); obtain ⟨hs1, hs2⟩ := hSw; have y0 := hs1.cell 0; have y1 := hs1.cell 1; have y2 := hs1.cell 2; obtain ⟨d0, d1, d2, d3, d4, d5, d6⟩ := CB.rrc (x := ⟨fr, to, 8, rr, ff, oo, 1⟩) hs2; dsimp only at d0 d1 d2 d3 d4 d5 d6; go_simp; (try with_reducible rfl)
                        (try simp only [Act.put, List.getElem_toArray, List.getElem_cons_zero, List.getElem_cons_succ, List.setIfInBounds_toArray, List.set_cons_zero, List.set_cons_succ])
                        refine wpAnyF_take (i := 8) (v := ?_) (by kernel_rfl) (by kernel_rfl) rfl (by kernel_rfl) (by kernel_rfl) (by kernel_rfl) (fun _ _ _ h => h) (Or.inl ⟨by rfl, ?_⟩) (by assumption) ?_
                        rotate_left
                        · intro w' hSw; (try dsimp only at hSw); obtain ⟨hs1, hs2⟩ := hSw; have y0 := hs1.cell 0; have y1 := hs1.cell 1; have y2 := hs1.cell 2; obtain ⟨d0, d1, d2, d3, d4, d5, d6⟩ := CB.rrc (x := ⟨fr, to, 8, rr, ff, oo, 1⟩) hs2; dsimp only at d0 d1 d2 d3 d4 d5 d6; go_simp; (try with_reducible rfl)
                        (try simp only [Act.put, List.getElem_toArray, List.getElem_cons_zero, List.getElem_cons_succ, List.setIfInBounds_toArray, List.set_cons_zero, List.set_cons_succ])
                        refine wpAnyF_take (i := 9) (v := ?_) (by kernel_rfl) (by kernel_rfl) rfl (by kernel_rfl) (by kernel_rfl) (by kernel_rfl) (fun _ _ _ h => h) (Or.inl ⟨by rfl, ?_⟩) (by assumption) ?_
                        rotate_left
                        · intro w' hSw; (try dsimp only at hSw); obtain ⟨hs1, hs2⟩ := hSw; have y0 := hs1.cell 0; have y1 := hs1.cell 1; have y2 := hs1.cell 2; obtain ⟨d0, d1, d2, d3, d4, d5, d6⟩ := CB.rrc (x := ⟨fr, to, 8, rr, ff, oo, 1⟩) hs2; dsimp only at d0 d1 d2 d3 d4 d5 d6; go_simp; (try with_reducible rfl)
                        (try simp only [Act.put, List.getElem_toArray, List.getElem_cons_zero, List.getElem_cons_succ, List.setIfInBounds_toArray, List.set_cons_zero, List.set_cons_succ])
                        refine wpAnyF_take (i := 10) (v := ?_) (by kernel_rfl) (by kernel_rfl) rfl (by kernel_rfl) (by kernel_rfl) (by kernel_rfl) (fun _ _ _ h => h) (Or.inl ⟨by rfl, ?_⟩) (by assumption) ?_
                        rotate_left
                        · intro w' hSw; (try dsimp only at hSw); obtain ⟨hs1, hs2⟩ := hSw; have y0 := hs1.cell 0; have y1 := hs1.cell 1; have y2 := hs1.cell 2; obtain ⟨d0, d1, d2, d3, d4, d5, d6⟩ := CB.rrc (x := ⟨fr, to, 8, rr, ff, oo, 1⟩) hs2; dsimp only at d0 d1 d2 d3 d4 d5 d6; go_simp; (try with_reducible rfl)
                        (try simp only [Act.put, List.getElem_toArray, List.getElem_cons_zero, List.getElem_cons_succ, List.setIfInBounds_toArray, List.set_cons_zero, List.set_cons_succ])
                        refine wpAnyF_take (i := 11) (v := ?_) (by kernel_rfl) (by kernel_rfl) rfl (by kernel_rfl) (by kernel_rfl) (by kernel_rfl) (fun _ _ _ h => h) (Or.inl ⟨by rfl, ?_⟩) (by assumption) ?_
                        rotate_left
                        · intro w' hSw; (try dsimp only at hSw); obtain ⟨hs1, hs2⟩ := hSw; have y0 := hs1.cell 0; have y1 := hs1.cell 1; have y2 := hs1.cell 2; obtain ⟨d0, d1, d2, d3, d4, d5, d6⟩ := CB.rrc (x := ⟨fr, to, 8, rr, ff, oo, 1⟩) hs2; dsimp only at d0 d1 d2 d3 d4 d5 d6; go_simp; (try with_reducible rfl)
                        (try simp only [Act.put, List.getElem_toArray, List.getElem_cons_zero, List.getElem_cons_succ, List.setIfInBounds_toArray, List.set_cons_zero, List.set_cons_succ])
                        refine wpAnyF_take (i := 12) (v := ?_) (by kernel_rfl) (by kernel_rfl) rfl (by kernel_rfl) (by kernel_rfl) (by kernel_rfl) (fun _ _ _ h => h) (Or.inl ⟨by rfl, ?_⟩) (by assumption) ?_
                        rotate_left
                        · intro w' hSw; (try dsimp only at hSw); obtain ⟨hs1, hs2⟩ := hSw; have y0 := hs1.cell 0; have y1 := hs1.cell 1; have y2 := hs1.cell 2; obtain ⟨d0, d1, d2, d3, d4, d5, d6⟩ := CB.rrc (x := ⟨fr, to, 8, rr, ff, oo, 1⟩) hs2; dsimp only at d0 d1 d2 d3 d4 d5 d6; go_simp; (try with_reducible rfl)
                        (try simp only [Act.put, List.getElem_toArray, List.getElem_cons_zero, List.getElem_cons_succ, List.setIfInBounds_toArray, List.set_cons_zero, List.set_cons_succ])
                        refine wpAnyF_take (i := 13) (v := ?_) (by kernel_rfl) (by kernel_rfl) rfl (by kernel_rfl) (by kernel_rfl) (by kernel_rfl) (fun _ _ _ h => h) (Or.inl ⟨by rfl, ?_⟩) (by assumption) ?_
                        rotate_left
                        · intro w' hSw; (try dsimp only at hSw); obtain ⟨hs1, hs2⟩ := hSw; have y0 := hs1.cell 0; have y1 := hs1.cell 1; have y2 := hs1.cell 2; obtain ⟨d0, d1, d2, d3, d4, d5, d6⟩ := CB.rrc (x := ⟨fr, to, 8, rr, ff, oo, 1⟩) hs2; dsimp only at d0 d1 d2 d3 d4 d5 d6; go_simp; (try with_reducible rfl)
                        (try simp only [Act.put, List.getElem_toArray, List.getElem_cons_zero, List.getElem_cons_succ, List.setIfInBounds_toArray, List.set_cons_zero, List.set_cons_succ])
                        refine wpAnyF_ready (rs := [14]) (by kernel_rfl) (by simp) ?_
                        refine AllReadyF.last (by kernel_rfl) rfl (fun KK hKK => ?_) AllReadyF.nil
                        have y1 := HN2.out.cell 1
                        have yf := HN2.out.frozen 1
                        have y1' : V2.drew.cell? ⟨N, 1, none⟩ = some (.int .i64 ff) := y1
                        have yf' : V2.drew.frozen? ⟨N, 1, none⟩ = false := yf
                        go_simp
                        refine hKK.out _ _ ?_
                        clear hKK KK
                        (try simp only [Act.put, List.getElem_toArray, List.getElem_cons_zero, List.getElem_cons_succ, List.setIfInBounds_toArray, List.set_cons_zero, List.set_cons_succ])
                        refine wpAnyF_done (by kernel_rfl) ?_ _
                        refine NoPanic.normal ?_
                        have HN4 := hi (show CB (V2.setCell ⟨N, 1, none⟩ (.int .i64 (ff + T))).drew N 70 #[.int .i64 rr, .int .i64 (ff + T), .int .i64 c4] from (HN2.out.set3m (.int .i64 (ff + T))).drew)
                        have HF2 := hi ((HF3.out.set1 (o := 1) hN1.1 (.int .i64 (ff + T))).drew)
                        obtain ⟨V4, hV4⟩ : ∃ V4, (V2.setCell ⟨N, 1, none⟩ (.int .i64 (ff + T))).drew = V4 := ⟨_, rfl⟩
                        rw [hV4] at HN4 HF2 ⊢
                        clear hV4 hHeld HS18
                        have y0 := HN4.out.cell 0
                        have y1 := HN4.out.cell 1
                        have y2 := HN4.out.cell 2
                        have z0 := HF2.out.z.cell 0
                        have z1 := HF2.out.z.cell 1
                        have z2 := HF2.out.z.cell 2
                        have zf := HF2.out.z.frozen
                        go_wp2
                        exact bodyPost_ret (results_pl rfl _ _ w.heap.size ⟨rr, ff + T, c4⟩ (.int .i64 0) rfl rfl (CB.put3 HF2.out.z _ _ _)) rfl ⟨by rw [HG.out, HV.out, HPV.out], below_put3 HF2.out.below (Nat.le_refl _) _ _ _⟩
                    · have HV := hi (HG.out.trans (goV_bad hmt (fun e => hww e.symm)))
                      have hne : ((8 : Int) != wd) = true := by simp; omega
                      go_wp2
                      exact bodyPost_ret (results_pl rfl _ _ w.heap.size Pl.zero (.int .i64 40) rfl rfl (CB.put3 HX2.out.z _ _ _)) rfl ⟨by rw [HV.out], below_put3 HX2.out.below (Nat.le_refl _) _ _ _⟩
              · obtain rfl : d = 8 := by omega
                have HV := hi (HG.out.trans (goV_no (HN.out.meets hft (by decide))))
                go_wp2
                go_roundw
                case rel => exact ⟨k + 1, by omega, by go_num, hi ⟨HX2.out, HV.out⟩⟩
                case measure => simp only [intOf]; omega
          · obtain rfl : k = xs.length := by omega
            have HV := hi (show goV off 8 xs = (Pl.zero, 0) by rw [HX.out.2, List.drop_length]; rfl)
            have z0 := HX.out.1.z.cell 0
            have z1 := HX.out.1.z.cell 1
            have z2 := HX.out.1.z.cell 2
            have zf := HX.out.1.z.frozen
            go_wp2
            exact bodyPost_ret (results_pl rfl _ _ w.heap.size Pl.zero (.int .i64 0) rfl rfl (CB.put3 HX.out.1.z _ _ _)) rfl ⟨by rw [HV.out], below_put3 HX.out.1.below (Nat.le_refl _) _ _ _⟩
  · rw [if_pos hm]
    have hq : (off.tmod 8 != 0) = true := by simpa using hm
    go_enter Tryz.func92, Tryz.ntmps92
    go_wp2
    exact bodyPost_ret (results_pl rfl _ _ w.heap.size Pl.zero (.int .i64 41) rfl rfl (CB.new w _ _)) rfl ⟨rfl, bal w _⟩
end Go.Proofs.YtggeakkofcaklaaGreat
