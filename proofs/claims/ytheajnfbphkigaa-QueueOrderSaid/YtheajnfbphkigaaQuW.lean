/-
  QueueOrder.
-/
import Derived.Test.YtheajnfbphkigaaQuV
namespace Go.Proofs.Ytheajnfbphkigaa
open Go.ChangeShapes Go.WideShapes Go.ChangeAt Go.RowKit
set_option linter.unusedVariables false
set_option linter.unusedSimpArgs false
attribute [local go_sem high] eql_cm neq_cm guard_cm
attribute [local go_sem] Oper.semAt_some

set_option pp.deepTerms true in
set_option pp.maxSteps 200000 in
set_option maxRecDepth 100000 in
set_option maxHeartbeats 16000000 in
theorem order_law (e : Nat) (he : e < 256) (a : Option Addr) (B off cp : Nat) (cs : List Cm) (ta : Option Addr) (tB toff tcp : Nat) (ts : List Bool) (w : World) (hC : CmdsAt w a B off cs) (hL : cs.length * 72 ≤ 140737488355328) (hT : BoolsAt w ta tB toff ts) : Calls Try.prog 5 #[.int .u8 e, .slice a cs.length cp, .slice ta ts.length tcp] w fun e w' => e = .returned (.bool true) ∧ Below w.heap.size w w' := by
  have HA := hi (fun W => awake_any W)
  have HFR := hi (fun W => fresh_any e he W)
  have HP0 := hi (OrP.start e)
  have HC := hi hC
  have HT := hi hT
  have hlen := hC.len
  have htl := hT.len
  have hS : frS e = 32 * (1 + (e : Int) % 20) := by simp [frS]
  unfold frQ at HFR HP0
  dsimp only [Qu.v] at HFR
  rw [hS] at HFR HP0
  clear hS hC hT
  have H0 := hi (And.intro (CB.new w 4 #[.bool false]) (bal w (.cells #[.bool false] 4)))
  refine (callsIn_wide (n := 6)).1 ?_
  refine callsIn_of_wp_marks Try.func5 rfl trivial ?_ rfl
  simp only [Try.ntmps5, List.size_toArray, List.length_cons, List.length_nil, Nat.reduceAdd, Nat.reduceSub, Array.replicate_succ, Array.replicate_zero, List.push_toArray, List.append_toArray, List.nil_append, List.cons_append]
  refine wpIn_wide.2 ?_
  go_wp2_with (first
    | (go_at_call 9; ((with_reducible refine (HA.out _).mono ?_); rintro e' w1 ⟨rfl, hb1⟩; have H1 := hi (And.intro (H0.out.1.below hb1) (H0.out.2.trans (hb1.mono H0.out.2.size))); clear hb1))
    | (go_at_call 17; ((with_reducible refine (HFR.out _).mono ?_); rintro e' w2 ⟨p, g, rfl, hs2⟩; have z2 := Nat.lt_of_lt_of_le H1.out.1.lt hs2.below.size; have hb2 := (hs2.from_ H1.out.2).below; have H2 := hi (show OrA w p g w2.heap.size a B off cs ta tB toff ts (List.replicate 700 0) ⟨16, (32 * (1 + (e : Int) % 20)), 0, 0⟩ (w2.alloc (.cells #[.int .i64 16, .int .i64 (32 * (1 + (e : Int) % 20)), .int .i64 0, .int .i64 0] 25)) from ⟨⟨(hs2.from_ H1.out.2).later (bal _ _), CB.new w2 _ _⟩, (H1.out.1.below hs2.below).alloc _, (HC.out.below hb2).below (bal _ _), (HT.out.kept (S := fun _ => False) (Kept.of hb2) (fun _ e => e)).kept (S := fun _ => False) (Kept.of (bal w2 (.cells #[.int .i64 16, .int .i64 (32 * (1 + (e : Int) % 20)), .int .i64 0, .int .i64 0] 25))) (fun _ e => e), HC.out.lt, HT.out.lt, z2⟩); have H3 := hi (And.intro (H2.out.later (bal (w2.alloc (.cells #[.int .i64 16, .int .i64 (32 * (1 + (e : Int) % 20)), .int .i64 0, .int .i64 0] 25)) (.cells #[.slice none 0 0] 50))) (show PuB (w2.heap.size + 1) [] (.slice none 0 0) ((w2.alloc (.cells #[.int .i64 16, .int .i64 (32 * (1 + (e : Int) % 20)), .int .i64 0, .int .i64 0] 25)).alloc (.cells #[.slice none 0 0] 50)) from ⟨cb_second, World.ownsRow_nil _ _ _ _⟩)); have zp := And.intro H2.out.f.m.mem.plt H2.out.f.m.mem.bytes.lt; simp only [World.size_alloc] at zp; have zm := mem_apart H2.out.f.m.mem H2.out.f.q (by decide) (by decide); clear hs2 hb2; have qf := (CB.new w2 25 #[.int .i64 0, .int .i64 0, .int .i64 0, .int .i64 0]).frozen)))
  go_loopw [11, 12] (fun gv i wr => ∃ g0 k : Nat, gv = .int .i64 g0 ∧ i = .int .i64 k ∧ Hi (k ≤ cs.length ∧ ∃ bs q L v, OrP k g0 bs q L ∧ OrA w p g w2.heap.size a B off cs ta tB toff ts bs q wr ∧ PuB (w2.heap.size + 1) L v wr)) (fun _ i _ => cs.length - (intOf i).toNat)
  case atStart => exact ⟨0, 0, rfl, rfl, hi ⟨Nat.zero_le _, _, _, _, _, HP0.out, H3.out.1, H3.out.2⟩⟩
  case round =>
    obtain ⟨g0, k, rfl, rfl, HJ⟩ := hrel
    obtain ⟨hk, bs, q, L, v, hP, hA, hB⟩ := HJ.out
    clear HJ
    by_cases hlt : k < cs.length
    · obtain ⟨c, hc⟩ : ∃ c, cs[k]? = some c := ⟨_, List.getElem?_eq_getElem hlt⟩
      have hne : cs ≠ [] := fun e => by rw [e] at hc; simp at hc
      have hcf := HC.out.fair c (List.mem_of_getElem? hc)
      have hal := HC.out.at_ hne
      subst hal
      have HRM := hi (fun W => room_q q hP.fair.s.2 W)
      have HPT := hi (fun W hM hQ => put_any p g 700 bs w2.heap.size q c W hM hQ hP.fair hcf.addr)
      obtain ⟨R, hR⟩ : ∃ R, rooN q = R := ⟨_, rfl⟩
      rw [hR] at HRM
      have HAA := hi hA
      have HBB := hi hB
      have hcm := hA.c.cells k c hc
      unfold cmdC at hcm
      by_cases hE : quE bs.length q c = 0
      · obtain ⟨hP', hR1⟩ := hP.put hcf hE
        rw [hR] at hR1
        rw [hE] at HPT
        obtain ⟨bs', hbs⟩ : ∃ l, quL bs q c = l := ⟨_, rfl⟩
        obtain ⟨q', hq'⟩ : ∃ l, quQ bs.length q c = l := ⟨_, rfl⟩
        rw [hbs, hq'] at HPT hP'
        clear hbs hq' hE
        have HPP := hi hP'
        clear hP'
        have HCC := hi hc
        have hLk := HPP.out.le
        rw [List.length_append] at hLk
        simp only [List.length_cons, List.length_nil] at hLk
        obtain ⟨q1, q2, q3, q4⟩ := q
        obtain ⟨p1, p2, p3, p4⟩ := q'
        obtain ⟨c1, c2, c3, c4, c5, c6, c7, c8, c9⟩ := c
        obtain ⟨a0, a1, a2, a3⟩ := CB.four hA.f.q
        dsimp only [Qu.v, Cm.v] at HRM HPT
        clear hA hB hc hcm hP
        have HLF := hi (fun W => left_q ⟨p1, p2, p3, p4⟩ HPP.out.fair.s.2 W)
        rw [HPP.out.lef] at HLF
        dsimp only [Qu.v] at HLF
        by_cases hkt : k < ts.length
        · obtain ⟨t, ht⟩ : ∃ t, ts[k]? = some t := ⟨_, List.getElem?_eq_getElem hkt⟩
          have HTK := hi ht
          have hta := HT.out.at_ (fun e9 => by rw [e9] at hkt; simp at hkt)
          subst hta
          clear ht
          cases t
          · go_wp2_with (first
              | (go_at_call 16; ((with_reducible refine (HRM.out _).mono ?_); rintro e' w3 ⟨rfl, hb3⟩; have H4 := hi (And.intro (HAA.out.later hb3) (HBB.out.later hb3)); clear hb3 a0 a1 a2 a3; have hcm := H4.out.1.c.cells k _ HCC.out; unfold cmdC at hcm; dsimp only at hcm; obtain ⟨m0, m1, m2, m3, m4, m5, m6, m7, m8⟩ := hcm))
              | (go_at_call 18; ((with_reducible refine (HPT.out _ H4.out.1.f.m.mem H4.out.1.f.q).mono ?_); rintro e' w4 ⟨rfl, hq4⟩; have H5 := hi (And.intro (H4.out.1.qm hq4) (H4.out.2.kept hq4.kept (fun i h => by rcases h with rfl | rfl <;> omega))); clear hq4 m0 m1 m2 m3 m4 m5 m6 m7 m8; have hcm := H5.out.1.c.cells k _ HCC.out; have pbc := H5.out.2.b.cell 0)))
            obtain ⟨i0, hi2, hz0, hz1, hz2⟩ := cm_info_parts cm_info
            have HSP0 := hi (show (SPut (w2.heap.size + 1) v B (off + k * 9) ⟨c1, c2, c3, c4, c5, c6, c7, c8, c9⟩) w4 from ⟨pbc, hcm⟩)
            clear pbc hcm
            refine wp_region_noPanic ?_
            refine wp_region_last_drew (S := (SPut (w2.heap.size + 1) v B (off + k * 9) ⟨c1, c2, c3, c4, c5, c6, c7, c8, c9⟩)) [7] (by kernel_rfl) (SPut.of HSP0.out rfl rfl) (fun hHeld => ?_)
            (try simp only [Array.replicate_succ, Array.replicate_zero, List.push_toArray, List.nil_append, List.cons_append])
            have hBl := Nat.lt_of_lt_of_le (HC.out.lt hne) (Nat.le_of_lt (Nat.lt_of_lt_of_le z2 (Nat.le_of_lt H5.out.1.f.q.lt)))
            have hpl := H5.out.2.b.lt
            have HSP := hi (show (SPut (w2.heap.size + 1) v B (off + k * 9) ⟨c1, c2, c3, c4, c5, c6, c7, c8, c9⟩) w4.drew from SPut.of HSP0.out rfl rfl)
            have HBD := hi (H5.out.2.later (below_dr w4))
            have HKD := hi (show Below w4.heap.size w4 w4.drew from below_dr w4)
            have hdz : w4.drew.heap.size = w4.heap.size := rfl
            obtain ⟨Vd, hVd⟩ : ∃ Vd, w4.drew = Vd := ⟨_, rfl⟩
            rw [hVd] at HSP HBD HKD hdz hHeld ⊢
            clear hVd HSP0
            refine wpAnyF_take (i := 1) (v := ?_) (by kernel_rfl) (by kernel_rfl) rfl (by kernel_rfl) (by kernel_rfl) (by kernel_rfl) (fun _ _ _ h => h) (Or.inl ⟨by rfl, ?_⟩) (by assumption) ?_
            rotate_left
            · intro w' hSw; (try dsimp only at hSw); clear hSw; go_simp; (try with_reducible rfl)
            (try simp only [Act.put, List.getElem_toArray, List.getElem_cons_zero, List.getElem_cons_succ, List.setIfInBounds_toArray, List.set_cons_zero, List.set_cons_succ])
            refine wpAnyF_take (i := 2) (v := ?_) (by kernel_rfl) (by kernel_rfl) rfl (by kernel_rfl) (by kernel_rfl) (by kernel_rfl) (fun _ _ _ h => h) (Or.inl ⟨by rfl, ?_⟩) (by assumption) ?_
            rotate_left
            · intro w' hSw; (try dsimp only at hSw); clear hSw; go_simp; (try with_reducible rfl)
            (try simp only [Act.put, List.getElem_toArray, List.getElem_cons_zero, List.getElem_cons_succ, List.setIfInBounds_toArray, List.set_cons_zero, List.set_cons_succ])
            refine wpAnyF_take (i := 3) (v := ?_) (by kernel_rfl) (by kernel_rfl) rfl (by kernel_rfl) (by kernel_rfl) (by kernel_rfl) (fun _ _ _ h => h) (Or.inl ⟨by rfl, ?_⟩) (by assumption) ?_
            rotate_left
            · intro w' hSw; (try dsimp only at hSw); clear hSw; go_simp; (try with_reducible rfl)
            (try simp only [Act.put, List.getElem_toArray, List.getElem_cons_zero, List.getElem_cons_succ, List.setIfInBounds_toArray, List.set_cons_zero, List.set_cons_succ])
            refine wpAnyF_take (i := 0) (v := ?_) (by kernel_rfl) (by kernel_rfl) rfl (by kernel_rfl) (by kernel_rfl) (by kernel_rfl) (fun _ _ _ h => h) (Or.inl ⟨by rfl, ?_⟩) (by assumption) ?_
            rotate_left
            · intro w' hSw; (try dsimp only at hSw); have hsb := hSw.b; clear hSw; go_simp; (try with_reducible rfl)
            (try simp only [Act.put, List.getElem_toArray, List.getElem_cons_zero, List.getElem_cons_succ, List.setIfInBounds_toArray, List.set_cons_zero, List.set_cons_succ])
            refine wpAnyF_take (i := 4) (v := ?_) (by kernel_rfl) (by kernel_rfl) rfl (by kernel_rfl) (by kernel_rfl) (by kernel_rfl) (fun _ _ _ h => h) (Or.inl ⟨by rfl, ?_⟩) (by assumption) ?_
            rotate_left
            · intro w' hSw; (try dsimp only at hSw); have hsm := hSw.m; unfold cmdC at hsm; dsimp only at hsm; obtain ⟨hm0, hm1, hm2, hm3, hm4, hm5, hm6, hm7, hm8⟩ := hsm; clear hSw; go_simp; (try with_reducible rfl)
            (try simp only [Act.put, List.getElem_toArray, List.getElem_cons_zero, List.getElem_cons_succ, List.setIfInBounds_toArray, List.set_cons_zero, List.set_cons_succ])
            refine wpAnyF_ready (rs := [5]) (by kernel_rfl) (by simp) ?_
            refine AllReadyF.cons rfl (fun KK hKK => ?_) AllReadyF.nil
            go_simp
            refine hKK.out _ _ (SPut.of HSP.out (Below.heap_alloc _ _ _ (by omega)) (Below.heap_alloc _ _ _ (by omega))) (fun hHeld => ?_)
            clear hKK KK
            (try simp only [Act.put, List.getElem_toArray, List.getElem_cons_zero, List.getElem_cons_succ, List.setIfInBounds_toArray, List.set_cons_zero, List.set_cons_succ])
            refine wpAnyF_ready (rs := [6]) (by kernel_rfl) (by simp) ?_
            refine AllReadyF.cons rfl (fun KK hKK => ?_) AllReadyF.nil
            (try rw [if_pos (by rfl)])
            refine wp_append_own _ (.tmp 50) (.tmp 55) 50 rfl (w2.heap.size + 1 + 1) 36 i0 (.agg #[.int .i64 0, .int .i64 0, .int .i64 0, .int .i64 0, .int .i64 0, .int .i64 0, .int .i64 0, .int .i64 0, .bool false]) 9 72 Try.underlying50 hi2 hz0 hz1 hz2 rfl (by decide) v L.length (flM L) rfl (HBD.out.row.alloc _) ⟨w4.heap.size, 0, none⟩ 1 1 (Cm.cs ⟨c1, c2, c3, c4, c5, c6, c7, c8, c9⟩).toList rfl rfl (cm_new hdz.symm ⟨c1, c2, c3, c4, c5, c6, c7, c8, c9⟩ _) (cm_one _) (by unfold maxLen; omega) (by omega) (by simp; omega) ?_
            intro v' w9 hown' hgrow _
            obtain ⟨va, vcp, rfl⟩ := rowM_form hown'
            obtain ⟨hg1, hg2, hg3, hg4⟩ := HBD.out.grow hown' rfl hgrow
            have hS9 : (SPut (w2.heap.size + 1) v B (off + k * 9) ⟨c1, c2, c3, c4, c5, c6, c7, c8, c9⟩) w9 := ⟨hg1.cell 0, (HSP.out.m.kept (Below.heap_alloc Vd (.cells #[.int .i64 c1, .int .i64 c2, .int .i64 c3, .int .i64 c4, .int .i64 c5, .int .i64 c6, .int .i64 c7, .int .i64 c8, .bool c9] 36) B (by omega))).kept (hgrow.block B (by simp; omega) (fun e9 => by have := (HBD.out.row.lt _ e9.symm).1; have := HC.out.lt hne; omega))⟩
            have HG := hi (And.intro hg1 (And.intro hg2 (And.intro hg3 hg4)))
            clear hown' hgrow hg1 hg2 hg3 hg4
            refine hKK.out _ _ hS9 (fun hHeld => ?_)
            clear hKK KK
            (try simp only [Act.put, List.getElem_toArray, List.getElem_cons_zero, List.getElem_cons_succ, List.setIfInBounds_toArray, List.set_cons_zero, List.set_cons_succ])
            refine wpAnyF_ready (rs := [7]) (by kernel_rfl) (by simp) ?_
            refine AllReadyF.last (by kernel_rfl) rfl (fun KK hKK => ?_) AllReadyF.nil
            have hc9 : w9.cell? ⟨w2.heap.size + 1, 0, none⟩ = some v := HG.out.1.cell 0
            have hf9 := HG.out.1.frozen
            go_simp
            refine hKK.out _ _ ?_
            clear hKK KK
            (try simp only [Act.put, List.getElem_toArray, List.getElem_cons_zero, List.getElem_cons_succ, List.setIfInBounds_toArray, List.set_cons_zero, List.set_cons_succ])
            refine wpAnyF_done (by kernel_rfl) ?_ _
            refine NoPanic.normal ?_
            have HX := hi (show OrA w p g w2.heap.size (some ⟨B, off, none⟩) B off cs _ tB toff ts bs' ⟨p1, p2, p3, p4⟩ (w9.setCell ⟨w2.heap.size + 1, 0, none⟩ (.slice va (L.length + 1) vcp)) ∧ PuB (w2.heap.size + 1) (L ++ [(⟨c1, c2, c3, c4, c5, c6, c7, c8, c9⟩ : Cm)]) (.slice va (L.length + 1) vcp) (w9.setCell ⟨w2.heap.size + 1, 0, none⟩ (.slice va (L.length + 1) vcp)) from ⟨(H5.out.1.later HKD.out).kept HG.out.2.2.1 (fun i (h : w2.heap.size + 1 ≤ i) => by omega) (fun (h : w2.heap.size + 1 ≤ p) => by omega) (fun (h : w2.heap.size + 1 ≤ g) => by omega) (fun (h : w2.heap.size + 1 ≤ w2.heap.size) => by omega), HG.out.2.1⟩)
            obtain ⟨vx, hvx⟩ : ∃ vx, Value.slice va (L.length + 1) vcp = vx := ⟨_, rfl⟩
            obtain ⟨V5, hV5⟩ : ∃ V5, w9.setCell ⟨w2.heap.size + 1, 0, none⟩ (.slice va (L.length + 1) vcp) = V5 := ⟨_, rfl⟩
            rw [hV5] at HX ⊢
            clear hV5
            rw [hvx] at HX
            clear hvx
            obtain ⟨b0, b1, b2, b3⟩ := CB.four HX.out.1.f.q; have tc := HX.out.1.t.cells k _ HTK.out
            go_wp2
            go_roundw
            case rel => exact ⟨g0, k + 1, rfl, by go_num, hi ⟨hlt, _, _, _, _, HPP.out, HX.out.1, HX.out.2⟩⟩
            case measure => simp [intOf]; omega
          · by_cases hgl : g0 < (L ++ [(⟨c1, c2, c3, c4, c5, c6, c7, c8, c9⟩ : Cm)]).length
            · have hpz := HPP.out.pass hgl
              obtain ⟨hv1, hv2, hv3, hv4⟩ := hpz
              have HHD := hi (fun p g W hM => head_any p g 700 bs' ⟨p1, p2, p3, p4⟩ W hM HPP.out.fair)
              have HPS := hi (fun W hQ => pass_any w2.heap.size ⟨p1, p2, p3, p4⟩ W hQ HPP.out.fair)
              rw [hv2] at HHD
              rw [hv3] at HPS
              obtain ⟨hd, hhd⟩ : ∃ hd, headV bs' ⟨p1, p2, p3, p4⟩ = hd := ⟨_, rfl⟩
              rw [hhd] at HHD hv1
              obtain ⟨qz, hqz⟩ : ∃ qz, passQ ⟨p1, p2, p3, p4⟩ = qz := ⟨_, rfl⟩
              rw [hqz] at HPS hv4
              have HP1 := hi hv4
              obtain ⟨d1, d2, d3, d4, d5, d6, d7, d8, d9⟩ := hd
              have HG0 := hi hv1
              dsimp only [Qu.v, Cm.v] at HHD HPS
              have qd : eqCm ⟨d1, d2, d3, d4, d5, d6, d7, d8, d9⟩ ⟨d1, d2, d3, d4, d5, d6, d7, d8, d9⟩ = true := by rw [eqCm_iff]; simp
              have hlp : 0 < (((L ++ [(⟨c1, c2, c3, c4, c5, c6, c7, c8, c9⟩ : Cm)]).length - g0 : Nat) : Int) := by omega
              obtain ⟨M, hM⟩ : ∃ M : Int, (((L ++ [(⟨c1, c2, c3, c4, c5, c6, c7, c8, c9⟩ : Cm)]).length - g0 : Nat) : Int) = M := ⟨_, rfl⟩
              rw [hM] at HLF hlp
              clear hv1 hv2 hv3 hv4 hhd hqz hM
              go_wp2_with (first
                | (go_at_call 16; ((with_reducible refine (HRM.out _).mono ?_); rintro e' w3 ⟨rfl, hb3⟩; have H4 := hi (And.intro (HAA.out.later hb3) (HBB.out.later hb3)); clear hb3 a0 a1 a2 a3; have hcm := H4.out.1.c.cells k _ HCC.out; unfold cmdC at hcm; dsimp only at hcm; obtain ⟨m0, m1, m2, m3, m4, m5, m6, m7, m8⟩ := hcm))
                | (go_at_call 18; ((with_reducible refine (HPT.out _ H4.out.1.f.m.mem H4.out.1.f.q).mono ?_); rintro e' w4 ⟨rfl, hq4⟩; have H5 := hi (And.intro (H4.out.1.qm hq4) (H4.out.2.kept hq4.kept (fun i h => by rcases h with rfl | rfl <;> omega))); clear hq4 m0 m1 m2 m3 m4 m5 m6 m7 m8; have hcm := H5.out.1.c.cells k _ HCC.out; have pbc := H5.out.2.b.cell 0)))
              obtain ⟨i0, hi2, hz0, hz1, hz2⟩ := cm_info_parts cm_info
              have HSP0 := hi (show (SPut (w2.heap.size + 1) v B (off + k * 9) ⟨c1, c2, c3, c4, c5, c6, c7, c8, c9⟩) w4 from ⟨pbc, hcm⟩)
              clear pbc hcm
              refine wp_region_noPanic ?_
              refine wp_region_last_drew (S := (SPut (w2.heap.size + 1) v B (off + k * 9) ⟨c1, c2, c3, c4, c5, c6, c7, c8, c9⟩)) [7] (by kernel_rfl) (SPut.of HSP0.out rfl rfl) (fun hHeld => ?_)
              (try simp only [Array.replicate_succ, Array.replicate_zero, List.push_toArray, List.nil_append, List.cons_append])
              have hBl := Nat.lt_of_lt_of_le (HC.out.lt hne) (Nat.le_of_lt (Nat.lt_of_lt_of_le z2 (Nat.le_of_lt H5.out.1.f.q.lt)))
              have hpl := H5.out.2.b.lt
              have HSP := hi (show (SPut (w2.heap.size + 1) v B (off + k * 9) ⟨c1, c2, c3, c4, c5, c6, c7, c8, c9⟩) w4.drew from SPut.of HSP0.out rfl rfl)
              have HBD := hi (H5.out.2.later (below_dr w4))
              have HKD := hi (show Below w4.heap.size w4 w4.drew from below_dr w4)
              have hdz : w4.drew.heap.size = w4.heap.size := rfl
              obtain ⟨Vd, hVd⟩ : ∃ Vd, w4.drew = Vd := ⟨_, rfl⟩
              rw [hVd] at HSP HBD HKD hdz hHeld ⊢
              clear hVd HSP0
              refine wpAnyF_take (i := 1) (v := ?_) (by kernel_rfl) (by kernel_rfl) rfl (by kernel_rfl) (by kernel_rfl) (by kernel_rfl) (fun _ _ _ h => h) (Or.inl ⟨by rfl, ?_⟩) (by assumption) ?_
              rotate_left
              · intro w' hSw; (try dsimp only at hSw); clear hSw; go_simp; (try with_reducible rfl)
              (try simp only [Act.put, List.getElem_toArray, List.getElem_cons_zero, List.getElem_cons_succ, List.setIfInBounds_toArray, List.set_cons_zero, List.set_cons_succ])
              refine wpAnyF_take (i := 2) (v := ?_) (by kernel_rfl) (by kernel_rfl) rfl (by kernel_rfl) (by kernel_rfl) (by kernel_rfl) (fun _ _ _ h => h) (Or.inl ⟨by rfl, ?_⟩) (by assumption) ?_
              rotate_left
              · intro w' hSw; (try dsimp only at hSw); clear hSw; go_simp; (try with_reducible rfl)
              (try simp only [Act.put, List.getElem_toArray, List.getElem_cons_zero, List.getElem_cons_succ, List.setIfInBounds_toArray, List.set_cons_zero, List.set_cons_succ])
              refine wpAnyF_take (i := 3) (v := ?_) (by kernel_rfl) (by kernel_rfl) rfl (by kernel_rfl) (by kernel_rfl) (by kernel_rfl) (fun _ _ _ h => h) (Or.inl ⟨by rfl, ?_⟩) (by assumption) ?_
              rotate_left
              · intro w' hSw; (try dsimp only at hSw); clear hSw; go_simp; (try with_reducible rfl)
              (try simp only [Act.put, List.getElem_toArray, List.getElem_cons_zero, List.getElem_cons_succ, List.setIfInBounds_toArray, List.set_cons_zero, List.set_cons_succ])
              refine wpAnyF_take (i := 0) (v := ?_) (by kernel_rfl) (by kernel_rfl) rfl (by kernel_rfl) (by kernel_rfl) (by kernel_rfl) (fun _ _ _ h => h) (Or.inl ⟨by rfl, ?_⟩) (by assumption) ?_
              rotate_left
              · intro w' hSw; (try dsimp only at hSw); have hsb := hSw.b; clear hSw; go_simp; (try with_reducible rfl)
              (try simp only [Act.put, List.getElem_toArray, List.getElem_cons_zero, List.getElem_cons_succ, List.setIfInBounds_toArray, List.set_cons_zero, List.set_cons_succ])
              refine wpAnyF_take (i := 4) (v := ?_) (by kernel_rfl) (by kernel_rfl) rfl (by kernel_rfl) (by kernel_rfl) (by kernel_rfl) (fun _ _ _ h => h) (Or.inl ⟨by rfl, ?_⟩) (by assumption) ?_
              rotate_left
              · intro w' hSw; (try dsimp only at hSw); have hsm := hSw.m; unfold cmdC at hsm; dsimp only at hsm; obtain ⟨hm0, hm1, hm2, hm3, hm4, hm5, hm6, hm7, hm8⟩ := hsm; clear hSw; go_simp; (try with_reducible rfl)
              (try simp only [Act.put, List.getElem_toArray, List.getElem_cons_zero, List.getElem_cons_succ, List.setIfInBounds_toArray, List.set_cons_zero, List.set_cons_succ])
              refine wpAnyF_ready (rs := [5]) (by kernel_rfl) (by simp) ?_
              refine AllReadyF.cons rfl (fun KK hKK => ?_) AllReadyF.nil
              go_simp
              refine hKK.out _ _ (SPut.of HSP.out (Below.heap_alloc _ _ _ (by omega)) (Below.heap_alloc _ _ _ (by omega))) (fun hHeld => ?_)
              clear hKK KK
              (try simp only [Act.put, List.getElem_toArray, List.getElem_cons_zero, List.getElem_cons_succ, List.setIfInBounds_toArray, List.set_cons_zero, List.set_cons_succ])
              refine wpAnyF_ready (rs := [6]) (by kernel_rfl) (by simp) ?_
              refine AllReadyF.cons rfl (fun KK hKK => ?_) AllReadyF.nil
              (try rw [if_pos (by rfl)])
              refine wp_append_own _ (.tmp 50) (.tmp 55) 50 rfl (w2.heap.size + 1 + 1) 36 i0 (.agg #[.int .i64 0, .int .i64 0, .int .i64 0, .int .i64 0, .int .i64 0, .int .i64 0, .int .i64 0, .int .i64 0, .bool false]) 9 72 Try.underlying50 hi2 hz0 hz1 hz2 rfl (by decide) v L.length (flM L) rfl (HBD.out.row.alloc _) ⟨w4.heap.size, 0, none⟩ 1 1 (Cm.cs ⟨c1, c2, c3, c4, c5, c6, c7, c8, c9⟩).toList rfl rfl (cm_new hdz.symm ⟨c1, c2, c3, c4, c5, c6, c7, c8, c9⟩ _) (cm_one _) (by unfold maxLen; omega) (by omega) (by simp; omega) ?_
              intro v' w9 hown' hgrow _
              obtain ⟨va, vcp, rfl⟩ := rowM_form hown'
              obtain ⟨hg1, hg2, hg3, hg4⟩ := HBD.out.grow hown' rfl hgrow
              have hS9 : (SPut (w2.heap.size + 1) v B (off + k * 9) ⟨c1, c2, c3, c4, c5, c6, c7, c8, c9⟩) w9 := ⟨hg1.cell 0, (HSP.out.m.kept (Below.heap_alloc Vd (.cells #[.int .i64 c1, .int .i64 c2, .int .i64 c3, .int .i64 c4, .int .i64 c5, .int .i64 c6, .int .i64 c7, .int .i64 c8, .bool c9] 36) B (by omega))).kept (hgrow.block B (by simp; omega) (fun e9 => by have := (HBD.out.row.lt _ e9.symm).1; have := HC.out.lt hne; omega))⟩
              have HG := hi (And.intro hg1 (And.intro hg2 (And.intro hg3 hg4)))
              clear hown' hgrow hg1 hg2 hg3 hg4
              refine hKK.out _ _ hS9 (fun hHeld => ?_)
              clear hKK KK
              (try simp only [Act.put, List.getElem_toArray, List.getElem_cons_zero, List.getElem_cons_succ, List.setIfInBounds_toArray, List.set_cons_zero, List.set_cons_succ])
              refine wpAnyF_ready (rs := [7]) (by kernel_rfl) (by simp) ?_
              refine AllReadyF.last (by kernel_rfl) rfl (fun KK hKK => ?_) AllReadyF.nil
              have hc9 : w9.cell? ⟨w2.heap.size + 1, 0, none⟩ = some v := HG.out.1.cell 0
              have hf9 := HG.out.1.frozen
              go_simp
              refine hKK.out _ _ ?_
              clear hKK KK
              (try simp only [Act.put, List.getElem_toArray, List.getElem_cons_zero, List.getElem_cons_succ, List.setIfInBounds_toArray, List.set_cons_zero, List.set_cons_succ])
              refine wpAnyF_done (by kernel_rfl) ?_ _
              refine NoPanic.normal ?_
              have HX := hi (show OrA w p g w2.heap.size (some ⟨B, off, none⟩) B off cs _ tB toff ts bs' ⟨p1, p2, p3, p4⟩ (w9.setCell ⟨w2.heap.size + 1, 0, none⟩ (.slice va (L.length + 1) vcp)) ∧ PuB (w2.heap.size + 1) (L ++ [(⟨c1, c2, c3, c4, c5, c6, c7, c8, c9⟩ : Cm)]) (.slice va (L.length + 1) vcp) (w9.setCell ⟨w2.heap.size + 1, 0, none⟩ (.slice va (L.length + 1) vcp)) from ⟨(H5.out.1.later HKD.out).kept HG.out.2.2.1 (fun i (h : w2.heap.size + 1 ≤ i) => by omega) (fun (h : w2.heap.size + 1 ≤ p) => by omega) (fun (h : w2.heap.size + 1 ≤ g) => by omega) (fun (h : w2.heap.size + 1 ≤ w2.heap.size) => by omega), HG.out.2.1⟩)
              obtain ⟨vx, hvx⟩ : ∃ vx, Value.slice va (L.length + 1) vcp = vx := ⟨_, rfl⟩
              obtain ⟨V5, hV5⟩ : ∃ V5, w9.setCell ⟨w2.heap.size + 1, 0, none⟩ (.slice va (L.length + 1) vcp) = V5 := ⟨_, rfl⟩
              rw [hV5] at HX ⊢
              clear hV5
              rw [hvx] at HX
              clear hvx
              obtain ⟨b0, b1, b2, b3⟩ := CB.four HX.out.1.f.q; have tc := HX.out.1.t.cells k _ HTK.out
              go_wp2_with (first
                          | (go_at_call 15; ((with_reducible refine (HLF.out _).mono ?_); rintro e' w5 ⟨rfl, hb5⟩; have HY := hi (And.intro (HX.out.1.later hb5) (HX.out.2.later hb5)); clear hb5 b0 b1 b2 b3 tc; obtain ⟨b0, b1, b2, b3⟩ := CB.four HY.out.1.f.q))
                          | (go_at_call 19; ((with_reducible refine (HHD.out p g _ HY.out.1.f.m.mem).mono ?_); rintro e' w6 ⟨rfl, hb6⟩; have hk6 := hb6.alloc hb6.size (.cells #[.int .i64 d1, .int .i64 d2, .int .i64 d3, .int .i64 d4, .int .i64 d5, .int .i64 d6, .int .i64 d7, .int .i64 d8, .bool d9] 36); have HZ := hi (And.intro (HY.out.1.later hk6) (And.intro (HY.out.2.later hk6) (CB.new w6 36 #[.int .i64 d1, .int .i64 d2, .int .i64 d3, .int .i64 d4, .int .i64 d5, .int .i64 d6, .int .i64 d7, .int .i64 d8, .bool d9]))); have z6 := hb6.size; have qf6 := (CB.new w6 36 #[.int .i64 0, .int .i64 0, .int .i64 0, .int .i64 0, .int .i64 0, .int .i64 0, .int .i64 0, .int .i64 0, .bool false]).frozen; clear hb6 hk6 b0 b1 b2 b3)))
              obtain ⟨G, cap, hvf, hGb, hGl, hGn, hGc⟩ := rowM_get HZ.out.2.1.row HG0.out
              have HSZ := hi (show SHd (w2.heap.size + 1) vx w6.heap.size G (g0 * 9) ⟨d1, d2, d3, d4, d5, d6, d7, d8, d9⟩ (w6.alloc (.cells #[.int .i64 d1, .int .i64 d2, .int .i64 d3, .int .i64 d4, .int .i64 d5, .int .i64 d6, .int .i64 d7, .int .i64 d8, .bool d9] 36)) from ⟨HZ.out.2.1.b.cell 0, cmdC_of HZ.out.2.2, hGc⟩)
              have hbl := HZ.out.1.f.q.lt
              simp only [World.size_alloc] at hbl hGl
              have hpl6 := HZ.out.2.1.b.lt
              simp only [World.size_alloc] at hpl6
              have hdd : G ≠ w6.heap.size := fun eG => by
                        have h1 := (HY.out.2.row.lt G (by rw [hvf]; rfl)).2
                        omega
              subst hvf
              clear hGc
              obtain ⟨N, hN⟩ : ∃ N, (L ++ [(⟨c1, c2, c3, c4, c5, c6, c7, c8, c9⟩ : Cm)]).length = N := ⟨_, rfl⟩
              have hNk : N ≤ k + 1 := by rw [← hN]; exact HPP.out.le
              rw [hN] at HSZ hGn
              have hgn : decide (N ≤ g0) = false := by simp; omega
              have hgn2 : decide ((N : Int) ≤ (g0 : Int)) = false := by simp; omega
              refine wp_region_noPanic ?_
              refine wp_region_last_drew (S := (SHd (w2.heap.size + 1) (.slice (some ⟨G, 0, none⟩) N cap) w6.heap.size G (g0 * 9) ⟨d1, d2, d3, d4, d5, d6, d7, d8, d9⟩)) [] (by kernel_rfl) (SHd.of HSZ.out rfl rfl rfl) (fun hHeld => ?_)
              (try simp only [Array.replicate_succ, Array.replicate_zero, List.push_toArray, List.nil_append, List.cons_append])
              have hdz6 : (w6.alloc (.cells #[.int .i64 d1, .int .i64 d2, .int .i64 d3, .int .i64 d4, .int .i64 d5, .int .i64 d6, .int .i64 d7, .int .i64 d8, .bool d9] 36)).drew.heap.size = w6.heap.size + 1 := by show (w6.alloc _).heap.size = _; simp
              have HSD := hi (show (SHd (w2.heap.size + 1) (.slice (some ⟨G, 0, none⟩) N cap) w6.heap.size G (g0 * 9) ⟨d1, d2, d3, d4, d5, d6, d7, d8, d9⟩) (w6.alloc (.cells #[.int .i64 d1, .int .i64 d2, .int .i64 d3, .int .i64 d4, .int .i64 d5, .int .i64 d6, .int .i64 d7, .int .i64 d8, .bool d9] 36)).drew from SHd.of HSZ.out rfl rfl rfl)
              have HZD := hi (And.intro (HZ.out.1.later (below_dr _)) (HZ.out.2.1.later (below_dr _)))
              obtain ⟨Vz, hVz⟩ : ∃ Vz, (w6.alloc (.cells #[.int .i64 d1, .int .i64 d2, .int .i64 d3, .int .i64 d4, .int .i64 d5, .int .i64 d6, .int .i64 d7, .int .i64 d8, .bool d9] 36)).drew = Vz := ⟨_, rfl⟩
              rw [hVz] at HSD HZD hdz6 hHeld ⊢
              clear hVz HSZ
              refine wpAnyF_take (i := 0) (v := ?_) (by kernel_rfl) (by kernel_rfl) rfl (by kernel_rfl) (by kernel_rfl) (by kernel_rfl) (fun _ _ _ h => h) (Or.inl ⟨by rfl, ?_⟩) (by assumption) ?_
              rotate_left
              · intro w' hSw; (try dsimp only at hSw); clear hSw; go_simp; (try with_reducible rfl)
              (try simp only [Act.put, List.getElem_toArray, List.getElem_cons_zero, List.getElem_cons_succ, List.setIfInBounds_toArray, List.set_cons_zero, List.set_cons_succ])
              refine wpAnyF_take (i := 1) (v := ?_) (by kernel_rfl) (by kernel_rfl) rfl (by kernel_rfl) (by kernel_rfl) (by kernel_rfl) (fun _ _ _ h => h) (Or.inl ⟨by rfl, ?_⟩) (by assumption) ?_
              rotate_left
              · intro w' hSw; (try dsimp only at hSw); clear hSw; go_simp; (try with_reducible rfl)
              (try simp only [Act.put, List.getElem_toArray, List.getElem_cons_zero, List.getElem_cons_succ, List.setIfInBounds_toArray, List.set_cons_zero, List.set_cons_succ])
              refine wpAnyF_take (i := 2) (v := ?_) (by kernel_rfl) (by kernel_rfl) rfl (by kernel_rfl) (by kernel_rfl) (by kernel_rfl) (fun _ _ _ h => h) (Or.inl ⟨by rfl, ?_⟩) (by assumption) ?_
              rotate_left
              · intro w' hSw; (try dsimp only at hSw); clear hSw; go_simp; (try with_reducible rfl)
              (try simp only [Act.put, List.getElem_toArray, List.getElem_cons_zero, List.getElem_cons_succ, List.setIfInBounds_toArray, List.set_cons_zero, List.set_cons_succ])
              refine wpAnyF_take (i := 3) (v := ?_) (by kernel_rfl) (by kernel_rfl) rfl (by kernel_rfl) (by kernel_rfl) (by kernel_rfl) (fun _ _ _ h => h) (Or.inl ⟨by rfl, ?_⟩) (by assumption) ?_
              rotate_left
              · intro w' hSw; (try dsimp only at hSw); clear hSw; go_simp; (try with_reducible rfl)
              (try simp only [Act.put, List.getElem_toArray, List.getElem_cons_zero, List.getElem_cons_succ, List.setIfInBounds_toArray, List.set_cons_zero, List.set_cons_succ])
              refine wpAnyF_take (i := 4) (v := ?_) (by kernel_rfl) (by kernel_rfl) rfl (by kernel_rfl) (by kernel_rfl) (by kernel_rfl) (fun _ _ _ h => h) (Or.inl ⟨by rfl, ?_⟩) (by assumption) ?_
              rotate_left
              · intro w' hSw; (try dsimp only at hSw); have hsb := hSw.b; clear hSw; go_simp; (try with_reducible rfl)
              (try simp only [Act.put, List.getElem_toArray, List.getElem_cons_zero, List.getElem_cons_succ, List.setIfInBounds_toArray, List.set_cons_zero, List.set_cons_succ])
              refine wpAnyF_take (i := 5) (v := ?_) (by kernel_rfl) (by kernel_rfl) rfl (by kernel_rfl) (by kernel_rfl) (by kernel_rfl) (fun _ _ _ h => h) (Or.inl ⟨by rfl, ?_⟩) (by assumption) ?_
              rotate_left
              · intro w' hSw; (try dsimp only at hSw); clear hSw; go_simp; (try with_reducible rfl)
              (try simp only [Act.put, List.getElem_toArray, List.getElem_cons_zero, List.getElem_cons_succ, List.setIfInBounds_toArray, List.set_cons_zero, List.set_cons_succ])
              refine wpAnyF_take (i := 6) (v := ?_) (by kernel_rfl) (by kernel_rfl) rfl (by kernel_rfl) (by kernel_rfl) (by kernel_rfl) (fun _ _ _ h => h) (Or.inl ⟨by rfl, ?_⟩) (by assumption) ?_
              rotate_left
              · intro w' hSw; (try dsimp only at hSw); clear hSw; go_simp; (try with_reducible rfl)
              (try simp only [Act.put, List.getElem_toArray, List.getElem_cons_zero, List.getElem_cons_succ, List.setIfInBounds_toArray, List.set_cons_zero, List.set_cons_succ])
              refine wpAnyF_take (i := 7) (v := ?_) (by kernel_rfl) (by kernel_rfl) rfl (by kernel_rfl) (by kernel_rfl) (by kernel_rfl) (fun _ _ _ h => h) (Or.inl ⟨by rfl, ?_⟩) (by assumption) ?_
              rotate_left
              · intro w' hSw; (try dsimp only at hSw); clear hSw; go_simp; (try with_reducible rfl)
              (try simp only [Act.put, List.getElem_toArray, List.getElem_cons_zero, List.getElem_cons_succ, List.setIfInBounds_toArray, List.set_cons_zero, List.set_cons_succ])
              refine wpAnyF_take (i := 8) (v := ?_) (by kernel_rfl) (by kernel_rfl) rfl (by kernel_rfl) (by kernel_rfl) (by kernel_rfl) (fun _ _ _ h => h) (Or.inl ⟨by rfl, ?_⟩) (by assumption) ?_
              rotate_left
              · intro w' hSw; (try dsimp only at hSw); clear hSw; go_simp; (try with_reducible rfl)
              (try simp only [Act.put, List.getElem_toArray, List.getElem_cons_zero, List.getElem_cons_succ, List.setIfInBounds_toArray, List.set_cons_zero, List.set_cons_succ])
              refine wpAnyF_take (i := 9) (v := ?_) (by kernel_rfl) (by kernel_rfl) rfl (by kernel_rfl) (by kernel_rfl) (by kernel_rfl) (fun _ _ _ h => h) (Or.inl ⟨by rfl, ?_⟩) (by assumption) ?_
              rotate_left
              · intro w' hSw; (try dsimp only at hSw); have hsd := hSw.d; unfold cmdC at hsd; dsimp only at hsd; simp only [Nat.zero_add] at hsd; obtain ⟨hd0, hd1, hd2, hd3, hd4, hd5, hd6, hd7, hd8⟩ := hsd; clear hSw; go_simp; (try with_reducible rfl)
              (try simp only [Act.put, List.getElem_toArray, List.getElem_cons_zero, List.getElem_cons_succ, List.setIfInBounds_toArray, List.set_cons_zero, List.set_cons_succ])
              refine wpAnyF_take (i := 10) (v := ?_) (by kernel_rfl) (by kernel_rfl) rfl (by kernel_rfl) (by kernel_rfl) (by kernel_rfl) (fun _ _ _ h => h) (Or.inl ⟨by rfl, ?_⟩) (by assumption) ?_
              rotate_left
              · intro w' hSw; (try dsimp only at hSw); have hsb := hSw.b; clear hSw; go_simp; (try with_reducible rfl)
              (try simp only [Act.put, List.getElem_toArray, List.getElem_cons_zero, List.getElem_cons_succ, List.setIfInBounds_toArray, List.set_cons_zero, List.set_cons_succ])
              refine wpAnyF_take (i := 11) (v := ?_) (by kernel_rfl) (by kernel_rfl) rfl (by kernel_rfl) (by kernel_rfl) (by kernel_rfl) (fun _ _ _ h => h) (Or.inl ⟨by rfl, ?_⟩) (by assumption) ?_
              rotate_left
              · intro w' hSw; (try dsimp only at hSw); clear hSw; go_simp; (try with_reducible rfl)
              (try simp only [Act.put, List.getElem_toArray, List.getElem_cons_zero, List.getElem_cons_succ, List.setIfInBounds_toArray, List.set_cons_zero, List.set_cons_succ])
              refine wpAnyF_take (i := 12) (v := ?_) (by kernel_rfl) (by kernel_rfl) rfl (by kernel_rfl) (by kernel_rfl) (by kernel_rfl) (fun _ _ _ h => h) (Or.inl ⟨by rfl, ?_⟩) (by assumption) ?_
              rotate_left
              · intro w' hSw; (try dsimp only at hSw); clear hSw; go_simp; (try with_reducible rfl)
              (try simp only [Act.put, List.getElem_toArray, List.getElem_cons_zero, List.getElem_cons_succ, List.setIfInBounds_toArray, List.set_cons_zero, List.set_cons_succ])
              refine wpAnyF_take (i := 13) (v := ?_) (by kernel_rfl) (by kernel_rfl) rfl (by kernel_rfl) (by kernel_rfl) (by kernel_rfl) (fun _ _ _ h => h) (Or.inl ⟨by rfl, ?_⟩) (by assumption) ?_
              rotate_left
              · intro w' hSw; (try dsimp only at hSw); have hsr := hSw.r; unfold cmdC at hsr; dsimp only at hsr; obtain ⟨hr0, hr1, hr2, hr3, hr4, hr5, hr6, hr7, hr8⟩ := hsr; clear hSw; go_simp; (try with_reducible rfl)
              (try simp only [Act.put, List.getElem_toArray, List.getElem_cons_zero, List.getElem_cons_succ, List.setIfInBounds_toArray, List.set_cons_zero, List.set_cons_succ])
              refine wpAnyF_take (i := 14) (v := ?_) (by kernel_rfl) (by kernel_rfl) rfl (by kernel_rfl) (by kernel_rfl) (by kernel_rfl) (fun _ _ _ h => h) (Or.inl ⟨by rfl, ?_⟩) (by assumption) ?_
              rotate_left
              · intro w' hSw; (try dsimp only at hSw); clear hSw; go_simp; (try with_reducible rfl)
              (try simp only [Act.put, List.getElem_toArray, List.getElem_cons_zero, List.getElem_cons_succ, List.setIfInBounds_toArray, List.set_cons_zero, List.set_cons_succ])
              refine wpAnyF_take (i := 15) (v := ?_) (by kernel_rfl) (by kernel_rfl) rfl (by kernel_rfl) (by kernel_rfl) (by kernel_rfl) (fun _ _ _ h => h) (Or.inl ⟨by rfl, ?_⟩) (by assumption) ?_
              rotate_left
              · intro w' hSw; (try dsimp only at hSw); clear hSw; go_simp; (try with_reducible rfl)
              (try simp only [Act.put, List.getElem_toArray, List.getElem_cons_zero, List.getElem_cons_succ, List.setIfInBounds_toArray, List.set_cons_zero, List.set_cons_succ])
              refine wpAnyF_take (i := 16) (v := ?_) (by kernel_rfl) (by kernel_rfl) rfl (by kernel_rfl) (by kernel_rfl) (by kernel_rfl) (fun _ _ _ h => h) (Or.inl ⟨by rfl, ?_⟩) (by assumption) ?_
              rotate_left
              · intro w' hSw; (try dsimp only at hSw); clear hSw; go_simp; (try with_reducible rfl)
              (try simp only [Act.put, List.getElem_toArray, List.getElem_cons_zero, List.getElem_cons_succ, List.setIfInBounds_toArray, List.set_cons_zero, List.set_cons_succ])
              refine wpAnyF_ready (rs := [17]) (by kernel_rfl) (by simp) ?_
              refine AllReadyF.cons rfl (fun KK hKK => ?_) AllReadyF.nil
              go_simp
              ((with_reducible refine (HPS.out _ HZD.out.1.f.q).mono ?_); rintro e' w8 ⟨rfl, hq8⟩; have HW8 := hi (And.intro (HZD.out.1.qk hq8) (HZD.out.2.kept hq8.kept (fun i h => by omega))); have hS8 := SHd.of HSD.out (hq8.kept.block (w2.heap.size + 1) (by omega) (by omega)) (hq8.kept.block w6.heap.size (by omega) (by omega)) (hq8.kept.block G (by omega) (by omega)); clear hq8)
              (try go_simp)
              refine hKK.out _ _ hS8 (fun hHeld => ?_)
              clear hKK KK
              (try simp only [Act.put, List.getElem_toArray, List.getElem_cons_zero, List.getElem_cons_succ, List.setIfInBounds_toArray, List.set_cons_zero, List.set_cons_succ])
              refine wpAnyF_take (i := 18) (v := ?_) (by kernel_rfl) (by kernel_rfl) rfl (by kernel_rfl) (by kernel_rfl) (by kernel_rfl) (fun _ _ _ h => h) (Or.inl ⟨by rfl, ?_⟩) (by assumption) ?_
              rotate_left
              · intro w' hSw; (try dsimp only at hSw); clear hSw; go_simp; (try with_reducible rfl)
              (try simp only [Act.put, List.getElem_toArray, List.getElem_cons_zero, List.getElem_cons_succ, List.setIfInBounds_toArray, List.set_cons_zero, List.set_cons_succ])
              refine wpAnyF_take (i := 19) (v := ?_) (by kernel_rfl) (by kernel_rfl) rfl (by kernel_rfl) (by kernel_rfl) (by kernel_rfl) (fun _ _ _ h => h) (Or.inl ⟨by rfl, ?_⟩) (by assumption) ?_
              rotate_left
              · intro w' hSw; (try dsimp only at hSw); clear hSw; go_simp; (try with_reducible rfl)
              (try simp only [Act.put, List.getElem_toArray, List.getElem_cons_zero, List.getElem_cons_succ, List.setIfInBounds_toArray, List.set_cons_zero, List.set_cons_succ])
              refine wpAnyF_done (by kernel_rfl) ?_ _
              refine NoPanic.normal ?_
              go_wp2
              go_roundw
              case rel => exact ⟨g0 + 1, k + 1, by go_num, by go_num, hi ⟨hlt, _, _, _, _, HP1.out, HW8.out.1, HW8.out.2⟩⟩
              case measure => simp [intOf]; omega
            · have hl0 : (((L ++ [(⟨c1, c2, c3, c4, c5, c6, c7, c8, c9⟩ : Cm)]).length - g0 : Nat) : Int) = 0 := by omega
              rw [hl0] at HLF
              go_wp2_with (first
                | (go_at_call 16; ((with_reducible refine (HRM.out _).mono ?_); rintro e' w3 ⟨rfl, hb3⟩; have H4 := hi (And.intro (HAA.out.later hb3) (HBB.out.later hb3)); clear hb3 a0 a1 a2 a3; have hcm := H4.out.1.c.cells k _ HCC.out; unfold cmdC at hcm; dsimp only at hcm; obtain ⟨m0, m1, m2, m3, m4, m5, m6, m7, m8⟩ := hcm))
                | (go_at_call 18; ((with_reducible refine (HPT.out _ H4.out.1.f.m.mem H4.out.1.f.q).mono ?_); rintro e' w4 ⟨rfl, hq4⟩; have H5 := hi (And.intro (H4.out.1.qm hq4) (H4.out.2.kept hq4.kept (fun i h => by rcases h with rfl | rfl <;> omega))); clear hq4 m0 m1 m2 m3 m4 m5 m6 m7 m8; have hcm := H5.out.1.c.cells k _ HCC.out; have pbc := H5.out.2.b.cell 0)))
              obtain ⟨i0, hi2, hz0, hz1, hz2⟩ := cm_info_parts cm_info
              have HSP0 := hi (show (SPut (w2.heap.size + 1) v B (off + k * 9) ⟨c1, c2, c3, c4, c5, c6, c7, c8, c9⟩) w4 from ⟨pbc, hcm⟩)
              clear pbc hcm
              refine wp_region_noPanic ?_
              refine wp_region_last_drew (S := (SPut (w2.heap.size + 1) v B (off + k * 9) ⟨c1, c2, c3, c4, c5, c6, c7, c8, c9⟩)) [7] (by kernel_rfl) (SPut.of HSP0.out rfl rfl) (fun hHeld => ?_)
              (try simp only [Array.replicate_succ, Array.replicate_zero, List.push_toArray, List.nil_append, List.cons_append])
              have hBl := Nat.lt_of_lt_of_le (HC.out.lt hne) (Nat.le_of_lt (Nat.lt_of_lt_of_le z2 (Nat.le_of_lt H5.out.1.f.q.lt)))
              have hpl := H5.out.2.b.lt
              have HSP := hi (show (SPut (w2.heap.size + 1) v B (off + k * 9) ⟨c1, c2, c3, c4, c5, c6, c7, c8, c9⟩) w4.drew from SPut.of HSP0.out rfl rfl)
              have HBD := hi (H5.out.2.later (below_dr w4))
              have HKD := hi (show Below w4.heap.size w4 w4.drew from below_dr w4)
              have hdz : w4.drew.heap.size = w4.heap.size := rfl
              obtain ⟨Vd, hVd⟩ : ∃ Vd, w4.drew = Vd := ⟨_, rfl⟩
              rw [hVd] at HSP HBD HKD hdz hHeld ⊢
              clear hVd HSP0
              refine wpAnyF_take (i := 1) (v := ?_) (by kernel_rfl) (by kernel_rfl) rfl (by kernel_rfl) (by kernel_rfl) (by kernel_rfl) (fun _ _ _ h => h) (Or.inl ⟨by rfl, ?_⟩) (by assumption) ?_
              rotate_left
              · intro w' hSw; (try dsimp only at hSw); clear hSw; go_simp; (try with_reducible rfl)
              (try simp only [Act.put, List.getElem_toArray, List.getElem_cons_zero, List.getElem_cons_succ, List.setIfInBounds_toArray, List.set_cons_zero, List.set_cons_succ])
              refine wpAnyF_take (i := 2) (v := ?_) (by kernel_rfl) (by kernel_rfl) rfl (by kernel_rfl) (by kernel_rfl) (by kernel_rfl) (fun _ _ _ h => h) (Or.inl ⟨by rfl, ?_⟩) (by assumption) ?_
              rotate_left
              · intro w' hSw; (try dsimp only at hSw); clear hSw; go_simp; (try with_reducible rfl)
              (try simp only [Act.put, List.getElem_toArray, List.getElem_cons_zero, List.getElem_cons_succ, List.setIfInBounds_toArray, List.set_cons_zero, List.set_cons_succ])
              refine wpAnyF_take (i := 3) (v := ?_) (by kernel_rfl) (by kernel_rfl) rfl (by kernel_rfl) (by kernel_rfl) (by kernel_rfl) (fun _ _ _ h => h) (Or.inl ⟨by rfl, ?_⟩) (by assumption) ?_
              rotate_left
              · intro w' hSw; (try dsimp only at hSw); clear hSw; go_simp; (try with_reducible rfl)
              (try simp only [Act.put, List.getElem_toArray, List.getElem_cons_zero, List.getElem_cons_succ, List.setIfInBounds_toArray, List.set_cons_zero, List.set_cons_succ])
              refine wpAnyF_take (i := 0) (v := ?_) (by kernel_rfl) (by kernel_rfl) rfl (by kernel_rfl) (by kernel_rfl) (by kernel_rfl) (fun _ _ _ h => h) (Or.inl ⟨by rfl, ?_⟩) (by assumption) ?_
              rotate_left
              · intro w' hSw; (try dsimp only at hSw); have hsb := hSw.b; clear hSw; go_simp; (try with_reducible rfl)
              (try simp only [Act.put, List.getElem_toArray, List.getElem_cons_zero, List.getElem_cons_succ, List.setIfInBounds_toArray, List.set_cons_zero, List.set_cons_succ])
              refine wpAnyF_take (i := 4) (v := ?_) (by kernel_rfl) (by kernel_rfl) rfl (by kernel_rfl) (by kernel_rfl) (by kernel_rfl) (fun _ _ _ h => h) (Or.inl ⟨by rfl, ?_⟩) (by assumption) ?_
              rotate_left
              · intro w' hSw; (try dsimp only at hSw); have hsm := hSw.m; unfold cmdC at hsm; dsimp only at hsm; obtain ⟨hm0, hm1, hm2, hm3, hm4, hm5, hm6, hm7, hm8⟩ := hsm; clear hSw; go_simp; (try with_reducible rfl)
              (try simp only [Act.put, List.getElem_toArray, List.getElem_cons_zero, List.getElem_cons_succ, List.setIfInBounds_toArray, List.set_cons_zero, List.set_cons_succ])
              refine wpAnyF_ready (rs := [5]) (by kernel_rfl) (by simp) ?_
              refine AllReadyF.cons rfl (fun KK hKK => ?_) AllReadyF.nil
              go_simp
              refine hKK.out _ _ (SPut.of HSP.out (Below.heap_alloc _ _ _ (by omega)) (Below.heap_alloc _ _ _ (by omega))) (fun hHeld => ?_)
              clear hKK KK
              (try simp only [Act.put, List.getElem_toArray, List.getElem_cons_zero, List.getElem_cons_succ, List.setIfInBounds_toArray, List.set_cons_zero, List.set_cons_succ])
              refine wpAnyF_ready (rs := [6]) (by kernel_rfl) (by simp) ?_
              refine AllReadyF.cons rfl (fun KK hKK => ?_) AllReadyF.nil
              (try rw [if_pos (by rfl)])
              refine wp_append_own _ (.tmp 50) (.tmp 55) 50 rfl (w2.heap.size + 1 + 1) 36 i0 (.agg #[.int .i64 0, .int .i64 0, .int .i64 0, .int .i64 0, .int .i64 0, .int .i64 0, .int .i64 0, .int .i64 0, .bool false]) 9 72 Try.underlying50 hi2 hz0 hz1 hz2 rfl (by decide) v L.length (flM L) rfl (HBD.out.row.alloc _) ⟨w4.heap.size, 0, none⟩ 1 1 (Cm.cs ⟨c1, c2, c3, c4, c5, c6, c7, c8, c9⟩).toList rfl rfl (cm_new hdz.symm ⟨c1, c2, c3, c4, c5, c6, c7, c8, c9⟩ _) (cm_one _) (by unfold maxLen; omega) (by omega) (by simp; omega) ?_
              intro v' w9 hown' hgrow _
              obtain ⟨va, vcp, rfl⟩ := rowM_form hown'
              obtain ⟨hg1, hg2, hg3, hg4⟩ := HBD.out.grow hown' rfl hgrow
              have hS9 : (SPut (w2.heap.size + 1) v B (off + k * 9) ⟨c1, c2, c3, c4, c5, c6, c7, c8, c9⟩) w9 := ⟨hg1.cell 0, (HSP.out.m.kept (Below.heap_alloc Vd (.cells #[.int .i64 c1, .int .i64 c2, .int .i64 c3, .int .i64 c4, .int .i64 c5, .int .i64 c6, .int .i64 c7, .int .i64 c8, .bool c9] 36) B (by omega))).kept (hgrow.block B (by simp; omega) (fun e9 => by have := (HBD.out.row.lt _ e9.symm).1; have := HC.out.lt hne; omega))⟩
              have HG := hi (And.intro hg1 (And.intro hg2 (And.intro hg3 hg4)))
              clear hown' hgrow hg1 hg2 hg3 hg4
              refine hKK.out _ _ hS9 (fun hHeld => ?_)
              clear hKK KK
              (try simp only [Act.put, List.getElem_toArray, List.getElem_cons_zero, List.getElem_cons_succ, List.setIfInBounds_toArray, List.set_cons_zero, List.set_cons_succ])
              refine wpAnyF_ready (rs := [7]) (by kernel_rfl) (by simp) ?_
              refine AllReadyF.last (by kernel_rfl) rfl (fun KK hKK => ?_) AllReadyF.nil
              have hc9 : w9.cell? ⟨w2.heap.size + 1, 0, none⟩ = some v := HG.out.1.cell 0
              have hf9 := HG.out.1.frozen
              go_simp
              refine hKK.out _ _ ?_
              clear hKK KK
              (try simp only [Act.put, List.getElem_toArray, List.getElem_cons_zero, List.getElem_cons_succ, List.setIfInBounds_toArray, List.set_cons_zero, List.set_cons_succ])
              refine wpAnyF_done (by kernel_rfl) ?_ _
              refine NoPanic.normal ?_
              have HX := hi (show OrA w p g w2.heap.size (some ⟨B, off, none⟩) B off cs _ tB toff ts bs' ⟨p1, p2, p3, p4⟩ (w9.setCell ⟨w2.heap.size + 1, 0, none⟩ (.slice va (L.length + 1) vcp)) ∧ PuB (w2.heap.size + 1) (L ++ [(⟨c1, c2, c3, c4, c5, c6, c7, c8, c9⟩ : Cm)]) (.slice va (L.length + 1) vcp) (w9.setCell ⟨w2.heap.size + 1, 0, none⟩ (.slice va (L.length + 1) vcp)) from ⟨(H5.out.1.later HKD.out).kept HG.out.2.2.1 (fun i (h : w2.heap.size + 1 ≤ i) => by omega) (fun (h : w2.heap.size + 1 ≤ p) => by omega) (fun (h : w2.heap.size + 1 ≤ g) => by omega) (fun (h : w2.heap.size + 1 ≤ w2.heap.size) => by omega), HG.out.2.1⟩)
              obtain ⟨vx, hvx⟩ : ∃ vx, Value.slice va (L.length + 1) vcp = vx := ⟨_, rfl⟩
              obtain ⟨V5, hV5⟩ : ∃ V5, w9.setCell ⟨w2.heap.size + 1, 0, none⟩ (.slice va (L.length + 1) vcp) = V5 := ⟨_, rfl⟩
              rw [hV5] at HX ⊢
              clear hV5
              rw [hvx] at HX
              clear hvx
              obtain ⟨b0, b1, b2, b3⟩ := CB.four HX.out.1.f.q; have tc := HX.out.1.t.cells k _ HTK.out
              go_wp2_with (first
                          | (go_at_call 15; ((with_reducible refine (HLF.out _).mono ?_); rintro e' w5 ⟨rfl, hb5⟩; have HY := hi (And.intro (HX.out.1.later hb5) (HX.out.2.later hb5)); clear hb5 b0 b1 b2 b3 tc; obtain ⟨b0, b1, b2, b3⟩ := CB.four HY.out.1.f.q)))
              go_roundw
              case rel => exact ⟨g0, k + 1, rfl, by go_num, hi ⟨hlt, _, _, _, _, HPP.out, HY.out.1, HY.out.2⟩⟩
              case measure => simp [intOf]; omega
        · go_wp2_with (first
            | (go_at_call 16; ((with_reducible refine (HRM.out _).mono ?_); rintro e' w3 ⟨rfl, hb3⟩; have H4 := hi (And.intro (HAA.out.later hb3) (HBB.out.later hb3)); clear hb3 a0 a1 a2 a3; have hcm := H4.out.1.c.cells k _ HCC.out; unfold cmdC at hcm; dsimp only at hcm; obtain ⟨m0, m1, m2, m3, m4, m5, m6, m7, m8⟩ := hcm))
            | (go_at_call 18; ((with_reducible refine (HPT.out _ H4.out.1.f.m.mem H4.out.1.f.q).mono ?_); rintro e' w4 ⟨rfl, hq4⟩; have H5 := hi (And.intro (H4.out.1.qm hq4) (H4.out.2.kept hq4.kept (fun i h => by rcases h with rfl | rfl <;> omega))); clear hq4 m0 m1 m2 m3 m4 m5 m6 m7 m8; have hcm := H5.out.1.c.cells k _ HCC.out; have pbc := H5.out.2.b.cell 0)))
          obtain ⟨i0, hi2, hz0, hz1, hz2⟩ := cm_info_parts cm_info
          have HSP0 := hi (show (SPut (w2.heap.size + 1) v B (off + k * 9) ⟨c1, c2, c3, c4, c5, c6, c7, c8, c9⟩) w4 from ⟨pbc, hcm⟩)
          clear pbc hcm
          refine wp_region_noPanic ?_
          refine wp_region_last_drew (S := (SPut (w2.heap.size + 1) v B (off + k * 9) ⟨c1, c2, c3, c4, c5, c6, c7, c8, c9⟩)) [7] (by kernel_rfl) (SPut.of HSP0.out rfl rfl) (fun hHeld => ?_)
          (try simp only [Array.replicate_succ, Array.replicate_zero, List.push_toArray, List.nil_append, List.cons_append])
          have hBl := Nat.lt_of_lt_of_le (HC.out.lt hne) (Nat.le_of_lt (Nat.lt_of_lt_of_le z2 (Nat.le_of_lt H5.out.1.f.q.lt)))
          have hpl := H5.out.2.b.lt
          have HSP := hi (show (SPut (w2.heap.size + 1) v B (off + k * 9) ⟨c1, c2, c3, c4, c5, c6, c7, c8, c9⟩) w4.drew from SPut.of HSP0.out rfl rfl)
          have HBD := hi (H5.out.2.later (below_dr w4))
          have HKD := hi (show Below w4.heap.size w4 w4.drew from below_dr w4)
          have hdz : w4.drew.heap.size = w4.heap.size := rfl
          obtain ⟨Vd, hVd⟩ : ∃ Vd, w4.drew = Vd := ⟨_, rfl⟩
          rw [hVd] at HSP HBD HKD hdz hHeld ⊢
          clear hVd HSP0
          refine wpAnyF_take (i := 1) (v := ?_) (by kernel_rfl) (by kernel_rfl) rfl (by kernel_rfl) (by kernel_rfl) (by kernel_rfl) (fun _ _ _ h => h) (Or.inl ⟨by rfl, ?_⟩) (by assumption) ?_
          rotate_left
          · intro w' hSw; (try dsimp only at hSw); clear hSw; go_simp; (try with_reducible rfl)
          (try simp only [Act.put, List.getElem_toArray, List.getElem_cons_zero, List.getElem_cons_succ, List.setIfInBounds_toArray, List.set_cons_zero, List.set_cons_succ])
          refine wpAnyF_take (i := 2) (v := ?_) (by kernel_rfl) (by kernel_rfl) rfl (by kernel_rfl) (by kernel_rfl) (by kernel_rfl) (fun _ _ _ h => h) (Or.inl ⟨by rfl, ?_⟩) (by assumption) ?_
          rotate_left
          · intro w' hSw; (try dsimp only at hSw); clear hSw; go_simp; (try with_reducible rfl)
          (try simp only [Act.put, List.getElem_toArray, List.getElem_cons_zero, List.getElem_cons_succ, List.setIfInBounds_toArray, List.set_cons_zero, List.set_cons_succ])
          refine wpAnyF_take (i := 3) (v := ?_) (by kernel_rfl) (by kernel_rfl) rfl (by kernel_rfl) (by kernel_rfl) (by kernel_rfl) (fun _ _ _ h => h) (Or.inl ⟨by rfl, ?_⟩) (by assumption) ?_
          rotate_left
          · intro w' hSw; (try dsimp only at hSw); clear hSw; go_simp; (try with_reducible rfl)
          (try simp only [Act.put, List.getElem_toArray, List.getElem_cons_zero, List.getElem_cons_succ, List.setIfInBounds_toArray, List.set_cons_zero, List.set_cons_succ])
          refine wpAnyF_take (i := 0) (v := ?_) (by kernel_rfl) (by kernel_rfl) rfl (by kernel_rfl) (by kernel_rfl) (by kernel_rfl) (fun _ _ _ h => h) (Or.inl ⟨by rfl, ?_⟩) (by assumption) ?_
          rotate_left
          · intro w' hSw; (try dsimp only at hSw); have hsb := hSw.b; clear hSw; go_simp; (try with_reducible rfl)
          (try simp only [Act.put, List.getElem_toArray, List.getElem_cons_zero, List.getElem_cons_succ, List.setIfInBounds_toArray, List.set_cons_zero, List.set_cons_succ])
          refine wpAnyF_take (i := 4) (v := ?_) (by kernel_rfl) (by kernel_rfl) rfl (by kernel_rfl) (by kernel_rfl) (by kernel_rfl) (fun _ _ _ h => h) (Or.inl ⟨by rfl, ?_⟩) (by assumption) ?_
          rotate_left
          · intro w' hSw; (try dsimp only at hSw); have hsm := hSw.m; unfold cmdC at hsm; dsimp only at hsm; obtain ⟨hm0, hm1, hm2, hm3, hm4, hm5, hm6, hm7, hm8⟩ := hsm; clear hSw; go_simp; (try with_reducible rfl)
          (try simp only [Act.put, List.getElem_toArray, List.getElem_cons_zero, List.getElem_cons_succ, List.setIfInBounds_toArray, List.set_cons_zero, List.set_cons_succ])
          refine wpAnyF_ready (rs := [5]) (by kernel_rfl) (by simp) ?_
          refine AllReadyF.cons rfl (fun KK hKK => ?_) AllReadyF.nil
          go_simp
          refine hKK.out _ _ (SPut.of HSP.out (Below.heap_alloc _ _ _ (by omega)) (Below.heap_alloc _ _ _ (by omega))) (fun hHeld => ?_)
          clear hKK KK
          (try simp only [Act.put, List.getElem_toArray, List.getElem_cons_zero, List.getElem_cons_succ, List.setIfInBounds_toArray, List.set_cons_zero, List.set_cons_succ])
          refine wpAnyF_ready (rs := [6]) (by kernel_rfl) (by simp) ?_
          refine AllReadyF.cons rfl (fun KK hKK => ?_) AllReadyF.nil
          (try rw [if_pos (by rfl)])
          refine wp_append_own _ (.tmp 50) (.tmp 55) 50 rfl (w2.heap.size + 1 + 1) 36 i0 (.agg #[.int .i64 0, .int .i64 0, .int .i64 0, .int .i64 0, .int .i64 0, .int .i64 0, .int .i64 0, .int .i64 0, .bool false]) 9 72 Try.underlying50 hi2 hz0 hz1 hz2 rfl (by decide) v L.length (flM L) rfl (HBD.out.row.alloc _) ⟨w4.heap.size, 0, none⟩ 1 1 (Cm.cs ⟨c1, c2, c3, c4, c5, c6, c7, c8, c9⟩).toList rfl rfl (cm_new hdz.symm ⟨c1, c2, c3, c4, c5, c6, c7, c8, c9⟩ _) (cm_one _) (by unfold maxLen; omega) (by omega) (by simp; omega) ?_
          intro v' w9 hown' hgrow _
          obtain ⟨va, vcp, rfl⟩ := rowM_form hown'
          obtain ⟨hg1, hg2, hg3, hg4⟩ := HBD.out.grow hown' rfl hgrow
          have hS9 : (SPut (w2.heap.size + 1) v B (off + k * 9) ⟨c1, c2, c3, c4, c5, c6, c7, c8, c9⟩) w9 := ⟨hg1.cell 0, (HSP.out.m.kept (Below.heap_alloc Vd (.cells #[.int .i64 c1, .int .i64 c2, .int .i64 c3, .int .i64 c4, .int .i64 c5, .int .i64 c6, .int .i64 c7, .int .i64 c8, .bool c9] 36) B (by omega))).kept (hgrow.block B (by simp; omega) (fun e9 => by have := (HBD.out.row.lt _ e9.symm).1; have := HC.out.lt hne; omega))⟩
          have HG := hi (And.intro hg1 (And.intro hg2 (And.intro hg3 hg4)))
          clear hown' hgrow hg1 hg2 hg3 hg4
          refine hKK.out _ _ hS9 (fun hHeld => ?_)
          clear hKK KK
          (try simp only [Act.put, List.getElem_toArray, List.getElem_cons_zero, List.getElem_cons_succ, List.setIfInBounds_toArray, List.set_cons_zero, List.set_cons_succ])
          refine wpAnyF_ready (rs := [7]) (by kernel_rfl) (by simp) ?_
          refine AllReadyF.last (by kernel_rfl) rfl (fun KK hKK => ?_) AllReadyF.nil
          have hc9 : w9.cell? ⟨w2.heap.size + 1, 0, none⟩ = some v := HG.out.1.cell 0
          have hf9 := HG.out.1.frozen
          go_simp
          refine hKK.out _ _ ?_
          clear hKK KK
          (try simp only [Act.put, List.getElem_toArray, List.getElem_cons_zero, List.getElem_cons_succ, List.setIfInBounds_toArray, List.set_cons_zero, List.set_cons_succ])
          refine wpAnyF_done (by kernel_rfl) ?_ _
          refine NoPanic.normal ?_
          have HX := hi (show OrA w p g w2.heap.size (some ⟨B, off, none⟩) B off cs _ tB toff ts bs' ⟨p1, p2, p3, p4⟩ (w9.setCell ⟨w2.heap.size + 1, 0, none⟩ (.slice va (L.length + 1) vcp)) ∧ PuB (w2.heap.size + 1) (L ++ [(⟨c1, c2, c3, c4, c5, c6, c7, c8, c9⟩ : Cm)]) (.slice va (L.length + 1) vcp) (w9.setCell ⟨w2.heap.size + 1, 0, none⟩ (.slice va (L.length + 1) vcp)) from ⟨(H5.out.1.later HKD.out).kept HG.out.2.2.1 (fun i (h : w2.heap.size + 1 ≤ i) => by omega) (fun (h : w2.heap.size + 1 ≤ p) => by omega) (fun (h : w2.heap.size + 1 ≤ g) => by omega) (fun (h : w2.heap.size + 1 ≤ w2.heap.size) => by omega), HG.out.2.1⟩)
          obtain ⟨vx, hvx⟩ : ∃ vx, Value.slice va (L.length + 1) vcp = vx := ⟨_, rfl⟩
          obtain ⟨V5, hV5⟩ : ∃ V5, w9.setCell ⟨w2.heap.size + 1, 0, none⟩ (.slice va (L.length + 1) vcp) = V5 := ⟨_, rfl⟩
          rw [hV5] at HX ⊢
          clear hV5
          rw [hvx] at HX
          clear hvx
          obtain ⟨b0, b1, b2, b3⟩ := CB.four HX.out.1.f.q; have tc := trivial
          go_wp2
          go_roundw
          case rel => exact ⟨g0, k + 1, rfl, by go_num, hi ⟨hlt, _, _, _, _, HPP.out, HX.out.1, HX.out.2⟩⟩
          case measure => simp [intOf]; omega
      · obtain ⟨hn1, hn2, hn3⟩ := hP.putNo hE
        rw [hn1, hn2] at HPT
        have HPP := hi hP.more
        obtain ⟨E, hEE⟩ : ∃ E, quE bs.length q c = E := ⟨_, rfl⟩
        rw [hEE] at HPT hn3 hE
        rw [hR] at hn3
        clear hn1 hn2 hEE
        rcases hn3 with ⟨rfl, hR1⟩ | ⟨hE2, hR1⟩
        · have HCC := hi hc
          obtain ⟨q1, q2, q3, q4⟩ := q
          obtain ⟨c1, c2, c3, c4, c5, c6, c7, c8, c9⟩ := c
          obtain ⟨a0, a1, a2, a3⟩ := CB.four hA.f.q
          dsimp only [Qu.v, Cm.v] at HRM HPT
          clear hA hB hc hcm hP
          have HLF := hi (fun W => left_q ⟨q1, q2, q3, q4⟩ HPP.out.fair.s.2 W)
          rw [HPP.out.lef] at HLF
          dsimp only [Qu.v] at HLF
          by_cases hkt : k < ts.length
          · obtain ⟨t, ht⟩ : ∃ t, ts[k]? = some t := ⟨_, List.getElem?_eq_getElem hkt⟩
            have HTK := hi ht
            have hta := HT.out.at_ (fun e9 => by rw [e9] at hkt; simp at hkt)
            subst hta
            clear ht
            cases t
            · obtain ⟨vx, hvx⟩ : ∃ vx, v = vx := ⟨_, rfl⟩
              rw [hvx] at HBB
              clear hvx
              go_wp2_with (first
                | (go_at_call 16; ((with_reducible refine (HRM.out _).mono ?_); rintro e' w3 ⟨rfl, hb3⟩; have H4 := hi (And.intro (HAA.out.later hb3) (HBB.out.later hb3)); clear hb3 a0 a1 a2 a3; have hcm := H4.out.1.c.cells k _ HCC.out; unfold cmdC at hcm; dsimp only at hcm; obtain ⟨m0, m1, m2, m3, m4, m5, m6, m7, m8⟩ := hcm))
                | (go_at_call 18; ((with_reducible refine (HPT.out _ H4.out.1.f.m.mem H4.out.1.f.q).mono ?_); rintro e' w4 ⟨rfl, hq4⟩; have HX := hi (And.intro (H4.out.1.qm hq4) (H4.out.2.kept hq4.kept (fun i h => by rcases h with rfl | rfl <;> omega))); clear hq4 m0 m1 m2 m3 m4 m5 m6 m7 m8; obtain ⟨b0, b1, b2, b3⟩ := CB.four HX.out.1.f.q; have tc := HX.out.1.t.cells k _ HTK.out)))
              go_roundw
              case rel => exact ⟨g0, k + 1, rfl, by go_num, hi ⟨hlt, _, _, _, _, HPP.out, HX.out.1, HX.out.2⟩⟩
              case measure => simp [intOf]; omega
            · by_cases hgl : g0 < (L).length
              · have hpz := HPP.out.pass hgl
                obtain ⟨hv1, hv2, hv3, hv4⟩ := hpz
                have HHD := hi (fun p g W hM => head_any p g 700 bs ⟨q1, q2, q3, q4⟩ W hM HPP.out.fair)
                have HPS := hi (fun W hQ => pass_any w2.heap.size ⟨q1, q2, q3, q4⟩ W hQ HPP.out.fair)
                rw [hv2] at HHD
                rw [hv3] at HPS
                obtain ⟨hd, hhd⟩ : ∃ hd, headV bs ⟨q1, q2, q3, q4⟩ = hd := ⟨_, rfl⟩
                rw [hhd] at HHD hv1
                obtain ⟨qz, hqz⟩ : ∃ qz, passQ ⟨q1, q2, q3, q4⟩ = qz := ⟨_, rfl⟩
                rw [hqz] at HPS hv4
                have HP1 := hi hv4
                obtain ⟨d1, d2, d3, d4, d5, d6, d7, d8, d9⟩ := hd
                have HG0 := hi hv1
                dsimp only [Qu.v, Cm.v] at HHD HPS
                have qd : eqCm ⟨d1, d2, d3, d4, d5, d6, d7, d8, d9⟩ ⟨d1, d2, d3, d4, d5, d6, d7, d8, d9⟩ = true := by rw [eqCm_iff]; simp
                have hlp : 0 < (((L).length - g0 : Nat) : Int) := by omega
                obtain ⟨M, hM⟩ : ∃ M : Int, (((L).length - g0 : Nat) : Int) = M := ⟨_, rfl⟩
                rw [hM] at HLF hlp
                clear hv1 hv2 hv3 hv4 hhd hqz hM
                obtain ⟨vx, hvx⟩ : ∃ vx, v = vx := ⟨_, rfl⟩
                rw [hvx] at HBB
                clear hvx
                go_wp2_with (first
                  | (go_at_call 16; ((with_reducible refine (HRM.out _).mono ?_); rintro e' w3 ⟨rfl, hb3⟩; have H4 := hi (And.intro (HAA.out.later hb3) (HBB.out.later hb3)); clear hb3 a0 a1 a2 a3; have hcm := H4.out.1.c.cells k _ HCC.out; unfold cmdC at hcm; dsimp only at hcm; obtain ⟨m0, m1, m2, m3, m4, m5, m6, m7, m8⟩ := hcm))
                  | (go_at_call 18; ((with_reducible refine (HPT.out _ H4.out.1.f.m.mem H4.out.1.f.q).mono ?_); rintro e' w4 ⟨rfl, hq4⟩; have HX := hi (And.intro (H4.out.1.qm hq4) (H4.out.2.kept hq4.kept (fun i h => by rcases h with rfl | rfl <;> omega))); clear hq4 m0 m1 m2 m3 m4 m5 m6 m7 m8; obtain ⟨b0, b1, b2, b3⟩ := CB.four HX.out.1.f.q; have tc := HX.out.1.t.cells k _ HTK.out))
                  | (go_at_call 15; ((with_reducible refine (HLF.out _).mono ?_); rintro e' w5 ⟨rfl, hb5⟩; have HY := hi (And.intro (HX.out.1.later hb5) (HX.out.2.later hb5)); clear hb5 b0 b1 b2 b3 tc; obtain ⟨b0, b1, b2, b3⟩ := CB.four HY.out.1.f.q))
                  | (go_at_call 19; ((with_reducible refine (HHD.out p g _ HY.out.1.f.m.mem).mono ?_); rintro e' w6 ⟨rfl, hb6⟩; have hk6 := hb6.alloc hb6.size (.cells #[.int .i64 d1, .int .i64 d2, .int .i64 d3, .int .i64 d4, .int .i64 d5, .int .i64 d6, .int .i64 d7, .int .i64 d8, .bool d9] 36); have HZ := hi (And.intro (HY.out.1.later hk6) (And.intro (HY.out.2.later hk6) (CB.new w6 36 #[.int .i64 d1, .int .i64 d2, .int .i64 d3, .int .i64 d4, .int .i64 d5, .int .i64 d6, .int .i64 d7, .int .i64 d8, .bool d9]))); have z6 := hb6.size; have qf6 := (CB.new w6 36 #[.int .i64 0, .int .i64 0, .int .i64 0, .int .i64 0, .int .i64 0, .int .i64 0, .int .i64 0, .int .i64 0, .bool false]).frozen; clear hb6 hk6 b0 b1 b2 b3)))
                obtain ⟨G, cap, hvf, hGb, hGl, hGn, hGc⟩ := rowM_get HZ.out.2.1.row HG0.out
                have HSZ := hi (show SHd (w2.heap.size + 1) vx w6.heap.size G (g0 * 9) ⟨d1, d2, d3, d4, d5, d6, d7, d8, d9⟩ (w6.alloc (.cells #[.int .i64 d1, .int .i64 d2, .int .i64 d3, .int .i64 d4, .int .i64 d5, .int .i64 d6, .int .i64 d7, .int .i64 d8, .bool d9] 36)) from ⟨HZ.out.2.1.b.cell 0, cmdC_of HZ.out.2.2, hGc⟩)
                have hbl := HZ.out.1.f.q.lt
                simp only [World.size_alloc] at hbl hGl
                have hpl6 := HZ.out.2.1.b.lt
                simp only [World.size_alloc] at hpl6
                have hdd : G ≠ w6.heap.size := fun eG => by
                          have h1 := (HY.out.2.row.lt G (by rw [hvf]; rfl)).2
                          omega
                subst hvf
                clear hGc
                obtain ⟨N, hN⟩ : ∃ N, (L).length = N := ⟨_, rfl⟩
                have hNk : N ≤ k + 1 := by rw [← hN]; exact HPP.out.le
                rw [hN] at HSZ hGn
                have hgn : decide (N ≤ g0) = false := by simp; omega
                have hgn2 : decide ((N : Int) ≤ (g0 : Int)) = false := by simp; omega
                refine wp_region_noPanic ?_
                refine wp_region_last_drew (S := (SHd (w2.heap.size + 1) (.slice (some ⟨G, 0, none⟩) N cap) w6.heap.size G (g0 * 9) ⟨d1, d2, d3, d4, d5, d6, d7, d8, d9⟩)) [] (by kernel_rfl) (SHd.of HSZ.out rfl rfl rfl) (fun hHeld => ?_)
                (try simp only [Array.replicate_succ, Array.replicate_zero, List.push_toArray, List.nil_append, List.cons_append])
                have hdz6 : (w6.alloc (.cells #[.int .i64 d1, .int .i64 d2, .int .i64 d3, .int .i64 d4, .int .i64 d5, .int .i64 d6, .int .i64 d7, .int .i64 d8, .bool d9] 36)).drew.heap.size = w6.heap.size + 1 := by show (w6.alloc _).heap.size = _; simp
                have HSD := hi (show (SHd (w2.heap.size + 1) (.slice (some ⟨G, 0, none⟩) N cap) w6.heap.size G (g0 * 9) ⟨d1, d2, d3, d4, d5, d6, d7, d8, d9⟩) (w6.alloc (.cells #[.int .i64 d1, .int .i64 d2, .int .i64 d3, .int .i64 d4, .int .i64 d5, .int .i64 d6, .int .i64 d7, .int .i64 d8, .bool d9] 36)).drew from SHd.of HSZ.out rfl rfl rfl)
                have HZD := hi (And.intro (HZ.out.1.later (below_dr _)) (HZ.out.2.1.later (below_dr _)))
                obtain ⟨Vz, hVz⟩ : ∃ Vz, (w6.alloc (.cells #[.int .i64 d1, .int .i64 d2, .int .i64 d3, .int .i64 d4, .int .i64 d5, .int .i64 d6, .int .i64 d7, .int .i64 d8, .bool d9] 36)).drew = Vz := ⟨_, rfl⟩
                rw [hVz] at HSD HZD hdz6 hHeld ⊢
                clear hVz HSZ
                refine wpAnyF_take (i := 0) (v := ?_) (by kernel_rfl) (by kernel_rfl) rfl (by kernel_rfl) (by kernel_rfl) (by kernel_rfl) (fun _ _ _ h => h) (Or.inl ⟨by rfl, ?_⟩) (by assumption) ?_
                rotate_left
                · intro w' hSw; (try dsimp only at hSw); clear hSw; go_simp; (try with_reducible rfl)
                (try simp only [Act.put, List.getElem_toArray, List.getElem_cons_zero, List.getElem_cons_succ, List.setIfInBounds_toArray, List.set_cons_zero, List.set_cons_succ])
                refine wpAnyF_take (i := 1) (v := ?_) (by kernel_rfl) (by kernel_rfl) rfl (by kernel_rfl) (by kernel_rfl) (by kernel_rfl) (fun _ _ _ h => h) (Or.inl ⟨by rfl, ?_⟩) (by assumption) ?_
                rotate_left
                · intro w' hSw; (try dsimp only at hSw); clear hSw; go_simp; (try with_reducible rfl)
                (try simp only [Act.put, List.getElem_toArray, List.getElem_cons_zero, List.getElem_cons_succ, List.setIfInBounds_toArray, List.set_cons_zero, List.set_cons_succ])
                refine wpAnyF_take (i := 2) (v := ?_) (by kernel_rfl) (by kernel_rfl) rfl (by kernel_rfl) (by kernel_rfl) (by kernel_rfl) (fun _ _ _ h => h) (Or.inl ⟨by rfl, ?_⟩) (by assumption) ?_
                rotate_left
                · intro w' hSw; (try dsimp only at hSw); clear hSw; go_simp; (try with_reducible rfl)
                (try simp only [Act.put, List.getElem_toArray, List.getElem_cons_zero, List.getElem_cons_succ, List.setIfInBounds_toArray, List.set_cons_zero, List.set_cons_succ])
                refine wpAnyF_take (i := 3) (v := ?_) (by kernel_rfl) (by kernel_rfl) rfl (by kernel_rfl) (by kernel_rfl) (by kernel_rfl) (fun _ _ _ h => h) (Or.inl ⟨by rfl, ?_⟩) (by assumption) ?_
                rotate_left
                · intro w' hSw; (try dsimp only at hSw); clear hSw; go_simp; (try with_reducible rfl)
                (try simp only [Act.put, List.getElem_toArray, List.getElem_cons_zero, List.getElem_cons_succ, List.setIfInBounds_toArray, List.set_cons_zero, List.set_cons_succ])
                refine wpAnyF_take (i := 4) (v := ?_) (by kernel_rfl) (by kernel_rfl) rfl (by kernel_rfl) (by kernel_rfl) (by kernel_rfl) (fun _ _ _ h => h) (Or.inl ⟨by rfl, ?_⟩) (by assumption) ?_
                rotate_left
                · intro w' hSw; (try dsimp only at hSw); have hsb := hSw.b; clear hSw; go_simp; (try with_reducible rfl)
                (try simp only [Act.put, List.getElem_toArray, List.getElem_cons_zero, List.getElem_cons_succ, List.setIfInBounds_toArray, List.set_cons_zero, List.set_cons_succ])
                refine wpAnyF_take (i := 5) (v := ?_) (by kernel_rfl) (by kernel_rfl) rfl (by kernel_rfl) (by kernel_rfl) (by kernel_rfl) (fun _ _ _ h => h) (Or.inl ⟨by rfl, ?_⟩) (by assumption) ?_
                rotate_left
                · intro w' hSw; (try dsimp only at hSw); clear hSw; go_simp; (try with_reducible rfl)
                (try simp only [Act.put, List.getElem_toArray, List.getElem_cons_zero, List.getElem_cons_succ, List.setIfInBounds_toArray, List.set_cons_zero, List.set_cons_succ])
                refine wpAnyF_take (i := 6) (v := ?_) (by kernel_rfl) (by kernel_rfl) rfl (by kernel_rfl) (by kernel_rfl) (by kernel_rfl) (fun _ _ _ h => h) (Or.inl ⟨by rfl, ?_⟩) (by assumption) ?_
                rotate_left
                · intro w' hSw; (try dsimp only at hSw); clear hSw; go_simp; (try with_reducible rfl)
                (try simp only [Act.put, List.getElem_toArray, List.getElem_cons_zero, List.getElem_cons_succ, List.setIfInBounds_toArray, List.set_cons_zero, List.set_cons_succ])
                refine wpAnyF_take (i := 7) (v := ?_) (by kernel_rfl) (by kernel_rfl) rfl (by kernel_rfl) (by kernel_rfl) (by kernel_rfl) (fun _ _ _ h => h) (Or.inl ⟨by rfl, ?_⟩) (by assumption) ?_
                rotate_left
                · intro w' hSw; (try dsimp only at hSw); clear hSw; go_simp; (try with_reducible rfl)
                (try simp only [Act.put, List.getElem_toArray, List.getElem_cons_zero, List.getElem_cons_succ, List.setIfInBounds_toArray, List.set_cons_zero, List.set_cons_succ])
                refine wpAnyF_take (i := 8) (v := ?_) (by kernel_rfl) (by kernel_rfl) rfl (by kernel_rfl) (by kernel_rfl) (by kernel_rfl) (fun _ _ _ h => h) (Or.inl ⟨by rfl, ?_⟩) (by assumption) ?_
                rotate_left
                · intro w' hSw; (try dsimp only at hSw); clear hSw; go_simp; (try with_reducible rfl)
                (try simp only [Act.put, List.getElem_toArray, List.getElem_cons_zero, List.getElem_cons_succ, List.setIfInBounds_toArray, List.set_cons_zero, List.set_cons_succ])
                refine wpAnyF_take (i := 9) (v := ?_) (by kernel_rfl) (by kernel_rfl) rfl (by kernel_rfl) (by kernel_rfl) (by kernel_rfl) (fun _ _ _ h => h) (Or.inl ⟨by rfl, ?_⟩) (by assumption) ?_
                rotate_left
                · intro w' hSw; (try dsimp only at hSw); have hsd := hSw.d; unfold cmdC at hsd; dsimp only at hsd; simp only [Nat.zero_add] at hsd; obtain ⟨hd0, hd1, hd2, hd3, hd4, hd5, hd6, hd7, hd8⟩ := hsd; clear hSw; go_simp; (try with_reducible rfl)
                (try simp only [Act.put, List.getElem_toArray, List.getElem_cons_zero, List.getElem_cons_succ, List.setIfInBounds_toArray, List.set_cons_zero, List.set_cons_succ])
                refine wpAnyF_take (i := 10) (v := ?_) (by kernel_rfl) (by kernel_rfl) rfl (by kernel_rfl) (by kernel_rfl) (by kernel_rfl) (fun _ _ _ h => h) (Or.inl ⟨by rfl, ?_⟩) (by assumption) ?_
                rotate_left
                · intro w' hSw; (try dsimp only at hSw); have hsb := hSw.b; clear hSw; go_simp; (try with_reducible rfl)
                (try simp only [Act.put, List.getElem_toArray, List.getElem_cons_zero, List.getElem_cons_succ, List.setIfInBounds_toArray, List.set_cons_zero, List.set_cons_succ])
                refine wpAnyF_take (i := 11) (v := ?_) (by kernel_rfl) (by kernel_rfl) rfl (by kernel_rfl) (by kernel_rfl) (by kernel_rfl) (fun _ _ _ h => h) (Or.inl ⟨by rfl, ?_⟩) (by assumption) ?_
                rotate_left
                · intro w' hSw; (try dsimp only at hSw); clear hSw; go_simp; (try with_reducible rfl)
                (try simp only [Act.put, List.getElem_toArray, List.getElem_cons_zero, List.getElem_cons_succ, List.setIfInBounds_toArray, List.set_cons_zero, List.set_cons_succ])
                refine wpAnyF_take (i := 12) (v := ?_) (by kernel_rfl) (by kernel_rfl) rfl (by kernel_rfl) (by kernel_rfl) (by kernel_rfl) (fun _ _ _ h => h) (Or.inl ⟨by rfl, ?_⟩) (by assumption) ?_
                rotate_left
                · intro w' hSw; (try dsimp only at hSw); clear hSw; go_simp; (try with_reducible rfl)
                (try simp only [Act.put, List.getElem_toArray, List.getElem_cons_zero, List.getElem_cons_succ, List.setIfInBounds_toArray, List.set_cons_zero, List.set_cons_succ])
                refine wpAnyF_take (i := 13) (v := ?_) (by kernel_rfl) (by kernel_rfl) rfl (by kernel_rfl) (by kernel_rfl) (by kernel_rfl) (fun _ _ _ h => h) (Or.inl ⟨by rfl, ?_⟩) (by assumption) ?_
                rotate_left
                · intro w' hSw; (try dsimp only at hSw); have hsr := hSw.r; unfold cmdC at hsr; dsimp only at hsr; obtain ⟨hr0, hr1, hr2, hr3, hr4, hr5, hr6, hr7, hr8⟩ := hsr; clear hSw; go_simp; (try with_reducible rfl)
                (try simp only [Act.put, List.getElem_toArray, List.getElem_cons_zero, List.getElem_cons_succ, List.setIfInBounds_toArray, List.set_cons_zero, List.set_cons_succ])
                refine wpAnyF_take (i := 14) (v := ?_) (by kernel_rfl) (by kernel_rfl) rfl (by kernel_rfl) (by kernel_rfl) (by kernel_rfl) (fun _ _ _ h => h) (Or.inl ⟨by rfl, ?_⟩) (by assumption) ?_
                rotate_left
                · intro w' hSw; (try dsimp only at hSw); clear hSw; go_simp; (try with_reducible rfl)
                (try simp only [Act.put, List.getElem_toArray, List.getElem_cons_zero, List.getElem_cons_succ, List.setIfInBounds_toArray, List.set_cons_zero, List.set_cons_succ])
                refine wpAnyF_take (i := 15) (v := ?_) (by kernel_rfl) (by kernel_rfl) rfl (by kernel_rfl) (by kernel_rfl) (by kernel_rfl) (fun _ _ _ h => h) (Or.inl ⟨by rfl, ?_⟩) (by assumption) ?_
                rotate_left
                · intro w' hSw; (try dsimp only at hSw); clear hSw; go_simp; (try with_reducible rfl)
                (try simp only [Act.put, List.getElem_toArray, List.getElem_cons_zero, List.getElem_cons_succ, List.setIfInBounds_toArray, List.set_cons_zero, List.set_cons_succ])
                refine wpAnyF_take (i := 16) (v := ?_) (by kernel_rfl) (by kernel_rfl) rfl (by kernel_rfl) (by kernel_rfl) (by kernel_rfl) (fun _ _ _ h => h) (Or.inl ⟨by rfl, ?_⟩) (by assumption) ?_
                rotate_left
                · intro w' hSw; (try dsimp only at hSw); clear hSw; go_simp; (try with_reducible rfl)
                (try simp only [Act.put, List.getElem_toArray, List.getElem_cons_zero, List.getElem_cons_succ, List.setIfInBounds_toArray, List.set_cons_zero, List.set_cons_succ])
                refine wpAnyF_ready (rs := [17]) (by kernel_rfl) (by simp) ?_
                refine AllReadyF.cons rfl (fun KK hKK => ?_) AllReadyF.nil
                go_simp
                ((with_reducible refine (HPS.out _ HZD.out.1.f.q).mono ?_); rintro e' w8 ⟨rfl, hq8⟩; have HW8 := hi (And.intro (HZD.out.1.qk hq8) (HZD.out.2.kept hq8.kept (fun i h => by omega))); have hS8 := SHd.of HSD.out (hq8.kept.block (w2.heap.size + 1) (by omega) (by omega)) (hq8.kept.block w6.heap.size (by omega) (by omega)) (hq8.kept.block G (by omega) (by omega)); clear hq8)
                (try go_simp)
                refine hKK.out _ _ hS8 (fun hHeld => ?_)
                clear hKK KK
                (try simp only [Act.put, List.getElem_toArray, List.getElem_cons_zero, List.getElem_cons_succ, List.setIfInBounds_toArray, List.set_cons_zero, List.set_cons_succ])
                refine wpAnyF_take (i := 18) (v := ?_) (by kernel_rfl) (by kernel_rfl) rfl (by kernel_rfl) (by kernel_rfl) (by kernel_rfl) (fun _ _ _ h => h) (Or.inl ⟨by rfl, ?_⟩) (by assumption) ?_
                rotate_left
                · intro w' hSw; (try dsimp only at hSw); clear hSw; go_simp; (try with_reducible rfl)
                (try simp only [Act.put, List.getElem_toArray, List.getElem_cons_zero, List.getElem_cons_succ, List.setIfInBounds_toArray, List.set_cons_zero, List.set_cons_succ])
                refine wpAnyF_take (i := 19) (v := ?_) (by kernel_rfl) (by kernel_rfl) rfl (by kernel_rfl) (by kernel_rfl) (by kernel_rfl) (fun _ _ _ h => h) (Or.inl ⟨by rfl, ?_⟩) (by assumption) ?_
                rotate_left
                · intro w' hSw; (try dsimp only at hSw); clear hSw; go_simp; (try with_reducible rfl)
                (try simp only [Act.put, List.getElem_toArray, List.getElem_cons_zero, List.getElem_cons_succ, List.setIfInBounds_toArray, List.set_cons_zero, List.set_cons_succ])
                refine wpAnyF_done (by kernel_rfl) ?_ _
                refine NoPanic.normal ?_
                go_wp2
                go_roundw
                case rel => exact ⟨g0 + 1, k + 1, by go_num, by go_num, hi ⟨hlt, _, _, _, _, HP1.out, HW8.out.1, HW8.out.2⟩⟩
                case measure => simp [intOf]; omega
              · have hl0 : (((L).length - g0 : Nat) : Int) = 0 := by omega
                rw [hl0] at HLF
                obtain ⟨vx, hvx⟩ : ∃ vx, v = vx := ⟨_, rfl⟩
                rw [hvx] at HBB
                clear hvx
                go_wp2_with (first
                  | (go_at_call 16; ((with_reducible refine (HRM.out _).mono ?_); rintro e' w3 ⟨rfl, hb3⟩; have H4 := hi (And.intro (HAA.out.later hb3) (HBB.out.later hb3)); clear hb3 a0 a1 a2 a3; have hcm := H4.out.1.c.cells k _ HCC.out; unfold cmdC at hcm; dsimp only at hcm; obtain ⟨m0, m1, m2, m3, m4, m5, m6, m7, m8⟩ := hcm))
                  | (go_at_call 18; ((with_reducible refine (HPT.out _ H4.out.1.f.m.mem H4.out.1.f.q).mono ?_); rintro e' w4 ⟨rfl, hq4⟩; have HX := hi (And.intro (H4.out.1.qm hq4) (H4.out.2.kept hq4.kept (fun i h => by rcases h with rfl | rfl <;> omega))); clear hq4 m0 m1 m2 m3 m4 m5 m6 m7 m8; obtain ⟨b0, b1, b2, b3⟩ := CB.four HX.out.1.f.q; have tc := HX.out.1.t.cells k _ HTK.out))
                  | (go_at_call 15; ((with_reducible refine (HLF.out _).mono ?_); rintro e' w5 ⟨rfl, hb5⟩; have HY := hi (And.intro (HX.out.1.later hb5) (HX.out.2.later hb5)); clear hb5 b0 b1 b2 b3 tc; obtain ⟨b0, b1, b2, b3⟩ := CB.four HY.out.1.f.q)))
                go_roundw
                case rel => exact ⟨g0, k + 1, rfl, by go_num, hi ⟨hlt, _, _, _, _, HPP.out, HY.out.1, HY.out.2⟩⟩
                case measure => simp [intOf]; omega
          · obtain ⟨vx, hvx⟩ : ∃ vx, v = vx := ⟨_, rfl⟩
            rw [hvx] at HBB
            clear hvx
            go_wp2_with (first
              | (go_at_call 16; ((with_reducible refine (HRM.out _).mono ?_); rintro e' w3 ⟨rfl, hb3⟩; have H4 := hi (And.intro (HAA.out.later hb3) (HBB.out.later hb3)); clear hb3 a0 a1 a2 a3; have hcm := H4.out.1.c.cells k _ HCC.out; unfold cmdC at hcm; dsimp only at hcm; obtain ⟨m0, m1, m2, m3, m4, m5, m6, m7, m8⟩ := hcm))
              | (go_at_call 18; ((with_reducible refine (HPT.out _ H4.out.1.f.m.mem H4.out.1.f.q).mono ?_); rintro e' w4 ⟨rfl, hq4⟩; have HX := hi (And.intro (H4.out.1.qm hq4) (H4.out.2.kept hq4.kept (fun i h => by rcases h with rfl | rfl <;> omega))); clear hq4 m0 m1 m2 m3 m4 m5 m6 m7 m8; obtain ⟨b0, b1, b2, b3⟩ := CB.four HX.out.1.f.q; have tc := trivial)))
            go_roundw
            case rel => exact ⟨g0, k + 1, rfl, by go_num, hi ⟨hlt, _, _, _, _, HPP.out, HX.out.1, HX.out.2⟩⟩
            case measure => simp [intOf]; omega
        · have hz0 : (E == 0) = false := by simpa using hE
          have hz1 : (E != 2) = true := by simpa using hE2
          have hz2 : (E == 2) = false := by simpa using hE2
          have HCC := hi hc
          obtain ⟨q1, q2, q3, q4⟩ := q
          obtain ⟨c1, c2, c3, c4, c5, c6, c7, c8, c9⟩ := c
          obtain ⟨a0, a1, a2, a3⟩ := CB.four hA.f.q
          dsimp only [Qu.v, Cm.v] at HRM HPT
          clear hA hB hc hcm hP
          have HLF := hi (fun W => left_q ⟨q1, q2, q3, q4⟩ HPP.out.fair.s.2 W)
          rw [HPP.out.lef] at HLF
          dsimp only [Qu.v] at HLF
          by_cases hkt : k < ts.length
          · obtain ⟨t, ht⟩ : ∃ t, ts[k]? = some t := ⟨_, List.getElem?_eq_getElem hkt⟩
            have HTK := hi ht
            have hta := HT.out.at_ (fun e9 => by rw [e9] at hkt; simp at hkt)
            subst hta
            clear ht
            cases t
            · obtain ⟨vx, hvx⟩ : ∃ vx, v = vx := ⟨_, rfl⟩
              rw [hvx] at HBB
              clear hvx
              go_wp2_with (first
                | (go_at_call 16; ((with_reducible refine (HRM.out _).mono ?_); rintro e' w3 ⟨rfl, hb3⟩; have H4 := hi (And.intro (HAA.out.later hb3) (HBB.out.later hb3)); clear hb3 a0 a1 a2 a3; have hcm := H4.out.1.c.cells k _ HCC.out; unfold cmdC at hcm; dsimp only at hcm; obtain ⟨m0, m1, m2, m3, m4, m5, m6, m7, m8⟩ := hcm))
                | (go_at_call 18; ((with_reducible refine (HPT.out _ H4.out.1.f.m.mem H4.out.1.f.q).mono ?_); rintro e' w4 ⟨rfl, hq4⟩; have HX := hi (And.intro (H4.out.1.qm hq4) (H4.out.2.kept hq4.kept (fun i h => by rcases h with rfl | rfl <;> omega))); clear hq4 m0 m1 m2 m3 m4 m5 m6 m7 m8; obtain ⟨b0, b1, b2, b3⟩ := CB.four HX.out.1.f.q; have tc := HX.out.1.t.cells k _ HTK.out)))
              go_roundw
              case rel => exact ⟨g0, k + 1, rfl, by go_num, hi ⟨hlt, _, _, _, _, HPP.out, HX.out.1, HX.out.2⟩⟩
              case measure => simp [intOf]; omega
            · by_cases hgl : g0 < (L).length
              · have hpz := HPP.out.pass hgl
                obtain ⟨hv1, hv2, hv3, hv4⟩ := hpz
                have HHD := hi (fun p g W hM => head_any p g 700 bs ⟨q1, q2, q3, q4⟩ W hM HPP.out.fair)
                have HPS := hi (fun W hQ => pass_any w2.heap.size ⟨q1, q2, q3, q4⟩ W hQ HPP.out.fair)
                rw [hv2] at HHD
                rw [hv3] at HPS
                obtain ⟨hd, hhd⟩ : ∃ hd, headV bs ⟨q1, q2, q3, q4⟩ = hd := ⟨_, rfl⟩
                rw [hhd] at HHD hv1
                obtain ⟨qz, hqz⟩ : ∃ qz, passQ ⟨q1, q2, q3, q4⟩ = qz := ⟨_, rfl⟩
                rw [hqz] at HPS hv4
                have HP1 := hi hv4
                obtain ⟨d1, d2, d3, d4, d5, d6, d7, d8, d9⟩ := hd
                have HG0 := hi hv1
                dsimp only [Qu.v, Cm.v] at HHD HPS
                have qd : eqCm ⟨d1, d2, d3, d4, d5, d6, d7, d8, d9⟩ ⟨d1, d2, d3, d4, d5, d6, d7, d8, d9⟩ = true := by rw [eqCm_iff]; simp
                have hlp : 0 < (((L).length - g0 : Nat) : Int) := by omega
                obtain ⟨M, hM⟩ : ∃ M : Int, (((L).length - g0 : Nat) : Int) = M := ⟨_, rfl⟩
                rw [hM] at HLF hlp
                clear hv1 hv2 hv3 hv4 hhd hqz hM
                obtain ⟨vx, hvx⟩ : ∃ vx, v = vx := ⟨_, rfl⟩
                rw [hvx] at HBB
                clear hvx
                go_wp2_with (first
                  | (go_at_call 16; ((with_reducible refine (HRM.out _).mono ?_); rintro e' w3 ⟨rfl, hb3⟩; have H4 := hi (And.intro (HAA.out.later hb3) (HBB.out.later hb3)); clear hb3 a0 a1 a2 a3; have hcm := H4.out.1.c.cells k _ HCC.out; unfold cmdC at hcm; dsimp only at hcm; obtain ⟨m0, m1, m2, m3, m4, m5, m6, m7, m8⟩ := hcm))
                  | (go_at_call 18; ((with_reducible refine (HPT.out _ H4.out.1.f.m.mem H4.out.1.f.q).mono ?_); rintro e' w4 ⟨rfl, hq4⟩; have HX := hi (And.intro (H4.out.1.qm hq4) (H4.out.2.kept hq4.kept (fun i h => by rcases h with rfl | rfl <;> omega))); clear hq4 m0 m1 m2 m3 m4 m5 m6 m7 m8; obtain ⟨b0, b1, b2, b3⟩ := CB.four HX.out.1.f.q; have tc := HX.out.1.t.cells k _ HTK.out))
                  | (go_at_call 15; ((with_reducible refine (HLF.out _).mono ?_); rintro e' w5 ⟨rfl, hb5⟩; have HY := hi (And.intro (HX.out.1.later hb5) (HX.out.2.later hb5)); clear hb5 b0 b1 b2 b3 tc; obtain ⟨b0, b1, b2, b3⟩ := CB.four HY.out.1.f.q))
                  | (go_at_call 19; ((with_reducible refine (HHD.out p g _ HY.out.1.f.m.mem).mono ?_); rintro e' w6 ⟨rfl, hb6⟩; have hk6 := hb6.alloc hb6.size (.cells #[.int .i64 d1, .int .i64 d2, .int .i64 d3, .int .i64 d4, .int .i64 d5, .int .i64 d6, .int .i64 d7, .int .i64 d8, .bool d9] 36); have HZ := hi (And.intro (HY.out.1.later hk6) (And.intro (HY.out.2.later hk6) (CB.new w6 36 #[.int .i64 d1, .int .i64 d2, .int .i64 d3, .int .i64 d4, .int .i64 d5, .int .i64 d6, .int .i64 d7, .int .i64 d8, .bool d9]))); have z6 := hb6.size; have qf6 := (CB.new w6 36 #[.int .i64 0, .int .i64 0, .int .i64 0, .int .i64 0, .int .i64 0, .int .i64 0, .int .i64 0, .int .i64 0, .bool false]).frozen; clear hb6 hk6 b0 b1 b2 b3)))
                obtain ⟨G, cap, hvf, hGb, hGl, hGn, hGc⟩ := rowM_get HZ.out.2.1.row HG0.out
                have HSZ := hi (show SHd (w2.heap.size + 1) vx w6.heap.size G (g0 * 9) ⟨d1, d2, d3, d4, d5, d6, d7, d8, d9⟩ (w6.alloc (.cells #[.int .i64 d1, .int .i64 d2, .int .i64 d3, .int .i64 d4, .int .i64 d5, .int .i64 d6, .int .i64 d7, .int .i64 d8, .bool d9] 36)) from ⟨HZ.out.2.1.b.cell 0, cmdC_of HZ.out.2.2, hGc⟩)
                have hbl := HZ.out.1.f.q.lt
                simp only [World.size_alloc] at hbl hGl
                have hpl6 := HZ.out.2.1.b.lt
                simp only [World.size_alloc] at hpl6
                have hdd : G ≠ w6.heap.size := fun eG => by
                          have h1 := (HY.out.2.row.lt G (by rw [hvf]; rfl)).2
                          omega
                subst hvf
                clear hGc
                obtain ⟨N, hN⟩ : ∃ N, (L).length = N := ⟨_, rfl⟩
                have hNk : N ≤ k + 1 := by rw [← hN]; exact HPP.out.le
                rw [hN] at HSZ hGn
                have hgn : decide (N ≤ g0) = false := by simp; omega
                have hgn2 : decide ((N : Int) ≤ (g0 : Int)) = false := by simp; omega
                refine wp_region_noPanic ?_
                refine wp_region_last_drew (S := (SHd (w2.heap.size + 1) (.slice (some ⟨G, 0, none⟩) N cap) w6.heap.size G (g0 * 9) ⟨d1, d2, d3, d4, d5, d6, d7, d8, d9⟩)) [] (by kernel_rfl) (SHd.of HSZ.out rfl rfl rfl) (fun hHeld => ?_)
                (try simp only [Array.replicate_succ, Array.replicate_zero, List.push_toArray, List.nil_append, List.cons_append])
                have hdz6 : (w6.alloc (.cells #[.int .i64 d1, .int .i64 d2, .int .i64 d3, .int .i64 d4, .int .i64 d5, .int .i64 d6, .int .i64 d7, .int .i64 d8, .bool d9] 36)).drew.heap.size = w6.heap.size + 1 := by show (w6.alloc _).heap.size = _; simp
                have HSD := hi (show (SHd (w2.heap.size + 1) (.slice (some ⟨G, 0, none⟩) N cap) w6.heap.size G (g0 * 9) ⟨d1, d2, d3, d4, d5, d6, d7, d8, d9⟩) (w6.alloc (.cells #[.int .i64 d1, .int .i64 d2, .int .i64 d3, .int .i64 d4, .int .i64 d5, .int .i64 d6, .int .i64 d7, .int .i64 d8, .bool d9] 36)).drew from SHd.of HSZ.out rfl rfl rfl)
                have HZD := hi (And.intro (HZ.out.1.later (below_dr _)) (HZ.out.2.1.later (below_dr _)))
                obtain ⟨Vz, hVz⟩ : ∃ Vz, (w6.alloc (.cells #[.int .i64 d1, .int .i64 d2, .int .i64 d3, .int .i64 d4, .int .i64 d5, .int .i64 d6, .int .i64 d7, .int .i64 d8, .bool d9] 36)).drew = Vz := ⟨_, rfl⟩
                rw [hVz] at HSD HZD hdz6 hHeld ⊢
                clear hVz HSZ
                refine wpAnyF_take (i := 0) (v := ?_) (by kernel_rfl) (by kernel_rfl) rfl (by kernel_rfl) (by kernel_rfl) (by kernel_rfl) (fun _ _ _ h => h) (Or.inl ⟨by rfl, ?_⟩) (by assumption) ?_
                rotate_left
                · intro w' hSw; (try dsimp only at hSw); clear hSw; go_simp; (try with_reducible rfl)
                (try simp only [Act.put, List.getElem_toArray, List.getElem_cons_zero, List.getElem_cons_succ, List.setIfInBounds_toArray, List.set_cons_zero, List.set_cons_succ])
                refine wpAnyF_take (i := 1) (v := ?_) (by kernel_rfl) (by kernel_rfl) rfl (by kernel_rfl) (by kernel_rfl) (by kernel_rfl) (fun _ _ _ h => h) (Or.inl ⟨by rfl, ?_⟩) (by assumption) ?_
                rotate_left
                · intro w' hSw; (try dsimp only at hSw); clear hSw; go_simp; (try with_reducible rfl)
                (try simp only [Act.put, List.getElem_toArray, List.getElem_cons_zero, List.getElem_cons_succ, List.setIfInBounds_toArray, List.set_cons_zero, List.set_cons_succ])
                refine wpAnyF_take (i := 2) (v := ?_) (by kernel_rfl) (by kernel_rfl) rfl (by kernel_rfl) (by kernel_rfl) (by kernel_rfl) (fun _ _ _ h => h) (Or.inl ⟨by rfl, ?_⟩) (by assumption) ?_
                rotate_left
                · intro w' hSw; (try dsimp only at hSw); clear hSw; go_simp; (try with_reducible rfl)
                (try simp only [Act.put, List.getElem_toArray, List.getElem_cons_zero, List.getElem_cons_succ, List.setIfInBounds_toArray, List.set_cons_zero, List.set_cons_succ])
                refine wpAnyF_take (i := 3) (v := ?_) (by kernel_rfl) (by kernel_rfl) rfl (by kernel_rfl) (by kernel_rfl) (by kernel_rfl) (fun _ _ _ h => h) (Or.inl ⟨by rfl, ?_⟩) (by assumption) ?_
                rotate_left
                · intro w' hSw; (try dsimp only at hSw); clear hSw; go_simp; (try with_reducible rfl)
                (try simp only [Act.put, List.getElem_toArray, List.getElem_cons_zero, List.getElem_cons_succ, List.setIfInBounds_toArray, List.set_cons_zero, List.set_cons_succ])
                refine wpAnyF_take (i := 4) (v := ?_) (by kernel_rfl) (by kernel_rfl) rfl (by kernel_rfl) (by kernel_rfl) (by kernel_rfl) (fun _ _ _ h => h) (Or.inl ⟨by rfl, ?_⟩) (by assumption) ?_
                rotate_left
                · intro w' hSw; (try dsimp only at hSw); have hsb := hSw.b; clear hSw; go_simp; (try with_reducible rfl)
                (try simp only [Act.put, List.getElem_toArray, List.getElem_cons_zero, List.getElem_cons_succ, List.setIfInBounds_toArray, List.set_cons_zero, List.set_cons_succ])
                refine wpAnyF_take (i := 5) (v := ?_) (by kernel_rfl) (by kernel_rfl) rfl (by kernel_rfl) (by kernel_rfl) (by kernel_rfl) (fun _ _ _ h => h) (Or.inl ⟨by rfl, ?_⟩) (by assumption) ?_
                rotate_left
                · intro w' hSw; (try dsimp only at hSw); clear hSw; go_simp; (try with_reducible rfl)
                (try simp only [Act.put, List.getElem_toArray, List.getElem_cons_zero, List.getElem_cons_succ, List.setIfInBounds_toArray, List.set_cons_zero, List.set_cons_succ])
                refine wpAnyF_take (i := 6) (v := ?_) (by kernel_rfl) (by kernel_rfl) rfl (by kernel_rfl) (by kernel_rfl) (by kernel_rfl) (fun _ _ _ h => h) (Or.inl ⟨by rfl, ?_⟩) (by assumption) ?_
                rotate_left
                · intro w' hSw; (try dsimp only at hSw); clear hSw; go_simp; (try with_reducible rfl)
                (try simp only [Act.put, List.getElem_toArray, List.getElem_cons_zero, List.getElem_cons_succ, List.setIfInBounds_toArray, List.set_cons_zero, List.set_cons_succ])
                refine wpAnyF_take (i := 7) (v := ?_) (by kernel_rfl) (by kernel_rfl) rfl (by kernel_rfl) (by kernel_rfl) (by kernel_rfl) (fun _ _ _ h => h) (Or.inl ⟨by rfl, ?_⟩) (by assumption) ?_
                rotate_left
                · intro w' hSw; (try dsimp only at hSw); clear hSw; go_simp; (try with_reducible rfl)
                (try simp only [Act.put, List.getElem_toArray, List.getElem_cons_zero, List.getElem_cons_succ, List.setIfInBounds_toArray, List.set_cons_zero, List.set_cons_succ])
                refine wpAnyF_take (i := 8) (v := ?_) (by kernel_rfl) (by kernel_rfl) rfl (by kernel_rfl) (by kernel_rfl) (by kernel_rfl) (fun _ _ _ h => h) (Or.inl ⟨by rfl, ?_⟩) (by assumption) ?_
                rotate_left
                · intro w' hSw; (try dsimp only at hSw); clear hSw; go_simp; (try with_reducible rfl)
                (try simp only [Act.put, List.getElem_toArray, List.getElem_cons_zero, List.getElem_cons_succ, List.setIfInBounds_toArray, List.set_cons_zero, List.set_cons_succ])
                refine wpAnyF_take (i := 9) (v := ?_) (by kernel_rfl) (by kernel_rfl) rfl (by kernel_rfl) (by kernel_rfl) (by kernel_rfl) (fun _ _ _ h => h) (Or.inl ⟨by rfl, ?_⟩) (by assumption) ?_
                rotate_left
                · intro w' hSw; (try dsimp only at hSw); have hsd := hSw.d; unfold cmdC at hsd; dsimp only at hsd; simp only [Nat.zero_add] at hsd; obtain ⟨hd0, hd1, hd2, hd3, hd4, hd5, hd6, hd7, hd8⟩ := hsd; clear hSw; go_simp; (try with_reducible rfl)
                (try simp only [Act.put, List.getElem_toArray, List.getElem_cons_zero, List.getElem_cons_succ, List.setIfInBounds_toArray, List.set_cons_zero, List.set_cons_succ])
                refine wpAnyF_take (i := 10) (v := ?_) (by kernel_rfl) (by kernel_rfl) rfl (by kernel_rfl) (by kernel_rfl) (by kernel_rfl) (fun _ _ _ h => h) (Or.inl ⟨by rfl, ?_⟩) (by assumption) ?_
                rotate_left
                · intro w' hSw; (try dsimp only at hSw); have hsb := hSw.b; clear hSw; go_simp; (try with_reducible rfl)
                (try simp only [Act.put, List.getElem_toArray, List.getElem_cons_zero, List.getElem_cons_succ, List.setIfInBounds_toArray, List.set_cons_zero, List.set_cons_succ])
                refine wpAnyF_take (i := 11) (v := ?_) (by kernel_rfl) (by kernel_rfl) rfl (by kernel_rfl) (by kernel_rfl) (by kernel_rfl) (fun _ _ _ h => h) (Or.inl ⟨by rfl, ?_⟩) (by assumption) ?_
                rotate_left
                · intro w' hSw; (try dsimp only at hSw); clear hSw; go_simp; (try with_reducible rfl)
                (try simp only [Act.put, List.getElem_toArray, List.getElem_cons_zero, List.getElem_cons_succ, List.setIfInBounds_toArray, List.set_cons_zero, List.set_cons_succ])
                refine wpAnyF_take (i := 12) (v := ?_) (by kernel_rfl) (by kernel_rfl) rfl (by kernel_rfl) (by kernel_rfl) (by kernel_rfl) (fun _ _ _ h => h) (Or.inl ⟨by rfl, ?_⟩) (by assumption) ?_
                rotate_left
                · intro w' hSw; (try dsimp only at hSw); clear hSw; go_simp; (try with_reducible rfl)
                (try simp only [Act.put, List.getElem_toArray, List.getElem_cons_zero, List.getElem_cons_succ, List.setIfInBounds_toArray, List.set_cons_zero, List.set_cons_succ])
                refine wpAnyF_take (i := 13) (v := ?_) (by kernel_rfl) (by kernel_rfl) rfl (by kernel_rfl) (by kernel_rfl) (by kernel_rfl) (fun _ _ _ h => h) (Or.inl ⟨by rfl, ?_⟩) (by assumption) ?_
                rotate_left
                · intro w' hSw; (try dsimp only at hSw); have hsr := hSw.r; unfold cmdC at hsr; dsimp only at hsr; obtain ⟨hr0, hr1, hr2, hr3, hr4, hr5, hr6, hr7, hr8⟩ := hsr; clear hSw; go_simp; (try with_reducible rfl)
                (try simp only [Act.put, List.getElem_toArray, List.getElem_cons_zero, List.getElem_cons_succ, List.setIfInBounds_toArray, List.set_cons_zero, List.set_cons_succ])
                refine wpAnyF_take (i := 14) (v := ?_) (by kernel_rfl) (by kernel_rfl) rfl (by kernel_rfl) (by kernel_rfl) (by kernel_rfl) (fun _ _ _ h => h) (Or.inl ⟨by rfl, ?_⟩) (by assumption) ?_
                rotate_left
                · intro w' hSw; (try dsimp only at hSw); clear hSw; go_simp; (try with_reducible rfl)
                (try simp only [Act.put, List.getElem_toArray, List.getElem_cons_zero, List.getElem_cons_succ, List.setIfInBounds_toArray, List.set_cons_zero, List.set_cons_succ])
                refine wpAnyF_take (i := 15) (v := ?_) (by kernel_rfl) (by kernel_rfl) rfl (by kernel_rfl) (by kernel_rfl) (by kernel_rfl) (fun _ _ _ h => h) (Or.inl ⟨by rfl, ?_⟩) (by assumption) ?_
                rotate_left
                · intro w' hSw; (try dsimp only at hSw); clear hSw; go_simp; (try with_reducible rfl)
                (try simp only [Act.put, List.getElem_toArray, List.getElem_cons_zero, List.getElem_cons_succ, List.setIfInBounds_toArray, List.set_cons_zero, List.set_cons_succ])
                refine wpAnyF_take (i := 16) (v := ?_) (by kernel_rfl) (by kernel_rfl) rfl (by kernel_rfl) (by kernel_rfl) (by kernel_rfl) (fun _ _ _ h => h) (Or.inl ⟨by rfl, ?_⟩) (by assumption) ?_
                rotate_left
                · intro w' hSw; (try dsimp only at hSw); clear hSw; go_simp; (try with_reducible rfl)
                (try simp only [Act.put, List.getElem_toArray, List.getElem_cons_zero, List.getElem_cons_succ, List.setIfInBounds_toArray, List.set_cons_zero, List.set_cons_succ])
                refine wpAnyF_ready (rs := [17]) (by kernel_rfl) (by simp) ?_
                refine AllReadyF.cons rfl (fun KK hKK => ?_) AllReadyF.nil
                go_simp
                ((with_reducible refine (HPS.out _ HZD.out.1.f.q).mono ?_); rintro e' w8 ⟨rfl, hq8⟩; have HW8 := hi (And.intro (HZD.out.1.qk hq8) (HZD.out.2.kept hq8.kept (fun i h => by omega))); have hS8 := SHd.of HSD.out (hq8.kept.block (w2.heap.size + 1) (by omega) (by omega)) (hq8.kept.block w6.heap.size (by omega) (by omega)) (hq8.kept.block G (by omega) (by omega)); clear hq8)
                (try go_simp)
                refine hKK.out _ _ hS8 (fun hHeld => ?_)
                clear hKK KK
                (try simp only [Act.put, List.getElem_toArray, List.getElem_cons_zero, List.getElem_cons_succ, List.setIfInBounds_toArray, List.set_cons_zero, List.set_cons_succ])
                refine wpAnyF_take (i := 18) (v := ?_) (by kernel_rfl) (by kernel_rfl) rfl (by kernel_rfl) (by kernel_rfl) (by kernel_rfl) (fun _ _ _ h => h) (Or.inl ⟨by rfl, ?_⟩) (by assumption) ?_
                rotate_left
                · intro w' hSw; (try dsimp only at hSw); clear hSw; go_simp; (try with_reducible rfl)
                (try simp only [Act.put, List.getElem_toArray, List.getElem_cons_zero, List.getElem_cons_succ, List.setIfInBounds_toArray, List.set_cons_zero, List.set_cons_succ])
                refine wpAnyF_take (i := 19) (v := ?_) (by kernel_rfl) (by kernel_rfl) rfl (by kernel_rfl) (by kernel_rfl) (by kernel_rfl) (fun _ _ _ h => h) (Or.inl ⟨by rfl, ?_⟩) (by assumption) ?_
                rotate_left
                · intro w' hSw; (try dsimp only at hSw); clear hSw; go_simp; (try with_reducible rfl)
                (try simp only [Act.put, List.getElem_toArray, List.getElem_cons_zero, List.getElem_cons_succ, List.setIfInBounds_toArray, List.set_cons_zero, List.set_cons_succ])
                refine wpAnyF_done (by kernel_rfl) ?_ _
                refine NoPanic.normal ?_
                go_wp2
                go_roundw
                case rel => exact ⟨g0 + 1, k + 1, by go_num, by go_num, hi ⟨hlt, _, _, _, _, HP1.out, HW8.out.1, HW8.out.2⟩⟩
                case measure => simp [intOf]; omega
              · have hl0 : (((L).length - g0 : Nat) : Int) = 0 := by omega
                rw [hl0] at HLF
                obtain ⟨vx, hvx⟩ : ∃ vx, v = vx := ⟨_, rfl⟩
                rw [hvx] at HBB
                clear hvx
                go_wp2_with (first
                  | (go_at_call 16; ((with_reducible refine (HRM.out _).mono ?_); rintro e' w3 ⟨rfl, hb3⟩; have H4 := hi (And.intro (HAA.out.later hb3) (HBB.out.later hb3)); clear hb3 a0 a1 a2 a3; have hcm := H4.out.1.c.cells k _ HCC.out; unfold cmdC at hcm; dsimp only at hcm; obtain ⟨m0, m1, m2, m3, m4, m5, m6, m7, m8⟩ := hcm))
                  | (go_at_call 18; ((with_reducible refine (HPT.out _ H4.out.1.f.m.mem H4.out.1.f.q).mono ?_); rintro e' w4 ⟨rfl, hq4⟩; have HX := hi (And.intro (H4.out.1.qm hq4) (H4.out.2.kept hq4.kept (fun i h => by rcases h with rfl | rfl <;> omega))); clear hq4 m0 m1 m2 m3 m4 m5 m6 m7 m8; obtain ⟨b0, b1, b2, b3⟩ := CB.four HX.out.1.f.q; have tc := HX.out.1.t.cells k _ HTK.out))
                  | (go_at_call 15; ((with_reducible refine (HLF.out _).mono ?_); rintro e' w5 ⟨rfl, hb5⟩; have HY := hi (And.intro (HX.out.1.later hb5) (HX.out.2.later hb5)); clear hb5 b0 b1 b2 b3 tc; obtain ⟨b0, b1, b2, b3⟩ := CB.four HY.out.1.f.q)))
                go_roundw
                case rel => exact ⟨g0, k + 1, rfl, by go_num, hi ⟨hlt, _, _, _, _, HPP.out, HY.out.1, HY.out.2⟩⟩
                case measure => simp [intOf]; omega
          · obtain ⟨vx, hvx⟩ : ∃ vx, v = vx := ⟨_, rfl⟩
            rw [hvx] at HBB
            clear hvx
            go_wp2_with (first
              | (go_at_call 16; ((with_reducible refine (HRM.out _).mono ?_); rintro e' w3 ⟨rfl, hb3⟩; have H4 := hi (And.intro (HAA.out.later hb3) (HBB.out.later hb3)); clear hb3 a0 a1 a2 a3; have hcm := H4.out.1.c.cells k _ HCC.out; unfold cmdC at hcm; dsimp only at hcm; obtain ⟨m0, m1, m2, m3, m4, m5, m6, m7, m8⟩ := hcm))
              | (go_at_call 18; ((with_reducible refine (HPT.out _ H4.out.1.f.m.mem H4.out.1.f.q).mono ?_); rintro e' w4 ⟨rfl, hq4⟩; have HX := hi (And.intro (H4.out.1.qm hq4) (H4.out.2.kept hq4.kept (fun i h => by rcases h with rfl | rfl <;> omega))); clear hq4 m0 m1 m2 m3 m4 m5 m6 m7 m8; obtain ⟨b0, b1, b2, b3⟩ := CB.four HX.out.1.f.q; have tc := trivial)))
            go_roundw
            case rel => exact ⟨g0, k + 1, rfl, by go_num, hi ⟨hlt, _, _, _, _, HPP.out, HX.out.1, HX.out.2⟩⟩
            case measure => simp [intOf]; omega
    · have HAA := hi hA
      have HBB := hi hB
      have HPP := hi hP
      obtain ⟨va, vcp, rfl⟩ := rowM_form hB.row
      have hvo : ∀ j, (Value.slice va L.length vcp).ownBlock = some j → j < wr.heap.size := fun j ej => (hB.row.lt j ej).2
      have HEQ := hi (fun V => eachq_any q p V)
      have HLF := hi (fun W => left_q q hP.fair.s.2 W)
      rw [hP.lef] at HLF
      have hsub : ((L.length - g0 : Nat) : Int) = (L.length : Int) - (g0 : Int) := by have := hP.gl; omega
      rw [hsub] at HLF
      have hE := hP.each
      have hgl := hP.gl
      have hfa := hP.fair
      have hLk := hP.le
      obtain ⟨q1, q2, q3, q4⟩ := q
      obtain ⟨a0, a1, a2, a3⟩ := CB.four (hA.f.q.alloc (.cells #[.int .i64 g0] 3))
      dsimp only [Qu.v] at HEQ HLF
      have zw := And.intro hA.f.m.mem.plt (And.intro hA.f.m.mem.bytes.lt (And.intro hB.b.lt hA.bl))
      have zg := hA.gl
      clear hA hB hP
      go_wp2_with (go_at_call 21; ((with_reducible refine (HEQ.out _).mono ?_); rintro e' w5 ⟨rfl, rfl⟩))
      obtain ⟨V0, hV0⟩ : ∃ V0, (((wr.alloc (.cells #[.int .i64 g0] 3)).alloc (.cells #[.int .i64 q1, .int .i64 q2, .int .i64 q3, .int .i64 q4] 25)).alloc (.cells #[.pointer (some ⟨p, 0, none⟩)] 28)) = V0 := ⟨_, rfl⟩
      have hz0 : V0.heap.size = wr.heap.size + 3 := by rw [← hV0]; simp
      have H6 := hi (show OrL w p g w2.heap.size a B off cs ta tB toff ts bs ⟨q1, q2, q3, q4⟩ L (.slice va L.length vcp) wr.heap.size g0 V0 by rw [← hV0]; exact (OrL.later (OrL.later (show OrL w p g w2.heap.size a B off cs ta tB toff ts bs ⟨q1, q2, q3, q4⟩ L (.slice va L.length vcp) wr.heap.size g0 (wr.alloc (.cells #[.int .i64 g0] 3)) from ⟨HAA.out.later (bal _ _), HBB.out.later (bal _ _), CB.new wr _ _⟩) (bal _ _)) (bal _ _)))
      have hst := eachq_stops (wr.heap.size + 1) p g 700 bs ⟨q1, q2, q3, q4⟩ hfa V0 (by omega) (by rw [← hV0]; have := (CB.new (wr.alloc (.cells #[.int .i64 g0] 3)) 25 #[.int .i64 q1, .int .i64 q2, .int .i64 q3, .int .i64 q4]).alloc (.cells #[.pointer (some ⟨p, 0, none⟩)] 28); simp only [World.size_alloc] at this; exact this) (by rw [← hV0]; have := CB.new ((wr.alloc (.cells #[.int .i64 g0] 3)).alloc (.cells #[.int .i64 q1, .int .i64 q2, .int .i64 q3, .int .i64 q4] 25)) 28 #[.pointer (some ⟨p, 0, none⟩)]; simp only [World.size_alloc] at this; exact this) H6.out.a.f.m.mem
      rw [hE] at hst
      have HV0 := hi hV0
      clear hV0 a0 a1 a2 a3
      change Code.wp _ _ _ _ (((wr.alloc (.cells #[.int .i64 g0] 3)).alloc (.cells #[.int .i64 q1, .int .i64 q2, .int .i64 q3, .int .i64 q4] 25)).alloc (.cells #[.pointer (some ⟨p, 0, none⟩)] 28))
      rw [HV0.out]
      refine (wpIn_wide (n := 6)).1 ?_
      have hEl : ((L.drop g0).map fun c => (c, (0 : Int))).length = L.length - g0 := by simp
      refine range_win (n := 6) (by omega) (gf := 45) (lb := #[.pointer (some ⟨wr.heap.size + 1, 0, none⟩), .pointer (some ⟨wr.heap.size + 1 + 1, 0, none⟩)]) rfl (enters_of Try.func45 (by kernel_rfl) rfl)
        hst (fun a b => KpQ.trans a b) (fun W l o o' h1 h2 h3 h4 => ⟨by simp, fun i hi => World.putObj_heap_other (by omega)⟩) (Below.refl _ _) (fun _ => rfl)
        (fun pre V => OrL w p g w2.heap.size a B off cs ta tB toff ts bs ⟨q1, q2, q3, q4⟩ L (.slice va L.length vcp) wr.heap.size (g0 + pre.length) V)
        (fun cd pre V => False)
        (ol_abl (by omega) (by omega) (by omega) (by omega) (fun j ej => by have := hvo j ej; omega))
        (fun _ _ _ _ _ hs _ _ => hs)
        H6.out
        (fun x' a' V => (∃ cb, V0.heap.size + 2 + 8 ≤ cb ∧ CB V cb 36 (Cm.cs x'.1) ∧ ∃ (d1 d2 d3 d4 d5 d6 d7 d8 : Int) (d9 : Bool), a' = { tmps := #[.int .u8 e, .slice a cs.length cp, .slice ta ts.length tcp, undef, undef, undef, .pointer (some ⟨w.heap.size, 0, none⟩), .bool true, .pointer (some ⟨w2.heap.size, 0, none⟩), .pointer (some ⟨p, 0, none⟩), .pointer (some ⟨w2.heap.size + 1, 0, none⟩), .int .i64 g0, .int .i64 k, u13, u14, u15, u16, .pointer (some ⟨wr.heap.size, 0, none⟩), .pointer (some ⟨cb, 0, none⟩), .int .i64 x'.2, .bool true, .bool true, .bool false, .tuple #[.agg #[.int .i64 16, .int .i64 (32 * (1 + (e : Int) % 20)), .int .i64 0, .int .i64 0], .pointer (some ⟨p, 0, none⟩)], .int .u8 e, .tuple #[.agg #[.int .i64 16, .int .i64 (32 * (1 + (e : Int) % 20)), .int .i64 0, .int .i64 0], .pointer (some ⟨p, 0, none⟩)], .agg #[.int .i64 16, .int .i64 (32 * (1 + (e : Int) % 20)), .int .i64 0, .int .i64 0], .pointer (some ⟨p, 0, none⟩), .bool true, .bool false, .bool false, .pointer (some ⟨p, 0, none⟩), .bool false, .bool false, .int .i64 k, .slice a cs.length cp, .int .i64 cs.length, .bool false, u38, u39, u40, u41, u42, u43, u44, u45, u46, u47, u48, u49, u50, u51, u52, u53, u54, u55, u56, u57, u58, u59, u60, u61, u62, u63, u64, u65, u66, u67, u68, u69, u70, u71, u72, u73, u74, u75, u76, u77, u78, u79, u80, u81, u82, u83, u84, u85, u86, u87, u88, u89, u90, u91, u92, u93, u94, u95, u96, u97, u98, u99, u100, u101, u102, u103, u104, u105, u106, u107, u108, u109, u110, u111, u112, u113, .int .i64 g0, .agg #[.int .i64 q1, .int .i64 q2, .int .i64 q3, .int .i64 q4], .pointer (some ⟨p, 0, none⟩), .func (.func 45) #[] #[.pointer (some ⟨wr.heap.size + 1, 0, none⟩), .pointer (some ⟨wr.heap.size + 1 + 1, 0, none⟩)], .agg #[.int .i64 d1, .int .i64 d2, .int .i64 d3, .int .i64 d4, .int .i64 d5, .int .i64 d6, .int .i64 d7, .int .i64 d8, .bool d9], .int .i64 x'.2, undef, undef, undef, undef, undef, undef, undef, undef, undef, undef, undef, undef, undef, undef, undef, undef, undef, undef, undef, undef, undef, undef, undef, undef, undef, undef, undef, undef, undef, undef, undef], defers := [] }))
        (fun x' a' s A A' row hs hg hr => by
          obtain ⟨cb, hcb, hc, hd⟩ := hs
          exact ⟨cb, hcb, hc.kept hg (fun e => by rcases hr cb e.symm with ⟨h1, h2, _⟩ | ⟨h1, h2⟩ <;> omega), hd⟩)
        ?assign ?body ?done ?stop
      case assign =>
        rintro l' pre ⟨⟨d1, d2, d3, d4, d5, d6, d7, d8, d9⟩, le⟩ V K h hsz hK
        rw [zip_two]
        have qf := (CB.new V 36 #[.int .i64 0, .int .i64 0, .int .i64 0, .int .i64 0, .int .i64 0, .int .i64 0, .int .i64 0, .int .i64 0, .bool false]).frozen
        have HH := hi h
        clear h
        dsimp only [Cm.v]
        gi_wp2
        exact hK _ _ (KW.of_below (bal V _)) (KpQ.of_below (bal V _) (by omega) (by omega) (by omega) (by omega)) (HH.out.later (bal V _)) ⟨V.heap.size, by omega, CB.new V _ _, d1, d2, d3, d4, d5, d6, d7, d8, d9, rfl⟩
      case body =>
        rintro l' pre ⟨c, le⟩ a' V hsz hW ⟨cb, hcb, hcc, d1, d2, d3, d4, d5, d6, d7, d8, d9, rfl⟩ hpx
        have hln : g0 + pre.length + 1 ≤ L.length := by have h := hpx.length_le; rw [hEl] at h; simp at h; omega
        have hget : L[g0 + pre.length]? = some c ∧ le = 0 := by
          obtain ⟨r, hr⟩ := hpx
          have h : ((L.drop g0).map fun c => (c, (0 : Int)))[pre.length]? = some (c, le) := by rw [← hr]; simp
          rw [List.getElem?_map, List.getElem?_drop] at h
          cases h' : L[g0 + pre.length]? with
          | none => rw [h'] at h; simp at h
          | some c' => rw [h'] at h; simp at h; exact ⟨by rw [h.1], h.2.symm⟩
        obtain ⟨hg1, rfl⟩ := hget
        obtain ⟨G, cap, hvf, hGb, hGl, hGn, hcm⟩ := rowM_get hW.p.row hg1
        obtain ⟨rfl, rfl⟩ : va = some ⟨G, 0, none⟩ ∧ vcp = cap := by simpa using hvf
        unfold cmdC at hcm
        obtain ⟨m0, m1, m2, m3, m4, m5, m6, m7, m8⟩ := hcm
        have pbc := hW.p.b.cell 0
        have kc := hW.k.cell 0
        have kf := hW.k.frozen
        have kz := hW.k.lt
        obtain ⟨c1, c2, c3, c4, c5, c6, c7, c8, c9⟩ := c
        obtain ⟨e0, e1, e2, e3, e4, e5, e6, e7, e8⟩ := CB.nine hcc
        have qc : eqCm ⟨c1, c2, c3, c4, c5, c6, c7, c8, c9⟩ ⟨c1, c2, c3, c4, c5, c6, c7, c8, c9⟩ = true := by rw [eqCm_iff]; simp
        have HWI := hi hW
        obtain ⟨j, hj⟩ : ∃ j, g0 + pre.length = j := ⟨_, rfl⟩
        have HJL := hi (show g0 + (pre ++ [((⟨c1, c2, c3, c4, c5, c6, c7, c8, c9⟩ : Cm), (0 : Int))]).length = j + 1 by simp; omega)
        rw [hj] at HWI hln m0 m1 m2 m3 m4 m5 m6 m7 m8 kc
        obtain ⟨N, hN⟩ : ∃ N, L.length = N := ⟨_, rfl⟩
        have hNb : N ≤ 1954687338268 := by omega
        rw [hN] at HWI hln pbc
        dsimp only at m0 m1 m2 m3 m4 m5 m6 m7 m8
        clear hW hpx hg1 hj hcc hGn hvf
        have hgn : decide (N ≤ j) = false := by simp; omega
        have hgn2 : decide ((N : Int) ≤ (j : Int)) = false := by simp; omega
        have hlb : j < N := by omega
        gi_wp2
        refine wpIn_region_quiet_round rfl (by kernel_rfl) (by kernel_rfl) (by kernel_rfl) ?_
        repeat (quiet_step_in (fail))
        refine wpQuietIn_nil ?_
        intro _ hw'
        obtain ⟨nq, hw''⟩ := hw'
        subst hw''
        have HBD := hi (Below.drewN (m := nq) (Below.refl V.heap.size V))
        have HWD := hi (HWI.out.later HBD.out)
        clear m0 m1 m2 m3 m4 m5 m6 m7 m8 pbc kc kf kz e0 e1 e2 e3 e4 e5 e6 e7 e8
        have kc := HWD.out.k.cell 0
        have kf := HWD.out.k.frozen
        have kz := HWD.out.k.lt
        gi_wp2
        refine ⟨(KW.of_below HBD.out).trans (KW.set _ _ _), (KpQ.of_below HBD.out (by omega) (by omega) (by omega) (by omega)).trans ⟨by simp, fun i hi => Below.heap_setCell (V.drewN nq) ⟨wr.heap.size, 0, none⟩ _ i (show i ≠ wr.heap.size by omega)⟩, ?_⟩
        show OrL w p g w2.heap.size a B off cs ta tB toff ts bs ⟨q1, q2, q3, q4⟩ L _ wr.heap.size (g0 + (pre ++ [((⟨c1, c2, c3, c4, c5, c6, c7, c8, c9⟩ : Cm), (0 : Int))]).length) _
        rw [HJL.out, hN]
        exact HWD.out.inc (by omega) (by omega) (by omega) (fun i ei => by have := hvo i (by rw [hN]; exact ei); omega)
      case done =>
        rintro ys V rfl hW hK hs2
        rw [hEl, show g0 + (L.length - g0) = L.length by omega] at hW
        have HW := hi hW
        have HK := hi hK
        have hwr : IntKind.i64.wrap ((L.length : Int) - (g0 : Int)) = (L.length : Int) - (g0 : Int) := by rw [IntKind.wrap_i64]; omega
        clear hW hK
        go_wp2
        refine wp_region_noPanic ?_
        refine wp_region_last_drew (S := (SEn wr.heap.size (w2.heap.size + 1) w2.heap.size L.length (.slice va L.length vcp) ⟨q1, q2, q3, q4⟩)) [13] (by kernel_rfl) (HW.out.later (below_dr _)).sen (fun hHeld => ?_)
        (try simp only [Array.replicate_succ, Array.replicate_zero, List.push_toArray, List.nil_append, List.cons_append])
        have HD := hi (HW.out.later (below_dr V))
        have HKD := hi (show V.drew.heap[V0.heap.size]? = some (.deferred (some [])) from HK.out)
        have hzd : V0.heap.size < V.drew.heap.size := by show V0.heap.size < V.heap.size; omega
        refine wpAnyF_take (i := 0) (v := ?_) (by kernel_rfl) (by kernel_rfl) rfl (by kernel_rfl) (by kernel_rfl) (by kernel_rfl) (fun _ _ _ h => h) (Or.inl ⟨by rfl, ?_⟩) (by assumption) ?_
        rotate_left
        · intro w' hSw; (try dsimp only at hSw); have hsk := hSw.k; clear hSw; go_simp; (try with_reducible rfl)
        (try simp only [Act.put, List.getElem_toArray, List.getElem_cons_zero, List.getElem_cons_succ, List.setIfInBounds_toArray, List.set_cons_zero, List.set_cons_succ])
        refine wpAnyF_take (i := 1) (v := ?_) (by kernel_rfl) (by kernel_rfl) rfl (by kernel_rfl) (by kernel_rfl) (by kernel_rfl) (fun _ _ _ h => h) (Or.inl ⟨by rfl, ?_⟩) (by assumption) ?_
        rotate_left
        · intro w' hSw; (try dsimp only at hSw); have hsp := hSw.p; clear hSw; go_simp; (try with_reducible rfl)
        (try simp only [Act.put, List.getElem_toArray, List.getElem_cons_zero, List.getElem_cons_succ, List.setIfInBounds_toArray, List.set_cons_zero, List.set_cons_succ])
        refine wpAnyF_take (i := 2) (v := ?_) (by kernel_rfl) (by kernel_rfl) rfl (by kernel_rfl) (by kernel_rfl) (by kernel_rfl) (fun _ _ _ h => h) (Or.inl ⟨by rfl, ?_⟩) (by assumption) ?_
        rotate_left
        · intro w' hSw; (try dsimp only at hSw); clear hSw; go_simp; (try with_reducible rfl)
        (try simp only [Act.put, List.getElem_toArray, List.getElem_cons_zero, List.getElem_cons_succ, List.setIfInBounds_toArray, List.set_cons_zero, List.set_cons_succ])
        refine wpAnyF_take (i := 3) (v := ?_) (by kernel_rfl) (by kernel_rfl) rfl (by kernel_rfl) (by kernel_rfl) (by kernel_rfl) (fun _ _ _ h => h) (Or.inl ⟨by rfl, ?_⟩) (by assumption) ?_
        rotate_left
        · intro w' hSw; (try dsimp only at hSw); clear hSw; go_simp; (try with_reducible rfl)
        (try simp only [Act.put, List.getElem_toArray, List.getElem_cons_zero, List.getElem_cons_succ, List.setIfInBounds_toArray, List.set_cons_zero, List.set_cons_succ])
        refine wpAnyF_take (i := 4) (v := ?_) (by kernel_rfl) (by kernel_rfl) rfl (by kernel_rfl) (by kernel_rfl) (by kernel_rfl) (fun _ _ _ h => h) (Or.inl ⟨by rfl, ?_⟩) (by assumption) ?_
        rotate_left
        · intro w' hSw; (try dsimp only at hSw); clear hSw; go_simp; (try with_reducible rfl)
        (try simp only [Act.put, List.getElem_toArray, List.getElem_cons_zero, List.getElem_cons_succ, List.setIfInBounds_toArray, List.set_cons_zero, List.set_cons_succ])
        refine wpAnyF_take (i := 5) (v := ?_) (by kernel_rfl) (by kernel_rfl) rfl (by kernel_rfl) (by kernel_rfl) (by kernel_rfl) (fun _ _ _ h => h) (Or.inl ⟨by rfl, ?_⟩) (by assumption) ?_
        rotate_left
        · intro w' hSw; (try dsimp only at hSw); have hsq := hSw.q; dsimp only at hsq; obtain ⟨hq0, hq1, hq2, hq3⟩ := hsq; clear hSw; go_simp; (try with_reducible rfl)
        (try simp only [Act.put, List.getElem_toArray, List.getElem_cons_zero, List.getElem_cons_succ, List.setIfInBounds_toArray, List.set_cons_zero, List.set_cons_succ])
        refine wpAnyF_take (i := 7) (v := ?_) (by kernel_rfl) (by kernel_rfl) rfl (by kernel_rfl) (by kernel_rfl) (by kernel_rfl) (fun _ _ _ h => h) (Or.inl ⟨by rfl, ?_⟩) (by assumption) ?_
        rotate_left
        · intro w' hSw; (try dsimp only at hSw); have hsp := hSw.p; clear hSw; go_simp; (try with_reducible rfl)
        (try simp only [Act.put, List.getElem_toArray, List.getElem_cons_zero, List.getElem_cons_succ, List.setIfInBounds_toArray, List.set_cons_zero, List.set_cons_succ])
        refine wpAnyF_take (i := 8) (v := ?_) (by kernel_rfl) (by kernel_rfl) rfl (by kernel_rfl) (by kernel_rfl) (by kernel_rfl) (fun _ _ _ h => h) (Or.inl ⟨by rfl, ?_⟩) (by assumption) ?_
        rotate_left
        · intro w' hSw; (try dsimp only at hSw); clear hSw; go_simp; (try with_reducible rfl)
        (try simp only [Act.put, List.getElem_toArray, List.getElem_cons_zero, List.getElem_cons_succ, List.setIfInBounds_toArray, List.set_cons_zero, List.set_cons_succ])
        refine wpAnyF_take (i := 9) (v := ?_) (by kernel_rfl) (by kernel_rfl) rfl (by kernel_rfl) (by kernel_rfl) (by kernel_rfl) (fun _ _ _ h => h) (Or.inl ⟨by rfl, ?_⟩) (by assumption) ?_
        rotate_left
        · intro w' hSw; (try dsimp only at hSw); clear hSw; go_simp; (try with_reducible rfl)
        (try simp only [Act.put, List.getElem_toArray, List.getElem_cons_zero, List.getElem_cons_succ, List.setIfInBounds_toArray, List.set_cons_zero, List.set_cons_succ])
        refine wpAnyF_take (i := 10) (v := ?_) (by kernel_rfl) (by kernel_rfl) rfl (by kernel_rfl) (by kernel_rfl) (by kernel_rfl) (fun _ _ _ h => h) (Or.inl ⟨by rfl, ?_⟩) (by assumption) ?_
        rotate_left
        · intro w' hSw; (try dsimp only at hSw); clear hSw; go_simp; (try with_reducible rfl)
        (try simp only [Act.put, List.getElem_toArray, List.getElem_cons_zero, List.getElem_cons_succ, List.setIfInBounds_toArray, List.set_cons_zero, List.set_cons_succ])
        refine wpAnyF_ready (rs := [6]) (by kernel_rfl) (by simp) ?_
        refine AllReadyF.cons rfl (fun KK hKK => ?_) AllReadyF.nil
        go_simp
        ((with_reducible refine (HLF.out _).mono ?_); rintro e' w8 ⟨rfl, hb8⟩; have H8 := hi (HD.out.later hb8); have HKD8 := hi ((hb8.block V0.heap.size (by omega)).trans HKD.out); clear hb8)
        (try go_simp)
        refine hKK.out _ _ H8.out.sen (fun hHeld => ?_)
        clear hKK KK
        (try simp only [Act.put, List.getElem_toArray, List.getElem_cons_zero, List.getElem_cons_succ, List.setIfInBounds_toArray, List.set_cons_zero, List.set_cons_succ])
        refine wpAnyF_take (i := 11) (v := ?_) (by kernel_rfl) (by kernel_rfl) rfl (by kernel_rfl) (by kernel_rfl) (by kernel_rfl) (fun _ _ _ h => h) (Or.inl ⟨by rfl, ?_⟩) (by assumption) ?_
        rotate_left
        · intro w' hSw; (try dsimp only at hSw); clear hSw; go_simp; (try with_reducible rfl)
        (try simp only [Act.put, List.getElem_toArray, List.getElem_cons_zero, List.getElem_cons_succ, List.setIfInBounds_toArray, List.set_cons_zero, List.set_cons_succ])
        refine wpAnyF_take (i := 12) (v := ?_) (by kernel_rfl) (by kernel_rfl) rfl (by kernel_rfl) (by kernel_rfl) (by kernel_rfl) (fun _ _ _ h => h) (Or.inl ⟨by rfl, ?_⟩) (by assumption) ?_
        rotate_left
        · intro w' hSw; (try dsimp only at hSw); clear hSw; go_simp; (try with_reducible rfl)
        (try simp only [Act.put, List.getElem_toArray, List.getElem_cons_zero, List.getElem_cons_succ, List.setIfInBounds_toArray, List.set_cons_zero, List.set_cons_succ])
        refine wpAnyF_ready (rs := [13]) (by kernel_rfl) (by simp) ?_
        refine AllReadyF.last (by kernel_rfl) rfl (fun KK hKK => ?_) AllReadyF.nil
        have g2 : w8.cell? ⟨w.heap.size, 0, none⟩ = some (.bool false) := H8.out.a.r.cell 0
        have rf := H8.out.a.r.frozen
        have rz := H8.out.a.r.lt
        go_simp
        refine hKK.out _ _ ?_
        clear hKK KK
        (try simp only [Act.put, List.getElem_toArray, List.getElem_cons_zero, List.getElem_cons_succ, List.setIfInBounds_toArray, List.set_cons_zero, List.set_cons_succ])
        refine wpAnyF_done (by kernel_rfl) ?_ _
        refine NoPanic.normal ?_
        have hc9 : CB (w8.setCell ⟨w.heap.size, 0, none⟩ (.bool true)) w.heap.size 4 #[.bool true] := by have := H8.out.a.r.set 0 (.bool true); simpa using this
        have hb9 : Below w.heap.size w (w8.setCell ⟨w.heap.size, 0, none⟩ (.bool true)) := below_set H8.out.a.f.m.below (Nat.le_refl _) _
        have hkk : (w8.setCell ⟨w.heap.size, 0, none⟩ (.bool true)).heap[wr.heap.size + 3]? = some (.deferred (some [])) := (Below.heap_setCell w8 ⟨w.heap.size, 0, none⟩ (.bool true) (wr.heap.size + 3) (by show wr.heap.size + 3 ≠ w.heap.size; omega)).trans (by rw [← hz0]; exact HKD8.out)
        go_wp2
        refine ⟨by simp, .inl ⟨_, _, rfl, run_takeDeferred hkk, ?_⟩⟩
        exact ⟨_, results_b rfl _ _ w.heap.size (.bool true) rfl ((World.putObj_heap_other (by omega)).trans hc9), rfl, below_put hb9 _ (by have := H8.out.a.f.m.below.size; simpa using this) (by omega)⟩
      case stop =>
        rintro cd pre V hpre h _ _
        exact h.elim
end Go.Proofs.Ytheajnfbphkigaa
