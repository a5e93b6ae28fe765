/-
  Package lpi: Best.
-/
import Derived.Test.YtobhdjepfhbgaaaDoorLpJ
namespace Go.Proofs.YtobhdjepfhbgaaaDoor
open Go.ChangeShapes Go.WideShapes Go.ChangeAt Go.RowKit Go.Shelf
set_option linter.unusedVariables false
set_option linter.unusedSimpArgs false
attribute [local go_sem] Oper.semAt_some

theorem below_set {n : Nat} {w W : World} (h : Below n w W) {b o : Nat} (hb : n ≤ b) (v : Value) : Below n w (W.setCell ⟨b, o, none⟩ v) := h.setCell (p := ⟨b, o, none⟩) hb v
abbrev set4 (W : World) (b : Nat) (v0 v1 v2 v3 : Value) : World := (((W.setCell ⟨b, 0, none⟩ v0).setCell ⟨b, 1, none⟩ v1).setCell ⟨b, 2, none⟩ v2).setCell ⟨b, 3, none⟩ v3
theorem CB.set4 {W : World} {b : Nat} {t : TypeId} {a0 a1 a2 a3 : Value} (h : CB W b t #[a0, a1, a2, a3]) (v0 v1 v2 v3 : Value) : CB (set4 W b v0 v1 v2 v3) b t #[v0, v1, v2, v3] := (((h.set 0 v0).set 1 v1).set 2 v2).set 3 v3
theorem CB.four {W : World} {b : Nat} {t : TypeId} {v0 v1 v2 v3 : Value} (h : CB W b t #[v0, v1, v2, v3]) : W.cell? ⟨b, 0, none⟩ = some v0 ∧ W.cell? ⟨b, 1, none⟩ = some v1 ∧ W.cell? ⟨b, 2, none⟩ = some v2 ∧ W.cell? ⟨b, 3, none⟩ = some v3 := ⟨h.cell 0, h.cell 1, h.cell 2, h.cell 3⟩
theorem kept_s4 (W : World) (b : Nat) (v0 v1 v2 v3 : Value) : Kept (· = b) W (set4 W b v0 v1 v2 v3) := (((kept_setCell _ _ _ _).trans (kept_setCell _ _ _ _)).trans (kept_setCell _ _ _ _)).trans (kept_setCell _ _ _ _)
theorem results_cd {fn : Func} {c : Tmp} (h : fn.results = #[.cell c 63]) (tmps : Array Value) (w : World) (b : Nat) (v0 v1 v2 v3 : Value) (hp : tmps.getD c undef = .pointer (some ⟨b, 0, none⟩)) (hb : CB w b 63 #[v0, v1, v2, v3]) :
    (results fn tmps).run Tryd.prog w = .ok (.agg #[v0, v1, v2, v3]) w := by
  have hp' : tmps[c]?.getD undef = .pointer (some ⟨b, 0, none⟩) := by simpa using hp
  obtain ⟨c0, c1, c2, c3⟩ := hb.four
  simp [results, h, go_sem, hp', c0, c1, c2, c3]

/-- The best on the way. -/
structure BeI (b : Nat) (x : St) (w1 : World) (pre : List Nat) (W : World) : Prop where
  box : CB W b 63 (bestL x pre).cs
  kept : Kept (· = b) w1 W
theorem BeI.abl {b : Nat} {x : St} {w1 : World} (hb : b < w1.heap.size) : AbL w1.heap.size 0 (BeI b x w1) := fun pre A A' row h hg hr => by
  obtain ⟨h1, hk⟩ := h
  have hrow : ∀ i, i < w1.heap.size → A'.heap[i]? = A.heap[i]? := fun i hi => hg.block i (Nat.lt_of_lt_of_le hi hk.size) (fun e => by
    rcases hr i e.symm with ⟨h3, _⟩ | ⟨h3, _⟩ <;> omega)
  exact ⟨(hrow b hb).trans h1, ⟨hg.os.trans hk.os, hg.tape.trans hk.tape, hg.output.trans hk.output, Nat.le_trans hk.size hg.size, fun i hi hn => (hrow i hi).trans (hk.block i hi hn)⟩⟩
theorem bestC_yes {x : St} {c : Cd} {k : Nat} (h : cfgK x k % 2 = 1) (h2 : c.is = false ∨ beforeB (realN (cfgK x k)) (idOf k) c.p c.id = true) : bestC x c k = ⟨idOf k, realN (cfgK x k), 1, true⟩ := by
  rw [bestC, if_pos]
  · rfl
  · refine ⟨h, ?_⟩
    rcases h2 with h2 | h2
    · exact .inl h2
    · simp only [beforeB, Bool.or_eq_true, Bool.and_eq_true, decide_eq_true_eq] at h2
      exact .inr h2
theorem bestC_no {x : St} {c : Cd} {k : Nat} (h : ¬ (cfgK x k % 2 = 1) ∨ (c.is = true ∧ beforeB (realN (cfgK x k)) (idOf k) c.p c.id = false)) : bestC x c k = c := by
  rw [bestC, if_neg]
  rintro ⟨h1, h2⟩
  rcases h with h | ⟨h3, h4⟩
  · exact h h1
  · rcases h2 with h2 | h2
    · rw [h3] at h2; cases h2
    · have : beforeB (realN (cfgK x k)) (idOf k) c.p c.id = true := by
        simp only [beforeB, Bool.or_eq_true, Bool.and_eq_true, decide_eq_true_eq]
        exact h2
      rw [h4] at this; cases this

set_option maxRecDepth 100000 in
set_option maxHeartbeats 4000000 in
theorem best_lpi (l s c cap : Nat) (S : Words) (x : St) (hn : x.n ≤ 512) (hc : ∀ b ∈ x.cfg, b < 256) (w : World) (hT : TabW w) (h : LpB w l s c cap S x) :
    Calls Tryd.prog 26 #[.pointer (some ⟨l, 0, none⟩)] w fun e w' => e = .returned (bestV x).v ∧ Below w.heap.size w w' := by
  have hLs := h.set.lt
  have hLl := h.box.lt
  have hLc := h.cfg.lt
  have hB0 : Below w.heap.size w (((w.alloc (.cells #[.pointer (some ⟨l, 0, none⟩)] 27)).alloc (.cells (⟨0, 0, 0, false⟩ : Cd).cs 63)).alloc (.cells (⟨0, 0, 0, false⟩ : Cd).cs 63)) := (bal2' w _ _).alloc (by simp; omega) _
  have hb0 := ((CB.new w 27 #[.pointer (some ⟨l, 0, none⟩)]).alloc (.cells (⟨0, 0, 0, false⟩ : Cd).cs 63)).alloc (.cells (⟨0, 0, 0, false⟩ : Cd).cs 63)
  have hb1 := (CB.new (w.alloc (.cells #[.pointer (some ⟨l, 0, none⟩)] 27)) 63 (⟨0, 0, 0, false⟩ : Cd).cs).alloc (.cells (⟨0, 0, 0, false⟩ : Cd).cs 63)
  have hb2 := CB.new ((w.alloc (.cells #[.pointer (some ⟨l, 0, none⟩)] 27)).alloc (.cells (⟨0, 0, 0, false⟩ : Cd).cs 63)) 63 (⟨0, 0, 0, false⟩ : Cd).cs
  simp only [World.size_alloc] at hb1 hb2
  obtain ⟨_, _, _, _, _, c5, _⟩ := (h.below hB0).cells
  have H := hi (And.intro h (h.is.from0 hn))
  have HALL := hi ((sall_any s S (((w.alloc (.cells #[.pointer (some ⟨l, 0, none⟩)] 27)).alloc (.cells (⟨0, 0, 0, false⟩ : Cd).cs 63)).alloc (.cells (⟨0, 0, 0, false⟩ : Cd).cs 63)) (h.set.below hB0)).mono (R' := fun e w1 => e = .returned (.func (.func 90) #[] #[.pointer (some ⟨w.heap.size + 1 + 1 + 1, 0, none⟩), .pointer (some ⟨w.heap.size + 1 + 1 + 1 + 1, 0, none⟩)]) ∧ w1.heap.size = w.heap.size + 5 ∧ Below w.heap.size w w1 ∧ CB w1 w.heap.size 27 #[.pointer (some ⟨l, 0, none⟩)] ∧ CB w1 (w.heap.size + 1) 63 (⟨0, 0, 0, false⟩ : Cd).cs ∧ CB w1 (w.heap.size + 1 + 1) 63 (⟨0, 0, 0, false⟩ : Cd).cs ∧ FromAt w1 (w.heap.size + 1 + 1 + 1) S 0 ∧ TabW w1) (fun e w1 ⟨he, hf, hb, hz⟩ => by
    simp only [World.size_alloc] at he hf hz
    refine ⟨he, by omega, hB0.more hb, hb0.below hb, hb1.below hb, hb2.below hb, hf, (hT.below hB0).below hb⟩))
  have h0w := hT.lt
  clear h hB0 hb0 hb1 hb2 hT
  obtain ⟨L, hL⟩ : ∃ L, lst x.P x.n = L := ⟨_, rfl⟩
  have H3 := hi H.out.2
  rw [hL] at H3
  have HLM := hi (show ∀ k, k ∈ L → k < x.n from fun k hk => by rw [← hL] at hk; exact (lst_mem.1 hk).1)
  have hbv : bestV x = bestL x L := by rw [bestV, hL]
  rw [hbv]
  clear hL hbv
  refine (callsIn_wide (n := 6)).1 ?_
  refine callsIn_of_wp_marks Tryd.func26 rfl trivial ?_ rfl
  simp only [Tryd.ntmps26, List.size_toArray, List.length_cons, List.length_nil, Nat.reduceAdd, Nat.reduceSub, Array.replicate_succ, Array.replicate_zero, List.push_toArray, List.append_toArray, List.nil_append, List.cons_append]
  gi_wp2_with (first
    | (refine ⟨trivial, ?_⟩; gi_at_call 50; ((with_reducible refine (callsIn_wide.2 HALL.out).mono ?_); rintro e w1 ⟨rfl, hz1, hF1⟩; have HF := hi hF1; clear hF1))
    | gi_in)
  have HKB := hi (show ∀ i, fBs (w.heap.size + 1 + 1 + 1) i → i < w1.heap.size ∧ i ≠ w.heap.size + 1 + 1 from fun i hi => by
    unfold fBs at hi
    omega)
  refine range_win (n := 6) (by omega) (gf := 90) (lb := #[.pointer (some ⟨w.heap.size + 1 + 1 + 1, 0, none⟩), .pointer (some ⟨w.heap.size + 1 + 1 + 1 + 1, 0, none⟩)]) rfl (enters_of Tryd.func90 (by kernel_rfl) rfl)
    (ids_stops (w.heap.size + 1 + 1 + 1) S L H3.out w1 HF.out.2.2.2.2.1 HF.out.2.2.2.2.2) (fun a b => KpB.trans a b) (fun W l' o o' h1 h2 h3 h4 => KpB.put (fun i hi => (HKB.out i hi).1) h1 W o') (Below.refl _ _) (fun _ => rfl)
    (BeI (w.heap.size + 1 + 1) x w1) (fun cd pre V => False) (BeI.abl (by omega)) (fun _ _ _ _ _ hs _ _ => hs)
    ⟨HF.out.2.2.2.1, Kept.refl _ _⟩
    (fun k a' V => a' = { tmps := #[.pointer (some ⟨l, 0, none⟩), .pointer (some ⟨w.heap.size, 0, none⟩), .pointer (some ⟨w.heap.size + 1, 0, none⟩), .pointer (some ⟨w.heap.size + 1 + 1, 0, none⟩), .int .i64 (idOf k), undef, undef, .pointer (some ⟨l, 0, none⟩), .pointer (some ⟨l, 0, none⟩), .pointer (some ⟨l, 5, none⟩), .pointer (some ⟨s, 0, none⟩), .func (.func 90) #[] #[.pointer (some ⟨w.heap.size + 1 + 1 + 1, 0, none⟩), .pointer (some ⟨w.heap.size + 1 + 1 + 1 + 1, 0, none⟩)], .int .i64 (idOf k), undef, undef, undef, undef, undef, undef, undef, undef, undef, undef, undef, undef, undef, undef, undef, undef, undef, undef, undef, undef, undef, undef, undef, undef, undef], defers := [] })
    (fun x a' => AbL.pure _ _ _)
    ?assign ?body ?done ?stop
  case assign =>
    rintro l' pre k V K h hsz hK
    gi_wp2
    exact hK _ _ (KW.refl _ _) (KpB.refl _ _) h rfl
  case body =>
    rintro l' pre k a' V hsz hI rfl hpx
    have hvs := hI.kept.size
    have hkn : k < x.n := HLM.out k (hpx.subset (by simp))
    have hw1 : Below w.heap.size w w1 := HF.out.1
    have hV := (H.out.1.below hw1).kept hI.kept (fun e => by omega) (fun e => by omega) (fun e => by omega)
    have b0 := (HF.out.2.1.keptB hI.kept (fun e => by omega)).cell 0
    have HS := hi (setup_lpi l s c cap S x hn hc (idOf k) V hV)
    have e1 : inV x (idOf k) = decide (cfgK x k % 2 = 1) := by rw [inV, idOf_eq, ownB_at, decide_eq_true hkn, Bool.true_and, kOf_at]
    have e2 : prV x (idOf k) = (realN (cfgK x k) : Int) := by rw [prV, idOf_eq, if_pos (by rw [ownB_at, decide_eq_true hkn]), kOf_at]
    rw [e1, e2] at HS
    have HYES := @bestC_yes x (bestL x pre) k
    have HNO := @bestC_no x (bestL x pre) k
    have HI := hi hI
    have hbx := hI.box
    obtain ⟨cd, hcd⟩ : ∃ d, bestL x pre = d := ⟨_, rfl⟩
    have HSN := hi (show bestL x (pre ++ [k]) = bestC x cd k by rw [bestL_snoc, hcd])
    rw [hcd] at HYES HNO hbx
    obtain ⟨rv, hrv⟩ : ∃ r : Int, (realN (cfgK x k) : Int) = r := ⟨_, rfl⟩
    rw [hrv] at HS HYES HNO
    obtain ⟨z, hz⟩ : ∃ z : Int, idOf k = z := ⟨_, rfl⟩
    rw [hz] at HS HYES HNO
    rw [hz]
    have HBF := hi (fun W => before_any rv z cd.p cd.id W)
    have HKV := hi hvs
    obtain ⟨bb, hbb⟩ : ∃ b, beforeB rv z cd.p cd.id = b := ⟨_, rfl⟩
    rw [hbb] at HYES HNO HBF
    clear hz hI hpx hV e1 e2 hcd hrv hbb
    obtain ⟨ci, cp, cg, cis⟩ := cd
    dsimp only at HYES HNO HBF hbx
    obtain ⟨q0, q1, q2, q3⟩ := hbx.four
    have qf := hbx.frozen
    have qz := hbx.lt
    have HBX := hi hbx
    have fin : ∀ (V' : World) (d : Cd), CB V' (w.heap.size + 1 + 1) 63 d.cs → Kept (· = w.heap.size + 1 + 1) V V' → bestC x ⟨ci, cp, cg, cis⟩ k = d → KW w1.heap.size V V' ∧ KpB (fBs (w.heap.size + 1 + 1 + 1)) V V' ∧ BeI (w.heap.size + 1 + 1) x w1 (pre ++ [k]) V' := fun V' d h1 h2 h3 =>
      ⟨KW.of_kept h2 (fun i e => by omega), KpB.of_kept h2 (fun i hi => ⟨Nat.lt_of_lt_of_le (HKB.out i hi).1 HKV.out, (HKB.out i hi).2⟩), by rw [HSN.out, h3]; exact h1, HI.out.kept.trans h2⟩
    have FIN := hi fin
    clear fin hbx
    by_cases hcf : cfgK x k % 2 = 1
    · have hcd : decide (cfgK x k % 2 = 1) = true := decide_eq_true hcf
      rw [hcd] at HS
      cases cis
      · have HE := hi (HYES hcf (.inl rfl))
        clear HYES HNO hcf hcd
        gi_wp2_with (first
          | (refine ⟨trivial, ?_⟩; gi_at_call 31; ((with_reducible refine (CallsIn.inRound l' (callsIn_wide.2 HS.out)).mono ?_); rintro e w2 ⟨rfl, rfl⟩))
          | gi_in)
        refine ⟨trivial, ?_⟩
        gi_wp2
        exact FIN.out _ _ (HBX.out.set4 _ _ _ _) (kept_s4 _ _ _ _ _ _) HE.out
      · cases bb
        · have HE := hi (HNO (.inr ⟨rfl, rfl⟩))
          clear HYES HNO hcf hcd
          gi_wp2_with (first
            | (refine ⟨trivial, ?_⟩; gi_at_call 31; ((with_reducible refine (CallsIn.inRound l' (callsIn_wide.2 HS.out)).mono ?_); rintro e w2 ⟨rfl, rfl⟩))
            | (refine ⟨trivial, ?_⟩; gi_at_call 67; ((with_reducible refine (CallsIn.inRound l' (callsIn_wide.2 (HBF.out _))).mono ?_); rintro e w2 ⟨rfl, rfl⟩))
            | gi_in)
          exact FIN.out _ _ HBX.out (Kept.refl _ _) HE.out
        · have HE := hi (HYES hcf (.inr rfl))
          clear HYES HNO hcf hcd
          gi_wp2_with (first
            | (refine ⟨trivial, ?_⟩; gi_at_call 31; ((with_reducible refine (CallsIn.inRound l' (callsIn_wide.2 HS.out)).mono ?_); rintro e w2 ⟨rfl, rfl⟩))
            | (refine ⟨trivial, ?_⟩; gi_at_call 67; ((with_reducible refine (CallsIn.inRound l' (callsIn_wide.2 (HBF.out _))).mono ?_); rintro e w2 ⟨rfl, rfl⟩))
            | gi_in)
          exact FIN.out _ _ (HBX.out.set4 _ _ _ _) (kept_s4 _ _ _ _ _ _) HE.out
    · have hcd : decide (cfgK x k % 2 = 1) = false := decide_eq_false hcf
      rw [hcd] at HS
      have HE := hi (HNO (.inl hcf))
      clear HYES HNO hcf hcd
      gi_wp2_with (first
        | (refine ⟨trivial, ?_⟩; gi_at_call 31; ((with_reducible refine (CallsIn.inRound l' (callsIn_wide.2 HS.out)).mono ?_); rintro e w2 ⟨rfl, rfl⟩))
        | gi_in)
      all_goals try (exact absurd (show some undef = some (Value.bool _) from by assumption) (by unfold undef; simp))
      refine ⟨trivial, ?_⟩
      gi_wp2
      exact FIN.out _ _ HBX.out (Kept.refl _ _) HE.out
  case done =>
    rintro ys V rfl hI hK hs2
    have hvs := hI.kept.size
    obtain ⟨q0, q1, q2, q3⟩ := hI.box.four
    have HR := hi (HF.out.2.2.1.keptB hI.kept (fun e => by omega))
    obtain ⟨r0, r1, r2, r3⟩ := HR.out.four
    have rf := HR.out.frozen
    have rz := HR.out.lt
    obtain ⟨cd, hcd⟩ : ∃ d, bestL x ys = d := ⟨_, rfl⟩
    rw [hcd] at q0 q1 q2 q3
    have HCD := hi hcd
    obtain ⟨ci, cp, cg, cis⟩ := cd
    dsimp only at q0 q1 q2 q3
    have hs3 : w.heap.size + 5 + 2 ≤ V.heap.size := by omega
    have HK := hi (show V.heap[w.heap.size + 5]? = some (.deferred (some [])) by rw [← hz1]; exact hK)
    have HI := hi hI
    clear hI hK hcd
    gi_wp2
    have hk4 := kept_s4 V (w.heap.size + 1) (.int .i64 ci) (.int .i64 cp) (.int .i64 cg) (.bool cis)
    have hKm := (hk4.block _ (by omega) (fun e => by omega)).trans HK.out
    have hput := kept_put (set4 V (w.heap.size + 1) (.int .i64 ci) (.int .i64 cp) (.int .i64 cg) (.bool cis)) (w.heap.size + 5) (.deferred none)
    refine ⟨by simp, .inl ⟨_, _, rfl, run_takeDeferred hKm, ?_⟩⟩
    refine ⟨_, results_cd rfl _ _ (w.heap.size + 1) _ _ _ _ rfl ((HR.out.set4 _ _ _ _).keptB hput (fun e => by omega)), by rw [HCD.out], ?_⟩
    exact ((((Kept.of HF.out.1).trans (HI.out.kept.mono (cs := fun b => b = w.heap.size + 1 + 1 ∨ b = w.heap.size + 1 ∨ b = w.heap.size + 5) (fun _ e => .inl e))).trans (hk4.mono (fun _ e => .inr (.inl e)))).trans (hput.mono (fun _ e => .inr (.inr e)))).toBelow (Nat.le_refl _) (fun k e => by omega)
  case stop =>
    rintro cd pre V hpre h _ _
    exact h.elim

end Go.Proofs.YtobhdjepfhbgaaaDoor
