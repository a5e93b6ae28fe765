/-
  The document's bank: Sorted's walk.
-/
import Derived.Test.YtfjihpcemmobjaaRefF
namespace Go.Proofs.Ytfjihpcemmobjaa
open Go.ChangeShapes Go.WideShapes Go.ChangeAt Go.RowKit Go.Shelf
set_option linter.unusedVariables false
attribute [local go_sem] Oper.semAt_some

theorem cb_apart_own {W : World} {b base sz n : Nat} {t te : TypeId} {cs : Array Value} {v : Value} {c : List Value} (h : CB W b t cs) (hr : W.ownsRow base te sz v n c) (hne : t ≠ te) : some b ≠ v.ownBlock := fun e => by
  rcases hr.2 with ⟨e2, _⟩ | ⟨g, cap, cur, e2, _, hg, _⟩
  · rw [e2] at e; simp [Value.ownBlock] at e
  · rw [e2] at e
    obtain rfl : b = g := by simpa [Value.ownBlock] using e
    have h1 : W.heap[b]? = _ := h
    rw [h1] at hg
    simp only [Option.some.injEq, Obj.cells.injEq] at hg
    exact hne hg.2.1
theorem ty_ci : (51 : Nat) ≠ 3 := by decide
theorem ints_len (xs : List Int) : (ints xs).length = xs.length := by simp [ints]
theorem own_read {W : World} {base m k : Nat} {v : Value} {xs : List It} (h : W.ownsRow base 3 1 v m (ints (idsOf xs))) (hm : xs.length = m) (hk : k < m) : ∃ g c, v = .slice (some ⟨g, 0, none⟩) m c ∧ W.cell? ⟨g, k, none⟩ = some (.int .i64 (nthI xs k).1) := by
  rcases h.2 with ⟨e, e0⟩ | ⟨g, cap, cur, e, _⟩
  · omega
  · refine ⟨g, cap, e, ?_⟩
    have h1 : IntsAt W v (idsOf xs) := intsAt_row (base := base) (by rw [idsOf_len, hm]; exact h)
    rw [e] at h1
    obtain ⟨ib, io, ea, hc⟩ := ints_read h1 (k := k) (by omega)
    simp only [Option.some.injEq, Addr.mk.injEq] at ea
    obtain ⟨rfl, rfl, _⟩ := ea
    simpa using hc
/-- What is kept of the first i. -/
def kp (xs : List It) (id : Int) (i : Nat) : List It := dropI (xs.take i) id
theorem kp_zero (xs : List It) (id : Int) : kp xs id 0 = [] := by simp [kp, dropI]
theorem kp_all (xs : List It) (id : Int) : kp xs id xs.length = dropI xs id := by rw [kp, List.take_length]
theorem kp_yes {xs : List It} {id : Int} {i : Nat} (h : i < xs.length) (hb : (nthI xs i).1 ≠ id) : kp xs id (i + 1) = kp xs id i ++ [nthI xs i] := by
  rw [kp, List.take_add_one, nthI_at h]
  simp [kp, dropI, hb]
theorem kp_no {xs : List It} {id : Int} {i : Nat} (h : i < xs.length) (hb : (nthI xs i).1 = id) : kp xs id (i + 1) = kp xs id i := by
  rw [kp, List.take_add_one, nthI_at h]
  simp [kp, dropI, hb]
theorem kp_len (xs : List It) (id : Int) (i : Nat) : (kp xs id i).length ≤ i := Nat.le_trans (List.length_filter_le _ _) (by rw [List.length_take]; exact Nat.min_le_left _ _)

set_option maxRecDepth 100000 in
set_option maxHeartbeats 16000000 in
theorem rsorted_any {b lg xg : Nat} {la xa : Option Addr} {lc xc : Nat} {f : Int} {es : List En} {w : World} {xs : List It} {v : Value} (h : RfAt w b lg xg la xa lc xc f es) (hf : Fit f es.length) (ho : Of09 f es xs) (hv : IntsAt w v (idsOf xs)) (hl : xs.length ≤ 20000) :
    Calls Try.prog 26 #[.pointer (some ⟨b, 0, none⟩), v] w (SomeInts w (sel xs.length xs)) := by
  obtain ⟨i0, hi2, hz0, hz1, hz2⟩ := info_parts info_i
  have HA := hi (fun W (hW : Below w.heap.size w W) => h.below hW)
  have HF := hi hf
  have HO := hi ho
  have HV := hi hv
  obtain ⟨a, cap, hva⟩ : ∃ a cap, v = .slice a xs.length cap := by obtain ⟨a, cap, e, _⟩ := hv; exact ⟨a, cap, by rw [e, idsOf_len]⟩
  subst hva
  have HSL := hi (sel_len xs.length xs (Nat.le_refl _))
  obtain ⟨N, hN⟩ : ∃ N, xs.length = N := ⟨_, rfl⟩
  have HN := hi hN
  obtain ⟨R, hR⟩ : ∃ R, sel xs.length xs = R := ⟨_, rfl⟩
  have HR := hi hR
  rw [hR] at HSL ⊢
  rw [hN] at HSL HV hl ⊢
  clear h hf ho hv hN hR
  go_enter Try.func26, Try.ntmps26
  go_wp2_with (first
    | (refine wpList_append_ints rfl (.tmp 10) (.tmp 11) rfl rfl _ (idsOf xs) rfl HV.out (by rw [idsOf_len, HN.out]; exact hl) ?_; intro v1 w1 hown1 hb1; rw [idsOf_len, HN.out] at hown1; obtain ⟨l1, c1, rfl⟩ := own_slice hown1; have H1 := hi (show RS w (.slice none 0 0) (.slice l1 N c1) (.slice none 0 0) 0 N 0 [] (ints (idsOf xs)) [] w1 from ⟨World.ownsRow_nil _ _ _ _, hown1, World.ownsRow_nil _ _ _ _, .inl rfl, .inl rfl, apart_nil _, hb1⟩); clear hown1 hb1))
  go_loopw [5, 6] (fun o l wr => ∃ (O : List Int) (L : List It) (m : Nat), Hi (O ++ sel m L = R ∧ L.length ≤ m ∧ O.length ≤ 20000 ∧ L.length ≤ N ∧ Of09 f es L) ∧ Hi (RS w o l (.slice none 0 0) O.length L.length 0 (ints O) (ints (idsOf L)) [] wr)) (fun _ l _ => (match l with | .slice _ n _ => n | _ => 0))
  case atStart => exact ⟨[], xs, N, hi ⟨by rw [List.nil_append, ← HR.out, HN.out], by rw [HN.out]; exact Nat.le_refl _, by simp, by rw [HN.out]; exact Nat.le_refl _, HO.out⟩, by rw [HN.out]; exact H1⟩
  case round =>
    obtain ⟨O, L, m, HP, HX⟩ := hrel
    clear H1
    obtain ⟨oa, oc, rfl⟩ := own_slice HX.out.ro
    obtain ⟨ll, lcp, rfl⟩ := own_slice HX.out.rl
    obtain ⟨no, hno⟩ : ∃ no, O.length = no := ⟨_, rfl⟩
    obtain ⟨nl, hnl⟩ : ∃ nl, L.length = nl := ⟨_, rfl⟩
    have HNO := hi hno
    have HNL := hi hnl
    rw [hno, hnl] at HX ⊢
    by_cases hL : L = []
    · subst hL
      obtain rfl : nl = 0 := by simpa using hnl.symm
      clear hno hnl
      go_wp2
      go_ret
      refine someInts_of (base := w.heap.size) ?_ HX.out.below
      have e := HP.out.1
      rw [sel_nil, List.append_nil] at e
      rw [← e, HNO.out]
      exact HX.out.ro
    · have hpos : 0 < nl := by rw [← hnl]; exact List.length_pos_iff.2 hL
      have hnN : nl ≤ N := by rw [← hnl]; exact HP.out.2.2.2.1
      have hm0 : m ≠ 0 := by have := HP.out.2.1; omega
      obtain ⟨m', rfl⟩ : ∃ m', m = m' + 1 := ⟨m - 1, by omega⟩
      have hdl := dropI_lt hL
      have HSEL := hi (sel_cons (n := m') hL)
      have HBE := hi (fun W (hW : RS w (.slice oa no oc) (.slice ll nl lcp) (.slice none 0 0) no nl 0 (ints O) (ints (idsOf L)) [] W) => rbest_any (HA.out W hW.below) HF.out HP.out.2.2.2.2 (intsAt_row (base := w.heap.size) (by rw [idsOf_len, HNL.out]; exact hW.rl)) (by rw [HNL.out]; omega))
      obtain ⟨c, hc⟩ : ∃ c, bestC L = c := ⟨_, rfl⟩
      rw [hc] at HBE HSEL hdl
      have hOl : no + 1 ≤ 20000 := by
        have h1 := congrArg List.length HP.out.1
        rw [List.length_append, HNO.out, HSEL.out, List.length_cons] at h1
        have := HSL.out
        omega
      have HDL := hi hdl
      have HLNE := hi hL
      have hdm : decide ((0 : Int) < (nl : Int)) = true := by simp; omega
      clear hno hnl hc hL hdl hm0
      obtain ⟨ci, cp, cg, cis⟩ := c
      dsimp only at HSEL HDL
      go_wp2_with (first
        | (go_at_call 23; ((with_reducible refine (HBE.out _ HX.out).mono ?_); rintro e' w2 ⟨rfl, hb⟩; have H2 := hi (HX.out.later hb); have H3 := hi (H2.out.later (bal w2 (.cells (Cd.cs ⟨ci, cp, cg, cis⟩) 51))); have HC3 := hi (CB.new w2 51 (Cd.cs ⟨ci, cp, cg, cis⟩)); have hro3 := H3.out.ro; have hbs3 := H3.out.below.size; clear hb))
        | (at_builtin; refine wpList_append_own_at _ rfl _ _ 43 rfl w.heap.size 3 i0 (.int .i64 0) 1 8 Try.underlying43 hi2 hz0 hz1 hz2 rfl (by decide) _ _ _ rfl (hro3.alloc _) ⟨w2.heap.size + 1, 0, none⟩ 1 1 [.int .i64 ci] rfl rfl (cell_one_at (by simp) _ _) (by simp [Value.oneCell']) (by unfold maxLen; omega) (by omega) (by simp at hbs3 ⊢; omega) ?_; intro v' w9 hown' hgrow _ hat; obtain ⟨g', cap', rfl⟩ := ownsRow_succ hown'; have H9 := hi (H3.out.growO hown' hgrow hat); have HC9 := hi (CB.kept (HC3.out.alloc _) hgrow (cb_apart_own HC3.out H3.out.ro ty_ci)); clear hown' hgrow hat hro3))
      have H10 := hi (show RS w (.slice (some ⟨g', 0, none⟩) (no + 1) cap') (.slice ll nl lcp) (.slice none 0 0) (no + 1) nl (kp L ci 0).length (ints (O ++ [ci])) (ints (idsOf L)) (ints (idsOf (kp L ci 0))) w9 ∧ CB w9 w2.heap.size 51 (Cd.cs ⟨ci, cp, cg, cis⟩) from ⟨by rw [kp_zero, ints_append]; exact H9.out, HC9.out⟩)
      clear H9 HC9 H3 H2 HC3 HBE hbs3 hdm HX
      go_loopw [8, 9] (fun x i wr2 => ∃ j : Nat, j ≤ nl ∧ i = .int .i64 j ∧ Hi (RS w (.slice (some ⟨g', 0, none⟩) (no + 1) cap') (.slice ll nl lcp) x (no + 1) nl (kp L ci j).length (ints (O ++ [ci])) (ints (idsOf L)) (ints (idsOf (kp L ci j))) wr2 ∧ CB wr2 w2.heap.size 51 (Cd.cs ⟨ci, cp, cg, cis⟩))) (fun _ i _ => nl - (intOf i).toNat)
      case atStart => exact ⟨0, Nat.zero_le _, rfl, H10⟩
      case round =>
        obtain ⟨j, hj, rfl, HY⟩ := hrel
        clear H10
        have hkl := kp_len L ci j
        obtain ⟨xa', xc', rfl⟩ := own_slice HY.out.1.rx
        obtain ⟨nx, hnx⟩ : ∃ nx, (kp L ci j).length = nx := ⟨_, rfl⟩
        have HNX := hi hnx
        rw [hnx] at hkl HY ⊢
        clear hnx
        by_cases hlt : j < nl
        · obtain ⟨g, c9, e, hcell⟩ := own_read HY.out.1.rl HNL.out hlt
          simp only [Value.slice.injEq] at e
          obtain ⟨rfl, _, rfl⟩ := e
          have b0 := HY.out.2.cell 0
          have hbl := HY.out.2.lt
          have hbs := HY.out.1.below.size
          have HKY := hi (kp_yes (id := ci) (xs := L) (i := j) (by rw [HNL.out]; exact hlt))
          have HKN := hi (kp_no (id := ci) (xs := L) (i := j) (by rw [HNL.out]; exact hlt))
          have HID := hi (show idsOf [nthI L j] = [(nthI L j).1] from rfl)
          by_cases hb : (nthI L j).1 = ci
          · have HK := hi (HKN.out hb)
            rw [hb] at hcell
            have hq : (ci != ci) = false := by simp
            clear HKY HKN hb HID
            go_wp2
            go_quiet (fail)
            go_wp2
            go_roundw
            case rel =>
              refine ⟨j + 1, by omega, by go_num, hi ?_⟩
              rw [HK.out, HNX.out]
              exact ⟨HY.out.1.later (Below.drewN (Below.refl _ _)), HY.out.2⟩
            case measure => simp only [intOf]; omega
          · have HK := hi (HKY.out hb)
            obtain ⟨y, hy⟩ : ∃ y, (nthI L j).1 = y := ⟨_, rfl⟩
            rw [hy] at hcell hb HID
            have hq : (y != ci) = true := by simpa using hb
            clear HKY HKN hb hy
            go_wp2
            go_quiet (fail)
            have HY2 := hi (show RS w (.slice (some ⟨g', 0, none⟩) (no + 1) cap') (.slice (some ⟨g, 0, none⟩) nl lcp) (.slice xa' nx xc') (no + 1) nl nx (ints (O ++ [ci])) (ints (idsOf L)) (ints (idsOf (kp L ci j))) (wr.drewN nq) ∧ CB (wr.drewN nq) w2.heap.size 51 (Cd.cs ⟨ci, cp, cg, cis⟩) from ⟨HY.out.1.later (Below.drewN (m := nq) (Below.refl _ _)), CB.drewN HY.out.2 nq⟩)
            have hrx := HY2.out.1.rx
            go_wp2_with (first
              | (at_builtin; refine wpList_append_own_at _ rfl _ _ 43 rfl w.heap.size 3 i0 (.int .i64 0) 1 8 Try.underlying43 hi2 hz0 hz1 hz2 rfl (by decide) _ _ _ rfl (hrx.alloc _) ⟨wr.heap.size, 0, none⟩ 1 1 [.int .i64 y] rfl rfl (cell_one_at (by simp) _ _) (by simp [Value.oneCell']) (by unfold maxLen; omega) (by omega) (by simp; omega) ?_; intro v'' w8 hown8 hgrow8 _ hat8; obtain ⟨g8, cap8, rfl⟩ := ownsRow_succ hown8; have H8 := hi (HY2.out.1.growX hown8 hgrow8 hat8); have HC8 := hi (CB.kept (HY2.out.2.alloc _) hgrow8 (cb_apart_own HY2.out.2 HY2.out.1.rx ty_ci)); clear hown8 hgrow8 hat8 hrx))
            go_roundw
            case rel =>
              refine ⟨j + 1, by omega, by go_num, hi ?_⟩
              rw [HK.out, List.length_append, HNX.out, idsOf_append, HID.out, ints_append (idsOf (kp L ci j)) [y]]
              exact ⟨H8.out, HC8.out⟩
            case measure => simp only [intOf]; omega
        · obtain rfl : j = nl := by omega
          have hka := kp_all L ci
          rw [HNL.out] at hka
          have HKA := hi hka
          have HT := hi HY.out.1.turn
          clear hka HY
          go_wp2
          go_roundw
          case rel =>
            refine ⟨O ++ [ci], dropI L ci, m', hi ⟨?_, ?_, ?_, ?_, ?_⟩, ?_⟩
            · have e := HP.out.1
              rw [HSEL.out] at e
              rw [← e]
              simp
            · have h1 := HP.out.2.1
              have h2 := HDL.out
              omega
            · rw [List.length_append, HNO.out]
              exact hOl
            · have h2 := HDL.out
              rw [HNL.out] at h2
              omega
            · exact HP.out.2.2.2.2.sub (fun x hx => (List.mem_filter.1 hx).1)
            · rw [← HKA.out, HNX.out, List.length_append, HNO.out]
              exact HT
          case measure =>
            have h2 := HDL.out
            rw [HNL.out, ← HKA.out, HNX.out] at h2
            exact h2

end Go.Proofs.Ytfjihpcemmobjaa
