/-
  Package lpi: Inv, InvAll, Setup.
-/
import Derived.Test.YtobhdjepfhbgaaaDoorLpD
import Derived.Test.YtobhdjepfhbgaaaDoorLast
namespace Go.Proofs.YtobhdjepfhbgaaaDoor
open Go.ChangeShapes Go.WideShapes Go.ChangeAt Go.RowKit Go.Shelf
set_option linter.unusedVariables false
set_option linter.unusedSimpArgs false

theorem below_dr (W : World) : Below W.heap.size W W.drew := ⟨rfl, rfl, rfl, Nat.le_refl _, fun _ _ => rfl⟩
set_option maxRecDepth 100000 in
set_option maxHeartbeats 4000000 in
theorem inv_lpi (l s c cap p g cp : Nat) (S : Words) (x : St) (bs : List Nat) (hx : x.Ok bs.length) (id : Int) (w : World) (h : LpB w l s c cap S x) (hM : MemAt 96 w p g cp bs) :
    Calls Tryd.prog 33 #[.pointer (some ⟨l, 0, none⟩), .pointer (some ⟨p, 0, none⟩), .int .i64 id] w fun e w' => e = .returned (.int .i64 (errL x id)) ∧ LpB w' l s c cap S (invV bs x id) ∧ Kept (· = c) w w' := by
  have HO := hi (owns_any l s c cap S x hx.n5 id w h.hd)
  cases ho : ownB x id
  · have e2 : errL x id = 150 := by rw [errL, if_neg (by rw [ho]; simp)]
    have e3 : invV bs x id = x := by rw [invV, if_neg (by rw [ho]; simp)]
    rw [e2, e3]
    rw [ho] at HO
    have H := hi h
    clear h hM e2 e3
    go_enter Tryd.func33, Tryd.ntmps33
    go_wp2_with (go_at_call 46; ((with_reducible refine HO.out.mono ?_); rintro e w1 ⟨rfl, rfl⟩))
    go_ret
    exact ⟨rfl, H.out, Kept.refl _ _⟩
  · obtain ⟨k, hk, rfl⟩ := ownB_out ho
    have e2 : errL x ((8192 + k : Nat) : Int) = 0 := by rw [errL, if_pos ho]
    have e3 : invV bs x ((8192 + k : Nat) : Int) = invS bs x k := by rw [invV, if_pos ho, kOf_at]
    rw [e2, e3]
    rw [ho] at HO
    have hpn := hx.pn
    have HL := hi (fun W hW => load_any p g cp bs x.pa x.ps k hx.pw (by omega) W hW)
    have hv8 := getD_lt hM.bytes.2 (x.pa + k)
    have e4 : invS bs x k = { x with cfg := x.cfg.set k (bs[x.pa + k]?.getD 0) } := rfl
    rw [e4]
    obtain ⟨v, hv⟩ : ∃ v, bs[x.pa + k]?.getD 0 = v := ⟨_, rfl⟩
    rw [hv] at HL hv8 ⊢
    have hkl : k < x.cfg.length := by rw [h.len]; exact hk
    have HK := hi (And.intro hkl hv8)
    have H := hi (And.intro h hM)
    have hki : (k : Int) < (x.n : Int) := by omega
    have hk0 : (0 : Int) ≤ (k : Int) := by omega
    have hn5 := hx.n5
    obtain ⟨z, hz⟩ : ∃ z : Int, ((8192 + k : Nat) : Int) = z := ⟨_, rfl⟩
    have hw : IntKind.i64.wrap (z - 8192) = (k : Int) := by rw [IntKind.wrap_i64]; omega
    rw [hz] at HO
    rw [hz]
    clear h hM e2 e3 e4 hz ho hv hv8 hkl
    go_enter Tryd.func33, Tryd.ntmps33
    go_wp2_with (go_at_call 46; ((with_reducible refine HO.out.mono ?_); rintro e w1 ⟨rfl, rfl⟩))
    refine wp_region_noPanic ?_
    refine wp_region_last_drew (S := (fun W => LpB W l s c cap S x ∧ MemAt 96 W p g cp bs ∧ Below w.heap.size w W)) [13] (by kernel_rfl) ⟨H.out.1.below (below_dr _), H.out.2.below (below_dr _), below_dr _⟩ (fun hHeld => ?_)
    (try simp only [Array.replicate_succ, Array.replicate_zero, List.push_toArray, List.nil_append, List.cons_append])
    refine wpAnyF_take (i := 0) (v := ?_) (by kernel_rfl) (by kernel_rfl) rfl (by kernel_rfl) (by kernel_rfl) (by kernel_rfl) (fun _ _ _ h => h) (Or.inl ⟨by rfl, ?_⟩) (by assumption) ?_
    rotate_left
    · intro w' hSw; (try dsimp only at hSw); clear hSw; go_simp; (try with_reducible rfl)
    (try simp only [Act.put, List.getElem_toArray, List.getElem_cons_zero, List.getElem_cons_succ, List.setIfInBounds_toArray, List.set_cons_zero, List.set_cons_succ])
    refine wpAnyF_take (i := 1) (v := ?_) (by kernel_rfl) (by kernel_rfl) rfl (by kernel_rfl) (by kernel_rfl) (by kernel_rfl) (fun _ _ _ h => h) (Or.inl ⟨by rfl, ?_⟩) (by assumption) ?_
    rotate_left
    · intro w' hSw; (try dsimp only at hSw); clear hSw; go_simp; (try with_reducible rfl)
    (try simp only [Act.put, List.getElem_toArray, List.getElem_cons_zero, List.getElem_cons_succ, List.setIfInBounds_toArray, List.set_cons_zero, List.set_cons_succ])
    refine wpAnyF_take (i := 2) (v := ?_) (by kernel_rfl) (by kernel_rfl) rfl (by kernel_rfl) (by kernel_rfl) (by kernel_rfl) (fun _ _ _ h => h) (Or.inl ⟨by rfl, ?_⟩) (by assumption) ?_
    rotate_left
    · intro w' hSw; (try dsimp only at hSw); clear hSw; go_simp; (try with_reducible rfl)
    (try simp only [Act.put, List.getElem_toArray, List.getElem_cons_zero, List.getElem_cons_succ, List.setIfInBounds_toArray, List.set_cons_zero, List.set_cons_succ])
    refine wpAnyF_take (i := 3) (v := ?_) (by kernel_rfl) (by kernel_rfl) rfl (by kernel_rfl) (by kernel_rfl) (by kernel_rfl) (fun _ _ _ h => h) (Or.inl ⟨by rfl, ?_⟩) (by assumption) ?_
    rotate_left
    · intro w' hSw; (try dsimp only at hSw); obtain ⟨_, p1, p2, _, _, _, p6⟩ := hSw.1.cells; clear hSw; go_simp; (try with_reducible rfl)
    (try simp only [Act.put, List.getElem_toArray, List.getElem_cons_zero, List.getElem_cons_succ, List.setIfInBounds_toArray, List.set_cons_zero, List.set_cons_succ])
    refine wpAnyF_take (i := 4) (v := ?_) (by kernel_rfl) (by kernel_rfl) rfl (by kernel_rfl) (by kernel_rfl) (by kernel_rfl) (fun _ _ _ h => h) (Or.inl ⟨by rfl, ?_⟩) (by assumption) ?_
    rotate_left
    · intro w' hSw; (try dsimp only at hSw); clear hSw; go_simp; (try with_reducible rfl)
    (try simp only [Act.put, List.getElem_toArray, List.getElem_cons_zero, List.getElem_cons_succ, List.setIfInBounds_toArray, List.set_cons_zero, List.set_cons_succ])
    refine wpAnyF_take (i := 5) (v := ?_) (by kernel_rfl) (by kernel_rfl) rfl (by kernel_rfl) (by kernel_rfl) (by kernel_rfl) (fun _ _ _ h => h) (Or.inl ⟨by rfl, ?_⟩) (by assumption) ?_
    rotate_left
    · intro w' hSw; (try dsimp only at hSw); clear hSw; go_simp; (try with_reducible rfl)
    (try simp only [Act.put, List.getElem_toArray, List.getElem_cons_zero, List.getElem_cons_succ, List.setIfInBounds_toArray, List.set_cons_zero, List.set_cons_succ])
    refine wpAnyF_take (i := 6) (v := ?_) (by kernel_rfl) (by kernel_rfl) rfl (by kernel_rfl) (by kernel_rfl) (by kernel_rfl) (fun _ _ _ h => h) (Or.inl ⟨by rfl, ?_⟩) (by assumption) ?_
    rotate_left
    · intro w' hSw; (try dsimp only at hSw); clear hSw; go_simp; (try with_reducible rfl)
    (try simp only [Act.put, List.getElem_toArray, List.getElem_cons_zero, List.getElem_cons_succ, List.setIfInBounds_toArray, List.set_cons_zero, List.set_cons_succ])
    refine wpAnyF_take (i := 7) (v := ?_) (by kernel_rfl) (by kernel_rfl) rfl (by kernel_rfl) (by kernel_rfl) (by kernel_rfl) (fun _ _ _ h => h) (Or.inl ⟨by rfl, ?_⟩) (by assumption) ?_
    rotate_left
    · intro w' hSw; (try dsimp only at hSw); clear hSw; go_simp; (try with_reducible rfl)
    (try simp only [Act.put, List.getElem_toArray, List.getElem_cons_zero, List.getElem_cons_succ, List.setIfInBounds_toArray, List.set_cons_zero, List.set_cons_succ])
    refine wpAnyF_take (i := 8) (v := ?_) (by kernel_rfl) (by kernel_rfl) rfl (by kernel_rfl) (by kernel_rfl) (by kernel_rfl) (fun _ _ _ h => h) (Or.inl ⟨by rfl, ?_⟩) (by assumption) ?_
    rotate_left
    · intro w' hSw; (try dsimp only at hSw); clear hSw; go_simp; (try with_reducible rfl)
    (try simp only [Act.put, List.getElem_toArray, List.getElem_cons_zero, List.getElem_cons_succ, List.setIfInBounds_toArray, List.set_cons_zero, List.set_cons_succ])
    refine wpAnyF_take (i := 9) (v := ?_) (by kernel_rfl) (by kernel_rfl) rfl (by kernel_rfl) (by kernel_rfl) (by kernel_rfl) (fun _ _ _ h => h) (Or.inl ⟨by rfl, ?_⟩) (by assumption) ?_
    rotate_left
    · intro w' hSw; (try dsimp only at hSw); obtain ⟨_, p1, p2, _, _, _, p6⟩ := hSw.1.cells; clear hSw; go_simp; (try with_reducible rfl)
    (try simp only [Act.put, List.getElem_toArray, List.getElem_cons_zero, List.getElem_cons_succ, List.setIfInBounds_toArray, List.set_cons_zero, List.set_cons_succ])
    refine wpAnyF_take (i := 10) (v := ?_) (by kernel_rfl) (by kernel_rfl) rfl (by kernel_rfl) (by kernel_rfl) (by kernel_rfl) (fun _ _ _ h => h) (Or.inl ⟨by rfl, ?_⟩) (by assumption) ?_
    rotate_left
    · intro w' hSw; (try dsimp only at hSw); clear hSw; go_simp; (try with_reducible rfl)
    (try simp only [Act.put, List.getElem_toArray, List.getElem_cons_zero, List.getElem_cons_succ, List.setIfInBounds_toArray, List.set_cons_zero, List.set_cons_succ])
    refine wpAnyF_ready (rs := [11]) (by kernel_rfl) (by simp) ?_
    refine AllReadyF.cons rfl (fun KK hKK => ?_) AllReadyF.nil
    go_simp
    ((with_reducible refine (HL.out _ hHeld.2.1).mono ?_); rintro e' w5 ⟨rfl, hb5⟩; have hSS := And.intro (hHeld.1.below hb5) (And.intro (hHeld.2.1.below hb5) (hHeld.2.2.trans (hb5.mono hHeld.2.2.size))); have HF := hi hSS; clear hb5)
    (try go_simp)
    refine hKK.out _ _ hSS (fun hHeld => ?_)
    clear hKK KK
    (try simp only [Act.put, List.getElem_toArray, List.getElem_cons_zero, List.getElem_cons_succ, List.setIfInBounds_toArray, List.set_cons_zero, List.set_cons_succ])
    refine wpAnyF_take (i := 12) (v := ?_) (by kernel_rfl) (by kernel_rfl) rfl (by kernel_rfl) (by kernel_rfl) (by kernel_rfl) (fun _ _ _ h => h) (Or.inl ⟨by rfl, ?_⟩) (by assumption) ?_
    rotate_left
    · intro w' hSw; (try dsimp only at hSw); clear hSw; go_simp; (try with_reducible rfl)
    (try simp only [Act.put, List.getElem_toArray, List.getElem_cons_zero, List.getElem_cons_succ, List.setIfInBounds_toArray, List.set_cons_zero, List.set_cons_succ])
    refine wpAnyF_ready (rs := [13]) (by kernel_rfl) (by simp) ?_
    refine AllReadyF.last (by kernel_rfl) rfl (fun KK hKK => ?_) AllReadyF.nil
    have qc := HF.out.1.cfg.cell k HK.out.1
    have qf := HF.out.1.cfg.frozen k
    have qz := HF.out.1.cfg.lt
    go_simp
    refine hKK.out _ _ ?_
    clear hKK KK
    (try simp only [Act.put, List.getElem_toArray, List.getElem_cons_zero, List.getElem_cons_succ, List.setIfInBounds_toArray, List.set_cons_zero, List.set_cons_succ])
    refine wpAnyF_done (by kernel_rfl) ?_ _
    refine NoPanic.normal ?_
    go_wp2
    go_ret
    have hk5 := kept_setCell w5 c k (.int .u8 (v : Int))
    exact ⟨rfl, ⟨HF.out.1.box.keptB hk5 HF.out.1.lc, HF.out.1.set.keptB hk5 HF.out.1.sc, HF.out.1.is, HF.out.1.cfg.set k v HK.out.1 HK.out.2, by simp [HF.out.1.len], HF.out.1.cap⟩, (Kept.of HF.out.2.2).trans hk5⟩

/-- All are read. -/
theorem invTo_n (bs : List Nat) (x : St) (k : Nat) : (invTo bs x k).n = x.n := (invTo_alike bs x k).n
theorem inv_at {bs : List Nat} {x : St} {k : Nat} (hk : k < x.n) : invV bs (invTo bs x k) ((8192 + k : Nat) : Int) = invTo bs x (k + 1) := by
  have : ownB (invTo bs x k) ((8192 + k : Nat) : Int) = true := by rw [ownB_at, invTo_n]; simpa using hk
  rw [invV, if_pos this, kOf_at]; rfl
set_option maxHeartbeats 2000000 in
theorem invAll_lpi (l s c cap p g cp : Nat) (S : Words) (x : St) (bs : List Nat) (hx : x.Ok bs.length) (w : World) (h : LpB w l s c cap S x) (hM : MemAt 96 w p g cp bs) (hgc : g ≠ c) :
    Calls Tryd.prog 15 #[.pointer (some ⟨l, 0, none⟩), .pointer (some ⟨p, 0, none⟩)] w fun e w' => (∃ v, e = .returned v) ∧ LpB w' l s c cap S (invTo bs x x.n) ∧ Kept (· = c) w w' := by
  have HM := hi (many_any l s c cap S x w h.hd)
  have HI := hi (fun (k : Nat) (hk : k < x.n) (W : World) (hW : LpB W l s c cap S (invTo bs x k)) (hm : MemAt 96 W p g cp bs) => inv_lpi l s c cap p g cp S (invTo bs x k) bs (invTo_ok hM.bytes.2 hx k) ((8192 + k : Nat) : Int) W hW hm)
  have hpc := (h.apart hM).2.2.2.1
  have HP := hi (And.intro hgc hpc)
  have H := hi (And.intro h hM)
  have hn5 := hx.n5
  clear h hM hgc hpc
  go_enter Tryd.func15, Tryd.ntmps15
  go_wp2_with (go_at_call 23; ((with_reducible refine HM.out.mono ?_); rintro e w1 ⟨rfl, rfl⟩))
  go_loopw [7] (fun i wr => ∃ k : Nat, k ≤ x.n ∧ i = .int .i64 k ∧ Hi (LpB wr l s c cap S (invTo bs x k) ∧ Kept (· = c) w wr)) (fun i _ => x.n - (intOf i).toNat)
  case atStart => exact ⟨0, Nat.zero_le _, rfl, hi ⟨H.out.1, Kept.refl _ _⟩⟩
  case round =>
    obtain ⟨k, hk, rfl, HJ⟩ := hrel
    by_cases hlt : k < x.n
    · have x1 : (k : Int) < (x.n : Int) := by omega
      have hw : IntKind.i64.wrap (8192 + (k : Int)) = ((8192 + k : Nat) : Int) := by rw [IntKind.wrap_i64]; omega
      have HC := hi (HI.out k hlt wr HJ.out.1 (H.out.2.kept HJ.out.2 HP.out.2 HP.out.1))
      have e0 : errL (invTo bs x k) ((8192 + k : Nat) : Int) = 0 := by
        have : ownB (invTo bs x k) ((8192 + k : Nat) : Int) = true := by rw [ownB_at, invTo_n]; simpa using hlt
        rw [errL, if_pos this]
      rw [e0, inv_at hlt] at HC
      obtain ⟨z, hz⟩ : ∃ z : Int, ((8192 + k : Nat) : Int) = z := ⟨_, rfl⟩
      rw [hz] at HC hw
      clear e0 hz
      go_wp2_with (go_at_call 33; ((with_reducible refine HC.out.mono ?_); rintro e w2 ⟨rfl, hl2, hk2⟩; have HD := hi (And.intro hl2 hk2); clear hl2 hk2))
      go_roundw
      case rel => exact ⟨k + 1, by omega, by go_num, hi ⟨HD.out.1, HJ.out.2.trans HD.out.2⟩⟩
      case measure => simp [intOf]; omega
    · obtain rfl : k = x.n := by omega
      have x1 : ¬ (x.n : Int) < (x.n : Int) := by omega
      go_wp2
      go_end0
      exact ⟨⟨_, rfl⟩, HJ.out.1, HJ.out.2⟩

theorem and1_64 : ∀ b < 256, (bits .and .i64 ((b : Nat) : Int) 1 != 0) = decide (b % 2 = 1) := by decide +kernel
theorem realV_at : ∀ b < 256, realV ((b : Nat) : Int) = ((realN b : Nat) : Int) := by decide +kernel
theorem real_at (b : Nat) (hb : b < 256) (w : World) : Calls Tryd.prog 69 #[.int .i64 (b : Int)] w fun e w' => e = .returned (.int .i64 ((realN b : Nat) : Int)) ∧ w = w' := by
  have h := real_any (b : Int) w
  rwa [realV_at b hb] at h
set_option maxHeartbeats 1000000 in
theorem setup_lpi (l s c cap : Nat) (S : Words) (x : St) (hn : x.n ≤ 512) (hc : ∀ b ∈ x.cfg, b < 256) (id : Int) (w : World) (h : LpB w l s c cap S x) :
    Calls Tryd.prog 31 #[.pointer (some ⟨l, 0, none⟩), .int .i64 id] w fun e w' => e = .returned (.tuple #[.bool (inV x id), .int .i64 (prV x id)]) ∧ w = w' := by
  have HO := hi (owns_any l s c cap S x hn id w h.hd)
  cases ho : ownB x id
  · have e2 : inV x id = false := by rw [inV, ho]; rfl
    have e3 : prV x id = 0 := by rw [prV, if_neg (by rw [ho]; simp)]
    rw [e2, e3]
    rw [ho] at HO
    clear h e2 e3
    go_enter Tryd.func31, Tryd.ntmps31
    go_wp2_with (go_at_call 46; ((with_reducible refine HO.out.mono ?_); rintro e w1 ⟨rfl, rfl⟩))
    go_ret2
    exact ⟨rfl, rfl⟩
  · obtain ⟨k, hk, rfl⟩ := ownB_out ho
    have hb : cfgK x k < 256 := getD_lt hc k
    have e2 : inV x ((8192 + k : Nat) : Int) = decide (cfgK x k % 2 = 1) := by rw [inV, ho, Bool.true_and, kOf_at]
    have e3 : prV x ((8192 + k : Nat) : Int) = (realN (cfgK x k) : Int) := by rw [prV, if_pos ho, kOf_at]
    rw [e2, e3, ← and1_64 _ hb]
    rw [ho] at HO
    have hkl : k < x.cfg.length := by rw [h.len]; exact hk
    have qc := h.cfg.cell k hkl
    obtain ⟨_, _, _, _, _, _, q6⟩ := h.cells
    have HR := hi (fun W => real_at (cfgK x k) hb W)
    have hv : x.cfg[k]?.getD 0 = cfgK x k := rfl
    rw [hv] at qc
    obtain ⟨v, hv⟩ : ∃ v, cfgK x k = v := ⟨_, rfl⟩
    rw [hv] at qc HR ⊢
    have hv8 : v < 256 := by rw [← hv]; exact hb
    have hw2 : IntKind.i64.wrap (v : Int) = (v : Int) := by rw [IntKind.wrap_i64]; omega
    have hki : (k : Int) < (x.n : Int) := by omega
    have hk0 : (0 : Int) ≤ (k : Int) := by omega
    obtain ⟨z, hz⟩ : ∃ z : Int, ((8192 + k : Nat) : Int) = z := ⟨_, rfl⟩
    have hw : IntKind.i64.wrap (z - 8192) = (k : Int) := by rw [IntKind.wrap_i64]; omega
    rw [hz] at HO
    rw [hz]
    clear h e2 e3 hz ho hv hb hkl
    go_enter Tryd.func31, Tryd.ntmps31
    go_wp2_with (first
      | (go_at_call 46; ((with_reducible refine HO.out.mono ?_); rintro e w1 ⟨rfl, rfl⟩))
      | (go_at_call 69; ((with_reducible refine (HR.out _).mono ?_); rintro e w1 ⟨rfl, rfl⟩)))
    go_ret2
    exact ⟨rfl, rfl⟩

end Go.Proofs.YtobhdjepfhbgaaaDoor
