/-
  The document's part: Inv, InvAll, Setup.
-/
import Derived.Test.YtobhdjepfhbgaaaDoorLqB
namespace Go.Proofs.YtobhdjepfhbgaaaDoor
open Go.ChangeShapes Go.WideShapes Go.ChangeAt Go.RowKit Go.Shelf
set_option linter.unusedVariables false
set_option linter.unusedSimpArgs false

/-- What reading a byte of the table asks. -/
structure InS (w : World) (d f capf q h cq o : Nat) (x : St) (bs : List Nat) (v : Nat) (W : World) : Prop where
  c2 : W.cell? ⟨d, 2, none⟩ = some (.int .i64 x.pa)
  c6 : W.cell? ⟨d, 6, none⟩ = some (.slice (some ⟨f, 0, none⟩) x.n capf)
  c0 : W.cell? ⟨q, 0, none⟩ = some (.slice (some ⟨h, 0, none⟩) bs.length cq)
  co : W.cell? ⟨h, o, none⟩ = some (.int .u8 (v : Int))
  below : Below w.heap.size w W
theorem ins_of {w W : World} {d f capf q h cq o : Nat} {yv : Value} {x : St} {bs : List Nat} (a : LdB W d f capf yv x) (m : MemAt 107 W q h cq bs) (ho : o < bs.length) (b : Below w.heap.size w W) : InS w d f capf q h cq o x bs (bs[o]?.getD 0) W :=
  ⟨(ldCells a.box).2.2.1, (ldCells a.box).2.2.2.2.2.2.1, m.cell, m.bytes.cell o ho, b⟩

set_option maxRecDepth 100000 in
set_option maxHeartbeats 4000000 in
theorem rinv_lpi (d f capf q h cq : Nat) (yv : Value) (x : St) (bs : List Nat) (hx : x.Ok bs.length) (id : Int) (w : World) (a : LdB w d f capf yv x) (m : MemAt 107 w q h cq bs) (n : LdN d f h yv) (hyf : ∀ b, Yb yv b → b ≠ f) :
    Calls Tryd.prog 55 #[.pointer (some ⟨d, 0, none⟩), .pointer (some ⟨q, 0, none⟩), .int .i64 id] w fun e w' => e = .returned (.int .i64 (errL x id)) ∧ LdB w' d f capf yv (invV bs x id) ∧ Kept (· = f) w w' := by
  have HO := hi (rof_any d f capf yv x x.on hx.n5 id w a.box)
  cases ho : ownB x id
  · have e2 : errL x id = 150 := by rw [errL, if_neg (by rw [ho]; simp)]
    have e3 : invV bs x id = x := by rw [invV, if_neg (by rw [ho]; simp)]
    rw [e2, e3]
    rw [ho] at HO
    have H := hi a
    clear a m e2 e3
    go_enter Tryd.func55, Tryd.ntmps55
    go_wp2_with (go_at_call 62; ((with_reducible refine HO.out.mono ?_); rintro e w1 ⟨rfl, rfl⟩))
    go_ret
    exact ⟨rfl, H.out, Kept.refl _ _⟩
  · obtain ⟨k, hk, rfl⟩ := ownB_out ho
    have e2 : errL x ((8192 + k : Nat) : Int) = 0 := by rw [errL, if_pos ho]
    have e3 : invV bs x ((8192 + k : Nat) : Int) = invS bs x k := by rw [invV, if_pos ho, kOf_at]
    rw [e2, e3]
    rw [ho] at HO
    have hpn := hx.pn
    have hpw := hx.pw
    have hL1 := hx.L1
    have hol : x.pa + k < bs.length := by omega
    have hI0 := ins_of (W := w) a m hol (Below.refl _ _)
    have hv8 := getD_lt m.bytes.2 (x.pa + k)
    have e4 : invS bs x k = { x with cfg := x.cfg.set k (bs[x.pa + k]?.getD 0) } := rfl
    rw [e4]
    obtain ⟨v, hv⟩ : ∃ v, bs[x.pa + k]?.getD 0 = v := ⟨_, rfl⟩
    rw [hv] at hI0 hv8 ⊢
    have hkl : k < x.cfg.length := by rw [a.len]; exact hk
    have HK := hi (And.intro hkl hv8)
    have H := hi (And.intro a (And.intro n hyf))
    have hki : (k : Int) < (x.n : Int) := by omega
    have hk0 : (0 : Int) ≤ (k : Int) := by omega
    have hn5 := hx.n5
    obtain ⟨z, hz⟩ : ∃ z : Int, ((8192 + k : Nat) : Int) = z := ⟨_, rfl⟩
    have hw : IntKind.i64.wrap (z - 8192) = (k : Int) := by rw [IntKind.wrap_i64]; omega
    have hw2 : IntKind.i64.wrap ((x.pa : Int) + z) = (x.pa : Int) + z := by rw [IntKind.wrap_i64]; omega
    have hw3 : IntKind.i64.wrap ((x.pa : Int) + z - 8192) = ((x.pa + k : Nat) : Int) := by rw [IntKind.wrap_i64]; omega
    have x1 : ((x.pa + k : Nat) : Int) < (bs.length : Int) := by omega
    have x0 : (0 : Int) ≤ ((x.pa + k : Nat) : Int) := by omega
    obtain ⟨s, hs⟩ : ∃ s : Int, (x.pa : Int) + z = s := ⟨_, rfl⟩
    have hw2' : IntKind.i64.wrap ((x.pa : Int) + z) = s := by rw [hw2, hs]
    rw [hs] at hw3
    obtain ⟨o, hoo⟩ : ∃ o : Nat, x.pa + k = o := ⟨_, rfl⟩
    rw [hoo] at hw3 x1 x0 hI0
    rw [hz] at HO
    rw [hz]
    have HI := hi hI0
    clear a m e2 e3 e4 hz ho hv hv8 hkl hw2 hs hoo hI0 n hyf hol hpn hpw hL1
    go_enter Tryd.func55, Tryd.ntmps55
    go_wp2_with (go_at_call 62; ((with_reducible refine HO.out.mono ?_); rintro e w1 ⟨rfl, rfl⟩))
    refine wp_region_noPanic ?_
    refine wp_region_last_drew (S := (fun W => InS w d f capf q h cq o x bs v W)) [21] (by kernel_rfl) (show InS w d f capf q h cq o x bs v w.drew from ⟨HI.out.c2, HI.out.c6, HI.out.c0, HI.out.co, below_dr w⟩) (fun hHeld => ?_)
    (try simp only [Array.replicate_succ, Array.replicate_zero, List.push_toArray, List.nil_append, List.cons_append])
    refine wpAnyF_take (i := 0) (v := ?_) (by kernel_rfl) (by kernel_rfl) rfl (by kernel_rfl) (by kernel_rfl) (by kernel_rfl) (fun _ _ _ h => h) (Or.inl ⟨by rfl, ?_⟩) (by assumption) ?_
    rotate_left
    · intro w' hSw; (try dsimp only at hSw); clear hSw; go_simp; (try with_reducible rfl)
    (try simp only [Act.put, List.getElem_toArray, List.getElem_cons_zero, List.getElem_cons_succ, List.setIfInBounds_toArray, List.set_cons_zero, List.set_cons_succ])
    refine wpAnyF_take (i := 1) (v := ?_) (by kernel_rfl) (by kernel_rfl) rfl (by kernel_rfl) (by kernel_rfl) (by kernel_rfl) (fun _ _ _ h => h) (Or.inl ⟨by rfl, ?_⟩) (by assumption) ?_
    rotate_left
    · intro w' hSw; (try dsimp only at hSw); clear hSw; go_simp; (try with_reducible rfl)
    (try simp only [Act.put, List.getElem_toArray, List.getElem_cons_zero, List.getElem_cons_succ, List.setIfInBounds_toArray, List.set_cons_zero, List.set_cons_succ])
    refine wpAnyF_take (i := 2) (v := ?_) (by kernel_rfl) (by kernel_rfl) rfl (by kernel_rfl) (by kernel_rfl) (by kernel_rfl) (fun _ _ _ h => h) (Or.inl ⟨by rfl, ?_⟩) (by assumption) ?_
    rotate_left
    · intro w' hSw; (try dsimp only at hSw); clear hSw; go_simp; (try with_reducible rfl)
    (try simp only [Act.put, List.getElem_toArray, List.getElem_cons_zero, List.getElem_cons_succ, List.setIfInBounds_toArray, List.set_cons_zero, List.set_cons_succ])
    refine wpAnyF_take (i := 3) (v := ?_) (by kernel_rfl) (by kernel_rfl) rfl (by kernel_rfl) (by kernel_rfl) (by kernel_rfl) (fun _ _ _ h => h) (Or.inl ⟨by rfl, ?_⟩) (by assumption) ?_
    rotate_left
    · intro w' hSw; (try dsimp only at hSw); obtain ⟨p2, p6, p0, po, _q⟩ := hSw; clear _q; go_simp; (try with_reducible rfl)
    (try simp only [Act.put, List.getElem_toArray, List.getElem_cons_zero, List.getElem_cons_succ, List.setIfInBounds_toArray, List.set_cons_zero, List.set_cons_succ])
    refine wpAnyF_take (i := 4) (v := ?_) (by kernel_rfl) (by kernel_rfl) rfl (by kernel_rfl) (by kernel_rfl) (by kernel_rfl) (fun _ _ _ h => h) (Or.inl ⟨by rfl, ?_⟩) (by assumption) ?_
    rotate_left
    · intro w' hSw; (try dsimp only at hSw); clear hSw; go_simp; (try with_reducible rfl)
    (try simp only [Act.put, List.getElem_toArray, List.getElem_cons_zero, List.getElem_cons_succ, List.setIfInBounds_toArray, List.set_cons_zero, List.set_cons_succ])
    refine wpAnyF_take (i := 5) (v := ?_) (by kernel_rfl) (by kernel_rfl) rfl (by kernel_rfl) (by kernel_rfl) (by kernel_rfl) (fun _ _ _ h => h) (Or.inl ⟨by rfl, ?_⟩) (by assumption) ?_
    rotate_left
    · intro w' hSw; (try dsimp only at hSw); clear hSw; go_simp; (try with_reducible rfl)
    (try simp only [Act.put, List.getElem_toArray, List.getElem_cons_zero, List.getElem_cons_succ, List.setIfInBounds_toArray, List.set_cons_zero, List.set_cons_succ])
    refine wpAnyF_take (i := 6) (v := ?_) (by kernel_rfl) (by kernel_rfl) rfl (by kernel_rfl) (by kernel_rfl) (by kernel_rfl) (fun _ _ _ h => h) (Or.inl ⟨by rfl, ?_⟩) (by assumption) ?_
    rotate_left
    · intro w' hSw; (try dsimp only at hSw); clear hSw; go_simp; (try with_reducible rfl)
    (try simp only [Act.put, List.getElem_toArray, List.getElem_cons_zero, List.getElem_cons_succ, List.setIfInBounds_toArray, List.set_cons_zero, List.set_cons_succ])
    refine wpAnyF_take (i := 7) (v := ?_) (by kernel_rfl) (by kernel_rfl) rfl (by kernel_rfl) (by kernel_rfl) (by kernel_rfl) (fun _ _ _ h => h) (Or.inl ⟨by rfl, ?_⟩) (by assumption) ?_
    rotate_left
    · intro w' hSw; (try dsimp only at hSw); clear hSw; go_simp; (try with_reducible rfl)
    (try simp only [Act.put, List.getElem_toArray, List.getElem_cons_zero, List.getElem_cons_succ, List.setIfInBounds_toArray, List.set_cons_zero, List.set_cons_succ])
    refine wpAnyF_take (i := 8) (v := ?_) (by kernel_rfl) (by kernel_rfl) rfl (by kernel_rfl) (by kernel_rfl) (by kernel_rfl) (fun _ _ _ h => h) (Or.inl ⟨by rfl, ?_⟩) (by assumption) ?_
    rotate_left
    · intro w' hSw; (try dsimp only at hSw); clear hSw; go_simp; (try with_reducible rfl)
    (try simp only [Act.put, List.getElem_toArray, List.getElem_cons_zero, List.getElem_cons_succ, List.setIfInBounds_toArray, List.set_cons_zero, List.set_cons_succ])
    refine wpAnyF_take (i := 9) (v := ?_) (by kernel_rfl) (by kernel_rfl) rfl (by kernel_rfl) (by kernel_rfl) (by kernel_rfl) (fun _ _ _ h => h) (Or.inl ⟨by rfl, ?_⟩) (by assumption) ?_
    rotate_left
    · intro w' hSw; (try dsimp only at hSw); obtain ⟨p2, p6, p0, po, _q⟩ := hSw; clear _q; go_simp; (try with_reducible rfl)
    (try simp only [Act.put, List.getElem_toArray, List.getElem_cons_zero, List.getElem_cons_succ, List.setIfInBounds_toArray, List.set_cons_zero, List.set_cons_succ])
    refine wpAnyF_take (i := 10) (v := ?_) (by kernel_rfl) (by kernel_rfl) rfl (by kernel_rfl) (by kernel_rfl) (by kernel_rfl) (fun _ _ _ h => h) (Or.inl ⟨by rfl, ?_⟩) (by assumption) ?_
    rotate_left
    · intro w' hSw; (try dsimp only at hSw); clear hSw; go_simp; (try with_reducible rfl)
    (try simp only [Act.put, List.getElem_toArray, List.getElem_cons_zero, List.getElem_cons_succ, List.setIfInBounds_toArray, List.set_cons_zero, List.set_cons_succ])
    refine wpAnyF_take (i := 11) (v := ?_) (by kernel_rfl) (by kernel_rfl) rfl (by kernel_rfl) (by kernel_rfl) (by kernel_rfl) (fun _ _ _ h => h) (Or.inl ⟨by rfl, ?_⟩) (by assumption) ?_
    rotate_left
    · intro w' hSw; (try dsimp only at hSw); clear hSw; go_simp; (try with_reducible rfl)
    (try simp only [Act.put, List.getElem_toArray, List.getElem_cons_zero, List.getElem_cons_succ, List.setIfInBounds_toArray, List.set_cons_zero, List.set_cons_succ])
    refine wpAnyF_take (i := 12) (v := ?_) (by kernel_rfl) (by kernel_rfl) rfl (by kernel_rfl) (by kernel_rfl) (by kernel_rfl) (fun _ _ _ h => h) (Or.inl ⟨by rfl, ?_⟩) (by assumption) ?_
    rotate_left
    · intro w' hSw; (try dsimp only at hSw); clear hSw; go_simp; (try with_reducible rfl)
    (try simp only [Act.put, List.getElem_toArray, List.getElem_cons_zero, List.getElem_cons_succ, List.setIfInBounds_toArray, List.set_cons_zero, List.set_cons_succ])
    refine wpAnyF_take (i := 13) (v := ?_) (by kernel_rfl) (by kernel_rfl) rfl (by kernel_rfl) (by kernel_rfl) (by kernel_rfl) (fun _ _ _ h => h) (Or.inl ⟨by rfl, ?_⟩) (by assumption) ?_
    rotate_left
    · intro w' hSw; (try dsimp only at hSw); clear hSw; go_simp; (try with_reducible rfl)
    (try simp only [Act.put, List.getElem_toArray, List.getElem_cons_zero, List.getElem_cons_succ, List.setIfInBounds_toArray, List.set_cons_zero, List.set_cons_succ])
    refine wpAnyF_take (i := 14) (v := ?_) (by kernel_rfl) (by kernel_rfl) rfl (by kernel_rfl) (by kernel_rfl) (by kernel_rfl) (fun _ _ _ h => h) (Or.inl ⟨by rfl, ?_⟩) (by assumption) ?_
    rotate_left
    · intro w' hSw; (try dsimp only at hSw); obtain ⟨p2, p6, p0, po, _q⟩ := hSw; clear _q; go_simp; (try with_reducible rfl)
    (try simp only [Act.put, List.getElem_toArray, List.getElem_cons_zero, List.getElem_cons_succ, List.setIfInBounds_toArray, List.set_cons_zero, List.set_cons_succ])
    refine wpAnyF_take (i := 15) (v := ?_) (by kernel_rfl) (by kernel_rfl) rfl (by kernel_rfl) (by kernel_rfl) (by kernel_rfl) (fun _ _ _ h => h) (Or.inl ⟨by rfl, ?_⟩) (by assumption) ?_
    rotate_left
    · intro w' hSw; (try dsimp only at hSw); clear hSw; go_simp; (try with_reducible rfl)
    (try simp only [Act.put, List.getElem_toArray, List.getElem_cons_zero, List.getElem_cons_succ, List.setIfInBounds_toArray, List.set_cons_zero, List.set_cons_succ])
    refine wpAnyF_take (i := 16) (v := ?_) (by kernel_rfl) (by kernel_rfl) rfl (by kernel_rfl) (by kernel_rfl) (by kernel_rfl) (fun _ _ _ h => h) (Or.inl ⟨by rfl, ?_⟩) (by assumption) ?_
    rotate_left
    · intro w' hSw; (try dsimp only at hSw); clear hSw; go_simp; (try with_reducible rfl)
    (try simp only [Act.put, List.getElem_toArray, List.getElem_cons_zero, List.getElem_cons_succ, List.setIfInBounds_toArray, List.set_cons_zero, List.set_cons_succ])
    refine wpAnyF_take (i := 17) (v := ?_) (by kernel_rfl) (by kernel_rfl) rfl (by kernel_rfl) (by kernel_rfl) (by kernel_rfl) (fun _ _ _ h => h) (Or.inl ⟨by rfl, ?_⟩) (by assumption) ?_
    rotate_left
    · intro w' hSw; (try dsimp only at hSw); clear hSw; go_simp; (try with_reducible rfl)
    (try simp only [Act.put, List.getElem_toArray, List.getElem_cons_zero, List.getElem_cons_succ, List.setIfInBounds_toArray, List.set_cons_zero, List.set_cons_succ])
    refine wpAnyF_take (i := 18) (v := ?_) (by kernel_rfl) (by kernel_rfl) rfl (by kernel_rfl) (by kernel_rfl) (by kernel_rfl) (fun _ _ _ h => h) (Or.inl ⟨by rfl, ?_⟩) (by assumption) ?_
    rotate_left
    · intro w' hSw; (try dsimp only at hSw); clear hSw; go_simp; (try with_reducible rfl)
    (try simp only [Act.put, List.getElem_toArray, List.getElem_cons_zero, List.getElem_cons_succ, List.setIfInBounds_toArray, List.set_cons_zero, List.set_cons_succ])
    refine wpAnyF_take (i := 19) (v := ?_) (by kernel_rfl) (by kernel_rfl) rfl (by kernel_rfl) (by kernel_rfl) (by kernel_rfl) (fun _ _ _ h => h) (Or.inl ⟨by rfl, ?_⟩) (by assumption) ?_
    rotate_left
    · intro w' hSw; (try dsimp only at hSw); obtain ⟨p2, p6, p0, po, _q⟩ := hSw; clear _q; go_simp; (try with_reducible rfl)
    (try simp only [Act.put, List.getElem_toArray, List.getElem_cons_zero, List.getElem_cons_succ, List.setIfInBounds_toArray, List.set_cons_zero, List.set_cons_succ])
    refine wpAnyF_take (i := 20) (v := ?_) (by kernel_rfl) (by kernel_rfl) rfl (by kernel_rfl) (by kernel_rfl) (by kernel_rfl) (fun _ _ _ h => h) (Or.inl ⟨by rfl, ?_⟩) (by assumption) ?_
    rotate_left
    · intro w' hSw; (try dsimp only at hSw); clear hSw; go_simp; (try with_reducible rfl)
    (try simp only [Act.put, List.getElem_toArray, List.getElem_cons_zero, List.getElem_cons_succ, List.setIfInBounds_toArray, List.set_cons_zero, List.set_cons_succ])
    refine wpAnyF_ready (rs := [21]) (by kernel_rfl) (by simp) ?_
    refine AllReadyF.last (by kernel_rfl) rfl (fun KK hKK => ?_) AllReadyF.nil
    have a2 := H.out.1.below (below_dr w)
    have qc := a2.cfg.cell k HK.out.1
    have qf := a2.cfg.frozen k
    have qz := a2.cfg.lt
    clear a2
    go_simp
    refine hKK.out _ _ ?_
    clear hKK KK
    (try simp only [Act.put, List.getElem_toArray, List.getElem_cons_zero, List.getElem_cons_succ, List.setIfInBounds_toArray, List.set_cons_zero, List.set_cons_succ])
    refine wpAnyF_done (by kernel_rfl) ?_ _
    refine NoPanic.normal ?_
    go_wp2
    go_ret
    have a2 := H.out.1.below (below_dr w)
    have hst := kept_setCell w.drew f k (.int .u8 (v : Int))
    exact ⟨rfl, ⟨a2.box.keptB hst (fun e => a2.df e), a2.cfg.set k v HK.out.1 HK.out.2, by simp [a2.len], a2.cap, a2.ws.keptY hst (fun b hb e => H.out.2.2 b hb e)⟩, (Kept.of (below_dr w)).trans hst⟩

set_option maxRecDepth 100000 in
set_option maxHeartbeats 4000000 in
theorem rinvAll_lpi (d f capf q h cq : Nat) (yv : Value) (x : St) (bs : List Nat) (hx : x.Ok bs.length) (w0 : World) (a0 : LdB w0 d f capf yv x) (m0 : MemAt 107 w0 q h cq bs) (n : LdN d f h yv) (hyf : ∀ b, Yb yv b → b ≠ f) :
    Calls Tryd.prog 56 #[.pointer (some ⟨d, 0, none⟩), .pointer (some ⟨q, 0, none⟩)] w0 fun e w' => (∃ v, e = .returned v) ∧ LdB w' d f capf yv (invTo bs x x.n) ∧ Kept (· = f) w0 w' := by
  have hqf := (a0.apart m0).2.2
  have H := hi (And.intro a0 (And.intro m0 (And.intro n (And.intro hyf hqf))))
  have hx2 := hx
  obtain ⟨n1, hn5, hpw, hpn, _, _, _, _, _, _, hL1⟩ := hx
  have hlm := m0.bytes.2
  clear a0 m0 n hyf hqf
  go_enter Tryd.func56, Tryd.ntmps56
  go_wp2
  go_loopw [4] (fun i wr => ∃ k : Nat, k ≤ x.n ∧ i = .int .i64 k ∧ Hi (LdB wr d f capf yv (invTo bs x k) ∧ Kept (· = f) w0 wr)) (fun i _ => x.n - (intOf i).toNat)
  case atStart => exact ⟨0, Nat.zero_le _, rfl, hi ⟨H.out.1, Kept.refl _ _⟩⟩
  case round =>
    obtain ⟨k, hk, rfl, HJ⟩ := hrel
    obtain ⟨w, rfl⟩ : ∃ w : World, w = wr := ⟨_, rfl⟩
    have hal := invTo_alike bs x k
    have c0 := (ldCells HJ.out.1.box).1
    rw [hal.n] at c0
    by_cases hlt : k < x.n
    · have x1k : (k : Int) < (x.n : Int) := by omega
      have hM := H.out.2.1.kept HJ.out.2 (fun e => H.out.2.2.2.2 e) (fun e => H.out.2.2.1.fh e.symm)
      have hol : x.pa + k < bs.length := by omega
      have hI0 := ins_of (W := w) HJ.out.1 hM hol (Below.refl _ _)
      have hv8 := getD_lt hlm (x.pa + k)
      have e4 : invTo bs x (k + 1) = { (invTo bs x k) with cfg := (invTo bs x k).cfg.set k (bs[(invTo bs x k).pa + k]?.getD 0) } := rfl
      rw [hal.pa] at e4
      obtain ⟨v, hv⟩ : ∃ v, bs[x.pa + k]?.getD 0 = v := ⟨_, rfl⟩
      rw [hv] at hI0 hv8 e4
      have hkl : k < (invTo bs x k).cfg.length := by rw [HJ.out.1.len, hal.n]; exact hlt
      have HK := hi (And.intro hkl (And.intro hv8 e4))
      have hI1 : InS w d f capf q h cq (x.pa + k) x bs v w := ⟨by rw [← hal.pa]; exact hI0.c2, by rw [← hal.n]; exact hI0.c6, hI0.c0, hI0.co, hI0.below⟩
      have hk0 : (0 : Int) ≤ (k : Int) := by omega
      have hw2 : IntKind.i64.wrap ((x.pa : Int) + (k : Int)) = ((x.pa + k : Nat) : Int) := by rw [IntKind.wrap_i64]; omega
      have x1 : ((x.pa + k : Nat) : Int) < (bs.length : Int) := by omega
      have x0 : (0 : Int) ≤ ((x.pa + k : Nat) : Int) := by omega
      obtain ⟨o, hoo⟩ : ∃ o : Nat, x.pa + k = o := ⟨_, rfl⟩
      rw [hoo] at hw2 x1 x0 hI1
      have HI := hi hI1
      clear hI0 hI1 hM hv8 e4 hkl hoo hv hol
      go_wp2
      refine wp_region_noPanic ?_
      refine wp_region_last_drew (S := (fun W => InS w d f capf q h cq o x bs v W)) [19] (by kernel_rfl) (show InS w d f capf q h cq o x bs v w.drew from ⟨HI.out.c2, HI.out.c6, HI.out.c0, HI.out.co, below_dr w⟩) (fun hHeld => ?_)
      (try simp only [Array.replicate_succ, Array.replicate_zero, List.push_toArray, List.nil_append, List.cons_append])
      refine wpAnyF_take (i := 0) (v := ?_) (by kernel_rfl) (by kernel_rfl) rfl (by kernel_rfl) (by kernel_rfl) (by kernel_rfl) (fun _ _ _ h => h) (Or.inl ⟨by rfl, ?_⟩) (by assumption) ?_
      rotate_left
      · intro w' hSw; (try dsimp only at hSw); clear hSw; go_simp; (try with_reducible rfl)
      (try simp only [Act.put, List.getElem_toArray, List.getElem_cons_zero, List.getElem_cons_succ, List.setIfInBounds_toArray, List.set_cons_zero, List.set_cons_succ])
      refine wpAnyF_take (i := 1) (v := ?_) (by kernel_rfl) (by kernel_rfl) rfl (by kernel_rfl) (by kernel_rfl) (by kernel_rfl) (fun _ _ _ h => h) (Or.inl ⟨by rfl, ?_⟩) (by assumption) ?_
      rotate_left
      · intro w' hSw; (try dsimp only at hSw); clear hSw; go_simp; (try with_reducible rfl)
      (try simp only [Act.put, List.getElem_toArray, List.getElem_cons_zero, List.getElem_cons_succ, List.setIfInBounds_toArray, List.set_cons_zero, List.set_cons_succ])
      refine wpAnyF_take (i := 2) (v := ?_) (by kernel_rfl) (by kernel_rfl) rfl (by kernel_rfl) (by kernel_rfl) (by kernel_rfl) (fun _ _ _ h => h) (Or.inl ⟨by rfl, ?_⟩) (by assumption) ?_
      rotate_left
      · intro w' hSw; (try dsimp only at hSw); clear hSw; go_simp; (try with_reducible rfl)
      (try simp only [Act.put, List.getElem_toArray, List.getElem_cons_zero, List.getElem_cons_succ, List.setIfInBounds_toArray, List.set_cons_zero, List.set_cons_succ])
      refine wpAnyF_take (i := 3) (v := ?_) (by kernel_rfl) (by kernel_rfl) rfl (by kernel_rfl) (by kernel_rfl) (by kernel_rfl) (fun _ _ _ h => h) (Or.inl ⟨by rfl, ?_⟩) (by assumption) ?_
      rotate_left
      · intro w' hSw; (try dsimp only at hSw); obtain ⟨p2, p6, p0, po, _q⟩ := hSw; clear _q; go_simp; (try with_reducible rfl)
      (try simp only [Act.put, List.getElem_toArray, List.getElem_cons_zero, List.getElem_cons_succ, List.setIfInBounds_toArray, List.set_cons_zero, List.set_cons_succ])
      refine wpAnyF_take (i := 4) (v := ?_) (by kernel_rfl) (by kernel_rfl) rfl (by kernel_rfl) (by kernel_rfl) (by kernel_rfl) (fun _ _ _ h => h) (Or.inl ⟨by rfl, ?_⟩) (by assumption) ?_
      rotate_left
      · intro w' hSw; (try dsimp only at hSw); clear hSw; go_simp; (try with_reducible rfl)
      (try simp only [Act.put, List.getElem_toArray, List.getElem_cons_zero, List.getElem_cons_succ, List.setIfInBounds_toArray, List.set_cons_zero, List.set_cons_succ])
      refine wpAnyF_take (i := 5) (v := ?_) (by kernel_rfl) (by kernel_rfl) rfl (by kernel_rfl) (by kernel_rfl) (by kernel_rfl) (fun _ _ _ h => h) (Or.inl ⟨by rfl, ?_⟩) (by assumption) ?_
      rotate_left
      · intro w' hSw; (try dsimp only at hSw); clear hSw; go_simp; (try with_reducible rfl)
      (try simp only [Act.put, List.getElem_toArray, List.getElem_cons_zero, List.getElem_cons_succ, List.setIfInBounds_toArray, List.set_cons_zero, List.set_cons_succ])
      refine wpAnyF_take (i := 6) (v := ?_) (by kernel_rfl) (by kernel_rfl) rfl (by kernel_rfl) (by kernel_rfl) (by kernel_rfl) (fun _ _ _ h => h) (Or.inl ⟨by rfl, ?_⟩) (by assumption) ?_
      rotate_left
      · intro w' hSw; (try dsimp only at hSw); clear hSw; go_simp; (try with_reducible rfl)
      (try simp only [Act.put, List.getElem_toArray, List.getElem_cons_zero, List.getElem_cons_succ, List.setIfInBounds_toArray, List.set_cons_zero, List.set_cons_succ])
      refine wpAnyF_take (i := 7) (v := ?_) (by kernel_rfl) (by kernel_rfl) rfl (by kernel_rfl) (by kernel_rfl) (by kernel_rfl) (fun _ _ _ h => h) (Or.inl ⟨by rfl, ?_⟩) (by assumption) ?_
      rotate_left
      · intro w' hSw; (try dsimp only at hSw); clear hSw; go_simp; (try with_reducible rfl)
      (try simp only [Act.put, List.getElem_toArray, List.getElem_cons_zero, List.getElem_cons_succ, List.setIfInBounds_toArray, List.set_cons_zero, List.set_cons_succ])
      refine wpAnyF_take (i := 8) (v := ?_) (by kernel_rfl) (by kernel_rfl) rfl (by kernel_rfl) (by kernel_rfl) (by kernel_rfl) (fun _ _ _ h => h) (Or.inl ⟨by rfl, ?_⟩) (by assumption) ?_
      rotate_left
      · intro w' hSw; (try dsimp only at hSw); obtain ⟨p2, p6, p0, po, _q⟩ := hSw; clear _q; go_simp; (try with_reducible rfl)
      (try simp only [Act.put, List.getElem_toArray, List.getElem_cons_zero, List.getElem_cons_succ, List.setIfInBounds_toArray, List.set_cons_zero, List.set_cons_succ])
      refine wpAnyF_take (i := 9) (v := ?_) (by kernel_rfl) (by kernel_rfl) rfl (by kernel_rfl) (by kernel_rfl) (by kernel_rfl) (fun _ _ _ h => h) (Or.inl ⟨by rfl, ?_⟩) (by assumption) ?_
      rotate_left
      · intro w' hSw; (try dsimp only at hSw); clear hSw; go_simp; (try with_reducible rfl)
      (try simp only [Act.put, List.getElem_toArray, List.getElem_cons_zero, List.getElem_cons_succ, List.setIfInBounds_toArray, List.set_cons_zero, List.set_cons_succ])
      refine wpAnyF_take (i := 10) (v := ?_) (by kernel_rfl) (by kernel_rfl) rfl (by kernel_rfl) (by kernel_rfl) (by kernel_rfl) (fun _ _ _ h => h) (Or.inl ⟨by rfl, ?_⟩) (by assumption) ?_
      rotate_left
      · intro w' hSw; (try dsimp only at hSw); clear hSw; go_simp; (try with_reducible rfl)
      (try simp only [Act.put, List.getElem_toArray, List.getElem_cons_zero, List.getElem_cons_succ, List.setIfInBounds_toArray, List.set_cons_zero, List.set_cons_succ])
      refine wpAnyF_take (i := 11) (v := ?_) (by kernel_rfl) (by kernel_rfl) rfl (by kernel_rfl) (by kernel_rfl) (by kernel_rfl) (fun _ _ _ h => h) (Or.inl ⟨by rfl, ?_⟩) (by assumption) ?_
      rotate_left
      · intro w' hSw; (try dsimp only at hSw); clear hSw; go_simp; (try with_reducible rfl)
      (try simp only [Act.put, List.getElem_toArray, List.getElem_cons_zero, List.getElem_cons_succ, List.setIfInBounds_toArray, List.set_cons_zero, List.set_cons_succ])
      refine wpAnyF_take (i := 12) (v := ?_) (by kernel_rfl) (by kernel_rfl) rfl (by kernel_rfl) (by kernel_rfl) (by kernel_rfl) (fun _ _ _ h => h) (Or.inl ⟨by rfl, ?_⟩) (by assumption) ?_
      rotate_left
      · intro w' hSw; (try dsimp only at hSw); clear hSw; go_simp; (try with_reducible rfl)
      (try simp only [Act.put, List.getElem_toArray, List.getElem_cons_zero, List.getElem_cons_succ, List.setIfInBounds_toArray, List.set_cons_zero, List.set_cons_succ])
      refine wpAnyF_take (i := 13) (v := ?_) (by kernel_rfl) (by kernel_rfl) rfl (by kernel_rfl) (by kernel_rfl) (by kernel_rfl) (fun _ _ _ h => h) (Or.inl ⟨by rfl, ?_⟩) (by assumption) ?_
      rotate_left
      · intro w' hSw; (try dsimp only at hSw); obtain ⟨p2, p6, p0, po, _q⟩ := hSw; clear _q; go_simp; (try with_reducible rfl)
      (try simp only [Act.put, List.getElem_toArray, List.getElem_cons_zero, List.getElem_cons_succ, List.setIfInBounds_toArray, List.set_cons_zero, List.set_cons_succ])
      refine wpAnyF_take (i := 14) (v := ?_) (by kernel_rfl) (by kernel_rfl) rfl (by kernel_rfl) (by kernel_rfl) (by kernel_rfl) (fun _ _ _ h => h) (Or.inl ⟨by rfl, ?_⟩) (by assumption) ?_
      rotate_left
      · intro w' hSw; (try dsimp only at hSw); clear hSw; go_simp; (try with_reducible rfl)
      (try simp only [Act.put, List.getElem_toArray, List.getElem_cons_zero, List.getElem_cons_succ, List.setIfInBounds_toArray, List.set_cons_zero, List.set_cons_succ])
      refine wpAnyF_take (i := 15) (v := ?_) (by kernel_rfl) (by kernel_rfl) rfl (by kernel_rfl) (by kernel_rfl) (by kernel_rfl) (fun _ _ _ h => h) (Or.inl ⟨by rfl, ?_⟩) (by assumption) ?_
      rotate_left
      · intro w' hSw; (try dsimp only at hSw); clear hSw; go_simp; (try with_reducible rfl)
      (try simp only [Act.put, List.getElem_toArray, List.getElem_cons_zero, List.getElem_cons_succ, List.setIfInBounds_toArray, List.set_cons_zero, List.set_cons_succ])
      refine wpAnyF_take (i := 16) (v := ?_) (by kernel_rfl) (by kernel_rfl) rfl (by kernel_rfl) (by kernel_rfl) (by kernel_rfl) (fun _ _ _ h => h) (Or.inl ⟨by rfl, ?_⟩) (by assumption) ?_
      rotate_left
      · intro w' hSw; (try dsimp only at hSw); clear hSw; go_simp; (try with_reducible rfl)
      (try simp only [Act.put, List.getElem_toArray, List.getElem_cons_zero, List.getElem_cons_succ, List.setIfInBounds_toArray, List.set_cons_zero, List.set_cons_succ])
      refine wpAnyF_take (i := 17) (v := ?_) (by kernel_rfl) (by kernel_rfl) rfl (by kernel_rfl) (by kernel_rfl) (by kernel_rfl) (fun _ _ _ h => h) (Or.inl ⟨by rfl, ?_⟩) (by assumption) ?_
      rotate_left
      · intro w' hSw; (try dsimp only at hSw); obtain ⟨p2, p6, p0, po, _q⟩ := hSw; clear _q; go_simp; (try with_reducible rfl)
      (try simp only [Act.put, List.getElem_toArray, List.getElem_cons_zero, List.getElem_cons_succ, List.setIfInBounds_toArray, List.set_cons_zero, List.set_cons_succ])
      refine wpAnyF_take (i := 18) (v := ?_) (by kernel_rfl) (by kernel_rfl) rfl (by kernel_rfl) (by kernel_rfl) (by kernel_rfl) (fun _ _ _ h => h) (Or.inl ⟨by rfl, ?_⟩) (by assumption) ?_
      rotate_left
      · intro w' hSw; (try dsimp only at hSw); clear hSw; go_simp; (try with_reducible rfl)
      (try simp only [Act.put, List.getElem_toArray, List.getElem_cons_zero, List.getElem_cons_succ, List.setIfInBounds_toArray, List.set_cons_zero, List.set_cons_succ])
      refine wpAnyF_ready (rs := [19]) (by kernel_rfl) (by simp) ?_
      refine AllReadyF.last (by kernel_rfl) rfl (fun KK hKK => ?_) AllReadyF.nil
      have a2 := HJ.out.1.below (below_dr w)
      have qc := a2.cfg.cell k HK.out.1
      have qf := a2.cfg.frozen k
      have qz := a2.cfg.lt
      clear a2
      go_simp
      refine hKK.out _ _ ?_
      clear hKK KK
      (try simp only [Act.put, List.getElem_toArray, List.getElem_cons_zero, List.getElem_cons_succ, List.setIfInBounds_toArray, List.set_cons_zero, List.set_cons_succ])
      refine wpAnyF_done (by kernel_rfl) ?_ _
      refine NoPanic.normal ?_
      go_wp2
      go_roundw
      case rel =>
        have a2 := HJ.out.1.below (below_dr w)
        have hst := kept_setCell w.drew f k (.int .u8 (v : Int))
        refine ⟨k + 1, by omega, by go_num, hi ⟨?_, (HJ.out.2.trans (Kept.of (below_dr w))).trans hst⟩⟩
        rw [HK.out.2.2]
        exact ⟨a2.box.keptB hst (fun e => a2.df e), a2.cfg.set k v HK.out.1 HK.out.2.1, by simp [a2.len], a2.cap, a2.ws.keptY hst (fun b hb e => H.out.2.2.2.1 b hb e)⟩
      case measure => simp [intOf]; omega
    · obtain rfl : k = x.n := by omega
      have x1k : ¬ (x.n : Int) < (x.n : Int) := by omega
      go_wp2
      go_end0
      exact ⟨⟨_, rfl⟩, HJ.out.1, HJ.out.2⟩

theorem mod2_64 (b : Nat) : ((b : Int).tmod 2 == 1) = decide (b % 2 = 1) := by
  rw [Int.tmod_eq_emod_of_nonneg (by omega), Bool.eq_iff_iff, beq_iff_eq, decide_eq_true_iff]
  omega
theorem rreal_at (b : Nat) (hb : b < 256) (w : World) : Calls Tryd.prog 75 #[.int .i64 (b : Int)] w fun e w' => e = .returned (.int .i64 ((realN b : Nat) : Int)) ∧ w = w' := by
  have h := refReal_any (b : Int) w
  rwa [realV_at b hb] at h
set_option maxRecDepth 100000 in
set_option maxHeartbeats 2000000 in
theorem rsetup_lpi (d f capf : Nat) (yv : Value) (x : St) (hn : x.n ≤ 512) (hc : ∀ b ∈ x.cfg, b < 256) (id : Int) (w : World) (a : LdB w d f capf yv x) :
    Calls Tryd.prog 42 #[.pointer (some ⟨d, 0, none⟩), .int .i64 id] w fun e w' => e = .returned (.tuple #[.bool (inV x id), .int .i64 (prV x id)]) ∧ w = w' := by
  have HO := hi (rof_any d f capf yv x x.on hn id w a.box)
  cases ho : ownB x id
  · have e2 : inV x id = false := by rw [inV, ho]; rfl
    have e3 : prV x id = 0 := by rw [prV, if_neg (by rw [ho]; simp)]
    rw [e2, e3]
    rw [ho] at HO
    clear a e2 e3
    go_enter Tryd.func42, Tryd.ntmps42
    go_wp2_with (go_at_call 62; ((with_reducible refine HO.out.mono ?_); rintro e w1 ⟨rfl, rfl⟩))
    go_ret2
    exact ⟨rfl, rfl⟩
  · obtain ⟨k, hk, rfl⟩ := ownB_out ho
    have hb : cfgK x k < 256 := getD_lt hc k
    have e2 : inV x ((8192 + k : Nat) : Int) = decide (cfgK x k % 2 = 1) := by rw [inV, ho, Bool.true_and, kOf_at]
    have e3 : prV x ((8192 + k : Nat) : Int) = (realN (cfgK x k) : Int) := by rw [prV, if_pos ho, kOf_at]
    rw [e2, e3]
    rw [ho] at HO
    have hkl : k < x.cfg.length := by rw [a.len]; exact hk
    have qc := a.cfg.cell k hkl
    obtain ⟨_, _, _, _, _, _, q6, _⟩ := ldCells a.box
    have HR := hi (fun W => rreal_at (cfgK x k) hb W)
    have hv : x.cfg[k]?.getD 0 = cfgK x k := rfl
    rw [hv] at qc
    obtain ⟨v, hv⟩ : ∃ v, cfgK x k = v := ⟨_, rfl⟩
    rw [hv] at qc HR ⊢
    have hv8 : v < 256 := by rw [← hv]; exact hb
    have hm2 := mod2_64 v
    have hm3 : ((v : Int) % 2 == 1) = decide (v % 2 = 1) := by rw [Bool.eq_iff_iff, beq_iff_eq, decide_eq_true_iff]; omega
    obtain ⟨pb, hpb⟩ : ∃ b, decide (v % 2 = 1) = b := ⟨_, rfl⟩
    rw [hpb] at hm2 hm3 ⊢
    have hw2 : IntKind.i64.wrap (v : Int) = (v : Int) := by rw [IntKind.wrap_i64]; omega
    have hki : (k : Int) < (x.n : Int) := by omega
    have hk0 : (0 : Int) ≤ (k : Int) := by omega
    obtain ⟨z, hz⟩ : ∃ z : Int, ((8192 + k : Nat) : Int) = z := ⟨_, rfl⟩
    have hw : IntKind.i64.wrap (z - 8192) = (k : Int) := by rw [IntKind.wrap_i64]; omega
    rw [hz] at HO
    rw [hz]
    clear a e2 e3 hz ho hv hb hkl hpb
    go_enter Tryd.func42, Tryd.ntmps42
    go_wp2_with (first
      | (go_at_call 62; ((with_reducible refine HO.out.mono ?_); rintro e w1 ⟨rfl, rfl⟩))
      | (go_at_call 75; ((with_reducible refine (HR.out _).mono ?_); rintro e w1 ⟨rfl, rfl⟩)))
    go_ret2
    exact ⟨rfl, rfl⟩

end Go.Proofs.YtobhdjepfhbgaaaDoor
