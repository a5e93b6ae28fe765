/-
  The document's bank: Best, of some numbers.
-/
import Derived.Test.YtfjihpcemmobjaaRefD
namespace Go.Proofs.Ytfjihpcemmobjaa
open Go.ChangeShapes Go.WideShapes Go.ChangeAt Go.RowKit Go.Shelf
set_option linter.unusedVariables false
attribute [local go_sem] Oper.semAt_some

/-- These interrupts are the bank's. -/
def Of09 (f : Int) (es : List En) (xs : List It) : Prop := ∀ x ∈ xs, ∃ k : Nat, es[k]? = some x.2 ∧ x.1 = f + k
def nthI (xs : List It) (k : Nat) : It := xs[k]?.getD default
theorem nthI_at {xs : List It} {k : Nat} (h : k < xs.length) : xs[k]? = some (nthI xs k) := by simp [nthI, List.getElem?_eq_getElem h]
theorem bestC_take {xs : List It} {k : Nat} (h : k < xs.length) : bestC (xs.take (k + 1)) = stepC (bestC (xs.take k)) (nthI xs k) := by
  rw [List.take_add_one, nthI_at h]
  exact bestC_snoc _ _
/-- One number of a slice of numbers. -/
theorem ints_read {W : World} {a : Option Addr} {n cap k : Nat} {xs : List It} (h : IntsAt W (.slice a n cap) (idsOf xs)) (hk : k < xs.length) : ∃ ib io : Nat, a = some ⟨ib, io, none⟩ ∧ W.cell? ⟨ib, io + k, none⟩ = some (.int .i64 (nthI xs k).1) := by
  obtain ⟨a', cap', e, _, hc⟩ := h
  injection e with e1 e2 e3
  subst e1
  obtain ⟨ib, io, ha, hcs⟩ := hc (fun e => by have h9 := congrArg List.length e; rw [idsOf_len, List.length_nil] at h9; omega)
  refine ⟨ib, io, ha, ?_⟩
  have h1 := hcs k (by rw [idsOf_len]; exact hk)
  rw [h1]
  simp [idsOf, nthI_at hk]

theorem cell_keep {A W : World} {b o : Nat} {v : Value} (h : A.cell? ⟨b, o, none⟩ = some v) (k : Below A.heap.size A W) : W.cell? ⟨b, o, none⟩ = some v := cell_kept h (Below.grew k) (fun r e => by cases e)
theorem LnC.keep {A W : World} {g o : Nat} {x : Ln} (h : LnC A g o x) (k : Below A.heap.size A W) : LnC W g o x := ⟨cell_keep h.c0 k, cell_keep h.c1 k, cell_keep h.c2 k, cell_keep h.c3 k, cell_keep h.c4 k, cell_keep h.c5 k, cell_keep h.c6 k⟩
theorem LnC.drew {W : World} {g o : Nat} {x : Ln} (h : LnC W g o x) : LnC W.drew g o x := ⟨h.c0, h.c1, h.c2, h.c3, h.c4, h.c5, h.c6⟩
/-- What the region that reads the line stands on. -/
structure BS (b lg n2 lc ib io : Nat) (idv : Int) (o : Nat) (x : Ln) (A W : World) : Prop where
  c1 : W.cell? ⟨b, 1, none⟩ = some (.slice (some ⟨lg, 0, none⟩) n2 lc)
  ci : W.cell? ⟨ib, io, none⟩ = some (.int .i64 idv)
  ln : LnC W lg o x
  below : Below A.heap.size A W
theorem BS.later {b lg n2 lc ib io : Nat} {idv : Int} {o : Nat} {x : Ln} {A W W' : World} (h : BS b lg n2 lc ib io idv o x A W) (k : Below W.heap.size W W') : BS b lg n2 lc ib io idv o x A W' :=
  ⟨cell_keep h.c1 k, cell_keep h.ci k, h.ln.keep k, h.below.trans (k.mono h.below.size)⟩
/-- What the regions behind it stand on: the number, the line's box; the best one's box. -/
structure BT (ib io bx : Nat) (idv : Int) (x : Ln) (W : World) : Prop where
  ci : W.cell? ⟨ib, io, none⟩ = some (.int .i64 idv)
  ln : LnC W bx 0 x
theorem BT.drew {ib io bx : Nat} {idv : Int} {x : Ln} {W : World} (h : BT ib io bx idv x W) : BT ib io bx idv x W.drew := ⟨h.ci, h.ln.drew⟩
theorem BT.cells {ib io bx : Nat} {idv : Int} {x : Ln} {W : World} (h : BT ib io bx idv x W) : W.cell? ⟨ib, io, none⟩ = some (.int .i64 idv) ∧ W.cell? ⟨bx, 5, none⟩ = some (.int .i64 x.g) ∧ W.cell? ⟨bx, 6, none⟩ = some (.int .i64 x.p) := ⟨h.ci, by have := h.ln.c5; rwa [Nat.zero_add] at this, by have := h.ln.c6; rwa [Nat.zero_add] at this⟩
theorem BT.setC {ib io bx : Nat} {idv : Int} {x : Ln} {W : World} (h : BT ib io bx idv x W) {B : Nat} (h1 : ib ≠ B) (h2 : bx ≠ B) (c : Cd) : BT ib io bx idv x (setC W B c) :=
  ⟨(World.cell?_of_block (w := W) (a := ⟨ib, io, none⟩) (heap_setC h1 c)).trans h.ci, h.ln.heap (heap_setC h2 c)⟩
/-- What the region that compares stands on. -/
structure BU (w : World) (ib io bx : Nat) (idv : Int) (x : Ln) (c : Cd) (W : World) : Prop where
  bt : BT ib io bx idv x W
  bb : BB w c W
theorem BB.drew {w V : World} {c : Cd} (h : BB w c V) : BB w c V.drew := ⟨h.res, h.best, Below.drewN (m := 1) h.below⟩

set_option maxRecDepth 100000 in
set_option maxHeartbeats 8000000 in
theorem rbest_any {b lg xg : Nat} {la xa : Option Addr} {lc xc : Nat} {f : Int} {es : List En} {w : World} {xs : List It} {v : Value} (h : RfAt w b lg xg la xa lc xc f es) (hf : Fit f es.length) (ho : Of09 f es xs) (hv : IntsAt w v (idsOf xs)) (hl : xs.length ≤ 20000) :
    Calls Try.prog 23 #[.pointer (some ⟨b, 0, none⟩), v] w fun e w' => e = .returned (bestC xs).v ∧ Below w.heap.size w w' := by
  obtain ⟨a, cap, hva⟩ : ∃ a cap, v = .slice a xs.length cap := by obtain ⟨a, cap, e, _⟩ := hv; exact ⟨a, cap, by rw [e, idsOf_len]⟩
  subst hva
  obtain ⟨n, hn⟩ : ∃ n, xs.length = n := ⟨_, rfl⟩
  have HN := hi hn
  have HAT := hi (fun W (hW : Below w.heap.size w W) (id : Int) => at_any (id := id) (h.below hW) hf)
  have HA := hi (fun W (hW : Below w.heap.size w W) => h.below hW)
  have HO := hi ho
  have HST := hi (fun k (hk : k < xs.length) => bestC_take hk)
  have HEND := hi (show bestC (xs.take n) = bestC xs by rw [← hn, List.take_length])
  have HF := hi hf
  rw [hn] at hv hl HST ⊢
  have HIL := hi (fun k (hk : k < n) => show ∃ ib io : Nat, a = some ⟨ib, io, none⟩ ∧ ib < w.heap.size from by obtain ⟨ib, io, e, hc⟩ := ints_read hv (k := k) (by rw [HN.out]; exact hk); exact ⟨ib, io, e, World.block_lt_of_cell? w _ hc⟩)
  have HV := hi (fun W (hW : Below w.heap.size w W) => intsAt_grew hv hW)
  have H0 := hi (show BB w (bestC (xs.take 0)) ((w.alloc (.cells #[.int .i64 0, .int .i64 0, .int .i64 0, .bool false] 51)).alloc (.cells #[.int .i64 0, .int .i64 0, .int .i64 0, .bool false] 51)) from ⟨(CB.new w _ _).alloc _, cb_second, bal_two w _ _⟩)
  clear h hf ho hv hn
  go_enter Try.func23, Try.ntmps23
  go_wp2
  go_loopw [6] (fun i wr => ∃ k : Nat, k ≤ n ∧ i = .int .i64 k ∧ Hi (BB w (bestC (xs.take k)) wr)) (fun i _ => n - (intOf i).toNat)
  case atStart => exact ⟨0, Nat.zero_le _, rfl, H0⟩
  case round =>
    obtain ⟨k, hk, rfl, HX⟩ := hrel
    clear H0
    by_cases hlt : k < n
    · have hws := HX.out.below.size
      have hR := HA.out _ HX.out.below
      obtain ⟨ib, io, rfl, hci⟩ := ints_read (HV.out _ HX.out.below) (k := k) (by rw [HN.out]; exact hlt)
      have HIB := hi (show ib ≠ w.heap.size + 1 from fun e9 => by have h9 := HIL.out k hlt; obtain ⟨ib', io', e8, h8⟩ := h9; simp only [Option.some.injEq, Addr.mk.injEq] at e8; omega)
      obtain ⟨k2, hk2, hid⟩ := HO.out _ (List.mem_of_getElem? (nthI_at (xs := xs) (k := k) (by rw [HN.out]; exact hlt)))
      have hk2l : k2 < es.length := (List.getElem?_eq_some_iff.1 hk2).1
      obtain ⟨rfl, rfl, hlr, hxr, _⟩ := hR.ne0 (fun e => by rw [e] at hk2; simp at hk2)
      have hc1 := hR.box.cell 1
      have hln := hlr.lnc hk2
      obtain ⟨n2, hn2⟩ : ∃ n2, es.length = n2 := ⟨_, rfl⟩
      have HN2 := hi hn2
      rw [hn2] at hc1 hk2l
      have HS1 := hi (HST.out k hlt)
      obtain ⟨id, hidn⟩ : ∃ id, (nthI xs k).1 = id := ⟨_, rfl⟩
      obtain ⟨x, hx⟩ : ∃ x, (nthI xs k).2 = x := ⟨_, rfl⟩
      have hpair : nthI xs k = (id, x) := by rw [← hidn, ← hx]
      rw [hpair] at HS1
      rw [hx] at hln
      rw [hidn] at hid hci
      have hBS : BS b lg n2 lc ib (io + k) id (k2 * 7) x.ln wr.drew wr.drew := ⟨hc1, hci, hln.drew, Below.refl _ _⟩
      have CA := hi (fun W (hW : Below w.heap.size w W) => HAT.out W hW id)
      rw [HN2.out, hid, atI_at hk2l] at CA
      rw [hid] at hBS HS1 hci
      have HBB := hi HX.out.drew
      have hHW : Below w.heap.size w wr.drew := Below.drewN (m := 1) HX.out.below
      obtain ⟨id2, hid2⟩ : ∃ id2, f + (k2 : Int) = id2 := ⟨_, rfl⟩
      rw [hid2] at CA hBS HS1 hci
      clear hlr hxr hR hc1 hln hk2 hx hidn hpair hid hn2 hid2
      obtain ⟨⟨⟨e, lb', q', a'⟩, en, gr, p⟩, s⟩ := x
      obtain ⟨Wd, hWd⟩ : ∃ Wd, wr.drew = Wd := ⟨_, rfl⟩
      go_wp2
      refine wp_region_noPanic ?_
      refine wp_region_held_drew (S := BS b lg n2 lc ib (io + k) id2 (k2 * 7) ⟨⟨e, lb', q', a'⟩, en, gr, p⟩ wr.drew) (by kernel_rfl) hBS (fun hHeld => ?_)
      (try simp only [Array.replicate_succ, Array.replicate_zero, List.push_toArray, List.nil_append, List.cons_append])
      obtain ⟨Wd, hWd⟩ : ∃ Wd, wr.drew = Wd := ⟨_, rfl⟩
      rw [hWd] at hBS hHW HBB hHeld ⊢
      refine wpAnyH_take (i := 0) (v := ?_) rfl (by kernel_rfl) (by kernel_rfl) (by kernel_rfl) (fun _ _ _ h => h) (Or.inl ⟨by rfl, ?_⟩) (by assumption) ?_
      rotate_left
      · intro w' hSw; have hs1 := hSw.c1; have hs2 := hSw.ci; obtain ⟨hl0, hl1, hl2, hl3, hl4, hl5, hl6⟩ := hSw.ln; dsimp only at hl0 hl1 hl2 hl3 hl4 hl5 hl6; (try clear hSw); go_simp; (try with_reducible rfl)
      (try simp only [Act.put, List.getElem_toArray, List.getElem_cons_zero, List.setIfInBounds_toArray, List.set_cons_zero, List.set_cons_succ])
      refine wpAnyH_take (i := 1) (v := ?_) rfl (by kernel_rfl) (by kernel_rfl) (by kernel_rfl) (fun _ _ _ h => h) (Or.inl ⟨by rfl, ?_⟩) (by assumption) ?_
      rotate_left
      · intro w' hSw; have hs1 := hSw.c1; have hs2 := hSw.ci; obtain ⟨hl0, hl1, hl2, hl3, hl4, hl5, hl6⟩ := hSw.ln; dsimp only at hl0 hl1 hl2 hl3 hl4 hl5 hl6; (try clear hSw); go_simp; (try with_reducible rfl)
      (try simp only [Act.put, List.getElem_toArray, List.getElem_cons_zero, List.getElem_cons_succ, List.setIfInBounds_toArray, List.set_cons_zero, List.set_cons_succ])
      refine wpAnyH_take (i := 2) (v := ?_) rfl (by kernel_rfl) (by kernel_rfl) (by kernel_rfl) (fun _ _ _ h => h) (Or.inl ⟨by rfl, ?_⟩) (by assumption) ?_
      rotate_left
      · intro w' hSw; have hs1 := hSw.c1; have hs2 := hSw.ci; obtain ⟨hl0, hl1, hl2, hl3, hl4, hl5, hl6⟩ := hSw.ln; dsimp only at hl0 hl1 hl2 hl3 hl4 hl5 hl6; (try clear hSw); go_simp; (try with_reducible rfl)
      (try simp only [Act.put, List.getElem_toArray, List.getElem_cons_zero, List.getElem_cons_succ, List.setIfInBounds_toArray, List.set_cons_zero, List.set_cons_succ])
      refine wpAnyH_take (i := 3) (v := ?_) rfl (by kernel_rfl) (by kernel_rfl) (by kernel_rfl) (fun _ _ _ h => h) (Or.inl ⟨by rfl, ?_⟩) (by assumption) ?_
      rotate_left
      · intro w' hSw; have hs1 := hSw.c1; have hs2 := hSw.ci; obtain ⟨hl0, hl1, hl2, hl3, hl4, hl5, hl6⟩ := hSw.ln; dsimp only at hl0 hl1 hl2 hl3 hl4 hl5 hl6; (try clear hSw); go_simp; (try with_reducible rfl)
      (try simp only [Act.put, List.getElem_toArray, List.getElem_cons_zero, List.getElem_cons_succ, List.setIfInBounds_toArray, List.set_cons_zero, List.set_cons_succ])
      refine wpAnyH_take (i := 4) (v := ?_) rfl (by kernel_rfl) (by kernel_rfl) (by kernel_rfl) (fun _ _ _ h => h) (Or.inl ⟨by rfl, ?_⟩) (by assumption) ?_
      rotate_left
      · intro w' hSw; have hs1 := hSw.c1; have hs2 := hSw.ci; obtain ⟨hl0, hl1, hl2, hl3, hl4, hl5, hl6⟩ := hSw.ln; dsimp only at hl0 hl1 hl2 hl3 hl4 hl5 hl6; (try clear hSw); go_simp; (try with_reducible rfl)
      (try simp only [Act.put, List.getElem_toArray, List.getElem_cons_zero, List.getElem_cons_succ, List.setIfInBounds_toArray, List.set_cons_zero, List.set_cons_succ])
      refine wpAnyH_take (i := 5) (v := ?_) rfl (by kernel_rfl) (by kernel_rfl) (by kernel_rfl) (fun _ _ _ h => h) (Or.inl ⟨by rfl, ?_⟩) (by assumption) ?_
      rotate_left
      · intro w' hSw; have hs1 := hSw.c1; have hs2 := hSw.ci; obtain ⟨hl0, hl1, hl2, hl3, hl4, hl5, hl6⟩ := hSw.ln; dsimp only at hl0 hl1 hl2 hl3 hl4 hl5 hl6; (try clear hSw); go_simp; (try with_reducible rfl)
      (try simp only [Act.put, List.getElem_toArray, List.getElem_cons_zero, List.getElem_cons_succ, List.setIfInBounds_toArray, List.set_cons_zero, List.set_cons_succ])
      refine wpAnyH_take (i := 6) (v := ?_) rfl (by kernel_rfl) (by kernel_rfl) (by kernel_rfl) (fun _ _ _ h => h) (Or.inl ⟨by rfl, ?_⟩) (by assumption) ?_
      rotate_left
      · intro w' hSw; have hs1 := hSw.c1; have hs2 := hSw.ci; obtain ⟨hl0, hl1, hl2, hl3, hl4, hl5, hl6⟩ := hSw.ln; dsimp only at hl0 hl1 hl2 hl3 hl4 hl5 hl6; (try clear hSw); go_simp; (try with_reducible rfl)
      (try simp only [Act.put, List.getElem_toArray, List.getElem_cons_zero, List.getElem_cons_succ, List.setIfInBounds_toArray, List.set_cons_zero, List.set_cons_succ])
      refine wpAnyH_take (i := 7) (v := ?_) rfl (by kernel_rfl) (by kernel_rfl) (by kernel_rfl) (fun _ _ _ h => h) (Or.inl ⟨by rfl, ?_⟩) (by assumption) ?_
      rotate_left
      · intro w' hSw; have hs1 := hSw.c1; have hs2 := hSw.ci; obtain ⟨hl0, hl1, hl2, hl3, hl4, hl5, hl6⟩ := hSw.ln; dsimp only at hl0 hl1 hl2 hl3 hl4 hl5 hl6; (try clear hSw); go_simp; (try with_reducible rfl)
      (try simp only [Act.put, List.getElem_toArray, List.getElem_cons_zero, List.getElem_cons_succ, List.setIfInBounds_toArray, List.set_cons_zero, List.set_cons_succ])
      refine wpAnyH_take (i := 8) (v := ?_) rfl (by kernel_rfl) (by kernel_rfl) (by kernel_rfl) (fun _ _ _ h => h) (Or.inl ⟨by rfl, ?_⟩) (by assumption) ?_
      rotate_left
      · intro w' hSw; have hs1 := hSw.c1; have hs2 := hSw.ci; obtain ⟨hl0, hl1, hl2, hl3, hl4, hl5, hl6⟩ := hSw.ln; dsimp only at hl0 hl1 hl2 hl3 hl4 hl5 hl6; (try clear hSw); go_simp; (try with_reducible rfl)
      (try simp only [Act.put, List.getElem_toArray, List.getElem_cons_zero, List.getElem_cons_succ, List.setIfInBounds_toArray, List.set_cons_zero, List.set_cons_succ])
      have h1 := hBS.later (bal Wd (.cells #[.bool false, .bool false, .bool false, .bool false, .bool false, .int .i64 0, .int .i64 0] 32))
      have h2 := hBS.later (bal Wd (.cells #[.bool e, .bool lb', .bool q', .bool a', .bool en, .int .i64 gr, .int .i64 p] 32))
      have hws2 := hHW.size
      have hbL := bal Wd (.cells #[.bool e, .bool lb', .bool q', .bool a', .bool en, .int .i64 gr, .int .i64 p] 32)
      have H1 := hi (HBB.out.later hbL)
      have HT1 := hi (show BT ib (io + k) Wd.heap.size id2 ⟨⟨e, lb', q', a'⟩, en, gr, p⟩ (Wd.alloc (.cells #[.bool e, .bool lb', .bool q', .bool a', .bool en, .int .i64 gr, .int .i64 p] 32)) from ⟨cell_keep hBS.ci hbL, (CB.new Wd 32 (Ln.ca ⟨⟨e, lb', q', a'⟩, en, gr, p⟩)).lnc⟩)
      have hib : ib ≠ w.heap.size + 1 := HIB.out
      have hbl5 := HBB.out.best.lt
      refine wpAnyH_ready (rs := [9, 12]) (by kernel_rfl) (by simp) ?_
      refine AllReadyH.cons rfl (fun KK hKK => ?_) (AllReadyH.cons rfl (fun KK hKK => ?_) AllReadyH.nil)
      · go_simp
        ((with_reducible refine (CA.out _ (hHW)).mono ?_); rintro e' w9 ⟨rfl, rfl⟩)
        (try go_simp)
        refine hKK.out _ _ hBS (fun hHeld => ?_)
        clear hKK KK
        (try simp only [Act.put, List.getElem_toArray, List.getElem_cons_zero, List.getElem_cons_succ, List.setIfInBounds_toArray, List.set_cons_zero, List.set_cons_succ])
        refine wpAnyH_take (i := 10) (v := ?_) rfl (by kernel_rfl) (by kernel_rfl) (by kernel_rfl) (fun _ _ _ h => h) (Or.inl ⟨by rfl, ?_⟩) (by assumption) ?_
        rotate_left
        · intro w' hSw; have hs1 := hSw.c1; have hs2 := hSw.ci; obtain ⟨hl0, hl1, hl2, hl3, hl4, hl5, hl6⟩ := hSw.ln; dsimp only at hl0 hl1 hl2 hl3 hl4 hl5 hl6; (try clear hSw); go_simp; (try with_reducible rfl)
        (try simp only [Act.put, List.getElem_toArray, List.getElem_cons_zero, List.getElem_cons_succ, List.setIfInBounds_toArray, List.set_cons_zero, List.set_cons_succ])
        refine wpAnyH_take (i := 11) (v := ?_) rfl (by kernel_rfl) (by kernel_rfl) (by kernel_rfl) (fun _ _ _ h => h) (Or.inl ⟨by rfl, ?_⟩) (by assumption) ?_
        rotate_left
        · intro w' hSw; have hs1 := hSw.c1; have hs2 := hSw.ci; obtain ⟨hl0, hl1, hl2, hl3, hl4, hl5, hl6⟩ := hSw.ln; dsimp only at hl0 hl1 hl2 hl3 hl4 hl5 hl6; (try clear hSw); go_simp; (try with_reducible rfl)
        (try simp only [Act.put, List.getElem_toArray, List.getElem_cons_zero, List.getElem_cons_succ, List.setIfInBounds_toArray, List.set_cons_zero, List.set_cons_succ])
        refine wpAnyH_ready (rs := [12]) (by kernel_rfl) (by simp) ?_
        refine AllReadyH.cons rfl (fun KK hKK => ?_) AllReadyH.nil
        go_simp
        refine hKK.out _ _ h1 (fun hHeld => ?_)
        clear hKK KK
        (try simp only [Act.put, List.getElem_toArray, List.getElem_cons_zero, List.getElem_cons_succ, List.setIfInBounds_toArray, List.set_cons_zero, List.set_cons_succ])
        refine wpAnyH_ready (rs := [13]) (by kernel_rfl) (by simp) ?_
        refine AllReadyH.cons rfl (fun KK hKK => ?_) AllReadyH.nil
        go_simp
        refine hKK.out _ _ h2 (fun hHeld => ?_)
        clear hKK KK
        (try simp only [Act.put, List.getElem_toArray, List.getElem_cons_zero, List.getElem_cons_succ, List.setIfInBounds_toArray, List.set_cons_zero, List.set_cons_succ])
        refine wpAnyH_done (by kernel_rfl) ?_ _
        refine NoPanic.normal ?_
        clear hHeld h1 h2 hBS CA
        obtain ⟨W5, hW5⟩ : ∃ W5, Wd.alloc (.cells #[.bool e, .bool lb', .bool q', .bool a', .bool en, .int .i64 gr, .int .i64 p] 32) = W5 := ⟨_, rfl⟩
        rw [hW5] at H1 HT1 ⊢
        clear hW5 hbL
        obtain ⟨c, hc⟩ : ∃ c, bestC (xs.take k) = c := ⟨_, rfl⟩
        rw [hc] at H1 HS1
        clear hc
        obtain ⟨ci, cp, cg, cis⟩ := c
        cases cis
        · have hU : BU w ib (io + k) Wd.heap.size id2 ⟨⟨e, lb', q', a'⟩, en, gr, p⟩ ⟨ci, cp, cg, false⟩ W5.drew := ⟨HT1.out.drew, H1.out.drew⟩
          have HS' := hi (HS1.out.trans (show stepC _ _ = (⟨id2, p, gr, true⟩ : Cd) by simp [stepC, candV]))
          clear HS1
          go_wp2
          refine wp_region_noPanic ?_
          refine wp_region_held_drew (S := BU w ib (io + k) Wd.heap.size id2 ⟨⟨e, lb', q', a'⟩, en, gr, p⟩ ⟨ci, cp, cg, false⟩) (by kernel_rfl) hU (fun hHeld => ?_)
          (try simp only [Array.replicate_succ, Array.replicate_zero, List.push_toArray, List.nil_append, List.cons_append])
          refine wpAnyH_take (i := 0) (v := ?_) rfl (by kernel_rfl) (by kernel_rfl) (by kernel_rfl) (fun _ _ _ h => h) (Or.inl ⟨by rfl, ?_⟩) (by assumption) ?_
          rotate_left
          · intro w' hSw; obtain ⟨hk0, hk1, hk2, hk3⟩ := hSw.bb.cells; obtain ⟨ht0, ht1, ht2⟩ := hSw.bt.cells; dsimp only at hk0 hk1 hk2 hk3 ht0 ht1 ht2; (try clear hSw); go_simp; (try with_reducible rfl)
          (try simp only [Act.put, List.getElem_toArray, List.getElem_cons_zero, List.setIfInBounds_toArray, List.set_cons_zero, List.set_cons_succ])
          refine wpAnyH_take (i := 1) (v := ?_) rfl (by kernel_rfl) (by kernel_rfl) (by kernel_rfl) (fun _ _ _ h => h) (Or.inl ⟨by rfl, ?_⟩) (by assumption) ?_
          rotate_left
          · intro w' hSw; obtain ⟨hk0, hk1, hk2, hk3⟩ := hSw.bb.cells; obtain ⟨ht0, ht1, ht2⟩ := hSw.bt.cells; dsimp only at hk0 hk1 hk2 hk3 ht0 ht1 ht2; (try clear hSw); go_simp; (try with_reducible rfl)
          (try simp only [Act.put, List.getElem_toArray, List.getElem_cons_zero, List.getElem_cons_succ, List.setIfInBounds_toArray, List.set_cons_zero, List.set_cons_succ])
          refine wpAnyH_take (i := 2) (v := ?_) rfl (by kernel_rfl) (by kernel_rfl) (by kernel_rfl) (fun _ _ _ h => h) (Or.inl ⟨by rfl, ?_⟩) (by assumption) ?_
          rotate_left
          · intro w' hSw; obtain ⟨hk0, hk1, hk2, hk3⟩ := hSw.bb.cells; obtain ⟨ht0, ht1, ht2⟩ := hSw.bt.cells; dsimp only at hk0 hk1 hk2 hk3 ht0 ht1 ht2; (try clear hSw); go_simp; (try with_reducible rfl)
          (try simp only [Act.put, List.getElem_toArray, List.getElem_cons_zero, List.getElem_cons_succ, List.setIfInBounds_toArray, List.set_cons_zero, List.set_cons_succ])
          refine wpAnyH_take (i := 3) (v := ?_) rfl (by kernel_rfl) (by kernel_rfl) (by kernel_rfl) (fun _ _ _ h => h) (Or.inl ⟨by rfl, ?_⟩) (by assumption) ?_
          rotate_left
          · intro w' hSw; obtain ⟨hk0, hk1, hk2, hk3⟩ := hSw.bb.cells; obtain ⟨ht0, ht1, ht2⟩ := hSw.bt.cells; dsimp only at hk0 hk1 hk2 hk3 ht0 ht1 ht2; (try clear hSw); go_simp; (try with_reducible rfl)
          (try simp only [Act.put, List.getElem_toArray, List.getElem_cons_zero, List.getElem_cons_succ, List.setIfInBounds_toArray, List.set_cons_zero, List.set_cons_succ])
          refine wpAnyH_take (i := 4) (v := undef) rfl (by kernel_rfl) (by kernel_rfl) (by kernel_rfl) (fun _ _ _ h => h) (Or.inr ⟨by rfl, rfl⟩) (by assumption) ?_
          (try simp only [Act.put, List.getElem_toArray, List.getElem_cons_zero, List.getElem_cons_succ, List.setIfInBounds_toArray, List.set_cons_zero, List.set_cons_succ])
          refine wpAnyH_take (i := 5) (v := undef) rfl (by kernel_rfl) (by kernel_rfl) (by kernel_rfl) (fun _ _ _ h => h) (Or.inr ⟨by rfl, rfl⟩) (by assumption) ?_
          (try simp only [Act.put, List.getElem_toArray, List.getElem_cons_zero, List.getElem_cons_succ, List.setIfInBounds_toArray, List.set_cons_zero, List.set_cons_succ])
          refine wpAnyH_take (i := 6) (v := undef) rfl (by kernel_rfl) (by kernel_rfl) (by kernel_rfl) (fun _ _ _ h => h) (Or.inr ⟨by rfl, rfl⟩) (by assumption) ?_
          (try simp only [Act.put, List.getElem_toArray, List.getElem_cons_zero, List.getElem_cons_succ, List.setIfInBounds_toArray, List.set_cons_zero, List.set_cons_succ])
          refine wpAnyH_take (i := 7) (v := undef) rfl (by kernel_rfl) (by kernel_rfl) (by kernel_rfl) (fun _ _ _ h => h) (Or.inr ⟨by rfl, rfl⟩) (by assumption) ?_
          (try simp only [Act.put, List.getElem_toArray, List.getElem_cons_zero, List.getElem_cons_succ, List.setIfInBounds_toArray, List.set_cons_zero, List.set_cons_succ])
          refine wpAnyH_take (i := 8) (v := undef) rfl (by kernel_rfl) (by kernel_rfl) (by kernel_rfl) (fun _ _ _ h => h) (Or.inr ⟨by rfl, rfl⟩) (by assumption) ?_
          (try simp only [Act.put, List.getElem_toArray, List.getElem_cons_zero, List.getElem_cons_succ, List.setIfInBounds_toArray, List.set_cons_zero, List.set_cons_succ])
          refine wpAnyH_take (i := 9) (v := undef) rfl (by kernel_rfl) (by kernel_rfl) (by kernel_rfl) (fun _ _ _ h => h) (Or.inr ⟨by rfl, rfl⟩) (by assumption) ?_
          (try simp only [Act.put, List.getElem_toArray, List.getElem_cons_zero, List.getElem_cons_succ, List.setIfInBounds_toArray, List.set_cons_zero, List.set_cons_succ])
          refine wpAnyH_take (i := 10) (v := undef) rfl (by kernel_rfl) (by kernel_rfl) (by kernel_rfl) (fun _ _ _ h => h) (Or.inr ⟨by rfl, rfl⟩) (by assumption) ?_
          (try simp only [Act.put, List.getElem_toArray, List.getElem_cons_zero, List.getElem_cons_succ, List.setIfInBounds_toArray, List.set_cons_zero, List.set_cons_succ])
          refine wpAnyH_take (i := 11) (v := undef) rfl (by kernel_rfl) (by kernel_rfl) (by kernel_rfl) (fun _ _ _ h => h) (Or.inr ⟨by rfl, rfl⟩) (by assumption) ?_
          (try simp only [Act.put, List.getElem_toArray, List.getElem_cons_zero, List.getElem_cons_succ, List.setIfInBounds_toArray, List.set_cons_zero, List.set_cons_succ])
          refine wpAnyH_take (i := 12) (v := undef) rfl (by kernel_rfl) (by kernel_rfl) (by kernel_rfl) (fun _ _ _ h => h) (Or.inr ⟨by rfl, rfl⟩) (by assumption) ?_
          (try simp only [Act.put, List.getElem_toArray, List.getElem_cons_zero, List.getElem_cons_succ, List.setIfInBounds_toArray, List.set_cons_zero, List.set_cons_succ])
          refine wpAnyH_take (i := 13) (v := undef) rfl (by kernel_rfl) (by kernel_rfl) (by kernel_rfl) (fun _ _ _ h => h) (Or.inr ⟨by rfl, rfl⟩) (by assumption) ?_
          (try simp only [Act.put, List.getElem_toArray, List.getElem_cons_zero, List.getElem_cons_succ, List.setIfInBounds_toArray, List.set_cons_zero, List.set_cons_succ])
          refine wpAnyH_take (i := 14) (v := undef) rfl (by kernel_rfl) (by kernel_rfl) (by kernel_rfl) (fun _ _ _ h => h) (Or.inr ⟨by rfl, rfl⟩) (by assumption) ?_
          (try simp only [Act.put, List.getElem_toArray, List.getElem_cons_zero, List.getElem_cons_succ, List.setIfInBounds_toArray, List.set_cons_zero, List.set_cons_succ])
          refine wpAnyH_take (i := 15) (v := ?_) rfl (by kernel_rfl) (by kernel_rfl) (by kernel_rfl) (fun _ _ _ h => h) (Or.inl ⟨by rfl, ?_⟩) (by assumption) ?_
          rotate_left
          · intro w' hSw; obtain ⟨hk0, hk1, hk2, hk3⟩ := hSw.bb.cells; obtain ⟨ht0, ht1, ht2⟩ := hSw.bt.cells; dsimp only at hk0 hk1 hk2 hk3 ht0 ht1 ht2; (try clear hSw); go_simp; (try with_reducible rfl)
          (try simp only [Act.put, List.getElem_toArray, List.getElem_cons_zero, List.getElem_cons_succ, List.setIfInBounds_toArray, List.set_cons_zero, List.set_cons_succ])
          refine wpAnyH_done (by kernel_rfl) ?_ _
          refine NoPanic.normal ?_
          clear hHeld
          obtain ⟨W6, hW6⟩ : ∃ W6, W5.drew = W6 := ⟨_, rfl⟩
          rw [hW6] at hU ⊢
          clear hW6
          go_wp2
          have hV := hU.bt.drew
          have hVB := hU.bb.drew
          obtain ⟨W7, hW7⟩ : ∃ W7, (World.drew W6) = W7 := ⟨_, rfl⟩
          rw [hW7] at hV hVB
          refine wp_region_noPanic ?_
          refine wp_region_held_drew (S := BT ib (io + k) Wd.heap.size id2 ⟨⟨e, lb', q', a'⟩, en, gr, p⟩) (by kernel_rfl) (by rw [hW7]; exact hV) (fun hHeld => ?_)
          (try simp only [Array.replicate_succ, Array.replicate_zero, List.push_toArray, List.nil_append, List.cons_append])
          rw [hW7] at hHeld ⊢
          clear hW7
          refine wpAnyH_take (i := 0) (v := ?_) rfl (by kernel_rfl) (by kernel_rfl) (by kernel_rfl) (fun _ _ _ h => h) (Or.inl ⟨by rfl, ?_⟩) (by assumption) ?_
          rotate_left
          · intro w' hSw; obtain ⟨ht0, ht1, ht2⟩ := hSw.cells; dsimp only at ht0 ht1 ht2; (try clear hSw); go_simp; (try with_reducible rfl)
          (try simp only [Act.put, List.getElem_toArray, List.getElem_cons_zero, List.setIfInBounds_toArray, List.set_cons_zero, List.set_cons_succ])
          refine wpAnyH_take (i := 1) (v := ?_) rfl (by kernel_rfl) (by kernel_rfl) (by kernel_rfl) (fun _ _ _ h => h) (Or.inl ⟨by rfl, ?_⟩) (by assumption) ?_
          rotate_left
          · intro w' hSw; obtain ⟨ht0, ht1, ht2⟩ := hSw.cells; dsimp only at ht0 ht1 ht2; (try clear hSw); go_simp; (try with_reducible rfl)
          (try simp only [Act.put, List.getElem_toArray, List.getElem_cons_zero, List.getElem_cons_succ, List.setIfInBounds_toArray, List.set_cons_zero, List.set_cons_succ])
          refine wpAnyH_take (i := 2) (v := ?_) rfl (by kernel_rfl) (by kernel_rfl) (by kernel_rfl) (fun _ _ _ h => h) (Or.inl ⟨by rfl, ?_⟩) (by assumption) ?_
          rotate_left
          · intro w' hSw; obtain ⟨ht0, ht1, ht2⟩ := hSw.cells; dsimp only at ht0 ht1 ht2; (try clear hSw); go_simp; (try with_reducible rfl)
          (try simp only [Act.put, List.getElem_toArray, List.getElem_cons_zero, List.getElem_cons_succ, List.setIfInBounds_toArray, List.set_cons_zero, List.set_cons_succ])
          refine wpAnyH_take (i := 3) (v := ?_) rfl (by kernel_rfl) (by kernel_rfl) (by kernel_rfl) (fun _ _ _ h => h) (Or.inl ⟨by rfl, ?_⟩) (by assumption) ?_
          rotate_left
          · intro w' hSw; obtain ⟨ht0, ht1, ht2⟩ := hSw.cells; dsimp only at ht0 ht1 ht2; (try clear hSw); go_simp; (try with_reducible rfl)
          (try simp only [Act.put, List.getElem_toArray, List.getElem_cons_zero, List.getElem_cons_succ, List.setIfInBounds_toArray, List.set_cons_zero, List.set_cons_succ])
          refine wpAnyH_take (i := 4) (v := ?_) rfl (by kernel_rfl) (by kernel_rfl) (by kernel_rfl) (fun _ _ _ h => h) (Or.inl ⟨by rfl, ?_⟩) (by assumption) ?_
          rotate_left
          · intro w' hSw; obtain ⟨ht0, ht1, ht2⟩ := hSw.cells; dsimp only at ht0 ht1 ht2; (try clear hSw); go_simp; (try with_reducible rfl)
          (try simp only [Act.put, List.getElem_toArray, List.getElem_cons_zero, List.getElem_cons_succ, List.setIfInBounds_toArray, List.set_cons_zero, List.set_cons_succ])
          refine wpAnyH_take (i := 5) (v := ?_) rfl (by kernel_rfl) (by kernel_rfl) (by kernel_rfl) (fun _ _ _ h => h) (Or.inl ⟨by rfl, ?_⟩) (by assumption) ?_
          rotate_left
          · intro w' hSw; obtain ⟨ht0, ht1, ht2⟩ := hSw.cells; dsimp only at ht0 ht1 ht2; (try clear hSw); go_simp; (try with_reducible rfl)
          (try simp only [Act.put, List.getElem_toArray, List.getElem_cons_zero, List.getElem_cons_succ, List.setIfInBounds_toArray, List.set_cons_zero, List.set_cons_succ])
          refine wpAnyH_take (i := 6) (v := ?_) rfl (by kernel_rfl) (by kernel_rfl) (by kernel_rfl) (fun _ _ _ h => h) (Or.inl ⟨by rfl, ?_⟩) (by assumption) ?_
          rotate_left
          · intro w' hSw; obtain ⟨ht0, ht1, ht2⟩ := hSw.cells; dsimp only at ht0 ht1 ht2; (try clear hSw); go_simp; (try with_reducible rfl)
          (try simp only [Act.put, List.getElem_toArray, List.getElem_cons_zero, List.getElem_cons_succ, List.setIfInBounds_toArray, List.set_cons_zero, List.set_cons_succ])
          refine wpAnyH_take (i := 7) (v := ?_) rfl (by kernel_rfl) (by kernel_rfl) (by kernel_rfl) (fun _ _ _ h => h) (Or.inl ⟨by rfl, ?_⟩) (by assumption) ?_
          rotate_left
          · intro w' hSw; obtain ⟨ht0, ht1, ht2⟩ := hSw.cells; dsimp only at ht0 ht1 ht2; (try clear hSw); go_simp; (try with_reducible rfl)
          (try simp only [Act.put, List.getElem_toArray, List.getElem_cons_zero, List.getElem_cons_succ, List.setIfInBounds_toArray, List.set_cons_zero, List.set_cons_succ])
          refine wpAnyH_take (i := 8) (v := ?_) rfl (by kernel_rfl) (by kernel_rfl) (by kernel_rfl) (fun _ _ _ h => h) (Or.inl ⟨by rfl, ?_⟩) (by assumption) ?_
          rotate_left
          · intro w' hSw; obtain ⟨ht0, ht1, ht2⟩ := hSw.cells; dsimp only at ht0 ht1 ht2; (try clear hSw); go_simp; (try with_reducible rfl)
          (try simp only [Act.put, List.getElem_toArray, List.getElem_cons_zero, List.getElem_cons_succ, List.setIfInBounds_toArray, List.set_cons_zero, List.set_cons_succ])
          obtain ⟨x0, x1, x2, x3⟩ := hVB.cells
          dsimp only at x0 x1 x2 x3
          have xf := hVB.best.frozen
          have hV2 := hV.setC (B := w.heap.size + 1) hib (by omega) ⟨id2, p, gr, true⟩
          refine wpAnyH_ready (rs := [9]) (by kernel_rfl) (by simp) ?_
          refine AllReadyH.cons rfl (fun KK hKK => ?_) AllReadyH.nil
          go_simp
          refine hKK.out _ _ hV2 (fun hHeld => ?_)
          clear hKK KK
          (try simp only [Act.put, List.getElem_toArray, List.getElem_cons_zero, List.getElem_cons_succ, List.setIfInBounds_toArray, List.set_cons_zero, List.set_cons_succ])
          refine wpAnyH_done (by kernel_rfl) ?_ _
          refine NoPanic.normal ?_
          clear hHeld x0 x1 x2 x3 xf
          have HFIN := hi (hVB.put ⟨id2, p, gr, true⟩)
          clear hVB hV hV2
          go_wp2
          go_roundw
          case rel =>
            refine ⟨k + 1, by omega, by go_num, hi ?_⟩
            rw [HS'.out]
            exact HFIN.out
          case measure => simp only [intOf]; omega
        · have hU : BU w ib (io + k) Wd.heap.size id2 ⟨⟨e, lb', q', a'⟩, en, gr, p⟩ ⟨ci, cp, cg, true⟩ W5.drew := ⟨HT1.out.drew, H1.out.drew⟩
          have CBF := hi (fun W => refBefore_any p id2 cp ci W)
          obtain ⟨rb, hrb⟩ : ∃ rb, beforeB p id2 cp ci = rb := ⟨_, rfl⟩
          have HSX := hi (show stepC ⟨ci, cp, cg, true⟩ (id2, (⟨⟨e, lb', q', a'⟩, en, gr, p⟩ |> fun l => (⟨l, s⟩ : En))) = if rb then (⟨id2, p, gr, true⟩ : Cd) else ⟨ci, cp, cg, true⟩ by rw [← hrb]; rfl)
          rw [hrb] at CBF
          clear hrb
          cases rb
          · have HS' := hi (HS1.out.trans HSX.out)
            clear HS1 HSX
            go_wp2
            refine wp_region_noPanic ?_
            refine wp_region_held_drew (S := BU w ib (io + k) Wd.heap.size id2 ⟨⟨e, lb', q', a'⟩, en, gr, p⟩ ⟨ci, cp, cg, true⟩) (by kernel_rfl) hU (fun hHeld => ?_)
            (try simp only [Array.replicate_succ, Array.replicate_zero, List.push_toArray, List.nil_append, List.cons_append])
            refine wpAnyH_take (i := 0) (v := ?_) rfl (by kernel_rfl) (by kernel_rfl) (by kernel_rfl) (fun _ _ _ h => h) (Or.inl ⟨by rfl, ?_⟩) (by assumption) ?_
            rotate_left
            · intro w' hSw; obtain ⟨hk0, hk1, hk2, hk3⟩ := hSw.bb.cells; obtain ⟨ht0, ht1, ht2⟩ := hSw.bt.cells; dsimp only at hk0 hk1 hk2 hk3 ht0 ht1 ht2; (try clear hSw); go_simp; (try with_reducible rfl)
            (try simp only [Act.put, List.getElem_toArray, List.getElem_cons_zero, List.setIfInBounds_toArray, List.set_cons_zero, List.set_cons_succ])
            refine wpAnyH_take (i := 1) (v := ?_) rfl (by kernel_rfl) (by kernel_rfl) (by kernel_rfl) (fun _ _ _ h => h) (Or.inl ⟨by rfl, ?_⟩) (by assumption) ?_
            rotate_left
            · intro w' hSw; obtain ⟨hk0, hk1, hk2, hk3⟩ := hSw.bb.cells; obtain ⟨ht0, ht1, ht2⟩ := hSw.bt.cells; dsimp only at hk0 hk1 hk2 hk3 ht0 ht1 ht2; (try clear hSw); go_simp; (try with_reducible rfl)
            (try simp only [Act.put, List.getElem_toArray, List.getElem_cons_zero, List.getElem_cons_succ, List.setIfInBounds_toArray, List.set_cons_zero, List.set_cons_succ])
            refine wpAnyH_take (i := 2) (v := ?_) rfl (by kernel_rfl) (by kernel_rfl) (by kernel_rfl) (fun _ _ _ h => h) (Or.inl ⟨by rfl, ?_⟩) (by assumption) ?_
            rotate_left
            · intro w' hSw; obtain ⟨hk0, hk1, hk2, hk3⟩ := hSw.bb.cells; obtain ⟨ht0, ht1, ht2⟩ := hSw.bt.cells; dsimp only at hk0 hk1 hk2 hk3 ht0 ht1 ht2; (try clear hSw); go_simp; (try with_reducible rfl)
            (try simp only [Act.put, List.getElem_toArray, List.getElem_cons_zero, List.getElem_cons_succ, List.setIfInBounds_toArray, List.set_cons_zero, List.set_cons_succ])
            refine wpAnyH_take (i := 3) (v := ?_) rfl (by kernel_rfl) (by kernel_rfl) (by kernel_rfl) (fun _ _ _ h => h) (Or.inl ⟨by rfl, ?_⟩) (by assumption) ?_
            rotate_left
            · intro w' hSw; obtain ⟨hk0, hk1, hk2, hk3⟩ := hSw.bb.cells; obtain ⟨ht0, ht1, ht2⟩ := hSw.bt.cells; dsimp only at hk0 hk1 hk2 hk3 ht0 ht1 ht2; (try clear hSw); go_simp; (try with_reducible rfl)
            (try simp only [Act.put, List.getElem_toArray, List.getElem_cons_zero, List.getElem_cons_succ, List.setIfInBounds_toArray, List.set_cons_zero, List.set_cons_succ])
            refine wpAnyH_take (i := 4) (v := ?_) rfl (by kernel_rfl) (by kernel_rfl) (by kernel_rfl) (fun _ _ _ h => h) (Or.inl ⟨by rfl, ?_⟩) (by assumption) ?_
            rotate_left
            · intro w' hSw; obtain ⟨hk0, hk1, hk2, hk3⟩ := hSw.bb.cells; obtain ⟨ht0, ht1, ht2⟩ := hSw.bt.cells; dsimp only at hk0 hk1 hk2 hk3 ht0 ht1 ht2; (try clear hSw); go_simp; (try with_reducible rfl)
            (try simp only [Act.put, List.getElem_toArray, List.getElem_cons_zero, List.getElem_cons_succ, List.setIfInBounds_toArray, List.set_cons_zero, List.set_cons_succ])
            refine wpAnyH_take (i := 5) (v := ?_) rfl (by kernel_rfl) (by kernel_rfl) (by kernel_rfl) (fun _ _ _ h => h) (Or.inl ⟨by rfl, ?_⟩) (by assumption) ?_
            rotate_left
            · intro w' hSw; obtain ⟨hk0, hk1, hk2, hk3⟩ := hSw.bb.cells; obtain ⟨ht0, ht1, ht2⟩ := hSw.bt.cells; dsimp only at hk0 hk1 hk2 hk3 ht0 ht1 ht2; (try clear hSw); go_simp; (try with_reducible rfl)
            (try simp only [Act.put, List.getElem_toArray, List.getElem_cons_zero, List.getElem_cons_succ, List.setIfInBounds_toArray, List.set_cons_zero, List.set_cons_succ])
            refine wpAnyH_take (i := 6) (v := ?_) rfl (by kernel_rfl) (by kernel_rfl) (by kernel_rfl) (fun _ _ _ h => h) (Or.inl ⟨by rfl, ?_⟩) (by assumption) ?_
            rotate_left
            · intro w' hSw; obtain ⟨hk0, hk1, hk2, hk3⟩ := hSw.bb.cells; obtain ⟨ht0, ht1, ht2⟩ := hSw.bt.cells; dsimp only at hk0 hk1 hk2 hk3 ht0 ht1 ht2; (try clear hSw); go_simp; (try with_reducible rfl)
            (try simp only [Act.put, List.getElem_toArray, List.getElem_cons_zero, List.getElem_cons_succ, List.setIfInBounds_toArray, List.set_cons_zero, List.set_cons_succ])
            refine wpAnyH_take (i := 7) (v := ?_) rfl (by kernel_rfl) (by kernel_rfl) (by kernel_rfl) (fun _ _ _ h => h) (Or.inl ⟨by rfl, ?_⟩) (by assumption) ?_
            rotate_left
            · intro w' hSw; obtain ⟨hk0, hk1, hk2, hk3⟩ := hSw.bb.cells; obtain ⟨ht0, ht1, ht2⟩ := hSw.bt.cells; dsimp only at hk0 hk1 hk2 hk3 ht0 ht1 ht2; (try clear hSw); go_simp; (try with_reducible rfl)
            (try simp only [Act.put, List.getElem_toArray, List.getElem_cons_zero, List.getElem_cons_succ, List.setIfInBounds_toArray, List.set_cons_zero, List.set_cons_succ])
            refine wpAnyH_take (i := 8) (v := ?_) rfl (by kernel_rfl) (by kernel_rfl) (by kernel_rfl) (fun _ _ _ h => h) (Or.inl ⟨by rfl, ?_⟩) (by assumption) ?_
            rotate_left
            · intro w' hSw; obtain ⟨hk0, hk1, hk2, hk3⟩ := hSw.bb.cells; obtain ⟨ht0, ht1, ht2⟩ := hSw.bt.cells; dsimp only at hk0 hk1 hk2 hk3 ht0 ht1 ht2; (try clear hSw); go_simp; (try with_reducible rfl)
            (try simp only [Act.put, List.getElem_toArray, List.getElem_cons_zero, List.getElem_cons_succ, List.setIfInBounds_toArray, List.set_cons_zero, List.set_cons_succ])
            refine wpAnyH_take (i := 9) (v := ?_) rfl (by kernel_rfl) (by kernel_rfl) (by kernel_rfl) (fun _ _ _ h => h) (Or.inl ⟨by rfl, ?_⟩) (by assumption) ?_
            rotate_left
            · intro w' hSw; obtain ⟨hk0, hk1, hk2, hk3⟩ := hSw.bb.cells; obtain ⟨ht0, ht1, ht2⟩ := hSw.bt.cells; dsimp only at hk0 hk1 hk2 hk3 ht0 ht1 ht2; (try clear hSw); go_simp; (try with_reducible rfl)
            (try simp only [Act.put, List.getElem_toArray, List.getElem_cons_zero, List.getElem_cons_succ, List.setIfInBounds_toArray, List.set_cons_zero, List.set_cons_succ])
            refine wpAnyH_take (i := 10) (v := ?_) rfl (by kernel_rfl) (by kernel_rfl) (by kernel_rfl) (fun _ _ _ h => h) (Or.inl ⟨by rfl, ?_⟩) (by assumption) ?_
            rotate_left
            · intro w' hSw; obtain ⟨hk0, hk1, hk2, hk3⟩ := hSw.bb.cells; obtain ⟨ht0, ht1, ht2⟩ := hSw.bt.cells; dsimp only at hk0 hk1 hk2 hk3 ht0 ht1 ht2; (try clear hSw); go_simp; (try with_reducible rfl)
            (try simp only [Act.put, List.getElem_toArray, List.getElem_cons_zero, List.getElem_cons_succ, List.setIfInBounds_toArray, List.set_cons_zero, List.set_cons_succ])
            refine wpAnyH_take (i := 11) (v := ?_) rfl (by kernel_rfl) (by kernel_rfl) (by kernel_rfl) (fun _ _ _ h => h) (Or.inl ⟨by rfl, ?_⟩) (by assumption) ?_
            rotate_left
            · intro w' hSw; obtain ⟨hk0, hk1, hk2, hk3⟩ := hSw.bb.cells; obtain ⟨ht0, ht1, ht2⟩ := hSw.bt.cells; dsimp only at hk0 hk1 hk2 hk3 ht0 ht1 ht2; (try clear hSw); go_simp; (try with_reducible rfl)
            (try simp only [Act.put, List.getElem_toArray, List.getElem_cons_zero, List.getElem_cons_succ, List.setIfInBounds_toArray, List.set_cons_zero, List.set_cons_succ])
            refine wpAnyH_take (i := 12) (v := ?_) rfl (by kernel_rfl) (by kernel_rfl) (by kernel_rfl) (fun _ _ _ h => h) (Or.inl ⟨by rfl, ?_⟩) (by assumption) ?_
            rotate_left
            · intro w' hSw; obtain ⟨hk0, hk1, hk2, hk3⟩ := hSw.bb.cells; obtain ⟨ht0, ht1, ht2⟩ := hSw.bt.cells; dsimp only at hk0 hk1 hk2 hk3 ht0 ht1 ht2; (try clear hSw); go_simp; (try with_reducible rfl)
            (try simp only [Act.put, List.getElem_toArray, List.getElem_cons_zero, List.getElem_cons_succ, List.setIfInBounds_toArray, List.set_cons_zero, List.set_cons_succ])
            refine wpAnyH_take (i := 13) (v := ?_) rfl (by kernel_rfl) (by kernel_rfl) (by kernel_rfl) (fun _ _ _ h => h) (Or.inl ⟨by rfl, ?_⟩) (by assumption) ?_
            rotate_left
            · intro w' hSw; obtain ⟨hk0, hk1, hk2, hk3⟩ := hSw.bb.cells; obtain ⟨ht0, ht1, ht2⟩ := hSw.bt.cells; dsimp only at hk0 hk1 hk2 hk3 ht0 ht1 ht2; (try clear hSw); go_simp; (try with_reducible rfl)
            (try simp only [Act.put, List.getElem_toArray, List.getElem_cons_zero, List.getElem_cons_succ, List.setIfInBounds_toArray, List.set_cons_zero, List.set_cons_succ])
            refine wpAnyH_ready (rs := [14]) (by kernel_rfl) (by simp) ?_
            refine AllReadyH.cons rfl (fun KK hKK => ?_) AllReadyH.nil
            go_simp
            ((with_reducible refine (CBF.out _).mono ?_); rintro e' w9 ⟨rfl, rfl⟩)
            (try go_simp)
            refine hKK.out _ _ hU (fun hHeld => ?_)
            clear hKK KK
            (try simp only [Act.put, List.getElem_toArray, List.getElem_cons_zero, List.getElem_cons_succ, List.setIfInBounds_toArray, List.set_cons_zero, List.set_cons_succ])
            refine wpAnyH_take (i := 15) (v := ?_) rfl (by kernel_rfl) (by kernel_rfl) (by kernel_rfl) (fun _ _ _ h => h) (Or.inl ⟨by rfl, ?_⟩) (by assumption) ?_
            rotate_left
            · intro w' hSw; obtain ⟨hk0, hk1, hk2, hk3⟩ := hSw.bb.cells; obtain ⟨ht0, ht1, ht2⟩ := hSw.bt.cells; dsimp only at hk0 hk1 hk2 hk3 ht0 ht1 ht2; (try clear hSw); go_simp; (try with_reducible rfl)
            (try simp only [Act.put, List.getElem_toArray, List.getElem_cons_zero, List.getElem_cons_succ, List.setIfInBounds_toArray, List.set_cons_zero, List.set_cons_succ])
            refine wpAnyH_done (by kernel_rfl) ?_ _
            refine NoPanic.normal ?_
            clear hHeld
            have HFIN := hi hU.bb
            clear hU
            go_wp2
            go_roundw
            case rel =>
              refine ⟨k + 1, by omega, by go_num, hi ?_⟩
              rw [HS'.out]
              exact HFIN.out
            case measure => simp only [intOf]; omega
          · have HS' := hi (HS1.out.trans HSX.out)
            clear HS1 HSX
            go_wp2
            refine wp_region_noPanic ?_
            refine wp_region_held_drew (S := BU w ib (io + k) Wd.heap.size id2 ⟨⟨e, lb', q', a'⟩, en, gr, p⟩ ⟨ci, cp, cg, true⟩) (by kernel_rfl) hU (fun hHeld => ?_)
            (try simp only [Array.replicate_succ, Array.replicate_zero, List.push_toArray, List.nil_append, List.cons_append])
            refine wpAnyH_take (i := 0) (v := ?_) rfl (by kernel_rfl) (by kernel_rfl) (by kernel_rfl) (fun _ _ _ h => h) (Or.inl ⟨by rfl, ?_⟩) (by assumption) ?_
            rotate_left
            · intro w' hSw; obtain ⟨hk0, hk1, hk2, hk3⟩ := hSw.bb.cells; obtain ⟨ht0, ht1, ht2⟩ := hSw.bt.cells; dsimp only at hk0 hk1 hk2 hk3 ht0 ht1 ht2; (try clear hSw); go_simp; (try with_reducible rfl)
            (try simp only [Act.put, List.getElem_toArray, List.getElem_cons_zero, List.setIfInBounds_toArray, List.set_cons_zero, List.set_cons_succ])
            refine wpAnyH_take (i := 1) (v := ?_) rfl (by kernel_rfl) (by kernel_rfl) (by kernel_rfl) (fun _ _ _ h => h) (Or.inl ⟨by rfl, ?_⟩) (by assumption) ?_
            rotate_left
            · intro w' hSw; obtain ⟨hk0, hk1, hk2, hk3⟩ := hSw.bb.cells; obtain ⟨ht0, ht1, ht2⟩ := hSw.bt.cells; dsimp only at hk0 hk1 hk2 hk3 ht0 ht1 ht2; (try clear hSw); go_simp; (try with_reducible rfl)
            (try simp only [Act.put, List.getElem_toArray, List.getElem_cons_zero, List.getElem_cons_succ, List.setIfInBounds_toArray, List.set_cons_zero, List.set_cons_succ])
            refine wpAnyH_take (i := 2) (v := ?_) rfl (by kernel_rfl) (by kernel_rfl) (by kernel_rfl) (fun _ _ _ h => h) (Or.inl ⟨by rfl, ?_⟩) (by assumption) ?_
            rotate_left
            · intro w' hSw; obtain ⟨hk0, hk1, hk2, hk3⟩ := hSw.bb.cells; obtain ⟨ht0, ht1, ht2⟩ := hSw.bt.cells; dsimp only at hk0 hk1 hk2 hk3 ht0 ht1 ht2; (try clear hSw); go_simp; (try with_reducible rfl)
            (try simp only [Act.put, List.getElem_toArray, List.getElem_cons_zero, List.getElem_cons_succ, List.setIfInBounds_toArray, List.set_cons_zero, List.set_cons_succ])
            refine wpAnyH_take (i := 3) (v := ?_) rfl (by kernel_rfl) (by kernel_rfl) (by kernel_rfl) (fun _ _ _ h => h) (Or.inl ⟨by rfl, ?_⟩) (by assumption) ?_
            rotate_left
            · intro w' hSw; obtain ⟨hk0, hk1, hk2, hk3⟩ := hSw.bb.cells; obtain ⟨ht0, ht1, ht2⟩ := hSw.bt.cells; dsimp only at hk0 hk1 hk2 hk3 ht0 ht1 ht2; (try clear hSw); go_simp; (try with_reducible rfl)
            (try simp only [Act.put, List.getElem_toArray, List.getElem_cons_zero, List.getElem_cons_succ, List.setIfInBounds_toArray, List.set_cons_zero, List.set_cons_succ])
            refine wpAnyH_take (i := 4) (v := ?_) rfl (by kernel_rfl) (by kernel_rfl) (by kernel_rfl) (fun _ _ _ h => h) (Or.inl ⟨by rfl, ?_⟩) (by assumption) ?_
            rotate_left
            · intro w' hSw; obtain ⟨hk0, hk1, hk2, hk3⟩ := hSw.bb.cells; obtain ⟨ht0, ht1, ht2⟩ := hSw.bt.cells; dsimp only at hk0 hk1 hk2 hk3 ht0 ht1 ht2; (try clear hSw); go_simp; (try with_reducible rfl)
            (try simp only [Act.put, List.getElem_toArray, List.getElem_cons_zero, List.getElem_cons_succ, List.setIfInBounds_toArray, List.set_cons_zero, List.set_cons_succ])
            refine wpAnyH_take (i := 5) (v := ?_) rfl (by kernel_rfl) (by kernel_rfl) (by kernel_rfl) (fun _ _ _ h => h) (Or.inl ⟨by rfl, ?_⟩) (by assumption) ?_
            rotate_left
            · intro w' hSw; obtain ⟨hk0, hk1, hk2, hk3⟩ := hSw.bb.cells; obtain ⟨ht0, ht1, ht2⟩ := hSw.bt.cells; dsimp only at hk0 hk1 hk2 hk3 ht0 ht1 ht2; (try clear hSw); go_simp; (try with_reducible rfl)
            (try simp only [Act.put, List.getElem_toArray, List.getElem_cons_zero, List.getElem_cons_succ, List.setIfInBounds_toArray, List.set_cons_zero, List.set_cons_succ])
            refine wpAnyH_take (i := 6) (v := ?_) rfl (by kernel_rfl) (by kernel_rfl) (by kernel_rfl) (fun _ _ _ h => h) (Or.inl ⟨by rfl, ?_⟩) (by assumption) ?_
            rotate_left
            · intro w' hSw; obtain ⟨hk0, hk1, hk2, hk3⟩ := hSw.bb.cells; obtain ⟨ht0, ht1, ht2⟩ := hSw.bt.cells; dsimp only at hk0 hk1 hk2 hk3 ht0 ht1 ht2; (try clear hSw); go_simp; (try with_reducible rfl)
            (try simp only [Act.put, List.getElem_toArray, List.getElem_cons_zero, List.getElem_cons_succ, List.setIfInBounds_toArray, List.set_cons_zero, List.set_cons_succ])
            refine wpAnyH_take (i := 7) (v := ?_) rfl (by kernel_rfl) (by kernel_rfl) (by kernel_rfl) (fun _ _ _ h => h) (Or.inl ⟨by rfl, ?_⟩) (by assumption) ?_
            rotate_left
            · intro w' hSw; obtain ⟨hk0, hk1, hk2, hk3⟩ := hSw.bb.cells; obtain ⟨ht0, ht1, ht2⟩ := hSw.bt.cells; dsimp only at hk0 hk1 hk2 hk3 ht0 ht1 ht2; (try clear hSw); go_simp; (try with_reducible rfl)
            (try simp only [Act.put, List.getElem_toArray, List.getElem_cons_zero, List.getElem_cons_succ, List.setIfInBounds_toArray, List.set_cons_zero, List.set_cons_succ])
            refine wpAnyH_take (i := 8) (v := ?_) rfl (by kernel_rfl) (by kernel_rfl) (by kernel_rfl) (fun _ _ _ h => h) (Or.inl ⟨by rfl, ?_⟩) (by assumption) ?_
            rotate_left
            · intro w' hSw; obtain ⟨hk0, hk1, hk2, hk3⟩ := hSw.bb.cells; obtain ⟨ht0, ht1, ht2⟩ := hSw.bt.cells; dsimp only at hk0 hk1 hk2 hk3 ht0 ht1 ht2; (try clear hSw); go_simp; (try with_reducible rfl)
            (try simp only [Act.put, List.getElem_toArray, List.getElem_cons_zero, List.getElem_cons_succ, List.setIfInBounds_toArray, List.set_cons_zero, List.set_cons_succ])
            refine wpAnyH_take (i := 9) (v := ?_) rfl (by kernel_rfl) (by kernel_rfl) (by kernel_rfl) (fun _ _ _ h => h) (Or.inl ⟨by rfl, ?_⟩) (by assumption) ?_
            rotate_left
            · intro w' hSw; obtain ⟨hk0, hk1, hk2, hk3⟩ := hSw.bb.cells; obtain ⟨ht0, ht1, ht2⟩ := hSw.bt.cells; dsimp only at hk0 hk1 hk2 hk3 ht0 ht1 ht2; (try clear hSw); go_simp; (try with_reducible rfl)
            (try simp only [Act.put, List.getElem_toArray, List.getElem_cons_zero, List.getElem_cons_succ, List.setIfInBounds_toArray, List.set_cons_zero, List.set_cons_succ])
            refine wpAnyH_take (i := 10) (v := ?_) rfl (by kernel_rfl) (by kernel_rfl) (by kernel_rfl) (fun _ _ _ h => h) (Or.inl ⟨by rfl, ?_⟩) (by assumption) ?_
            rotate_left
            · intro w' hSw; obtain ⟨hk0, hk1, hk2, hk3⟩ := hSw.bb.cells; obtain ⟨ht0, ht1, ht2⟩ := hSw.bt.cells; dsimp only at hk0 hk1 hk2 hk3 ht0 ht1 ht2; (try clear hSw); go_simp; (try with_reducible rfl)
            (try simp only [Act.put, List.getElem_toArray, List.getElem_cons_zero, List.getElem_cons_succ, List.setIfInBounds_toArray, List.set_cons_zero, List.set_cons_succ])
            refine wpAnyH_take (i := 11) (v := ?_) rfl (by kernel_rfl) (by kernel_rfl) (by kernel_rfl) (fun _ _ _ h => h) (Or.inl ⟨by rfl, ?_⟩) (by assumption) ?_
            rotate_left
            · intro w' hSw; obtain ⟨hk0, hk1, hk2, hk3⟩ := hSw.bb.cells; obtain ⟨ht0, ht1, ht2⟩ := hSw.bt.cells; dsimp only at hk0 hk1 hk2 hk3 ht0 ht1 ht2; (try clear hSw); go_simp; (try with_reducible rfl)
            (try simp only [Act.put, List.getElem_toArray, List.getElem_cons_zero, List.getElem_cons_succ, List.setIfInBounds_toArray, List.set_cons_zero, List.set_cons_succ])
            refine wpAnyH_take (i := 12) (v := ?_) rfl (by kernel_rfl) (by kernel_rfl) (by kernel_rfl) (fun _ _ _ h => h) (Or.inl ⟨by rfl, ?_⟩) (by assumption) ?_
            rotate_left
            · intro w' hSw; obtain ⟨hk0, hk1, hk2, hk3⟩ := hSw.bb.cells; obtain ⟨ht0, ht1, ht2⟩ := hSw.bt.cells; dsimp only at hk0 hk1 hk2 hk3 ht0 ht1 ht2; (try clear hSw); go_simp; (try with_reducible rfl)
            (try simp only [Act.put, List.getElem_toArray, List.getElem_cons_zero, List.getElem_cons_succ, List.setIfInBounds_toArray, List.set_cons_zero, List.set_cons_succ])
            refine wpAnyH_take (i := 13) (v := ?_) rfl (by kernel_rfl) (by kernel_rfl) (by kernel_rfl) (fun _ _ _ h => h) (Or.inl ⟨by rfl, ?_⟩) (by assumption) ?_
            rotate_left
            · intro w' hSw; obtain ⟨hk0, hk1, hk2, hk3⟩ := hSw.bb.cells; obtain ⟨ht0, ht1, ht2⟩ := hSw.bt.cells; dsimp only at hk0 hk1 hk2 hk3 ht0 ht1 ht2; (try clear hSw); go_simp; (try with_reducible rfl)
            (try simp only [Act.put, List.getElem_toArray, List.getElem_cons_zero, List.getElem_cons_succ, List.setIfInBounds_toArray, List.set_cons_zero, List.set_cons_succ])
            refine wpAnyH_ready (rs := [14]) (by kernel_rfl) (by simp) ?_
            refine AllReadyH.cons rfl (fun KK hKK => ?_) AllReadyH.nil
            go_simp
            ((with_reducible refine (CBF.out _).mono ?_); rintro e' w9 ⟨rfl, rfl⟩)
            (try go_simp)
            refine hKK.out _ _ hU (fun hHeld => ?_)
            clear hKK KK
            (try simp only [Act.put, List.getElem_toArray, List.getElem_cons_zero, List.getElem_cons_succ, List.setIfInBounds_toArray, List.set_cons_zero, List.set_cons_succ])
            refine wpAnyH_take (i := 15) (v := ?_) rfl (by kernel_rfl) (by kernel_rfl) (by kernel_rfl) (fun _ _ _ h => h) (Or.inl ⟨by rfl, ?_⟩) (by assumption) ?_
            rotate_left
            · intro w' hSw; obtain ⟨hk0, hk1, hk2, hk3⟩ := hSw.bb.cells; obtain ⟨ht0, ht1, ht2⟩ := hSw.bt.cells; dsimp only at hk0 hk1 hk2 hk3 ht0 ht1 ht2; (try clear hSw); go_simp; (try with_reducible rfl)
            (try simp only [Act.put, List.getElem_toArray, List.getElem_cons_zero, List.getElem_cons_succ, List.setIfInBounds_toArray, List.set_cons_zero, List.set_cons_succ])
            refine wpAnyH_done (by kernel_rfl) ?_ _
            refine NoPanic.normal ?_
            clear hHeld
            obtain ⟨W6, hW6⟩ : ∃ W6, W5.drew = W6 := ⟨_, rfl⟩
            rw [hW6] at hU ⊢
            clear hW6
            go_wp2
            have hV := hU.bt.drew
            have hVB := hU.bb.drew
            obtain ⟨W7, hW7⟩ : ∃ W7, (World.drew W6) = W7 := ⟨_, rfl⟩
            rw [hW7] at hV hVB
            refine wp_region_noPanic ?_
            refine wp_region_held_drew (S := BT ib (io + k) Wd.heap.size id2 ⟨⟨e, lb', q', a'⟩, en, gr, p⟩) (by kernel_rfl) (by rw [hW7]; exact hV) (fun hHeld => ?_)
            (try simp only [Array.replicate_succ, Array.replicate_zero, List.push_toArray, List.nil_append, List.cons_append])
            rw [hW7] at hHeld ⊢
            clear hW7
            refine wpAnyH_take (i := 0) (v := ?_) rfl (by kernel_rfl) (by kernel_rfl) (by kernel_rfl) (fun _ _ _ h => h) (Or.inl ⟨by rfl, ?_⟩) (by assumption) ?_
            rotate_left
            · intro w' hSw; obtain ⟨ht0, ht1, ht2⟩ := hSw.cells; dsimp only at ht0 ht1 ht2; (try clear hSw); go_simp; (try with_reducible rfl)
            (try simp only [Act.put, List.getElem_toArray, List.getElem_cons_zero, List.setIfInBounds_toArray, List.set_cons_zero, List.set_cons_succ])
            refine wpAnyH_take (i := 1) (v := ?_) rfl (by kernel_rfl) (by kernel_rfl) (by kernel_rfl) (fun _ _ _ h => h) (Or.inl ⟨by rfl, ?_⟩) (by assumption) ?_
            rotate_left
            · intro w' hSw; obtain ⟨ht0, ht1, ht2⟩ := hSw.cells; dsimp only at ht0 ht1 ht2; (try clear hSw); go_simp; (try with_reducible rfl)
            (try simp only [Act.put, List.getElem_toArray, List.getElem_cons_zero, List.getElem_cons_succ, List.setIfInBounds_toArray, List.set_cons_zero, List.set_cons_succ])
            refine wpAnyH_take (i := 2) (v := ?_) rfl (by kernel_rfl) (by kernel_rfl) (by kernel_rfl) (fun _ _ _ h => h) (Or.inl ⟨by rfl, ?_⟩) (by assumption) ?_
            rotate_left
            · intro w' hSw; obtain ⟨ht0, ht1, ht2⟩ := hSw.cells; dsimp only at ht0 ht1 ht2; (try clear hSw); go_simp; (try with_reducible rfl)
            (try simp only [Act.put, List.getElem_toArray, List.getElem_cons_zero, List.getElem_cons_succ, List.setIfInBounds_toArray, List.set_cons_zero, List.set_cons_succ])
            refine wpAnyH_take (i := 3) (v := ?_) rfl (by kernel_rfl) (by kernel_rfl) (by kernel_rfl) (fun _ _ _ h => h) (Or.inl ⟨by rfl, ?_⟩) (by assumption) ?_
            rotate_left
            · intro w' hSw; obtain ⟨ht0, ht1, ht2⟩ := hSw.cells; dsimp only at ht0 ht1 ht2; (try clear hSw); go_simp; (try with_reducible rfl)
            (try simp only [Act.put, List.getElem_toArray, List.getElem_cons_zero, List.getElem_cons_succ, List.setIfInBounds_toArray, List.set_cons_zero, List.set_cons_succ])
            refine wpAnyH_take (i := 4) (v := ?_) rfl (by kernel_rfl) (by kernel_rfl) (by kernel_rfl) (fun _ _ _ h => h) (Or.inl ⟨by rfl, ?_⟩) (by assumption) ?_
            rotate_left
            · intro w' hSw; obtain ⟨ht0, ht1, ht2⟩ := hSw.cells; dsimp only at ht0 ht1 ht2; (try clear hSw); go_simp; (try with_reducible rfl)
            (try simp only [Act.put, List.getElem_toArray, List.getElem_cons_zero, List.getElem_cons_succ, List.setIfInBounds_toArray, List.set_cons_zero, List.set_cons_succ])
            refine wpAnyH_take (i := 5) (v := ?_) rfl (by kernel_rfl) (by kernel_rfl) (by kernel_rfl) (fun _ _ _ h => h) (Or.inl ⟨by rfl, ?_⟩) (by assumption) ?_
            rotate_left
            · intro w' hSw; obtain ⟨ht0, ht1, ht2⟩ := hSw.cells; dsimp only at ht0 ht1 ht2; (try clear hSw); go_simp; (try with_reducible rfl)
            (try simp only [Act.put, List.getElem_toArray, List.getElem_cons_zero, List.getElem_cons_succ, List.setIfInBounds_toArray, List.set_cons_zero, List.set_cons_succ])
            refine wpAnyH_take (i := 6) (v := ?_) rfl (by kernel_rfl) (by kernel_rfl) (by kernel_rfl) (fun _ _ _ h => h) (Or.inl ⟨by rfl, ?_⟩) (by assumption) ?_
            rotate_left
            · intro w' hSw; obtain ⟨ht0, ht1, ht2⟩ := hSw.cells; dsimp only at ht0 ht1 ht2; (try clear hSw); go_simp; (try with_reducible rfl)
            (try simp only [Act.put, List.getElem_toArray, List.getElem_cons_zero, List.getElem_cons_succ, List.setIfInBounds_toArray, List.set_cons_zero, List.set_cons_succ])
            refine wpAnyH_take (i := 7) (v := ?_) rfl (by kernel_rfl) (by kernel_rfl) (by kernel_rfl) (fun _ _ _ h => h) (Or.inl ⟨by rfl, ?_⟩) (by assumption) ?_
            rotate_left
            · intro w' hSw; obtain ⟨ht0, ht1, ht2⟩ := hSw.cells; dsimp only at ht0 ht1 ht2; (try clear hSw); go_simp; (try with_reducible rfl)
            (try simp only [Act.put, List.getElem_toArray, List.getElem_cons_zero, List.getElem_cons_succ, List.setIfInBounds_toArray, List.set_cons_zero, List.set_cons_succ])
            refine wpAnyH_take (i := 8) (v := ?_) rfl (by kernel_rfl) (by kernel_rfl) (by kernel_rfl) (fun _ _ _ h => h) (Or.inl ⟨by rfl, ?_⟩) (by assumption) ?_
            rotate_left
            · intro w' hSw; obtain ⟨ht0, ht1, ht2⟩ := hSw.cells; dsimp only at ht0 ht1 ht2; (try clear hSw); go_simp; (try with_reducible rfl)
            (try simp only [Act.put, List.getElem_toArray, List.getElem_cons_zero, List.getElem_cons_succ, List.setIfInBounds_toArray, List.set_cons_zero, List.set_cons_succ])
            obtain ⟨x0, x1, x2, x3⟩ := hVB.cells
            dsimp only at x0 x1 x2 x3
            have xf := hVB.best.frozen
            have hV2 := hV.setC (B := w.heap.size + 1) hib (by omega) ⟨id2, p, gr, true⟩
            refine wpAnyH_ready (rs := [9]) (by kernel_rfl) (by simp) ?_
            refine AllReadyH.cons rfl (fun KK hKK => ?_) AllReadyH.nil
            go_simp
            refine hKK.out _ _ hV2 (fun hHeld => ?_)
            clear hKK KK
            (try simp only [Act.put, List.getElem_toArray, List.getElem_cons_zero, List.getElem_cons_succ, List.setIfInBounds_toArray, List.set_cons_zero, List.set_cons_succ])
            refine wpAnyH_done (by kernel_rfl) ?_ _
            refine NoPanic.normal ?_
            clear hHeld x0 x1 x2 x3 xf
            have HFIN := hi (hVB.put ⟨id2, p, gr, true⟩)
            clear hVB hV hV2
            go_wp2
            go_roundw
            case rel =>
              refine ⟨k + 1, by omega, by go_num, hi ?_⟩
              rw [HS'.out]
              exact HFIN.out
            case measure => simp only [intOf]; omega
      · go_simp
        refine hKK.out _ _ h1 (fun hHeld => ?_)
        clear hKK KK
        (try simp only [Act.put, List.getElem_toArray, List.getElem_cons_zero, List.getElem_cons_succ, List.setIfInBounds_toArray, List.set_cons_zero, List.set_cons_succ])
        refine wpAnyH_ready (rs := [9]) (by kernel_rfl) (by simp) ?_
        refine AllReadyH.cons rfl (fun KK hKK => ?_) AllReadyH.nil
        go_simp
        ((with_reducible refine (CA.out _ (hHW.alloc (by omega) _)).mono ?_); rintro e' w9 ⟨rfl, rfl⟩)
        (try go_simp)
        refine hKK.out _ _ h1 (fun hHeld => ?_)
        clear hKK KK
        (try simp only [Act.put, List.getElem_toArray, List.getElem_cons_zero, List.getElem_cons_succ, List.setIfInBounds_toArray, List.set_cons_zero, List.set_cons_succ])
        refine wpAnyH_take (i := 10) (v := ?_) rfl (by kernel_rfl) (by kernel_rfl) (by kernel_rfl) (fun _ _ _ h => h) (Or.inl ⟨by rfl, ?_⟩) (by assumption) ?_
        rotate_left
        · intro w' hSw; have hs1 := hSw.c1; have hs2 := hSw.ci; obtain ⟨hl0, hl1, hl2, hl3, hl4, hl5, hl6⟩ := hSw.ln; dsimp only at hl0 hl1 hl2 hl3 hl4 hl5 hl6; (try clear hSw); go_simp; (try with_reducible rfl)
        (try simp only [Act.put, List.getElem_toArray, List.getElem_cons_zero, List.getElem_cons_succ, List.setIfInBounds_toArray, List.set_cons_zero, List.set_cons_succ])
        refine wpAnyH_take (i := 11) (v := ?_) rfl (by kernel_rfl) (by kernel_rfl) (by kernel_rfl) (fun _ _ _ h => h) (Or.inl ⟨by rfl, ?_⟩) (by assumption) ?_
        rotate_left
        · intro w' hSw; have hs1 := hSw.c1; have hs2 := hSw.ci; obtain ⟨hl0, hl1, hl2, hl3, hl4, hl5, hl6⟩ := hSw.ln; dsimp only at hl0 hl1 hl2 hl3 hl4 hl5 hl6; (try clear hSw); go_simp; (try with_reducible rfl)
        (try simp only [Act.put, List.getElem_toArray, List.getElem_cons_zero, List.getElem_cons_succ, List.setIfInBounds_toArray, List.set_cons_zero, List.set_cons_succ])
        refine wpAnyH_ready (rs := [13]) (by kernel_rfl) (by simp) ?_
        refine AllReadyH.cons rfl (fun KK hKK => ?_) AllReadyH.nil
        go_simp
        refine hKK.out _ _ h2 (fun hHeld => ?_)
        clear hKK KK
        (try simp only [Act.put, List.getElem_toArray, List.getElem_cons_zero, List.getElem_cons_succ, List.setIfInBounds_toArray, List.set_cons_zero, List.set_cons_succ])
        refine wpAnyH_done (by kernel_rfl) ?_ _
        refine NoPanic.normal ?_
        clear hHeld h1 h2 hBS CA
        obtain ⟨W5, hW5⟩ : ∃ W5, Wd.alloc (.cells #[.bool e, .bool lb', .bool q', .bool a', .bool en, .int .i64 gr, .int .i64 p] 32) = W5 := ⟨_, rfl⟩
        rw [hW5] at H1 HT1 ⊢
        clear hW5 hbL
        obtain ⟨c, hc⟩ : ∃ c, bestC (xs.take k) = c := ⟨_, rfl⟩
        rw [hc] at H1 HS1
        clear hc
        obtain ⟨ci, cp, cg, cis⟩ := c
        cases cis
        · have hU : BU w ib (io + k) Wd.heap.size id2 ⟨⟨e, lb', q', a'⟩, en, gr, p⟩ ⟨ci, cp, cg, false⟩ W5.drew := ⟨HT1.out.drew, H1.out.drew⟩
          have HS' := hi (HS1.out.trans (show stepC _ _ = (⟨id2, p, gr, true⟩ : Cd) by simp [stepC, candV]))
          clear HS1
          go_wp2
          refine wp_region_noPanic ?_
          refine wp_region_held_drew (S := BU w ib (io + k) Wd.heap.size id2 ⟨⟨e, lb', q', a'⟩, en, gr, p⟩ ⟨ci, cp, cg, false⟩) (by kernel_rfl) hU (fun hHeld => ?_)
          (try simp only [Array.replicate_succ, Array.replicate_zero, List.push_toArray, List.nil_append, List.cons_append])
          refine wpAnyH_take (i := 0) (v := ?_) rfl (by kernel_rfl) (by kernel_rfl) (by kernel_rfl) (fun _ _ _ h => h) (Or.inl ⟨by rfl, ?_⟩) (by assumption) ?_
          rotate_left
          · intro w' hSw; obtain ⟨hk0, hk1, hk2, hk3⟩ := hSw.bb.cells; obtain ⟨ht0, ht1, ht2⟩ := hSw.bt.cells; dsimp only at hk0 hk1 hk2 hk3 ht0 ht1 ht2; (try clear hSw); go_simp; (try with_reducible rfl)
          (try simp only [Act.put, List.getElem_toArray, List.getElem_cons_zero, List.setIfInBounds_toArray, List.set_cons_zero, List.set_cons_succ])
          refine wpAnyH_take (i := 1) (v := ?_) rfl (by kernel_rfl) (by kernel_rfl) (by kernel_rfl) (fun _ _ _ h => h) (Or.inl ⟨by rfl, ?_⟩) (by assumption) ?_
          rotate_left
          · intro w' hSw; obtain ⟨hk0, hk1, hk2, hk3⟩ := hSw.bb.cells; obtain ⟨ht0, ht1, ht2⟩ := hSw.bt.cells; dsimp only at hk0 hk1 hk2 hk3 ht0 ht1 ht2; (try clear hSw); go_simp; (try with_reducible rfl)
          (try simp only [Act.put, List.getElem_toArray, List.getElem_cons_zero, List.getElem_cons_succ, List.setIfInBounds_toArray, List.set_cons_zero, List.set_cons_succ])
          refine wpAnyH_take (i := 2) (v := ?_) rfl (by kernel_rfl) (by kernel_rfl) (by kernel_rfl) (fun _ _ _ h => h) (Or.inl ⟨by rfl, ?_⟩) (by assumption) ?_
          rotate_left
          · intro w' hSw; obtain ⟨hk0, hk1, hk2, hk3⟩ := hSw.bb.cells; obtain ⟨ht0, ht1, ht2⟩ := hSw.bt.cells; dsimp only at hk0 hk1 hk2 hk3 ht0 ht1 ht2; (try clear hSw); go_simp; (try with_reducible rfl)
          (try simp only [Act.put, List.getElem_toArray, List.getElem_cons_zero, List.getElem_cons_succ, List.setIfInBounds_toArray, List.set_cons_zero, List.set_cons_succ])
          refine wpAnyH_take (i := 3) (v := ?_) rfl (by kernel_rfl) (by kernel_rfl) (by kernel_rfl) (fun _ _ _ h => h) (Or.inl ⟨by rfl, ?_⟩) (by assumption) ?_
          rotate_left
          · intro w' hSw; obtain ⟨hk0, hk1, hk2, hk3⟩ := hSw.bb.cells; obtain ⟨ht0, ht1, ht2⟩ := hSw.bt.cells; dsimp only at hk0 hk1 hk2 hk3 ht0 ht1 ht2; (try clear hSw); go_simp; (try with_reducible rfl)
          (try simp only [Act.put, List.getElem_toArray, List.getElem_cons_zero, List.getElem_cons_succ, List.setIfInBounds_toArray, List.set_cons_zero, List.set_cons_succ])
          refine wpAnyH_take (i := 4) (v := undef) rfl (by kernel_rfl) (by kernel_rfl) (by kernel_rfl) (fun _ _ _ h => h) (Or.inr ⟨by rfl, rfl⟩) (by assumption) ?_
          (try simp only [Act.put, List.getElem_toArray, List.getElem_cons_zero, List.getElem_cons_succ, List.setIfInBounds_toArray, List.set_cons_zero, List.set_cons_succ])
          refine wpAnyH_take (i := 5) (v := undef) rfl (by kernel_rfl) (by kernel_rfl) (by kernel_rfl) (fun _ _ _ h => h) (Or.inr ⟨by rfl, rfl⟩) (by assumption) ?_
          (try simp only [Act.put, List.getElem_toArray, List.getElem_cons_zero, List.getElem_cons_succ, List.setIfInBounds_toArray, List.set_cons_zero, List.set_cons_succ])
          refine wpAnyH_take (i := 6) (v := undef) rfl (by kernel_rfl) (by kernel_rfl) (by kernel_rfl) (fun _ _ _ h => h) (Or.inr ⟨by rfl, rfl⟩) (by assumption) ?_
          (try simp only [Act.put, List.getElem_toArray, List.getElem_cons_zero, List.getElem_cons_succ, List.setIfInBounds_toArray, List.set_cons_zero, List.set_cons_succ])
          refine wpAnyH_take (i := 7) (v := undef) rfl (by kernel_rfl) (by kernel_rfl) (by kernel_rfl) (fun _ _ _ h => h) (Or.inr ⟨by rfl, rfl⟩) (by assumption) ?_
          (try simp only [Act.put, List.getElem_toArray, List.getElem_cons_zero, List.getElem_cons_succ, List.setIfInBounds_toArray, List.set_cons_zero, List.set_cons_succ])
          refine wpAnyH_take (i := 8) (v := undef) rfl (by kernel_rfl) (by kernel_rfl) (by kernel_rfl) (fun _ _ _ h => h) (Or.inr ⟨by rfl, rfl⟩) (by assumption) ?_
          (try simp only [Act.put, List.getElem_toArray, List.getElem_cons_zero, List.getElem_cons_succ, List.setIfInBounds_toArray, List.set_cons_zero, List.set_cons_succ])
          refine wpAnyH_take (i := 9) (v := undef) rfl (by kernel_rfl) (by kernel_rfl) (by kernel_rfl) (fun _ _ _ h => h) (Or.inr ⟨by rfl, rfl⟩) (by assumption) ?_
          (try simp only [Act.put, List.getElem_toArray, List.getElem_cons_zero, List.getElem_cons_succ, List.setIfInBounds_toArray, List.set_cons_zero, List.set_cons_succ])
          refine wpAnyH_take (i := 10) (v := undef) rfl (by kernel_rfl) (by kernel_rfl) (by kernel_rfl) (fun _ _ _ h => h) (Or.inr ⟨by rfl, rfl⟩) (by assumption) ?_
          (try simp only [Act.put, List.getElem_toArray, List.getElem_cons_zero, List.getElem_cons_succ, List.setIfInBounds_toArray, List.set_cons_zero, List.set_cons_succ])
          refine wpAnyH_take (i := 11) (v := undef) rfl (by kernel_rfl) (by kernel_rfl) (by kernel_rfl) (fun _ _ _ h => h) (Or.inr ⟨by rfl, rfl⟩) (by assumption) ?_
          (try simp only [Act.put, List.getElem_toArray, List.getElem_cons_zero, List.getElem_cons_succ, List.setIfInBounds_toArray, List.set_cons_zero, List.set_cons_succ])
          refine wpAnyH_take (i := 12) (v := undef) rfl (by kernel_rfl) (by kernel_rfl) (by kernel_rfl) (fun _ _ _ h => h) (Or.inr ⟨by rfl, rfl⟩) (by assumption) ?_
          (try simp only [Act.put, List.getElem_toArray, List.getElem_cons_zero, List.getElem_cons_succ, List.setIfInBounds_toArray, List.set_cons_zero, List.set_cons_succ])
          refine wpAnyH_take (i := 13) (v := undef) rfl (by kernel_rfl) (by kernel_rfl) (by kernel_rfl) (fun _ _ _ h => h) (Or.inr ⟨by rfl, rfl⟩) (by assumption) ?_
          (try simp only [Act.put, List.getElem_toArray, List.getElem_cons_zero, List.getElem_cons_succ, List.setIfInBounds_toArray, List.set_cons_zero, List.set_cons_succ])
          refine wpAnyH_take (i := 14) (v := undef) rfl (by kernel_rfl) (by kernel_rfl) (by kernel_rfl) (fun _ _ _ h => h) (Or.inr ⟨by rfl, rfl⟩) (by assumption) ?_
          (try simp only [Act.put, List.getElem_toArray, List.getElem_cons_zero, List.getElem_cons_succ, List.setIfInBounds_toArray, List.set_cons_zero, List.set_cons_succ])
          refine wpAnyH_take (i := 15) (v := ?_) rfl (by kernel_rfl) (by kernel_rfl) (by kernel_rfl) (fun _ _ _ h => h) (Or.inl ⟨by rfl, ?_⟩) (by assumption) ?_
          rotate_left
          · intro w' hSw; obtain ⟨hk0, hk1, hk2, hk3⟩ := hSw.bb.cells; obtain ⟨ht0, ht1, ht2⟩ := hSw.bt.cells; dsimp only at hk0 hk1 hk2 hk3 ht0 ht1 ht2; (try clear hSw); go_simp; (try with_reducible rfl)
          (try simp only [Act.put, List.getElem_toArray, List.getElem_cons_zero, List.getElem_cons_succ, List.setIfInBounds_toArray, List.set_cons_zero, List.set_cons_succ])
          refine wpAnyH_done (by kernel_rfl) ?_ _
          refine NoPanic.normal ?_
          clear hHeld
          obtain ⟨W6, hW6⟩ : ∃ W6, W5.drew = W6 := ⟨_, rfl⟩
          rw [hW6] at hU ⊢
          clear hW6
          go_wp2
          have hV := hU.bt.drew
          have hVB := hU.bb.drew
          obtain ⟨W7, hW7⟩ : ∃ W7, (World.drew W6) = W7 := ⟨_, rfl⟩
          rw [hW7] at hV hVB
          refine wp_region_noPanic ?_
          refine wp_region_held_drew (S := BT ib (io + k) Wd.heap.size id2 ⟨⟨e, lb', q', a'⟩, en, gr, p⟩) (by kernel_rfl) (by rw [hW7]; exact hV) (fun hHeld => ?_)
          (try simp only [Array.replicate_succ, Array.replicate_zero, List.push_toArray, List.nil_append, List.cons_append])
          rw [hW7] at hHeld ⊢
          clear hW7
          refine wpAnyH_take (i := 0) (v := ?_) rfl (by kernel_rfl) (by kernel_rfl) (by kernel_rfl) (fun _ _ _ h => h) (Or.inl ⟨by rfl, ?_⟩) (by assumption) ?_
          rotate_left
          · intro w' hSw; obtain ⟨ht0, ht1, ht2⟩ := hSw.cells; dsimp only at ht0 ht1 ht2; (try clear hSw); go_simp; (try with_reducible rfl)
          (try simp only [Act.put, List.getElem_toArray, List.getElem_cons_zero, List.setIfInBounds_toArray, List.set_cons_zero, List.set_cons_succ])
          refine wpAnyH_take (i := 1) (v := ?_) rfl (by kernel_rfl) (by kernel_rfl) (by kernel_rfl) (fun _ _ _ h => h) (Or.inl ⟨by rfl, ?_⟩) (by assumption) ?_
          rotate_left
          · intro w' hSw; obtain ⟨ht0, ht1, ht2⟩ := hSw.cells; dsimp only at ht0 ht1 ht2; (try clear hSw); go_simp; (try with_reducible rfl)
          (try simp only [Act.put, List.getElem_toArray, List.getElem_cons_zero, List.getElem_cons_succ, List.setIfInBounds_toArray, List.set_cons_zero, List.set_cons_succ])
          refine wpAnyH_take (i := 2) (v := ?_) rfl (by kernel_rfl) (by kernel_rfl) (by kernel_rfl) (fun _ _ _ h => h) (Or.inl ⟨by rfl, ?_⟩) (by assumption) ?_
          rotate_left
          · intro w' hSw; obtain ⟨ht0, ht1, ht2⟩ := hSw.cells; dsimp only at ht0 ht1 ht2; (try clear hSw); go_simp; (try with_reducible rfl)
          (try simp only [Act.put, List.getElem_toArray, List.getElem_cons_zero, List.getElem_cons_succ, List.setIfInBounds_toArray, List.set_cons_zero, List.set_cons_succ])
          refine wpAnyH_take (i := 3) (v := ?_) rfl (by kernel_rfl) (by kernel_rfl) (by kernel_rfl) (fun _ _ _ h => h) (Or.inl ⟨by rfl, ?_⟩) (by assumption) ?_
          rotate_left
          · intro w' hSw; obtain ⟨ht0, ht1, ht2⟩ := hSw.cells; dsimp only at ht0 ht1 ht2; (try clear hSw); go_simp; (try with_reducible rfl)
          (try simp only [Act.put, List.getElem_toArray, List.getElem_cons_zero, List.getElem_cons_succ, List.setIfInBounds_toArray, List.set_cons_zero, List.set_cons_succ])
          refine wpAnyH_take (i := 4) (v := ?_) rfl (by kernel_rfl) (by kernel_rfl) (by kernel_rfl) (fun _ _ _ h => h) (Or.inl ⟨by rfl, ?_⟩) (by assumption) ?_
          rotate_left
          · intro w' hSw; obtain ⟨ht0, ht1, ht2⟩ := hSw.cells; dsimp only at ht0 ht1 ht2; (try clear hSw); go_simp; (try with_reducible rfl)
          (try simp only [Act.put, List.getElem_toArray, List.getElem_cons_zero, List.getElem_cons_succ, List.setIfInBounds_toArray, List.set_cons_zero, List.set_cons_succ])
          refine wpAnyH_take (i := 5) (v := ?_) rfl (by kernel_rfl) (by kernel_rfl) (by kernel_rfl) (fun _ _ _ h => h) (Or.inl ⟨by rfl, ?_⟩) (by assumption) ?_
          rotate_left
          · intro w' hSw; obtain ⟨ht0, ht1, ht2⟩ := hSw.cells; dsimp only at ht0 ht1 ht2; (try clear hSw); go_simp; (try with_reducible rfl)
          (try simp only [Act.put, List.getElem_toArray, List.getElem_cons_zero, List.getElem_cons_succ, List.setIfInBounds_toArray, List.set_cons_zero, List.set_cons_succ])
          refine wpAnyH_take (i := 6) (v := ?_) rfl (by kernel_rfl) (by kernel_rfl) (by kernel_rfl) (fun _ _ _ h => h) (Or.inl ⟨by rfl, ?_⟩) (by assumption) ?_
          rotate_left
          · intro w' hSw; obtain ⟨ht0, ht1, ht2⟩ := hSw.cells; dsimp only at ht0 ht1 ht2; (try clear hSw); go_simp; (try with_reducible rfl)
          (try simp only [Act.put, List.getElem_toArray, List.getElem_cons_zero, List.getElem_cons_succ, List.setIfInBounds_toArray, List.set_cons_zero, List.set_cons_succ])
          refine wpAnyH_take (i := 7) (v := ?_) rfl (by kernel_rfl) (by kernel_rfl) (by kernel_rfl) (fun _ _ _ h => h) (Or.inl ⟨by rfl, ?_⟩) (by assumption) ?_
          rotate_left
          · intro w' hSw; obtain ⟨ht0, ht1, ht2⟩ := hSw.cells; dsimp only at ht0 ht1 ht2; (try clear hSw); go_simp; (try with_reducible rfl)
          (try simp only [Act.put, List.getElem_toArray, List.getElem_cons_zero, List.getElem_cons_succ, List.setIfInBounds_toArray, List.set_cons_zero, List.set_cons_succ])
          refine wpAnyH_take (i := 8) (v := ?_) rfl (by kernel_rfl) (by kernel_rfl) (by kernel_rfl) (fun _ _ _ h => h) (Or.inl ⟨by rfl, ?_⟩) (by assumption) ?_
          rotate_left
          · intro w' hSw; obtain ⟨ht0, ht1, ht2⟩ := hSw.cells; dsimp only at ht0 ht1 ht2; (try clear hSw); go_simp; (try with_reducible rfl)
          (try simp only [Act.put, List.getElem_toArray, List.getElem_cons_zero, List.getElem_cons_succ, List.setIfInBounds_toArray, List.set_cons_zero, List.set_cons_succ])
          obtain ⟨x0, x1, x2, x3⟩ := hVB.cells
          dsimp only at x0 x1 x2 x3
          have xf := hVB.best.frozen
          have hV2 := hV.setC (B := w.heap.size + 1) hib (by omega) ⟨id2, p, gr, true⟩
          refine wpAnyH_ready (rs := [9]) (by kernel_rfl) (by simp) ?_
          refine AllReadyH.cons rfl (fun KK hKK => ?_) AllReadyH.nil
          go_simp
          refine hKK.out _ _ hV2 (fun hHeld => ?_)
          clear hKK KK
          (try simp only [Act.put, List.getElem_toArray, List.getElem_cons_zero, List.getElem_cons_succ, List.setIfInBounds_toArray, List.set_cons_zero, List.set_cons_succ])
          refine wpAnyH_done (by kernel_rfl) ?_ _
          refine NoPanic.normal ?_
          clear hHeld x0 x1 x2 x3 xf
          have HFIN := hi (hVB.put ⟨id2, p, gr, true⟩)
          clear hVB hV hV2
          go_wp2
          go_roundw
          case rel =>
            refine ⟨k + 1, by omega, by go_num, hi ?_⟩
            rw [HS'.out]
            exact HFIN.out
          case measure => simp only [intOf]; omega
        · have hU : BU w ib (io + k) Wd.heap.size id2 ⟨⟨e, lb', q', a'⟩, en, gr, p⟩ ⟨ci, cp, cg, true⟩ W5.drew := ⟨HT1.out.drew, H1.out.drew⟩
          have CBF := hi (fun W => refBefore_any p id2 cp ci W)
          obtain ⟨rb, hrb⟩ : ∃ rb, beforeB p id2 cp ci = rb := ⟨_, rfl⟩
          have HSX := hi (show stepC ⟨ci, cp, cg, true⟩ (id2, (⟨⟨e, lb', q', a'⟩, en, gr, p⟩ |> fun l => (⟨l, s⟩ : En))) = if rb then (⟨id2, p, gr, true⟩ : Cd) else ⟨ci, cp, cg, true⟩ by rw [← hrb]; rfl)
          rw [hrb] at CBF
          clear hrb
          cases rb
          · have HS' := hi (HS1.out.trans HSX.out)
            clear HS1 HSX
            go_wp2
            refine wp_region_noPanic ?_
            refine wp_region_held_drew (S := BU w ib (io + k) Wd.heap.size id2 ⟨⟨e, lb', q', a'⟩, en, gr, p⟩ ⟨ci, cp, cg, true⟩) (by kernel_rfl) hU (fun hHeld => ?_)
            (try simp only [Array.replicate_succ, Array.replicate_zero, List.push_toArray, List.nil_append, List.cons_append])
            refine wpAnyH_take (i := 0) (v := ?_) rfl (by kernel_rfl) (by kernel_rfl) (by kernel_rfl) (fun _ _ _ h => h) (Or.inl ⟨by rfl, ?_⟩) (by assumption) ?_
            rotate_left
            · intro w' hSw; obtain ⟨hk0, hk1, hk2, hk3⟩ := hSw.bb.cells; obtain ⟨ht0, ht1, ht2⟩ := hSw.bt.cells; dsimp only at hk0 hk1 hk2 hk3 ht0 ht1 ht2; (try clear hSw); go_simp; (try with_reducible rfl)
            (try simp only [Act.put, List.getElem_toArray, List.getElem_cons_zero, List.setIfInBounds_toArray, List.set_cons_zero, List.set_cons_succ])
            refine wpAnyH_take (i := 1) (v := ?_) rfl (by kernel_rfl) (by kernel_rfl) (by kernel_rfl) (fun _ _ _ h => h) (Or.inl ⟨by rfl, ?_⟩) (by assumption) ?_
            rotate_left
            · intro w' hSw; obtain ⟨hk0, hk1, hk2, hk3⟩ := hSw.bb.cells; obtain ⟨ht0, ht1, ht2⟩ := hSw.bt.cells; dsimp only at hk0 hk1 hk2 hk3 ht0 ht1 ht2; (try clear hSw); go_simp; (try with_reducible rfl)
            (try simp only [Act.put, List.getElem_toArray, List.getElem_cons_zero, List.getElem_cons_succ, List.setIfInBounds_toArray, List.set_cons_zero, List.set_cons_succ])
            refine wpAnyH_take (i := 2) (v := ?_) rfl (by kernel_rfl) (by kernel_rfl) (by kernel_rfl) (fun _ _ _ h => h) (Or.inl ⟨by rfl, ?_⟩) (by assumption) ?_
            rotate_left
            · intro w' hSw; obtain ⟨hk0, hk1, hk2, hk3⟩ := hSw.bb.cells; obtain ⟨ht0, ht1, ht2⟩ := hSw.bt.cells; dsimp only at hk0 hk1 hk2 hk3 ht0 ht1 ht2; (try clear hSw); go_simp; (try with_reducible rfl)
            (try simp only [Act.put, List.getElem_toArray, List.getElem_cons_zero, List.getElem_cons_succ, List.setIfInBounds_toArray, List.set_cons_zero, List.set_cons_succ])
            refine wpAnyH_take (i := 3) (v := ?_) rfl (by kernel_rfl) (by kernel_rfl) (by kernel_rfl) (fun _ _ _ h => h) (Or.inl ⟨by rfl, ?_⟩) (by assumption) ?_
            rotate_left
            · intro w' hSw; obtain ⟨hk0, hk1, hk2, hk3⟩ := hSw.bb.cells; obtain ⟨ht0, ht1, ht2⟩ := hSw.bt.cells; dsimp only at hk0 hk1 hk2 hk3 ht0 ht1 ht2; (try clear hSw); go_simp; (try with_reducible rfl)
            (try simp only [Act.put, List.getElem_toArray, List.getElem_cons_zero, List.getElem_cons_succ, List.setIfInBounds_toArray, List.set_cons_zero, List.set_cons_succ])
            refine wpAnyH_take (i := 4) (v := ?_) rfl (by kernel_rfl) (by kernel_rfl) (by kernel_rfl) (fun _ _ _ h => h) (Or.inl ⟨by rfl, ?_⟩) (by assumption) ?_
            rotate_left
            · intro w' hSw; obtain ⟨hk0, hk1, hk2, hk3⟩ := hSw.bb.cells; obtain ⟨ht0, ht1, ht2⟩ := hSw.bt.cells; dsimp only at hk0 hk1 hk2 hk3 ht0 ht1 ht2; (try clear hSw); go_simp; (try with_reducible rfl)
            (try simp only [Act.put, List.getElem_toArray, List.getElem_cons_zero, List.getElem_cons_succ, List.setIfInBounds_toArray, List.set_cons_zero, List.set_cons_succ])
            refine wpAnyH_take (i := 5) (v := ?_) rfl (by kernel_rfl) (by kernel_rfl) (by kernel_rfl) (fun _ _ _ h => h) (Or.inl ⟨by rfl, ?_⟩) (by assumption) ?_
            rotate_left
            · intro w' hSw; obtain ⟨hk0, hk1, hk2, hk3⟩ := hSw.bb.cells; obtain ⟨ht0, ht1, ht2⟩ := hSw.bt.cells; dsimp only at hk0 hk1 hk2 hk3 ht0 ht1 ht2; (try clear hSw); go_simp; (try with_reducible rfl)
            (try simp only [Act.put, List.getElem_toArray, List.getElem_cons_zero, List.getElem_cons_succ, List.setIfInBounds_toArray, List.set_cons_zero, List.set_cons_succ])
            refine wpAnyH_take (i := 6) (v := ?_) rfl (by kernel_rfl) (by kernel_rfl) (by kernel_rfl) (fun _ _ _ h => h) (Or.inl ⟨by rfl, ?_⟩) (by assumption) ?_
            rotate_left
            · intro w' hSw; obtain ⟨hk0, hk1, hk2, hk3⟩ := hSw.bb.cells; obtain ⟨ht0, ht1, ht2⟩ := hSw.bt.cells; dsimp only at hk0 hk1 hk2 hk3 ht0 ht1 ht2; (try clear hSw); go_simp; (try with_reducible rfl)
            (try simp only [Act.put, List.getElem_toArray, List.getElem_cons_zero, List.getElem_cons_succ, List.setIfInBounds_toArray, List.set_cons_zero, List.set_cons_succ])
            refine wpAnyH_take (i := 7) (v := ?_) rfl (by kernel_rfl) (by kernel_rfl) (by kernel_rfl) (fun _ _ _ h => h) (Or.inl ⟨by rfl, ?_⟩) (by assumption) ?_
            rotate_left
            · intro w' hSw; obtain ⟨hk0, hk1, hk2, hk3⟩ := hSw.bb.cells; obtain ⟨ht0, ht1, ht2⟩ := hSw.bt.cells; dsimp only at hk0 hk1 hk2 hk3 ht0 ht1 ht2; (try clear hSw); go_simp; (try with_reducible rfl)
            (try simp only [Act.put, List.getElem_toArray, List.getElem_cons_zero, List.getElem_cons_succ, List.setIfInBounds_toArray, List.set_cons_zero, List.set_cons_succ])
            refine wpAnyH_take (i := 8) (v := ?_) rfl (by kernel_rfl) (by kernel_rfl) (by kernel_rfl) (fun _ _ _ h => h) (Or.inl ⟨by rfl, ?_⟩) (by assumption) ?_
            rotate_left
            · intro w' hSw; obtain ⟨hk0, hk1, hk2, hk3⟩ := hSw.bb.cells; obtain ⟨ht0, ht1, ht2⟩ := hSw.bt.cells; dsimp only at hk0 hk1 hk2 hk3 ht0 ht1 ht2; (try clear hSw); go_simp; (try with_reducible rfl)
            (try simp only [Act.put, List.getElem_toArray, List.getElem_cons_zero, List.getElem_cons_succ, List.setIfInBounds_toArray, List.set_cons_zero, List.set_cons_succ])
            refine wpAnyH_take (i := 9) (v := ?_) rfl (by kernel_rfl) (by kernel_rfl) (by kernel_rfl) (fun _ _ _ h => h) (Or.inl ⟨by rfl, ?_⟩) (by assumption) ?_
            rotate_left
            · intro w' hSw; obtain ⟨hk0, hk1, hk2, hk3⟩ := hSw.bb.cells; obtain ⟨ht0, ht1, ht2⟩ := hSw.bt.cells; dsimp only at hk0 hk1 hk2 hk3 ht0 ht1 ht2; (try clear hSw); go_simp; (try with_reducible rfl)
            (try simp only [Act.put, List.getElem_toArray, List.getElem_cons_zero, List.getElem_cons_succ, List.setIfInBounds_toArray, List.set_cons_zero, List.set_cons_succ])
            refine wpAnyH_take (i := 10) (v := ?_) rfl (by kernel_rfl) (by kernel_rfl) (by kernel_rfl) (fun _ _ _ h => h) (Or.inl ⟨by rfl, ?_⟩) (by assumption) ?_
            rotate_left
            · intro w' hSw; obtain ⟨hk0, hk1, hk2, hk3⟩ := hSw.bb.cells; obtain ⟨ht0, ht1, ht2⟩ := hSw.bt.cells; dsimp only at hk0 hk1 hk2 hk3 ht0 ht1 ht2; (try clear hSw); go_simp; (try with_reducible rfl)
            (try simp only [Act.put, List.getElem_toArray, List.getElem_cons_zero, List.getElem_cons_succ, List.setIfInBounds_toArray, List.set_cons_zero, List.set_cons_succ])
            refine wpAnyH_take (i := 11) (v := ?_) rfl (by kernel_rfl) (by kernel_rfl) (by kernel_rfl) (fun _ _ _ h => h) (Or.inl ⟨by rfl, ?_⟩) (by assumption) ?_
            rotate_left
            · intro w' hSw; obtain ⟨hk0, hk1, hk2, hk3⟩ := hSw.bb.cells; obtain ⟨ht0, ht1, ht2⟩ := hSw.bt.cells; dsimp only at hk0 hk1 hk2 hk3 ht0 ht1 ht2; (try clear hSw); go_simp; (try with_reducible rfl)
            (try simp only [Act.put, List.getElem_toArray, List.getElem_cons_zero, List.getElem_cons_succ, List.setIfInBounds_toArray, List.set_cons_zero, List.set_cons_succ])
            refine wpAnyH_take (i := 12) (v := ?_) rfl (by kernel_rfl) (by kernel_rfl) (by kernel_rfl) (fun _ _ _ h => h) (Or.inl ⟨by rfl, ?_⟩) (by assumption) ?_
            rotate_left
            · intro w' hSw; obtain ⟨hk0, hk1, hk2, hk3⟩ := hSw.bb.cells; obtain ⟨ht0, ht1, ht2⟩ := hSw.bt.cells; dsimp only at hk0 hk1 hk2 hk3 ht0 ht1 ht2; (try clear hSw); go_simp; (try with_reducible rfl)
            (try simp only [Act.put, List.getElem_toArray, List.getElem_cons_zero, List.getElem_cons_succ, List.setIfInBounds_toArray, List.set_cons_zero, List.set_cons_succ])
            refine wpAnyH_take (i := 13) (v := ?_) rfl (by kernel_rfl) (by kernel_rfl) (by kernel_rfl) (fun _ _ _ h => h) (Or.inl ⟨by rfl, ?_⟩) (by assumption) ?_
            rotate_left
            · intro w' hSw; obtain ⟨hk0, hk1, hk2, hk3⟩ := hSw.bb.cells; obtain ⟨ht0, ht1, ht2⟩ := hSw.bt.cells; dsimp only at hk0 hk1 hk2 hk3 ht0 ht1 ht2; (try clear hSw); go_simp; (try with_reducible rfl)
            (try simp only [Act.put, List.getElem_toArray, List.getElem_cons_zero, List.getElem_cons_succ, List.setIfInBounds_toArray, List.set_cons_zero, List.set_cons_succ])
            refine wpAnyH_ready (rs := [14]) (by kernel_rfl) (by simp) ?_
            refine AllReadyH.cons rfl (fun KK hKK => ?_) AllReadyH.nil
            go_simp
            ((with_reducible refine (CBF.out _).mono ?_); rintro e' w9 ⟨rfl, rfl⟩)
            (try go_simp)
            refine hKK.out _ _ hU (fun hHeld => ?_)
            clear hKK KK
            (try simp only [Act.put, List.getElem_toArray, List.getElem_cons_zero, List.getElem_cons_succ, List.setIfInBounds_toArray, List.set_cons_zero, List.set_cons_succ])
            refine wpAnyH_take (i := 15) (v := ?_) rfl (by kernel_rfl) (by kernel_rfl) (by kernel_rfl) (fun _ _ _ h => h) (Or.inl ⟨by rfl, ?_⟩) (by assumption) ?_
            rotate_left
            · intro w' hSw; obtain ⟨hk0, hk1, hk2, hk3⟩ := hSw.bb.cells; obtain ⟨ht0, ht1, ht2⟩ := hSw.bt.cells; dsimp only at hk0 hk1 hk2 hk3 ht0 ht1 ht2; (try clear hSw); go_simp; (try with_reducible rfl)
            (try simp only [Act.put, List.getElem_toArray, List.getElem_cons_zero, List.getElem_cons_succ, List.setIfInBounds_toArray, List.set_cons_zero, List.set_cons_succ])
            refine wpAnyH_done (by kernel_rfl) ?_ _
            refine NoPanic.normal ?_
            clear hHeld
            have HFIN := hi hU.bb
            clear hU
            go_wp2
            go_roundw
            case rel =>
              refine ⟨k + 1, by omega, by go_num, hi ?_⟩
              rw [HS'.out]
              exact HFIN.out
            case measure => simp only [intOf]; omega
          · have HS' := hi (HS1.out.trans HSX.out)
            clear HS1 HSX
            go_wp2
            refine wp_region_noPanic ?_
            refine wp_region_held_drew (S := BU w ib (io + k) Wd.heap.size id2 ⟨⟨e, lb', q', a'⟩, en, gr, p⟩ ⟨ci, cp, cg, true⟩) (by kernel_rfl) hU (fun hHeld => ?_)
            (try simp only [Array.replicate_succ, Array.replicate_zero, List.push_toArray, List.nil_append, List.cons_append])
            refine wpAnyH_take (i := 0) (v := ?_) rfl (by kernel_rfl) (by kernel_rfl) (by kernel_rfl) (fun _ _ _ h => h) (Or.inl ⟨by rfl, ?_⟩) (by assumption) ?_
            rotate_left
            · intro w' hSw; obtain ⟨hk0, hk1, hk2, hk3⟩ := hSw.bb.cells; obtain ⟨ht0, ht1, ht2⟩ := hSw.bt.cells; dsimp only at hk0 hk1 hk2 hk3 ht0 ht1 ht2; (try clear hSw); go_simp; (try with_reducible rfl)
            (try simp only [Act.put, List.getElem_toArray, List.getElem_cons_zero, List.setIfInBounds_toArray, List.set_cons_zero, List.set_cons_succ])
            refine wpAnyH_take (i := 1) (v := ?_) rfl (by kernel_rfl) (by kernel_rfl) (by kernel_rfl) (fun _ _ _ h => h) (Or.inl ⟨by rfl, ?_⟩) (by assumption) ?_
            rotate_left
            · intro w' hSw; obtain ⟨hk0, hk1, hk2, hk3⟩ := hSw.bb.cells; obtain ⟨ht0, ht1, ht2⟩ := hSw.bt.cells; dsimp only at hk0 hk1 hk2 hk3 ht0 ht1 ht2; (try clear hSw); go_simp; (try with_reducible rfl)
            (try simp only [Act.put, List.getElem_toArray, List.getElem_cons_zero, List.getElem_cons_succ, List.setIfInBounds_toArray, List.set_cons_zero, List.set_cons_succ])
            refine wpAnyH_take (i := 2) (v := ?_) rfl (by kernel_rfl) (by kernel_rfl) (by kernel_rfl) (fun _ _ _ h => h) (Or.inl ⟨by rfl, ?_⟩) (by assumption) ?_
            rotate_left
            · intro w' hSw; obtain ⟨hk0, hk1, hk2, hk3⟩ := hSw.bb.cells; obtain ⟨ht0, ht1, ht2⟩ := hSw.bt.cells; dsimp only at hk0 hk1 hk2 hk3 ht0 ht1 ht2; (try clear hSw); go_simp; (try with_reducible rfl)
            (try simp only [Act.put, List.getElem_toArray, List.getElem_cons_zero, List.getElem_cons_succ, List.setIfInBounds_toArray, List.set_cons_zero, List.set_cons_succ])
            refine wpAnyH_take (i := 3) (v := ?_) rfl (by kernel_rfl) (by kernel_rfl) (by kernel_rfl) (fun _ _ _ h => h) (Or.inl ⟨by rfl, ?_⟩) (by assumption) ?_
            rotate_left
            · intro w' hSw; obtain ⟨hk0, hk1, hk2, hk3⟩ := hSw.bb.cells; obtain ⟨ht0, ht1, ht2⟩ := hSw.bt.cells; dsimp only at hk0 hk1 hk2 hk3 ht0 ht1 ht2; (try clear hSw); go_simp; (try with_reducible rfl)
            (try simp only [Act.put, List.getElem_toArray, List.getElem_cons_zero, List.getElem_cons_succ, List.setIfInBounds_toArray, List.set_cons_zero, List.set_cons_succ])
            refine wpAnyH_take (i := 4) (v := ?_) rfl (by kernel_rfl) (by kernel_rfl) (by kernel_rfl) (fun _ _ _ h => h) (Or.inl ⟨by rfl, ?_⟩) (by assumption) ?_
            rotate_left
            · intro w' hSw; obtain ⟨hk0, hk1, hk2, hk3⟩ := hSw.bb.cells; obtain ⟨ht0, ht1, ht2⟩ := hSw.bt.cells; dsimp only at hk0 hk1 hk2 hk3 ht0 ht1 ht2; (try clear hSw); go_simp; (try with_reducible rfl)
            (try simp only [Act.put, List.getElem_toArray, List.getElem_cons_zero, List.getElem_cons_succ, List.setIfInBounds_toArray, List.set_cons_zero, List.set_cons_succ])
            refine wpAnyH_take (i := 5) (v := ?_) rfl (by kernel_rfl) (by kernel_rfl) (by kernel_rfl) (fun _ _ _ h => h) (Or.inl ⟨by rfl, ?_⟩) (by assumption) ?_
            rotate_left
            · intro w' hSw; obtain ⟨hk0, hk1, hk2, hk3⟩ := hSw.bb.cells; obtain ⟨ht0, ht1, ht2⟩ := hSw.bt.cells; dsimp only at hk0 hk1 hk2 hk3 ht0 ht1 ht2; (try clear hSw); go_simp; (try with_reducible rfl)
            (try simp only [Act.put, List.getElem_toArray, List.getElem_cons_zero, List.getElem_cons_succ, List.setIfInBounds_toArray, List.set_cons_zero, List.set_cons_succ])
            refine wpAnyH_take (i := 6) (v := ?_) rfl (by kernel_rfl) (by kernel_rfl) (by kernel_rfl) (fun _ _ _ h => h) (Or.inl ⟨by rfl, ?_⟩) (by assumption) ?_
            rotate_left
            · intro w' hSw; obtain ⟨hk0, hk1, hk2, hk3⟩ := hSw.bb.cells; obtain ⟨ht0, ht1, ht2⟩ := hSw.bt.cells; dsimp only at hk0 hk1 hk2 hk3 ht0 ht1 ht2; (try clear hSw); go_simp; (try with_reducible rfl)
            (try simp only [Act.put, List.getElem_toArray, List.getElem_cons_zero, List.getElem_cons_succ, List.setIfInBounds_toArray, List.set_cons_zero, List.set_cons_succ])
            refine wpAnyH_take (i := 7) (v := ?_) rfl (by kernel_rfl) (by kernel_rfl) (by kernel_rfl) (fun _ _ _ h => h) (Or.inl ⟨by rfl, ?_⟩) (by assumption) ?_
            rotate_left
            · intro w' hSw; obtain ⟨hk0, hk1, hk2, hk3⟩ := hSw.bb.cells; obtain ⟨ht0, ht1, ht2⟩ := hSw.bt.cells; dsimp only at hk0 hk1 hk2 hk3 ht0 ht1 ht2; (try clear hSw); go_simp; (try with_reducible rfl)
            (try simp only [Act.put, List.getElem_toArray, List.getElem_cons_zero, List.getElem_cons_succ, List.setIfInBounds_toArray, List.set_cons_zero, List.set_cons_succ])
            refine wpAnyH_take (i := 8) (v := ?_) rfl (by kernel_rfl) (by kernel_rfl) (by kernel_rfl) (fun _ _ _ h => h) (Or.inl ⟨by rfl, ?_⟩) (by assumption) ?_
            rotate_left
            · intro w' hSw; obtain ⟨hk0, hk1, hk2, hk3⟩ := hSw.bb.cells; obtain ⟨ht0, ht1, ht2⟩ := hSw.bt.cells; dsimp only at hk0 hk1 hk2 hk3 ht0 ht1 ht2; (try clear hSw); go_simp; (try with_reducible rfl)
            (try simp only [Act.put, List.getElem_toArray, List.getElem_cons_zero, List.getElem_cons_succ, List.setIfInBounds_toArray, List.set_cons_zero, List.set_cons_succ])
            refine wpAnyH_take (i := 9) (v := ?_) rfl (by kernel_rfl) (by kernel_rfl) (by kernel_rfl) (fun _ _ _ h => h) (Or.inl ⟨by rfl, ?_⟩) (by assumption) ?_
            rotate_left
            · intro w' hSw; obtain ⟨hk0, hk1, hk2, hk3⟩ := hSw.bb.cells; obtain ⟨ht0, ht1, ht2⟩ := hSw.bt.cells; dsimp only at hk0 hk1 hk2 hk3 ht0 ht1 ht2; (try clear hSw); go_simp; (try with_reducible rfl)
            (try simp only [Act.put, List.getElem_toArray, List.getElem_cons_zero, List.getElem_cons_succ, List.setIfInBounds_toArray, List.set_cons_zero, List.set_cons_succ])
            refine wpAnyH_take (i := 10) (v := ?_) rfl (by kernel_rfl) (by kernel_rfl) (by kernel_rfl) (fun _ _ _ h => h) (Or.inl ⟨by rfl, ?_⟩) (by assumption) ?_
            rotate_left
            · intro w' hSw; obtain ⟨hk0, hk1, hk2, hk3⟩ := hSw.bb.cells; obtain ⟨ht0, ht1, ht2⟩ := hSw.bt.cells; dsimp only at hk0 hk1 hk2 hk3 ht0 ht1 ht2; (try clear hSw); go_simp; (try with_reducible rfl)
            (try simp only [Act.put, List.getElem_toArray, List.getElem_cons_zero, List.getElem_cons_succ, List.setIfInBounds_toArray, List.set_cons_zero, List.set_cons_succ])
            refine wpAnyH_take (i := 11) (v := ?_) rfl (by kernel_rfl) (by kernel_rfl) (by kernel_rfl) (fun _ _ _ h => h) (Or.inl ⟨by rfl, ?_⟩) (by assumption) ?_
            rotate_left
            · intro w' hSw; obtain ⟨hk0, hk1, hk2, hk3⟩ := hSw.bb.cells; obtain ⟨ht0, ht1, ht2⟩ := hSw.bt.cells; dsimp only at hk0 hk1 hk2 hk3 ht0 ht1 ht2; (try clear hSw); go_simp; (try with_reducible rfl)
            (try simp only [Act.put, List.getElem_toArray, List.getElem_cons_zero, List.getElem_cons_succ, List.setIfInBounds_toArray, List.set_cons_zero, List.set_cons_succ])
            refine wpAnyH_take (i := 12) (v := ?_) rfl (by kernel_rfl) (by kernel_rfl) (by kernel_rfl) (fun _ _ _ h => h) (Or.inl ⟨by rfl, ?_⟩) (by assumption) ?_
            rotate_left
            · intro w' hSw; obtain ⟨hk0, hk1, hk2, hk3⟩ := hSw.bb.cells; obtain ⟨ht0, ht1, ht2⟩ := hSw.bt.cells; dsimp only at hk0 hk1 hk2 hk3 ht0 ht1 ht2; (try clear hSw); go_simp; (try with_reducible rfl)
            (try simp only [Act.put, List.getElem_toArray, List.getElem_cons_zero, List.getElem_cons_succ, List.setIfInBounds_toArray, List.set_cons_zero, List.set_cons_succ])
            refine wpAnyH_take (i := 13) (v := ?_) rfl (by kernel_rfl) (by kernel_rfl) (by kernel_rfl) (fun _ _ _ h => h) (Or.inl ⟨by rfl, ?_⟩) (by assumption) ?_
            rotate_left
            · intro w' hSw; obtain ⟨hk0, hk1, hk2, hk3⟩ := hSw.bb.cells; obtain ⟨ht0, ht1, ht2⟩ := hSw.bt.cells; dsimp only at hk0 hk1 hk2 hk3 ht0 ht1 ht2; (try clear hSw); go_simp; (try with_reducible rfl)
            (try simp only [Act.put, List.getElem_toArray, List.getElem_cons_zero, List.getElem_cons_succ, List.setIfInBounds_toArray, List.set_cons_zero, List.set_cons_succ])
            refine wpAnyH_ready (rs := [14]) (by kernel_rfl) (by simp) ?_
            refine AllReadyH.cons rfl (fun KK hKK => ?_) AllReadyH.nil
            go_simp
            ((with_reducible refine (CBF.out _).mono ?_); rintro e' w9 ⟨rfl, rfl⟩)
            (try go_simp)
            refine hKK.out _ _ hU (fun hHeld => ?_)
            clear hKK KK
            (try simp only [Act.put, List.getElem_toArray, List.getElem_cons_zero, List.getElem_cons_succ, List.setIfInBounds_toArray, List.set_cons_zero, List.set_cons_succ])
            refine wpAnyH_take (i := 15) (v := ?_) rfl (by kernel_rfl) (by kernel_rfl) (by kernel_rfl) (fun _ _ _ h => h) (Or.inl ⟨by rfl, ?_⟩) (by assumption) ?_
            rotate_left
            · intro w' hSw; obtain ⟨hk0, hk1, hk2, hk3⟩ := hSw.bb.cells; obtain ⟨ht0, ht1, ht2⟩ := hSw.bt.cells; dsimp only at hk0 hk1 hk2 hk3 ht0 ht1 ht2; (try clear hSw); go_simp; (try with_reducible rfl)
            (try simp only [Act.put, List.getElem_toArray, List.getElem_cons_zero, List.getElem_cons_succ, List.setIfInBounds_toArray, List.set_cons_zero, List.set_cons_succ])
            refine wpAnyH_done (by kernel_rfl) ?_ _
            refine NoPanic.normal ?_
            clear hHeld
            obtain ⟨W6, hW6⟩ : ∃ W6, W5.drew = W6 := ⟨_, rfl⟩
            rw [hW6] at hU ⊢
            clear hW6
            go_wp2
            have hV := hU.bt.drew
            have hVB := hU.bb.drew
            obtain ⟨W7, hW7⟩ : ∃ W7, (World.drew W6) = W7 := ⟨_, rfl⟩
            rw [hW7] at hV hVB
            refine wp_region_noPanic ?_
            refine wp_region_held_drew (S := BT ib (io + k) Wd.heap.size id2 ⟨⟨e, lb', q', a'⟩, en, gr, p⟩) (by kernel_rfl) (by rw [hW7]; exact hV) (fun hHeld => ?_)
            (try simp only [Array.replicate_succ, Array.replicate_zero, List.push_toArray, List.nil_append, List.cons_append])
            rw [hW7] at hHeld ⊢
            clear hW7
            refine wpAnyH_take (i := 0) (v := ?_) rfl (by kernel_rfl) (by kernel_rfl) (by kernel_rfl) (fun _ _ _ h => h) (Or.inl ⟨by rfl, ?_⟩) (by assumption) ?_
            rotate_left
            · intro w' hSw; obtain ⟨ht0, ht1, ht2⟩ := hSw.cells; dsimp only at ht0 ht1 ht2; (try clear hSw); go_simp; (try with_reducible rfl)
            (try simp only [Act.put, List.getElem_toArray, List.getElem_cons_zero, List.setIfInBounds_toArray, List.set_cons_zero, List.set_cons_succ])
            refine wpAnyH_take (i := 1) (v := ?_) rfl (by kernel_rfl) (by kernel_rfl) (by kernel_rfl) (fun _ _ _ h => h) (Or.inl ⟨by rfl, ?_⟩) (by assumption) ?_
            rotate_left
            · intro w' hSw; obtain ⟨ht0, ht1, ht2⟩ := hSw.cells; dsimp only at ht0 ht1 ht2; (try clear hSw); go_simp; (try with_reducible rfl)
            (try simp only [Act.put, List.getElem_toArray, List.getElem_cons_zero, List.getElem_cons_succ, List.setIfInBounds_toArray, List.set_cons_zero, List.set_cons_succ])
            refine wpAnyH_take (i := 2) (v := ?_) rfl (by kernel_rfl) (by kernel_rfl) (by kernel_rfl) (fun _ _ _ h => h) (Or.inl ⟨by rfl, ?_⟩) (by assumption) ?_
            rotate_left
            · intro w' hSw; obtain ⟨ht0, ht1, ht2⟩ := hSw.cells; dsimp only at ht0 ht1 ht2; (try clear hSw); go_simp; (try with_reducible rfl)
            (try simp only [Act.put, List.getElem_toArray, List.getElem_cons_zero, List.getElem_cons_succ, List.setIfInBounds_toArray, List.set_cons_zero, List.set_cons_succ])
            refine wpAnyH_take (i := 3) (v := ?_) rfl (by kernel_rfl) (by kernel_rfl) (by kernel_rfl) (fun _ _ _ h => h) (Or.inl ⟨by rfl, ?_⟩) (by assumption) ?_
            rotate_left
            · intro w' hSw; obtain ⟨ht0, ht1, ht2⟩ := hSw.cells; dsimp only at ht0 ht1 ht2; (try clear hSw); go_simp; (try with_reducible rfl)
            (try simp only [Act.put, List.getElem_toArray, List.getElem_cons_zero, List.getElem_cons_succ, List.setIfInBounds_toArray, List.set_cons_zero, List.set_cons_succ])
            refine wpAnyH_take (i := 4) (v := ?_) rfl (by kernel_rfl) (by kernel_rfl) (by kernel_rfl) (fun _ _ _ h => h) (Or.inl ⟨by rfl, ?_⟩) (by assumption) ?_
            rotate_left
            · intro w' hSw; obtain ⟨ht0, ht1, ht2⟩ := hSw.cells; dsimp only at ht0 ht1 ht2; (try clear hSw); go_simp; (try with_reducible rfl)
            (try simp only [Act.put, List.getElem_toArray, List.getElem_cons_zero, List.getElem_cons_succ, List.setIfInBounds_toArray, List.set_cons_zero, List.set_cons_succ])
            refine wpAnyH_take (i := 5) (v := ?_) rfl (by kernel_rfl) (by kernel_rfl) (by kernel_rfl) (fun _ _ _ h => h) (Or.inl ⟨by rfl, ?_⟩) (by assumption) ?_
            rotate_left
            · intro w' hSw; obtain ⟨ht0, ht1, ht2⟩ := hSw.cells; dsimp only at ht0 ht1 ht2; (try clear hSw); go_simp; (try with_reducible rfl)
            (try simp only [Act.put, List.getElem_toArray, List.getElem_cons_zero, List.getElem_cons_succ, List.setIfInBounds_toArray, List.set_cons_zero, List.set_cons_succ])
            refine wpAnyH_take (i := 6) (v := ?_) rfl (by kernel_rfl) (by kernel_rfl) (by kernel_rfl) (fun _ _ _ h => h) (Or.inl ⟨by rfl, ?_⟩) (by assumption) ?_
            rotate_left
            · intro w' hSw; obtain ⟨ht0, ht1, ht2⟩ := hSw.cells; dsimp only at ht0 ht1 ht2; (try clear hSw); go_simp; (try with_reducible rfl)
            (try simp only [Act.put, List.getElem_toArray, List.getElem_cons_zero, List.getElem_cons_succ, List.setIfInBounds_toArray, List.set_cons_zero, List.set_cons_succ])
            refine wpAnyH_take (i := 7) (v := ?_) rfl (by kernel_rfl) (by kernel_rfl) (by kernel_rfl) (fun _ _ _ h => h) (Or.inl ⟨by rfl, ?_⟩) (by assumption) ?_
            rotate_left
            · intro w' hSw; obtain ⟨ht0, ht1, ht2⟩ := hSw.cells; dsimp only at ht0 ht1 ht2; (try clear hSw); go_simp; (try with_reducible rfl)
            (try simp only [Act.put, List.getElem_toArray, List.getElem_cons_zero, List.getElem_cons_succ, List.setIfInBounds_toArray, List.set_cons_zero, List.set_cons_succ])
            refine wpAnyH_take (i := 8) (v := ?_) rfl (by kernel_rfl) (by kernel_rfl) (by kernel_rfl) (fun _ _ _ h => h) (Or.inl ⟨by rfl, ?_⟩) (by assumption) ?_
            rotate_left
            · intro w' hSw; obtain ⟨ht0, ht1, ht2⟩ := hSw.cells; dsimp only at ht0 ht1 ht2; (try clear hSw); go_simp; (try with_reducible rfl)
            (try simp only [Act.put, List.getElem_toArray, List.getElem_cons_zero, List.getElem_cons_succ, List.setIfInBounds_toArray, List.set_cons_zero, List.set_cons_succ])
            obtain ⟨x0, x1, x2, x3⟩ := hVB.cells
            dsimp only at x0 x1 x2 x3
            have xf := hVB.best.frozen
            have hV2 := hV.setC (B := w.heap.size + 1) hib (by omega) ⟨id2, p, gr, true⟩
            refine wpAnyH_ready (rs := [9]) (by kernel_rfl) (by simp) ?_
            refine AllReadyH.cons rfl (fun KK hKK => ?_) AllReadyH.nil
            go_simp
            refine hKK.out _ _ hV2 (fun hHeld => ?_)
            clear hKK KK
            (try simp only [Act.put, List.getElem_toArray, List.getElem_cons_zero, List.getElem_cons_succ, List.setIfInBounds_toArray, List.set_cons_zero, List.set_cons_succ])
            refine wpAnyH_done (by kernel_rfl) ?_ _
            refine NoPanic.normal ?_
            clear hHeld x0 x1 x2 x3 xf
            have HFIN := hi (hVB.put ⟨id2, p, gr, true⟩)
            clear hVB hV hV2
            go_wp2
            go_roundw
            case rel =>
              refine ⟨k + 1, by omega, by go_num, hi ?_⟩
              rw [HS'.out]
              exact HFIN.out
            case measure => simp only [intOf]; omega
    · obtain rfl : k = n := by omega
      obtain ⟨x0, x1, x2, x3⟩ := HX.out.cells
      have f0 := HX.out.res.frozen
      have r0 := HX.out.res.cell 0
      have r1 := HX.out.res.cell 1
      have r2 := HX.out.res.cell 2
      have r3 := HX.out.res.cell 3
      rw [HEND.out] at HX x0 x1 x2 x3
      go_wp2
      exact bodyPost_ret (results_cand rfl _ _ w.heap.size (bestC xs) rfl (HX.out.res.putC (bestC xs))) rfl ⟨rfl, below_setC HX.out.below (Nat.le_refl _) (bestC xs)⟩

end Go.Proofs.Ytfjihpcemmobjaa
