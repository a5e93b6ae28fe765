/-
  Package lpi: Disable.
-/
import Derived.Test.YtobhdjepfhbgaaaDoorLpI
namespace Go.Proofs.YtobhdjepfhbgaaaDoor
open Go.ChangeShapes Go.WideShapes Go.ChangeAt Go.RowKit Go.Shelf
set_option linter.unusedVariables false
set_option linter.unusedSimpArgs false
attribute [local go_sem] Oper.semAt_some

theorem KW.of_kept {B : Nat} {xs : Nat → Prop} {W W' : World} (h : Kept xs W W') (hb : ∀ i, xs i → i < B) : KW B W W' :=
  ⟨h.size, fun i o h1 h2 h3 _ => (h.block i (Array.getElem?_eq_some_iff.1 h3).1 (fun e => by have := hb i e; omega)).trans h3⟩
theorem bal2' (w : World) (o o' : Obj) : Below w.heap.size w ((w.alloc o).alloc o') := (bal w o).alloc (by simp) o'
theorem of_none (w : World) : Calls Tryd.prog 51 #[.slice none 0 0] w fun e w' => e = .returned (.pointer (some ⟨w.heap.size, 0, none⟩)) ∧ RowAt 120 w' w.heap.size S0 ∧ Below w.heap.size w w' :=
  sof_any [] none 0 w ⟨none, 0, rfl, ⟨Nat.zero_le _, Nat.zero_le _⟩, fun h => absurd rfl h⟩ (by simp)
/-- The memory on the way. -/
structure DiI (p g cp q : Nat) (bs : List Nat) (w1 : World) (pre : List Nat) (W : World) : Prop where
  mem : MemAt 96 W p g cp (markL bs q pre)
  kept : Kept (· = g) w1 W
theorem DiI.abl {p g cp q : Nat} {bs : List Nat} {w1 : World} (hp : p < w1.heap.size) (hg : g < w1.heap.size) : AbL w1.heap.size 0 (DiI p g cp q bs w1) := fun pre A A' row h hgr hr => by
  obtain ⟨hm, hk⟩ := h
  have hrow : ∀ i, i < w1.heap.size → A'.heap[i]? = A.heap[i]? := fun i hi => hgr.block i (Nat.lt_of_lt_of_le hi hk.size) (fun e => by
    rcases hr i e.symm with ⟨h3, _⟩ | ⟨h3, _⟩ <;> omega)
  exact ⟨⟨(hrow p hp).trans hm.box, hm.bytes.of_block (hrow g hg), hm.le, hm.cap, hm.len, hm.type⟩, ⟨hgr.os.trans hk.os, hgr.tape.trans hk.tape, hgr.output.trans hk.output, Nat.le_trans hk.size hgr.size, fun i hi hn => (hrow i hi).trans (hk.block i hi hn)⟩⟩

set_option maxRecDepth 100000 in
set_option maxHeartbeats 4000000 in
theorem disable_on (l s c cap p g cp : Nat) (S : Words) (x : St) (bs : List Nat) (hx : x.Ok bs.length) (hon : x.on = true) (w : World) (hT : TabW w) (h : LpB w l s c cap S x) (hM : MemAt 96 w p g cp bs) (hgc : g ≠ c) (hg0 : g ≠ 0) :
    Calls Tryd.prog 14 #[.pointer (some ⟨l, 0, none⟩), .pointer (some ⟨p, 0, none⟩)] w fun e w' => (∃ v, e = .returned v) ∧ (∃ s', w.heap.size ≤ s' ∧ LpB w' l s' c cap S0 (disS bs x).2) ∧ MemAt 96 w' p g cp (disS bs x).1 ∧ Kept (fun b => b = l ∨ b = g) w w' := by
  obtain ⟨a1, a2, a3, a4, a5⟩ := h.apart hM
  have HA := hi (And.intro a1 (And.intro a2 (And.intro a3 (And.intro a4 (And.intro a5 (And.intro hgc (And.intro hg0 (And.intro h.lc h.ls))))))))
  have hLs := h.set.lt
  have hLl := h.box.lt
  have hLg := hM.bytes.lt
  have hLp := hM.plt
  have hLc := h.cfg.lt
  have hB0 := bal2' w (.cells #[.pointer (some ⟨l, 0, none⟩)] 27) (.cells #[.pointer (some ⟨p, 0, none⟩)] 25)
  have hb1 := (CB.new w 27 #[.pointer (some ⟨l, 0, none⟩)]).alloc (.cells #[.pointer (some ⟨p, 0, none⟩)] 25)
  have hb2 := CB.new (w.alloc (.cells #[.pointer (some ⟨l, 0, none⟩)] 27)) 25 #[.pointer (some ⟨p, 0, none⟩)]
  rw [World.size_alloc] at hb2
  obtain ⟨c0, _, _, _, _, c5, _⟩ := (h.below hB0).cells
  rw [hon] at c0
  have hL1 := h.is.from0 hx.n5
  have H := hi (And.intro h (And.intro hM hL1))
  have HALL := hi ((sall_any s S ((w.alloc (.cells #[.pointer (some ⟨l, 0, none⟩)] 27)).alloc (.cells #[.pointer (some ⟨p, 0, none⟩)] 25)) (h.set.below hB0)).mono (R' := fun e w1 => e = .returned (.func (.func 90) #[] #[.pointer (some ⟨w.heap.size + 1 + 1, 0, none⟩), .pointer (some ⟨w.heap.size + 1 + 1 + 1, 0, none⟩)]) ∧ w1.heap.size = w.heap.size + 4 ∧ Below w.heap.size w w1 ∧ CB w1 w.heap.size 27 #[.pointer (some ⟨l, 0, none⟩)] ∧ CB w1 (w.heap.size + 1) 25 #[.pointer (some ⟨p, 0, none⟩)] ∧ FromAt w1 (w.heap.size + 1 + 1) S 0 ∧ TabW w1) (fun e w1 ⟨he, hf, hb, hz⟩ => by
    simp only [World.size_alloc] at he hf hz
    refine ⟨he, by omega, hB0.more hb, hb1.below hb, hb2.below hb, hf, (hT.below hB0).below hb⟩))
  have h0w := hT.lt
  clear h hM a1 a2 a3 a4 a5 hgc hB0 hb1 hb2 hL1 hT
  have hx5 := hx.n5
  refine (callsIn_wide (n := 6)).1 ?_
  refine callsIn_of_wp_marks Tryd.func14 rfl trivial ?_ rfl
  simp only [Tryd.ntmps14, List.size_toArray, List.length_cons, List.length_nil, Nat.reduceAdd, Nat.reduceSub, Array.replicate_succ, Array.replicate_zero, List.push_toArray, List.append_toArray, List.nil_append, List.cons_append]
  gi_wp2_with (first
    | (refine ⟨trivial, ?_⟩; gi_at_call 50; ((with_reducible refine (callsIn_wide.2 HALL.out).mono ?_); rintro e w1 ⟨rfl, hz1, hF1⟩; have HF := hi hF1; clear hF1))
    | gi_in)
  have HKB := hi (show ∀ i, fBs (w.heap.size + 1 + 1) i → i < w1.heap.size ∧ i ≠ g from fun i hi => by
    have h7 := HA.out.2.2.2.2.2.2.1
    unfold fBs at hi
    omega)
  obtain ⟨L, hL⟩ : ∃ L, lst x.P x.n = L := ⟨_, rfl⟩
  have HL := hi hL
  have H3 := hi H.out.2.2
  rw [hL] at H3
  have HLM := hi (show ∀ k, k ∈ L → k < x.n from fun k hk => by rw [← hL] at hk; exact (lst_mem.1 hk).1)
  clear hL
  have HMK := hi (fun (k : Nat) (hk : k < x.n) (bs2 : List Nat) (hbl : bs2.length = bs.length) (W : World) (hk2 : Kept (· = g) w1 W) (hm : MemAt 96 W p g cp bs2) => mark_any l s c cap p g cp S x bs2 (by rw [hbl]; exact hx) k hk true W ((H.out.1.below HF.out.1).hd.kept hk2 (fun e => HA.out.1 e) (fun _ e => HA.out.2.1 e)) hm)
  refine range_win (n := 6) (by omega) (gf := 90) (lb := #[.pointer (some ⟨w.heap.size + 1 + 1, 0, none⟩), .pointer (some ⟨w.heap.size + 1 + 1 + 1, 0, none⟩)]) rfl (enters_of Tryd.func90 (by kernel_rfl) rfl)
    (ids_stops (w.heap.size + 1 + 1) S L H3.out w1 HF.out.2.2.2.1 HF.out.2.2.2.2) (fun a b => KpB.trans a b) (fun W l' o o' h1 h2 h3 h4 => KpB.put (fun i hi => (HKB.out i hi).1) h1 W o') (Below.refl _ _) (fun _ => rfl)
    (DiI p g cp x.qa bs w1) (fun cd pre V => False) (DiI.abl (by omega) (by omega)) (fun _ _ _ _ _ hs _ _ => hs)
    ⟨H.out.2.1.below HF.out.1, Kept.refl _ _⟩
    (fun k a' V => a' = { tmps := #[.pointer (some ⟨l, 0, none⟩), .pointer (some ⟨p, 0, none⟩), .pointer (some ⟨w.heap.size, 0, none⟩), .pointer (some ⟨w.heap.size + 1, 0, none⟩), .int .i64 (idOf k), .pointer (some ⟨l, 0, none⟩), .pointer (some ⟨l, 0, none⟩), .pointer (some ⟨l, 0, none⟩), .bool true, .bool false, .pointer (some ⟨l, 0, none⟩), .pointer (some ⟨l, 0, none⟩), .pointer (some ⟨l, 5, none⟩), .pointer (some ⟨s, 0, none⟩), .func (.func 90) #[] #[.pointer (some ⟨w.heap.size + 1 + 1, 0, none⟩), .pointer (some ⟨w.heap.size + 1 + 1 + 1, 0, none⟩)], .int .i64 (idOf k), undef, undef, undef, undef, undef, undef, undef, undef, undef, undef, undef], defers := [] })
    (fun x a' => AbL.pure _ _ _)
    ?assign ?body ?done ?stop
  case assign =>
    rintro l' pre k V K h hsz hK
    gi_wp2
    exact hK _ _ (KW.refl _ _) (KpB.refl _ _) h rfl
  case body =>
    rintro l' pre k a' V hsz hI rfl hpx
    have hvs := hI.kept.size
    have hkn : k < x.n := HLM.out k (hpx.subset (by simp))
    have b0 := (HF.out.2.1.keptB hI.kept (fun e => by omega)).cell 0
    have b1 := (HF.out.2.2.1.keptB hI.kept (fun e => by omega)).cell 0
    have HC := hi (HMK.out k hkn (markL bs x.qa pre) (markL_len _ _ _) V hI.kept hI.mem)
    rw [← markL_snoc] at HC
    have HI := hi hI
    rw [← idOf_eq] at HC
    obtain ⟨z, hz⟩ : ∃ z : Int, idOf k = z := ⟨_, rfl⟩
    rw [hz] at HC
    rw [hz]
    clear hz hI hpx
    gi_wp2_with (first
      | (refine ⟨trivial, ?_⟩; gi_at_call 47; ((with_reducible refine (CallsIn.inRound l' (callsIn_wide.2 HC.out)).mono ?_); rintro e w2 ⟨⟨v, rfl⟩, hm2, hk2⟩; have HG := hi (And.intro hm2 hk2); clear hm2 hk2))
      | gi_in)
    exact ⟨KW.of_kept HG.out.2 (fun i e => by omega), KpB.of_kept HG.out.2 (fun i hi => ⟨Nat.lt_of_lt_of_le (HKB.out i hi).1 hvs, (HKB.out i hi).2⟩), HG.out.1, HI.out.kept.trans HG.out.2⟩
  case done =>
    rintro ys V rfl hI hK hs2
    have hvs := hI.kept.size
    have HB0 := hi (HF.out.2.1.keptB hI.kept (fun e => by omega))
    have HV := hi ((H.out.1.below HF.out.1).kept hI.kept (fun e => HA.out.1 e) (fun e => HA.out.2.1 e) (fun e => HA.out.2.2.2.2.2.1 e.symm))
    have HK := hi hK
    have HI := hi hI
    have hs3 : w.heap.size + 4 + 2 ≤ V.heap.size := by omega
    have HOF := hi (fun W => of_none W)
    have b0 := HB0.out.cell 0
    clear hI hK
    gi_wp2
    refine wpIn_wide.2 ?_
    refine wp_region_noPanic ?_
    refine wp_region_last_drew (S := (fun W => W.cell? ⟨w.heap.size, 0, none⟩ = some (.pointer (some ⟨l, 0, none⟩)) ∧ Below V.heap.size V W)) [2, 3, 4] (by kernel_rfl) ⟨b0, below_dr _⟩ (fun hHeld => ?_)
    (try simp only [Array.replicate_succ, Array.replicate_zero, List.push_toArray, List.nil_append, List.cons_append])
    refine wpAnyF_take (i := 0) (v := ?_) (by kernel_rfl) (by kernel_rfl) rfl (by kernel_rfl) (by kernel_rfl) (by kernel_rfl) (fun _ _ _ h => h) (Or.inl ⟨by rfl, ?_⟩) (by assumption) ?_
    rotate_left
    · intro w' hSw; (try dsimp only at hSw); obtain ⟨q0, _q⟩ := hSw; clear _q; go_simp; (try with_reducible rfl)
    (try simp only [Act.put, List.getElem_toArray, List.getElem_cons_zero, List.getElem_cons_succ, List.setIfInBounds_toArray, List.set_cons_zero, List.set_cons_succ])
    refine wpAnyF_ready (rs := [1]) (by kernel_rfl) (by simp) ?_
    refine AllReadyF.cons rfl (fun KK hKK => ?_) AllReadyF.nil
    go_simp
    ((with_reducible refine (HOF.out _).mono ?_); rintro e' w5 ⟨rfl, hr5, hb5⟩; have HN := hi (And.intro hr5 (hHeld.2.trans (hb5.mono hHeld.2.size))); have hSS := And.intro ((hb5.cell (p := ⟨w.heap.size, 0, none⟩) (Nat.lt_of_lt_of_le (show w.heap.size < V.heap.size by omega) hHeld.2.size)).trans hHeld.1) HN.out.2; clear hb5 hr5)
    (try go_simp)
    refine hKK.out _ _ hSS (fun hHeld => ?_)
    clear hKK KK
    (try simp only [Act.put, List.getElem_toArray, List.getElem_cons_zero, List.getElem_cons_succ, List.setIfInBounds_toArray, List.set_cons_zero, List.set_cons_succ])
    refine wpAnyF_ready (rs := [2]) (by kernel_rfl) (by simp) ?_
    refine AllReadyF.last (by kernel_rfl) rfl (fun KK hKK => ?_) AllReadyF.nil
    go_simp
    refine hKK.out _ _ ?_
    clear hKK KK
    (try simp only [Act.put, List.getElem_toArray, List.getElem_cons_zero, List.getElem_cons_succ, List.setIfInBounds_toArray, List.set_cons_zero, List.set_cons_succ])
    refine wpAnyF_ready (rs := [3]) (by kernel_rfl) (by simp) ?_
    refine AllReadyF.last (by kernel_rfl) rfl (fun KK hKK => ?_) AllReadyF.nil
    go_simp
    refine hKK.out _ _ ?_
    clear hKK KK
    (try simp only [Act.put, List.getElem_toArray, List.getElem_cons_zero, List.getElem_cons_succ, List.setIfInBounds_toArray, List.set_cons_zero, List.set_cons_succ])
    refine wpAnyF_ready (rs := [4]) (by kernel_rfl) (by simp) ?_
    refine AllReadyF.last (by kernel_rfl) rfl (fun KK hKK => ?_) AllReadyF.nil
    have hV5 := HV.out.below HN.out.2
    have q5 := hV5.box.cell 5
    have qf := hV5.box.frozen
    have qz := hV5.box.lt
    clear hV5
    go_simp
    refine hKK.out _ _ ?_
    clear hKK KK
    (try simp only [Act.put, List.getElem_toArray, List.getElem_cons_zero, List.getElem_cons_succ, List.setIfInBounds_toArray, List.set_cons_zero, List.set_cons_succ])
    refine wpAnyF_done (by kernel_rfl) ?_ _
    refine NoPanic.normal ?_
    have hb5 := HN.out.2
    have hV5 := HV.out.below hb5
    have hk6 := kept_setCell w5 l 5 (.pointer (some ⟨V.heap.size, 0, none⟩))
    have b6 : (w5.setCell ⟨l, 5, none⟩ (.pointer (some ⟨V.heap.size, 0, none⟩))).cell? ⟨w.heap.size, 0, none⟩ = some (.pointer (some ⟨l, 0, none⟩)) := ((HB0.out.below hb5).keptB hk6 (fun e => by omega)).cell 0
    have h6 := hV5.box.set 5 (.pointer (some ⟨V.heap.size, 0, none⟩))
    have c6 : (w5.setCell ⟨l, 5, none⟩ (.pointer (some ⟨V.heap.size, 0, none⟩))).cell? ⟨l, 0, none⟩ = some (.bool x.on) := h6.cell 0
    have f6 := h6.frozen
    have z6 := h6.lt
    have hk7 := kept_setCell (w5.setCell ⟨l, 5, none⟩ (.pointer (some ⟨V.heap.size, 0, none⟩))) l 0 (.bool false)
    have h7 := h6.set 0 (.bool false)
    have hk57 := hk6.trans hk7
    have hvz : V.heap.size ≤ w5.heap.size := hb5.size
    have H7 := hi (And.intro h7 (And.intro hk57 hV5))
    have HR := hi (show RowAt 120 ((w5.setCell ⟨l, 5, none⟩ (.pointer (some ⟨V.heap.size, 0, none⟩))).setCell ⟨l, 0, none⟩ (.bool false)) V.heap.size S0 from RowAt.keptB (show RowAt 120 w5 V.heap.size S0 from HN.out.1) hk57 (fun e => by omega))
    clear hk6 hk7 h6 h7 hk57 hV5 hSS q5 qf qz
    gi_wp2
    have hKm : ((w5.setCell ⟨l, 5, none⟩ (.pointer (some ⟨V.heap.size, 0, none⟩))).setCell ⟨l, 0, none⟩ (.bool false)).heap[w1.heap.size]? = some (.deferred (some [])) := (H7.out.2.1.block _ (Nat.lt_of_lt_of_le (by omega) hvz) (fun e => by omega)).trans ((hb5.block _ (by omega)).trans HK.out)
    rw [hz1] at hKm
    have hput := kept_put ((w5.setCell ⟨l, 5, none⟩ (.pointer (some ⟨V.heap.size, 0, none⟩))).setCell ⟨l, 0, none⟩ (.bool false)) (w.heap.size + 4) (.deferred none)
    have e1 : disS bs x = (markL bs x.qa ys, { x with on := false, P := fun _ => false }) := by rw [disS, if_pos hon, HL.out]
    have hB7 : LpB ((w5.setCell ⟨l, 5, none⟩ (.pointer (some ⟨V.heap.size, 0, none⟩))).setCell ⟨l, 0, none⟩ (.bool false)) l V.heap.size c cap S0 { x with on := false, P := fun _ => false } :=
      ⟨H7.out.1, HR.out, SetIs.none (fun _ => rfl), H7.out.2.2.cfg.of_block (H7.out.2.1.block c H7.out.2.2.cfg.lt (fun e => HA.out.2.2.2.2.2.2.2.1 e.symm)), H7.out.2.2.len, H7.out.2.2.cap⟩
    have hM7 := (HI.out.mem.below hb5).kept H7.out.2.1 (fun e => HA.out.2.2.2.2.1 e) (fun e => HA.out.1 e.symm)
    refine ⟨by simp, .inl ⟨_, _, rfl, run_takeDeferred hKm, ?_⟩⟩
    refine ⟨_, results_none rfl _ _ _, ⟨_, rfl⟩, ?_, ?_, ?_⟩
    · rw [e1]; exact ⟨V.heap.size, by omega, hB7.kept hput (fun e => by omega) (fun e => by omega) (fun e => by omega)⟩
    · rw [e1]; exact hM7.kept hput (fun e => by omega) (fun e => by omega)
    · exact (((((Kept.of HF.out.1).trans HI.out.kept).trans (Kept.of hb5)).mono (fun _ e => .inr e)).trans (H7.out.2.1.mono (fun _ e => .inl e))).putNew (by omega) _
  case stop =>
    rintro cd pre V hpre h _ _
    exact h.elim

set_option maxHeartbeats 1000000 in
theorem disable_off (l s c cap p g cp : Nat) (S : Words) (x : St) (bs : List Nat) (hon : x.on = false) (w : World) (h : LpB w l s c cap S x) (hM : MemAt 96 w p g cp bs) :
    Calls Tryd.prog 14 #[.pointer (some ⟨l, 0, none⟩), .pointer (some ⟨p, 0, none⟩)] w fun e w' => (∃ v, e = .returned v) ∧ LpB w' l s c cap S (disS bs x).2 ∧ MemAt 96 w' p g cp (disS bs x).1 ∧ Below w.heap.size w w' := by
  have e1 : disS bs x = (bs, x) := by rw [disS, if_neg (by rw [hon]; simp)]
  rw [e1]
  have hb := bal2' w (.cells #[.pointer (some ⟨l, 0, none⟩)] 27) (.cells #[.pointer (some ⟨p, 0, none⟩)] 25)
  have H := hi (And.intro (h.below hb) (And.intro (hM.below hb) hb))
  obtain ⟨c0, hcr⟩ := H.out.1.cells
  rw [hon] at c0
  have hl := h.box.lt
  clear h hM hb e1 hcr
  go_enter Tryd.func14, Tryd.ntmps14
  go_wp2
  refine bodyPost_ret (results_none rfl _ _ _) rfl ?_
  exact ⟨⟨_, rfl⟩, H.out.1, H.out.2.1, H.out.2.2⟩

end Go.Proofs.YtobhdjepfhbgaaaDoor
