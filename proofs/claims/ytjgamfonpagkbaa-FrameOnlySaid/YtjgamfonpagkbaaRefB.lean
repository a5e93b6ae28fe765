/-
  The document's bank: Do.
-/
import Derived.Test.YtjgamfonpagkbaaRefA
namespace Go.Proofs.Ytjgamfonpagkbaa
open Go.ChangeShapes Go.WideShapes Go.ChangeAt Go.RowKit
set_option linter.unusedVariables false

set_option maxHeartbeats 1000000 in
theorem rdo_no {b lg xg : Nat} {la xa : Option Addr} {lc xc : Nat} {f : Int} {es : List En} {id a : Int} {w : World} (h : RfAt w b lg xg la xa lc xc f es) (hf : Fit f es.length) (hn : hasB f es.length id = false) :
    Calls Try.prog 28 #[.pointer (some ⟨b, 0, none⟩), .int .i64 id, .int .i64 a] w fun e w' => e = .returned (.int .i64 90) ∧ Below w.heap.size w w' := by
  have HC := hi (at_any (id := id) h hf)
  rw [atI_no hn] at HC
  clear h hf hn
  go_enter Try.func28, Try.ntmps28
  go_wp2_with (go_at_call 34; ((with_reducible refine HC.out.mono ?_); rintro e w1 ⟨rfl, rfl⟩))
  go_ret
  exact ⟨rfl, Below.refl _ _⟩

/-- What the region that steps reads of what it does not write. -/
structure DR (b lg n lc k : Nat) (W : World) : Prop where
  c1 : W.cell? ⟨b, 1, none⟩ = some (.slice (some ⟨lg, 0, none⟩) n lc)
  bl : b < W.heap.size
theorem DR.below {b lg n lc k : Nat} {W W' : World} (h : DR b lg n lc k W) (q : Below W.heap.size W W') : DR b lg n lc k W' := ⟨(q.cell (p := ⟨b, 1, none⟩) h.bl).trans h.c1, Nat.lt_of_lt_of_le h.bl q.size⟩
theorem DR.sets {b lg n lc k : Nat} {W : World} (h : DR b lg n lc k W) (hb : b ≠ lg) (o : Nat) (vs : List Value) : DR b lg n lc k (W.setCells lg o vs) :=
  ⟨(World.cell?_of_block (w := W) (a := ⟨b, 1, none⟩) (heap_sets hb vs o W)).trans h.c1, by rw [size_sets]; exact h.bl⟩

set_option maxRecDepth 100000 in
set_option maxHeartbeats 4000000 in
theorem rdo_yes {b lg xg k : Nat} {la xa : Option Addr} {lc xc : Nat} {f a : Int} {es : List En} {x : En} {w : World} (h : RfAt w b lg xg la xa lc xc f es) (hf : Fit f es.length) (hk : es[k]? = some x) :
    Calls Try.prog 28 #[.pointer (some ⟨b, 0, none⟩), .int .i64 (f + k), .int .i64 a] w fun e w' => e = .returned (.int .i64 0) ∧ RfAfter w b lg xg la xa lc xc f (es.set k (x.step a)) w' := by
  have hkl : k < es.length := (List.getElem?_eq_some_iff.1 hk).1
  have HC := hi (at_any (id := f + k) h hf)
  rw [atI_at hkl] at HC
  have HS := hi (fun W => rstep_any x.ln.st a W)
  obtain ⟨hla, hxa, hlr, hxr, hblg, hbxg, hlxg⟩ := h.ne0 (fun e => by rw [e] at hkl; simp at hkl)
  have hbl := h.box.lt
  have H := hi h
  have HK := hi hk
  have HKL := hi hkl
  have c1 := h.box.cell 1
  obtain ⟨e0, e1, e2, e3, e4, e5, e6⟩ := hlr.lnc hk
  obtain ⟨n, hn⟩ : ∃ n, es.length = n := ⟨_, rfl⟩
  have HN := hi hn
  rw [hn] at c1 hkl
  have HX := hi (show x.step a = ⟨{ x.ln with st := x.ln.st.step a }, x.s⟩ from rfl)
  obtain ⟨y, hy⟩ : ∃ y, x.ln.st.step a = y := ⟨_, rfl⟩
  rw [hy] at HS HX
  subst hla hxa
  have hDR : DR b lg n lc k w.drew := ⟨c1, hbl⟩
  clear h hf hn hk hy hlr hxr
  obtain ⟨⟨⟨e, l, q, a'⟩, en, gr, p⟩, s⟩ := x
  obtain ⟨ye, yl, yh, ya⟩ := y
  dsimp only [St.v] at HS
  dsimp only at e0 e1 e2 e3 e4 e5 e6
  go_enter Try.func28, Try.ntmps28
  go_wp2_with (go_at_call 34; ((with_reducible refine HC.out.mono ?_); rintro e' w1 ⟨rfl, rfl⟩))
  refine wp_region_noPanic ?_
  refine wp_region_held_drew (S := DR b lg n lc k) (by kernel_rfl) hDR (fun hHeld => ?_)
  (try simp only [Array.replicate_succ, Array.replicate_zero, List.push_toArray, List.nil_append, List.cons_append])
  refine wpAnyH_take (i := 0) (v := ?_) rfl (by kernel_rfl) (by kernel_rfl) (by kernel_rfl) (fun _ _ _ h => h) (Or.inl ⟨by rfl, ?_⟩) (by assumption) ?_
  rotate_left
  · intro w' hSw; have hs1 := hSw.c1; (try clear hSw); go_simp; (try with_reducible rfl)
  (try simp only [Act.put, List.getElem_toArray, List.getElem_cons_zero, List.setIfInBounds_toArray, List.set_cons_zero, List.set_cons_succ])
  refine wpAnyH_take (i := 1) (v := ?_) rfl (by kernel_rfl) (by kernel_rfl) (by kernel_rfl) (fun _ _ _ h => h) (Or.inl ⟨by rfl, ?_⟩) (by assumption) ?_
  rotate_left
  · intro w' hSw; have hs1 := hSw.c1; (try clear hSw); go_simp; (try with_reducible rfl)
  (try simp only [Act.put, List.getElem_toArray, List.getElem_cons_zero, List.getElem_cons_succ, List.setIfInBounds_toArray, List.set_cons_zero, List.set_cons_succ])
  refine wpAnyH_take (i := 2) (v := ?_) rfl (by kernel_rfl) (by kernel_rfl) (by kernel_rfl) (fun _ _ _ h => h) (Or.inl ⟨by rfl, ?_⟩) (by assumption) ?_
  rotate_left
  · intro w' hSw; have hs1 := hSw.c1; (try clear hSw); go_simp; (try with_reducible rfl)
  (try simp only [Act.put, List.getElem_toArray, List.getElem_cons_zero, List.getElem_cons_succ, List.setIfInBounds_toArray, List.set_cons_zero, List.set_cons_succ])
  refine wpAnyH_take (i := 3) (v := ?_) rfl (by kernel_rfl) (by kernel_rfl) (by kernel_rfl) (fun _ _ _ h => h) (Or.inl ⟨by rfl, ?_⟩) (by assumption) ?_
  rotate_left
  · intro w' hSw; have hs1 := hSw.c1; (try clear hSw); go_simp; (try with_reducible rfl)
  (try simp only [Act.put, List.getElem_toArray, List.getElem_cons_zero, List.getElem_cons_succ, List.setIfInBounds_toArray, List.set_cons_zero, List.set_cons_succ])
  refine wpAnyH_take (i := 4) (v := ?_) rfl (by kernel_rfl) (by kernel_rfl) (by kernel_rfl) (fun _ _ _ h => h) (Or.inl ⟨by rfl, ?_⟩) (by assumption) ?_
  rotate_left
  · intro w' hSw; have hs1 := hSw.c1; (try clear hSw); go_simp; (try with_reducible rfl)
  (try simp only [Act.put, List.getElem_toArray, List.getElem_cons_zero, List.getElem_cons_succ, List.setIfInBounds_toArray, List.set_cons_zero, List.set_cons_succ])
  refine wpAnyH_take (i := 5) (v := ?_) rfl (by kernel_rfl) (by kernel_rfl) (by kernel_rfl) (fun _ _ _ h => h) (Or.inl ⟨by rfl, ?_⟩) (by assumption) ?_
  rotate_left
  · intro w' hSw; have hs1 := hSw.c1; (try clear hSw); go_simp; (try with_reducible rfl)
  (try simp only [Act.put, List.getElem_toArray, List.getElem_cons_zero, List.getElem_cons_succ, List.setIfInBounds_toArray, List.set_cons_zero, List.set_cons_succ])
  refine wpAnyH_take (i := 6) (v := ?_) rfl (by kernel_rfl) (by kernel_rfl) (by kernel_rfl) (fun _ _ _ h => h) (Or.inl ⟨by rfl, ?_⟩) (by assumption) ?_
  rotate_left
  · intro w' hSw; have hs1 := hSw.c1; (try clear hSw); go_simp; (try with_reducible rfl)
  (try simp only [Act.put, List.getElem_toArray, List.getElem_cons_zero, List.getElem_cons_succ, List.setIfInBounds_toArray, List.set_cons_zero, List.set_cons_succ])
  refine wpAnyH_take (i := 7) (v := ?_) rfl (by kernel_rfl) (by kernel_rfl) (by kernel_rfl) (fun _ _ _ h => h) (Or.inl ⟨by rfl, ?_⟩) (by assumption) ?_
  rotate_left
  · intro w' hSw; have hs1 := hSw.c1; (try clear hSw); go_simp; (try with_reducible rfl)
  (try simp only [Act.put, List.getElem_toArray, List.getElem_cons_zero, List.getElem_cons_succ, List.setIfInBounds_toArray, List.set_cons_zero, List.set_cons_succ])
  refine wpAnyH_take (i := 8) (v := ?_) rfl (by kernel_rfl) (by kernel_rfl) (by kernel_rfl) (fun _ _ _ h => h) (Or.inl ⟨by rfl, ?_⟩) (by assumption) ?_
  rotate_left
  · intro w' hSw; have hs1 := hSw.c1; (try clear hSw); go_simp; (try with_reducible rfl)
  (try simp only [Act.put, List.getElem_toArray, List.getElem_cons_zero, List.getElem_cons_succ, List.setIfInBounds_toArray, List.set_cons_zero, List.set_cons_succ])
  refine wpAnyH_take (i := 9) (v := ?_) rfl (by kernel_rfl) (by kernel_rfl) (by kernel_rfl) (fun _ _ _ h => h) (Or.inl ⟨by rfl, ?_⟩) (by assumption) ?_
  rotate_left
  · intro w' hSw; have hs1 := hSw.c1; (try clear hSw); go_simp; (try with_reducible rfl)
  (try simp only [Act.put, List.getElem_toArray, List.getElem_cons_zero, List.getElem_cons_succ, List.setIfInBounds_toArray, List.set_cons_zero, List.set_cons_succ])
  refine wpAnyH_take (i := 10) (v := ?_) rfl (by kernel_rfl) (by kernel_rfl) (by kernel_rfl) (fun _ _ _ h => h) (Or.inl ⟨by rfl, ?_⟩) (by assumption) ?_
  rotate_left
  · intro w' hSw; have hs1 := hSw.c1; (try clear hSw); go_simp; (try with_reducible rfl)
  (try simp only [Act.put, List.getElem_toArray, List.getElem_cons_zero, List.getElem_cons_succ, List.setIfInBounds_toArray, List.set_cons_zero, List.set_cons_succ])
  refine wpAnyH_take (i := 11) (v := ?_) rfl (by kernel_rfl) (by kernel_rfl) (by kernel_rfl) (fun _ _ _ h => h) (Or.inl ⟨by rfl, ?_⟩) (by assumption) ?_
  rotate_left
  · intro w' hSw; have hs1 := hSw.c1; (try clear hSw); go_simp; (try with_reducible rfl)
  (try simp only [Act.put, List.getElem_toArray, List.getElem_cons_zero, List.getElem_cons_succ, List.setIfInBounds_toArray, List.set_cons_zero, List.set_cons_succ])
  refine wpAnyH_take (i := 13) (v := ?_) rfl (by kernel_rfl) (by kernel_rfl) (by kernel_rfl) (fun _ _ _ h => h) (Or.inl ⟨by rfl, ?_⟩) (by assumption) ?_
  rotate_left
  · intro w' hSw; have hs1 := hSw.c1; (try clear hSw); go_simp; (try with_reducible rfl)
  (try simp only [Act.put, List.getElem_toArray, List.getElem_cons_zero, List.getElem_cons_succ, List.setIfInBounds_toArray, List.set_cons_zero, List.set_cons_succ])
  refine wpAnyH_ready (rs := [12]) (by kernel_rfl) (by simp) ?_
  refine AllReadyH.cons rfl (fun KK hKK => ?_) AllReadyH.nil
  go_simp
  refine hKK.out _ _ hDR (fun hHeld => ?_)
  clear hKK KK
  (try simp only [Act.put, List.getElem_toArray, List.getElem_cons_zero, List.getElem_cons_succ, List.setIfInBounds_toArray, List.set_cons_zero, List.set_cons_succ])
  refine wpAnyH_ready (rs := [14]) (by kernel_rfl) (by simp) ?_
  refine AllReadyH.cons rfl (fun KK hKK => ?_) AllReadyH.nil
  go_simp
  ((with_reducible refine (HS.out _).mono ?_); rintro e' w2 ⟨rfl, hb⟩; have hD2 := hDR.below hb; have HB := hi (Below.trans (Below.drewN (m := 1) (Below.refl w.heap.size w)) hb))
  (try go_simp)
  refine hKK.out _ _ hD2 (fun hHeld => ?_)
  clear hKK KK
  (try simp only [Act.put, List.getElem_toArray, List.getElem_cons_zero, List.getElem_cons_succ, List.setIfInBounds_toArray, List.set_cons_zero, List.set_cons_succ])
  refine wpAnyH_take (i := 15) (v := ?_) rfl (by kernel_rfl) (by kernel_rfl) (by kernel_rfl) (fun _ _ _ h => h) (Or.inl ⟨by rfl, ?_⟩) (by assumption) ?_
  rotate_left
  · intro w' hSw; have hs1 := hSw.c1; (try clear hSw); go_simp; (try with_reducible rfl)
  (try simp only [Act.put, List.getElem_toArray, List.getElem_cons_zero, List.getElem_cons_succ, List.setIfInBounds_toArray, List.set_cons_zero, List.set_cons_succ])
  refine wpAnyH_take (i := 16) (v := ?_) rfl (by kernel_rfl) (by kernel_rfl) (by kernel_rfl) (fun _ _ _ h => h) (Or.inl ⟨by rfl, ?_⟩) (by assumption) ?_
  rotate_left
  · intro w' hSw; have hs1 := hSw.c1; (try clear hSw); go_simp; (try with_reducible rfl)
  (try simp only [Act.put, List.getElem_toArray, List.getElem_cons_zero, List.getElem_cons_succ, List.setIfInBounds_toArray, List.set_cons_zero, List.set_cons_succ])
  have hRF := H.out.below HB.out
  have hth : w2.there lg (k * 7) 4 := fun j hj => ((hRF.ne0 (fun e => by have h9 := HKL.out; rw [e] at h9; simp at h9)).2.2.1.lnThere HKL.out) j (by omega)
  refine wpAnyH_ready (rs := [17]) (by kernel_rfl) (by simp) ?_
  refine AllReadyH.cons rfl (fun KK hKK => ?_) AllReadyH.nil
  rw [if_pos (by rfl)]
  refine wp_store_mid 50 (.tmp 29) (.tmp 27) rfl lg (k * 7) #[.bool ye, .bool yl, .bool yh, .bool ya] rfl rfl hth size_irq (by simp [Value.oneCell']) ?_
  simp only
  refine hKK.out _ _ (hD2.sets hblg _ _) (fun hHeld => ?_)
  clear hKK KK
  (try simp only [Act.put, List.getElem_toArray, List.getElem_cons_zero, List.getElem_cons_succ])
  refine wpAnyH_done (by kernel_rfl) ?_ _
  refine NoPanic.normal ?_
  have HRF := hi (hRF.setIrq HK.out ⟨ye, yl, yh, ya⟩)
  clear hRF hth hD2 hDR hHeld
  go_wp2
  go_ret
  refine ⟨rfl, ?_, (kept_sets (bs := fun i => i = lg ∨ i = xg) (b := lg) (.inl rfl) _ _ (Kept.of HB.out)).mono (fun i h9 => ⟨set_ne HKL.out, h9⟩)⟩
  rw [HX.out]
  exact HRF.out

theorem rdo_any {b lg xg : Nat} {la xa : Option Addr} {lc xc : Nat} {f : Int} {es : List En} {id a : Int} {w : World} (h : RfAt w b lg xg la xa lc xc f es) (hf : Fit f es.length) :
    Calls Try.prog 28 #[.pointer (some ⟨b, 0, none⟩), .int .i64 id, .int .i64 a] w fun e w' => e = .returned (.int .i64 (doR f es id a).2) ∧ RfAfter w b lg xg la xa lc xc f (doR f es id a).1 w' := by
  unfold doR
  cases hb : hasB f es.length id
  · refine (rdo_no h hf hb).mono fun e w' ⟨h1, h2⟩ => ⟨by simpa using h1, ?_⟩
    simpa using RfAfter.of h h2
  · obtain ⟨k, rfl, hk, e1⟩ := has_at hb
    refine (rdo_yes h hf (nthE_at hk)).mono fun e w' ⟨h1, h2⟩ => ⟨by simpa using h1, ?_⟩
    rw [e1]
    simpa using h2

end Go.Proofs.Ytjgamfonpagkbaa
