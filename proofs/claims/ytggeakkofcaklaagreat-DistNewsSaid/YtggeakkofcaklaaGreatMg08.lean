import Derived.Test.YtggeakkofcaklaaGreatMg04
import Derived.Test.YtggeakkofcaklaaGreatMg07
namespace Go.Proofs.YtggeakkofcaklaaGreat
open Go.ChangeShapes Go.WideShapes Go.ChangeAt Go.RowKit
set_option linter.unusedVariables false
set_option maxHeartbeats 1000000 in
theorem rdo_no {b lg xg : Nat} {la xa : Option Addr} {lc xc : Nat} {f : Int} {es : List En} {id a : Int} {w : World} (h : RfAt w b lg xg la xa lc xc f es) (hf : Fit f es.length) (hn : hasB f es.length id = false) :
    Calls Tryz.prog 65 #[.pointer (some ⟨b, 0, none⟩), .int .i64 id, .int .i64 a] w fun e w' => e = .returned (.int .i64 90) ∧ Below w.heap.size w w' := by
  have HC := hi (at_any (id := id) h hf)
  rw [atI_no hn] at HC
  clear h hf hn
  go_enter Tryz.func65, Tryz.ntmps65
  go_wp2_with (go_at_call 90; ((with_reducible refine HC.out.mono ?_); rintro e w1 ⟨rfl, rfl⟩))
  go_ret
  exact ⟨rfl, Below.refl _ _⟩
structure DR (b lg n lc k : Nat) (W : World) : Prop where
  c1 : W.cell? ⟨b, 1, none⟩ = some (.slice (some ⟨lg, 0, none⟩) n lc)
  bl : b < W.heap.size
theorem DR.below {b lg n lc k : Nat} {W W' : World} (h : DR b lg n lc k W) (q : Below W.heap.size W W') : DR b lg n lc k W' := ⟨(q.cell (p := ⟨b, 1, none⟩) h.bl).trans h.c1, Nat.lt_of_lt_of_le h.bl q.size⟩
theorem DR.sets {b lg n lc k : Nat} {W : World} (h : DR b lg n lc k W) (hb : b ≠ lg) (o : Nat) (vs : List Value) : DR b lg n lc k (W.setCells lg o vs) :=
  ⟨(World.cell?_of_block (w := W) (a := ⟨b, 1, none⟩) (heap_sets hb vs o W)).trans h.c1, by rw [size_sets]; exact h.bl⟩
set_option maxRecDepth 100000 in
set_option maxHeartbeats 4000000 in
theorem rdo_yes {b lg xg k : Nat} {la xa : Option Addr} {lc xc : Nat} {f a : Int} {es : List En} {x : En} {w : World} (h : RfAt w b lg xg la xa lc xc f es) (hf : Fit f es.length) (hk : es[k]? = some x) :
    Calls Tryz.prog 65 #[.pointer (some ⟨b, 0, none⟩), .int .i64 (f + k), .int .i64 a] w fun e w' => e = .returned (.int .i64 0) ∧ RfAfter w b lg xg la xa lc xc f (es.set k (x.step a)) w' := by
  have hkl : k < es.length := (List.getElem?_eq_some_iff.1 hk).1
  have HC := hi (at_any (id := f + k) h hf)
  rw [atI_at hkl] at HC
  have HS := hi (fun W => rstep_any x.ln.st a W)
  obtain ⟨hla, hxa, hlr, hxr, hblg, hbxg, hlxg⟩ := h.ne0 (fun e => by rw [e] at hkl; simp at hkl)
  have hbl := h.box.lt
  have H := hi h
  have HK := hi hk
  have HKL := hi hkl
  have c1 := h.box.cell 1
  obtain ⟨e0, e1, e2, e3, e4, e5, e6⟩ := hlr.lnc hk
  obtain ⟨n, hn⟩ : ∃ n, es.length = n := ⟨_, rfl⟩
  have HN := hi hn
  rw [hn] at c1 hkl
  have HX := hi (show x.step a = ⟨{ x.ln with st := x.ln.st.step a }, x.s⟩ from rfl)
  obtain ⟨y, hy⟩ : ∃ y, x.ln.st.step a = y := ⟨_, rfl⟩
  rw [hy] at HS HX
  subst hla hxa
  have hDR : DR b lg n lc k w.drew := ⟨c1, hbl⟩
  clear h hf hn hk hy hlr hxr
  obtain ⟨⟨⟨e, l, q, a'⟩, en, gr, p⟩, s⟩ := x
  obtain ⟨ye, yl, yh, ya⟩ := y
  dsimp only [St.v] at HS
  dsimp only at e0 e1 e2 e3 e4 e5 e6
  go_enter Tryz.func65, Tryz.ntmps65
  go_wp2_with (go_at_call 90; ((with_reducible refine HC.out.mono ?_); rintro e' w1 ⟨rfl, rfl⟩))
  refine wp_region_noPanic ?_
  refine wp_region_held_drew (S := DR b lg n lc k) (by kernel_rfl) hDR (fun hHeld => ?_)
  (try simp only [Array.replicate_succ, Array.replicate_zero, List.push_toArray, List.nil_append, List.cons_append])
  refine wpAnyH_take (i := 0) (v := ?_) rfl (by kernel_rfl) (by kernel_rfl) (by kernel_rfl) (fun _ _ _ h => h) (Or.inl ⟨by rfl, ?_⟩) (by assumption) ?_
  rotate_left
  · intro w' hSw; have hs1 := hSw.c1; (try clear hSw); go_simp; (try with_reducible rfl)
  (try simp only [Act.put, List.getElem_toArray, List.getElem_cons_zero, List.setIfInBounds_toArray, List.set_cons_zero, List.set_cons_succ])
  refine wpAnyH_take (i := 1) (v := ?_) rfl (by kernel_rfl) (by kernel_rfl) (by kernel_rfl) (fun _ _ _ h => h) (Or.inl ⟨by rfl, ?_⟩) (by assumption) ?_
  rotate_left
  · intro w' hSw; have hs1 := hSw.c1; (try clear hSw); go_simp; (try with_reducible rfl)
  (try simp only [Act.put, List.getElem_toArray, List.getElem_cons_zero, List.getElem_cons_succ, List.setIfInBounds_toArray, List.set_cons_zero, List.set_cons_succ])
  refine wpAnyH_take (i := 2) (v := ?_) rfl (by kernel_rfl) (by kernel_rfl) (by kernel_rfl) (fun _ _ _ h => h) (Or.inl ⟨by rfl, ?_⟩) (by assumption) ?_
  rotate_left
  · intro w' hSw; have hs1 := hSw.c1; (try clear hSw); go_simp; (try with_reducible rfl)
  (try simp only [Act.put, List.getElem_toArray, List.getElem_cons_zero, List.getElem_cons_succ, List.setIfInBounds_toArray, List.set_cons_zero, List.set_cons_succ])
  refine wpAnyH_take (i := 3) (v := ?_) rfl (by kernel_rfl) (by kernel_rfl) (by kernel_rfl) (fun _ _ _ h => h) (Or.inl ⟨by rfl, ?_⟩) (by assumption) ?_
  rotate_left
  · intro w' hSw; have hs1 := hSw.c1; (try clear hSw); go_simp; (try with_reducible rfl)
  (try simp only [Act.put, List.getElem_toArray, List.getElem_cons_zero, List.getElem_cons_succ, List.setIfInBounds_toArray, List.set_cons_zero, List.set_cons_succ])
  refine wpAnyH_take (i := 4) (v := ?_) rfl (by kernel_rfl) (by kernel_rfl) (by kernel_rfl) (fun _ _ _ h => h) (Or.inl ⟨by rfl, ?_⟩) (by assumption) ?_
  rotate_left
  · intro w' hSw; have hs1 := hSw.c1; (try clear hSw); go_simp; (try with_reducible rfl)
  (try simp only [Act.put, List.getElem_toArray, List.getElem_cons_zero, List.getElem_cons_succ, List.setIfInBounds_toArray, List.set_cons_zero, List.set_cons_succ])
  refine wpAnyH_take (i := 5) (v := ?_) rfl (by kernel_rfl) (by kernel_rfl) (by kernel_rfl) (fun _ _ _ h => h) (Or.inl ⟨by rfl, ?_⟩) (by assumption) ?_
  rotate_left
  · intro w' hSw; have hs1 := hSw.c1; (try clear hSw); go_simp; (try with_reducible rfl)
  (try simp only [Act.put, List.getElem_toArray, List.getElem_cons_zero, List.getElem_cons_succ, List.setIfInBounds_toArray, List.set_cons_zero, List.set_cons_succ])
  refine wpAnyH_take (i := 6) (v := ?_) rfl (by kernel_rfl) (by kernel_rfl) (by kernel_rfl) (fun _ _ _ h => h) (Or.inl ⟨by rfl, ?_⟩) (by assumption) ?_
  rotate_left
  · intro w' hSw; have hs1 := hSw.c1; (try clear hSw); go_simp; (try with_reducible rfl)
  (try simp only [Act.put, List.getElem_toArray, List.getElem_cons_zero, List.getElem_cons_succ, List.setIfInBounds_toArray, List.set_cons_zero, List.set_cons_succ])
  refine wpAnyH_take (i := 7) (v := ?_) rfl (by kernel_rfl) (by kernel_rfl) (by kernel_rfl) (fun _ _ _ h => h) (Or.inl ⟨by rfl, ?_⟩) (by assumption) ?_
  rotate_left
  · intro w' hSw; have hs1 := hSw.c1; (try clear hSw); go_simp; (try with_reducible rfl)
  (try simp only [Act.put, List.getElem_toArray, List.getElem_cons_zero, List.getElem_cons_succ, List.setIfInBounds_toArray, List.set_cons_zero, List.set_cons_succ])
  refine wpAnyH_take (i := 8) (v := ?_) rfl (by kernel_rfl) (by kernel_rfl) (by kernel_rfl) (fun _ _ _ h => h) (Or.inl ⟨by rfl, ?_⟩) (by assumption) ?_
  rotate_left
  · intro w' hSw; have hs1 := hSw.c1; (try clear hSw); go_simp; (try with_reducible rfl)
  (try simp only [Act.put, List.getElem_toArray, List.getElem_cons_zero, List.getElem_cons_succ, List.setIfInBounds_toArray, List.set_cons_zero, List.set_cons_succ])
  refine wpAnyH_take (i := 9) (v := ?_) rfl (by kernel_rfl) (by kernel_rfl) (by kernel_rfl) (fun _ _ _ h => h) (Or.inl ⟨by rfl, ?_⟩) (by assumption) ?_
  rotate_left
  · intro w' hSw; have hs1 := hSw.c1; (try clear hSw); go_simp; (try with_reducible rfl)
  (try simp only [Act.put, List.getElem_toArray, List.getElem_cons_zero, List.getElem_cons_succ, List.setIfInBounds_toArray, List.set_cons_zero, List.set_cons_succ])
  refine wpAnyH_take (i := 10) (v := ?_) rfl (by kernel_rfl) (by kernel_rfl) (by kernel_rfl) (fun _ _ _ h => h) (Or.inl ⟨by rfl, ?_⟩) (by assumption) ?_
  rotate_left
  · intro w' hSw; have hs1 := hSw.c1; (try clear hSw); go_simp; (try with_reducible rfl)
  (try simp only [Act.put, List.getElem_toArray, List.getElem_cons_zero, List.getElem_cons_succ, List.setIfInBounds_toArray, List.set_cons_zero, List.set_cons_succ])
  refine wpAnyH_take (i := 11) (v := ?_) rfl (by kernel_rfl) (by kernel_rfl) (by kernel_rfl) (fun _ _ _ h => h) (Or.inl ⟨by rfl, ?_⟩) (by assumption) ?_
  rotate_left
  · intro w' hSw; have hs1 := hSw.c1; (try clear hSw); go_simp; (try with_reducible rfl)
  (try simp only [Act.put, List.getElem_toArray, List.getElem_cons_zero, List.getElem_cons_succ, List.setIfInBounds_toArray, List.set_cons_zero, List.set_cons_succ])
  refine wpAnyH_take (i := 13) (v := ?_) rfl (by kernel_rfl) (by kernel_rfl) (by kernel_rfl) (fun _ _ _ h => h) (Or.inl ⟨by rfl, ?_⟩) (by assumption) ?_
  rotate_left
  · intro w' hSw; have hs1 := hSw.c1; (try clear hSw); go_simp; (try with_reducible rfl)
  (try simp only [Act.put, List.getElem_toArray, List.getElem_cons_zero, List.getElem_cons_succ, List.setIfInBounds_toArray, List.set_cons_zero, List.set_cons_succ])
  refine wpAnyH_ready (rs := [12]) (by kernel_rfl) (by simp) ?_
  refine AllReadyH.cons rfl (fun KK hKK => ?_) AllReadyH.nil
  go_simp
  refine hKK.out _ _ hDR (fun hHeld => ?_)
  clear hKK KK
  (try simp only [Act.put, List.getElem_toArray, List.getElem_cons_zero, List.getElem_cons_succ, List.setIfInBounds_toArray, List.set_cons_zero, List.set_cons_succ])
  refine wpAnyH_ready (rs := [14]) (by kernel_rfl) (by simp) ?_
  refine AllReadyH.cons rfl (fun KK hKK => ?_) AllReadyH.nil
  go_simp
  ((with_reducible refine (HS.out _).mono ?_); rintro e' w2 ⟨rfl, hb⟩; have hD2 := hDR.below hb; have HB := hi (Below.trans (Below.drewN (m := 1) (Below.refl w.heap.size w)) hb))
  (try go_simp)
  refine hKK.out _ _ hD2 (fun hHeld => ?_)
  clear hKK KK
  (try simp only [Act.put, List.getElem_toArray, List.getElem_cons_zero, List.getElem_cons_succ, List.setIfInBounds_toArray, List.set_cons_zero, List.set_cons_succ])
  refine wpAnyH_take (i := 15) (v := ?_) rfl (by kernel_rfl) (by kernel_rfl) (by kernel_rfl) (fun _ _ _ h => h) (Or.inl ⟨by rfl, ?_⟩) (by assumption) ?_
  rotate_left
  · intro w' hSw; have hs1 := hSw.c1; (try clear hSw); go_simp; (try with_reducible rfl)
  (try simp only [Act.put, List.getElem_toArray, List.getElem_cons_zero, List.getElem_cons_succ, List.setIfInBounds_toArray, List.set_cons_zero, List.set_cons_succ])
  refine wpAnyH_take (i := 16) (v := ?_) rfl (by kernel_rfl) (by kernel_rfl) (by kernel_rfl) (fun _ _ _ h => h) (Or.inl ⟨by rfl, ?_⟩) (by assumption) ?_
  rotate_left
  · intro w' hSw; have hs1 := hSw.c1; (try clear hSw); go_simp; (try with_reducible rfl)
  (try simp only [Act.put, List.getElem_toArray, List.getElem_cons_zero, List.getElem_cons_succ, List.setIfInBounds_toArray, List.set_cons_zero, List.set_cons_succ])
  have hRF := H.out.below HB.out
  have hth : w2.there lg (k * 7) 4 := fun j hj => ((hRF.ne0 (fun e => by have h9 := HKL.out; rw [e] at h9; simp at h9)).2.2.1.lnThere HKL.out) j (by omega)
  refine wpAnyH_ready (rs := [17]) (by kernel_rfl) (by simp) ?_
  refine AllReadyH.cons rfl (fun KK hKK => ?_) AllReadyH.nil
  rw [if_pos (by rfl)]
  refine wp_store_mid 31 (.tmp 29) (.tmp 27) rfl lg (k * 7) #[.bool ye, .bool yl, .bool yh, .bool ya] rfl rfl hth size_irq (by simp [Value.oneCell']) ?_
  simp only
  refine hKK.out _ _ (hD2.sets hblg _ _) (fun hHeld => ?_)
  clear hKK KK
  (try simp only [Act.put, List.getElem_toArray, List.getElem_cons_zero, List.getElem_cons_succ])
  refine wpAnyH_done (by kernel_rfl) ?_ _
  refine NoPanic.normal ?_
  have HRF := hi (hRF.setIrq HK.out ⟨ye, yl, yh, ya⟩)
  clear hRF hth hD2 hDR hHeld
  go_wp2
  go_ret
  refine ⟨rfl, ?_, (kept_sets (bs := fun i => i = lg ∨ i = xg) (b := lg) (.inl rfl) _ _ (Kept.of HB.out)).mono (fun i h9 => ⟨set_ne HKL.out, h9⟩)⟩
  rw [HX.out]
  exact HRF.out
theorem rdo_any {b lg xg : Nat} {la xa : Option Addr} {lc xc : Nat} {f : Int} {es : List En} {id a : Int} {w : World} (h : RfAt w b lg xg la xa lc xc f es) (hf : Fit f es.length) :
    Calls Tryz.prog 65 #[.pointer (some ⟨b, 0, none⟩), .int .i64 id, .int .i64 a] w fun e w' => e = .returned (.int .i64 (doR f es id a).2) ∧ RfAfter w b lg xg la xa lc xc f (doR f es id a).1 w' := by
  unfold doR
  cases hb : hasB f es.length id
  · refine (rdo_no h hf hb).mono fun e w' ⟨h1, h2⟩ => ⟨by simpa using h1, ?_⟩
    simpa using RfAfter.of h h2
  · obtain ⟨k, rfl, hk, e1⟩ := has_at hb
    refine (rdo_yes h hf (nthE_at hk)).mono fun e w' ⟨h1, h2⟩ => ⟨by simpa using h1, ?_⟩
    rw [e1]
    simpa using h2
end Go.Proofs.YtggeakkofcaklaaGreat
namespace Go.Proofs.YtggeakkofcaklaaGreat
open Go.ChangeShapes Go.WideShapes Go.ChangeAt Go.RowKit Go.Shelf
set_option linter.unusedVariables false
attribute [local go_sem] Oper.semAt_some
theorem info_ln : (Tryz.prog.info? 58).map (fun i => (i.zero, i.size, i.bytes)) = some (some (.agg #[.bool false, .bool false, .bool false, .bool false, .bool false, .int .i64 0, .int .i64 0]), 7, 24) := by kernel_rfl
theorem info_str : (Tryz.prog.info? 9).map (fun i => (i.zero, i.size, i.bytes)) = some (some (.string ⟨#[]⟩), 1, 16) := by kernel_rfl
theorem fresh_succ (k : Nat) (s : Rt) : fresh (k + 1) s = fresh k s ++ [⟨Ln.zero, s⟩] := by simp [fresh, List.replicate_succ']
theorem flL_fresh (k : Nat) (s : Rt) : flL (fresh (k + 1) s) = flL (fresh k s) ++ Ln.zero.cs := by rw [fresh_succ, flL, flat_append, flat_one]
theorem flX_fresh (k : Nat) (s : Rt) : flX (fresh (k + 1) s) = flX (fresh k s) ++ [.string ⟨#[]⟩] := by rw [fresh_succ, flX, flat_append, flat_one]
theorem fresh_len (k : Nat) (s : Rt) : (fresh k s).length = k := by simp [fresh]
theorem cell_ln_new (w : World) (t : TypeId) : ∀ j u, Ln.zero.cs[j]? = some u → (w.alloc (.cells #[.bool false, .bool false, .bool false, .bool false, .bool false, .int .i64 0, .int .i64 0] t)).cell? ((⟨w.heap.size, 0, none⟩ : Addr).add j) = some u := by
  intro j u h
  rw [addr_add, Nat.zero_add, (CB.new w t _).cell]
  match j, h with
  | 0, h => simpa [Ln.cs, Ln.zero, St.zero] using h
  | 1, h => simpa [Ln.cs, Ln.zero, St.zero] using h
  | 2, h => simpa [Ln.cs, Ln.zero, St.zero] using h
  | 3, h => simpa [Ln.cs, Ln.zero, St.zero] using h
  | 4, h => simpa [Ln.cs, Ln.zero, St.zero] using h
  | 5, h => simpa [Ln.cs, Ln.zero, St.zero] using h
  | 6, h => simpa [Ln.cs, Ln.zero, St.zero] using h
  | j + 7, h => simp [Ln.cs] at h
theorem cell_one_at {W : World} {b : Nat} (hb : b = W.heap.size) (x : Value) (t : TypeId) : ∀ j u, [x][j]? = some u → (W.alloc (.cells #[x] t)).cell? ((⟨b, 0, none⟩ : Addr).add j) = some u := by
  subst hb
  exact cell_one_new W x t
theorem own_apart {W : World} {base sz sz' n n' : Nat} {te te' : TypeId} {v v' : Value} {cs cs' : List Value} (h : W.ownsRow base te sz v n cs) (h' : W.ownsRow base te' sz' v' n' cs') (hne : te ≠ te') : v.ownBlock = none ∨ v.ownBlock ≠ v'.ownBlock := by
  rcases h.2 with ⟨rfl, _⟩ | ⟨g, cap, cur, rfl, _, hg, _⟩
  · exact .inl rfl
  · rcases h'.2 with ⟨rfl, _⟩ | ⟨g', cap', cur', rfl, _, hg', _⟩
    · exact .inr (by simp [Value.ownBlock])
    · refine .inr fun e => ?_
      obtain rfl : g = g' := by simpa [Value.ownBlock] using e
      rw [hg] at hg'
      simp only [Option.some.injEq, Obj.cells.injEq] at hg'
      exact hne hg'.2.1
theorem own_above {W : World} {base sz n : Nat} {te : TypeId} {v : Value} {cs : List Value} (h : W.ownsRow base te sz v n cs) {b : Nat} (hb : b < base) : some b ≠ v.ownBlock := fun e => by have := (h.lt b e.symm).1; omega
structure RN (w : World) (k : Nat) (v1 v2 : Value) (s : Rt) (f : Int) (W : World) : Prop where
  box : CB W w.heap.size 153 #[.int .i64 f, v1, v2]
  l : W.ownsRow (w.heap.size + 1) 58 7 v1 k (flL (fresh k s))
  x : W.ownsRow (w.heap.size + 1) 9 1 v2 k (flX (fresh k s))
  below : Below w.heap.size w W
structure RM (w : World) (k : Nat) (v1 v2 : Value) (s : Rt) (f : Int) (W : World) : Prop where
  box : CB W w.heap.size 153 #[.int .i64 f, v1, v2]
  l : W.ownsRow (w.heap.size + 1) 58 7 v1 (k + 1) (flL (fresh (k + 1) s))
  x : W.ownsRow (w.heap.size + 1) 9 1 v2 k (flX (fresh k s))
  below : Below w.heap.size w W
theorem ty_lx : (58 : Nat) ≠ 9 := by decide
theorem CB.set3 {W : World} {B : Nat} {t : TypeId} {a0 a1 a2 : Value} (h : CB W B t #[a0, a1, a2]) (v : Value) : CB (W.setCell ⟨B, 1, none⟩ v) B t #[a0, v, a2] := by
  have := h.set 1 v
  simpa only [List.setIfInBounds_toArray, List.set_cons_zero, List.set_cons_succ] using this
theorem CB.set3b {W : World} {B : Nat} {t : TypeId} {a0 a1 a2 : Value} (h : CB W B t #[a0, a1, a2]) (v : Value) : CB (W.setCell ⟨B, 2, none⟩ v) B t #[a0, a1, v] := by
  have := h.set 2 v
  simpa only [List.setIfInBounds_toArray, List.set_cons_zero, List.set_cons_succ] using this
theorem own_setCell {W : World} {base sz n : Nat} {te : TypeId} {v : Value} {cs : List Value} (h : W.ownsRow base te sz v n cs) {b o : Nat} (hb : b < base) (u : Value) : (W.setCell ⟨b, o, none⟩ u).ownsRow base te sz v n cs :=
  h.kept (row := some b) ⟨rfl, rfl, rfl, by simp, fun k hk hne => Below.heap_setCell W ⟨b, o, none⟩ u k (fun e => hne (by rw [e]))⟩ (.inr (own_above h hb).symm)
theorem RN.lines {w W w9 : World} {k : Nat} {v1 v2 v' : Value} {s : Rt} {f : Int} {tmp : Obj} (h : RN w k v1 v2 s f W) (ho : w9.ownsRow (w.heap.size + 1) 58 7 v' (k + 1) (flL (fresh k s) ++ Ln.zero.cs)) (hg : (W.alloc tmp).grownBy w9 v1.ownBlock) :
    CB w9 w.heap.size 153 #[.int .i64 f, v1, v2] ∧ RM w k v' v2 s f (w9.setCell ⟨w.heap.size, 1, none⟩ v') := by
  have hb1 : CB w9 w.heap.size 153 #[.int .i64 f, v1, v2] := CB.kept (h.box.alloc tmp) hg (own_above h.l (by omega))
  have hx1 := (h.x.alloc tmp).kept hg (own_apart (h.x.alloc tmp) (h.l.alloc tmp) (Ne.symm ty_lx))
  have hbl : Below w.heap.size w w9 := (h.below.alloc h.below.size tmp).grown hg (by have := h.below.size; simp; omega) (fun j e => by have := (h.l.lt j e).1; omega)
  refine ⟨hb1, hb1.set3 v', ?_, own_setCell hx1 (by omega) _, below_set hbl (Nat.le_refl _) _⟩
  rw [flL_fresh]
  exact own_setCell ho (by omega) _
theorem RM.texts {w W w9 : World} {k : Nat} {v1 v2 v' : Value} {s : Rt} {f : Int} {tmp : Obj} (h : RM w k v1 v2 s f W) (ho : w9.ownsRow (w.heap.size + 1) 9 1 v' (k + 1) (flX (fresh k s) ++ [.string ⟨#[]⟩])) (hg : (W.alloc tmp).grownBy w9 v2.ownBlock) :
    CB w9 w.heap.size 153 #[.int .i64 f, v1, v2] ∧ RN w (k + 1) v1 v' s f (w9.setCell ⟨w.heap.size, 2, none⟩ v') := by
  have hb1 : CB w9 w.heap.size 153 #[.int .i64 f, v1, v2] := CB.kept (h.box.alloc tmp) hg (own_above h.x (by omega))
  have hl1 := (h.l.alloc tmp).kept hg (own_apart (h.l.alloc tmp) (h.x.alloc tmp) ty_lx)
  have hbl : Below w.heap.size w w9 := (h.below.alloc h.below.size tmp).grown hg (by have := h.below.size; simp; omega) (fun j e => by have := (h.x.lt j e).1; omega)
  refine ⟨hb1, hb1.set3b v', own_setCell hl1 (by omega) _, ?_, below_set hbl (Nat.le_refl _) _⟩
  rw [flX_fresh]
  exact own_setCell ho (by omega) _
def RMade (w : World) (f : Int) (n : Nat) (s : Rt) (e : Ending) (w' : World) : Prop :=
  ∃ b lg xg la xa lc xc, e = .returned (.tuple #[.pointer (some ⟨b, 0, none⟩), .bool true]) ∧ w.heap.size ≤ b ∧ w.heap.size ≤ lg ∧ w.heap.size ≤ xg ∧ RfAt w' b lg xg la xa lc xc f (fresh n s) ∧ Below w.heap.size w w'
theorem rmade_of {w W : World} {n : Nat} {v1 v2 : Value} {s : Rt} {f : Int} (h : RN w n v1 v2 s f W) : RMade w f n s (.returned (.tuple #[.pointer (some ⟨w.heap.size, 0, none⟩), .bool true])) W := by
  have hap := own_apart h.l h.x ty_lx
  have hlt1 := h.l.lt
  have hlt2 := h.x.lt
  rcases h.l.2 with ⟨rfl, h0⟩ | ⟨lg, lc, cur, rfl, hb, hg, _⟩
  · subst h0
    obtain ⟨va, vc, rfl⟩ : ∃ a c, v2 = .slice a 0 c := by
      rcases h.x.2 with ⟨rfl, _⟩ | ⟨g, cap, cur, rfl, _⟩
      · exact ⟨_, _, rfl⟩
      · exact ⟨_, _, rfl⟩
    exact ⟨w.heap.size, w.heap.size, w.heap.size, none, va, 0, vc, rfl, Nat.le_refl _, Nat.le_refl _, Nat.le_refl _, ⟨by rw [fresh_len]; exact h.box, fun hne => absurd rfl hne⟩, h.below⟩
  · rcases h.x.2 with ⟨rfl, h0⟩ | ⟨xg, xc, cur', rfl, hb', hg', _⟩
    · subst h0
      exact ⟨w.heap.size, w.heap.size, w.heap.size, _, none, _, 0, rfl, Nat.le_refl _, Nat.le_refl _, Nat.le_refl _, ⟨by rw [fresh_len]; exact h.box, fun hne => absurd rfl hne⟩, h.below⟩
    · refine ⟨w.heap.size, lg, xg, _, _, lc, xc, rfl, Nat.le_refl _, by omega, by omega, ⟨by rw [fresh_len]; exact h.box, fun hne => ⟨rfl, rfl, Row.own h.l, Row.own h.x, by omega, by omega, fun e => ?_⟩⟩, h.below⟩
      subst e
      rcases hap with hap | hap
      · simp [Value.ownBlock] at hap
      · exact hap rfl
set_option maxRecDepth 100000 in
set_option maxHeartbeats 4000000 in
theorem rnew_yes (f : Int) (n : Nat) (s : Rt) (w : World) (h : NewOk f n) :
    Calls Tryz.prog 64 #[.int .i64 f, .int .i64 n, .string ⟨#[]⟩] w (RMade w f n s) := by
  obtain ⟨f1, n1, hs⟩ := h
  obtain ⟨i0, hi2, hz0, hz1, hz2⟩ := info_parts info_ln
  obtain ⟨j0, hj2, hy0, hy1, hy2⟩ := info_parts info_str
  have hd1 : decide (f < 0) = false := by simp; omega
  have hd2 : decide ((n : Int) < 0) = false := by simp
  have hd3 : decide (16384 < f) = false := by simp; omega
  have hd4 : decide (16384 < (n : Int)) = false := by simp; omega
  have hw : IntKind.i64.wrap (f + n) = f + n := by rw [IntKind.wrap_i64]; omega
  have hd5 : decide (16384 < f + (n : Int)) = false := by simp; omega
  have hn : n ≤ 16384 := by omega
  have H0 := hi (show RN w 0 (.slice none 0 0) (.slice none 0 0) s f (w.alloc (.cells #[.int .i64 f, .slice none 0 0, .slice none 0 0] 153)) from ⟨CB.new w _ _, World.ownsRow_nil _ _ _ _, World.ownsRow_nil _ _ _ _, bal w _⟩)
  go_enter Tryz.func64, Tryz.ntmps64
  go_wp2
  go_loopw [9] (fun i wr => ∃ k : Nat, k ≤ n ∧ i = .int .i64 k ∧ ∃ v1 v2, Hi (RN w k v1 v2 s f wr)) (fun i _ => n - (intOf i).toNat)
  case atStart => exact ⟨0, Nat.zero_le _, rfl, _, _, H0⟩
  case round =>
    obtain ⟨k, hk, rfl, v1, v2, HX⟩ := hrel
    clear H0
    by_cases hlt : k < n
    · have hX := HX.out
      have hbox := hX.box
      have hl := hX.l
      have hbs := hX.below.size
      have hwl := hbox.lt
      have c1 := hbox.cell 1
      have c2 := hbox.cell 2
      obtain ⟨va, vc, rfl⟩ := own_slice hl
      obtain ⟨xa, xc, rfl⟩ := own_slice hX.x
      clear hX
      go_wp2_with (first
        | (at_builtin; refine wpList_append_own _ rfl _ _ 150 rfl (w.heap.size + 1) 58 i0 (.agg #[.bool false, .bool false, .bool false, .bool false, .bool false, .int .i64 0, .int .i64 0]) 7 24 Tryz.underlying150 hi2 hz0 hz1 hz2 rfl (by decide) _ _ _ rfl (hl.alloc _) ⟨wr.heap.size, 0, none⟩ 1 1 Ln.zero.cs rfl rfl (cell_ln_new _ _) (ln_one _) (by unfold maxLen; omega) (by omega) (by simp; omega) ?_; intro v' w9 hown' hgrow _; obtain ⟨g', cap', rfl⟩ := ownsRow_succ hown'; obtain ⟨hb9, hm9⟩ := HX.out.lines hown' hgrow; have d0 := hb9.cell 0; have d1 := hb9.cell 1; have d2 := hb9.cell 2; have fz := hb9.frozen; have HM := hi hm9; have hx2 := hm9.x; have hw9 : w.heap.size ≤ w9.heap.size := (by have h9 := hm9.below.size; simpa using h9); have m1 := hm9.box.cell 1; have m2 := hm9.box.cell 2; have mf := hm9.box.frozen; clear hb9 hm9)
        | (at_builtin; refine wpList_append_own _ rfl _ _ 151 rfl (w.heap.size + 1) 9 j0 (.string ⟨#[]⟩) 1 16 Tryz.underlying151 hj2 hy0 hy1 hy2 rfl (by decide) _ _ _ rfl (hx2.alloc _) ⟨w9.heap.size, 0, none⟩ 1 1 [.string ⟨#[]⟩] rfl rfl (cell_one_at (by simp) _ _) (by simp [Value.oneCell']) (by unfold maxLen; omega) (by omega) (by simp; omega) ?_; intro v'' w8 hown8 hgrow8 _; obtain ⟨g8, cap8, rfl⟩ := ownsRow_succ hown8; obtain ⟨hb8, hm8⟩ := HM.out.texts hown8 hgrow8; have e0 := hb8.cell 0; have e1 := hb8.cell 1; have e2 := hb8.cell 2; have fy := hb8.frozen; have HR := hi hm8; clear hb8 hm8))
      go_roundw
      case rel => exact ⟨k + 1, by omega, by go_num, _, _, HR⟩
      case measure => simp only [intOf]; omega
    · obtain rfl : k = n := by omega
      go_wp2
      go_ret2
      exact rmade_of HX.out
end Go.Proofs.YtggeakkofcaklaaGreat
namespace Go.Proofs.YtggeakkofcaklaaGreat
open Go.ChangeShapes Go.WideShapes Go.ChangeAt Go.RowKit Go.Shelf
set_option linter.unusedVariables false
attribute [local go_sem] Oper.semAt_some
theorem pres_yes {f0 : Int} {n : Nat} {fp : Int} {k : Nat} (h : hasB f0 n (fp + k) = true) : presL f0 n fp (k + 1) = presL f0 n fp k ++ [k] := by
  rw [presL, List.range_succ, filterN_yes _ h]; rfl
theorem pres_no {f0 : Int} {n : Nat} {fp : Int} {k : Nat} (h : hasB f0 n (fp + k) = false) : presL f0 n fp (k + 1) = presL f0 n fp k := by
  rw [presL, List.range_succ, filterN_no _ h]; rfl
theorem LnC.below {W W' : World} {g o : Nat} {x : Ln} (h : LnC W g o x) (hg : g < W.heap.size) (k : Below W.heap.size W W') : LnC W' g o x := h.heap (k.block g hg)
theorem LnC.drew {W : World} {g o : Nat} {x : Ln} (h : LnC W g o x) : LnC W.drew g o x := h.heap rfl
set_option maxRecDepth 100000 in
set_option maxHeartbeats 16000000 in
theorem rread_any {b lg xg : Nat} {la xa : Option Addr} {lc xc : Nat} {f0 : Int} {es : List En} {p : Pl} {c : Nat} {w : World} (h : RfAt w b lg xg la xa lc xc f0 es) (hf : Fit f0 es.length) (hfine : FineAll es) (hp : PlOk p c) :
    Calls Tryz.prog 101 #[.pointer (some ⟨b, 0, none⟩), p.v] w fun e w' => e = .returned (.int .u64 (readV p c f0 es : Nat)) ∧ Below w.heap.size w w' := by
  have HF := hi hf
  have HFA := hi hfine
  have H := hi h
  have HAT := hi (fun id W (hW : Below w.heap.size w W) => at_any (id := id) (h.below hW) hf)
  have HWT := hi (fun v k x W hv hx hk hc => rwith_any v p k x W hv hx hk hc)
  obtain ⟨n, hn⟩ : ∃ n, es.length = n := ⟨_, rfl⟩
  have HN := hi hn
  have hpk := hp.cnt
  have hfew := hp.few
  have hpf0 := hp.f0
  have hpf1 := hp.f1
  unfold readV
  rw [hn] at HAT ⊢
  clear h hf hfine hp hn
  obtain ⟨r, fp, pc⟩ := p
  dsimp only at hpk hpf0 hpf1
  subst hpk
  dsimp only [Pl.v, Pl.cs] at HWT ⊢
  have HNW := hi (CB.new w 70 #[.int .i64 r, .int .i64 fp, .int .i64 c])
  have HBW := hi (bal w (.cells #[.int .i64 r, .int .i64 fp, .int .i64 c] 70))
  have HSZ := hi (show (w.alloc (.cells #[.int .i64 r, .int .i64 fp, .int .i64 c] 70)).heap.size = w.heap.size + 1 by simp)
  go_enter Tryz.func101, Tryz.ntmps101
  go_wp2
  obtain ⟨w1, hw1⟩ : ∃ w1, w.alloc (.cells #[.int .i64 r, .int .i64 fp, .int .i64 c] 70) = w1 := ⟨_, rfl⟩
  rw [hw1] at HNW HBW HSZ ⊢
  clear hw1
  go_loopw [5, 6] (fun o i wr => ∃ k : Nat, k ≤ c ∧ i = .int .i64 k ∧ o = .int .u64 (readL ⟨r, fp, c⟩ f0 es (presL f0 n fp k) : Nat) ∧ Hi (Below w1.heap.size w1 wr)) (fun _ i _ => c - (intOf i).toNat)
  case atStart => exact ⟨0, Nat.zero_le _, rfl, rfl, hi (Below.refl _ _)⟩
  case round =>
    obtain ⟨k, hk, rfl, rfl, HX⟩ := hrel
    have HP := hi (HNW.out.below HX.out)
    have p0 := HP.out.cell 0
    have p1 := HP.out.cell 1
    have p2 := HP.out.cell 2
    have p0' : wr.cell? ⟨w.heap.size, 0, none⟩ = some (.int .i64 r) := p0
    have p1' : wr.cell? ⟨w.heap.size, 1, none⟩ = some (.int .i64 fp) := p1
    have p2' : wr.cell? ⟨w.heap.size, 2, none⟩ = some (.int .i64 c) := p2
    clear p0 p1 p2
    by_cases hlt : k < c
    · have HBR := hi (HBW.out.trans (HX.out.mono HBW.out.size))
      have HA1 := hi (HAT.out (fp + k) wr HBR.out)
      have hw : IntKind.i64.wrap (fp + k) = fp + k := by rw [IntKind.wrap_i64]; omega
      cases hin : hasB f0 n (fp + k)
      · rw [atI_no hin] at HA1
        have HE := hi (pres_no hin)
        clear hin
        go_wp2_with (go_at_call 90; ((with_reducible refine HA1.out.mono ?_); rintro e w2 ⟨rfl, rfl⟩))
        go_roundw
        case rel => exact ⟨k + 1, by omega, by go_num, by rw [HE.out], HX⟩
        case measure => simp only [intOf]; omega
      · obtain ⟨hid, hjn⟩ := plc_at hin
        have HE := hi (pres_yes hin)
        obtain ⟨j, hj⟩ : ∃ j, plcK f0 fp k = j := ⟨_, rfl⟩
        have HSN := hi (readL_snoc ⟨r, fp, c⟩ f0 es (presL f0 n fp k) k)
        dsimp only at HSN
        rw [hj] at hid hjn HSN
        rw [hid, atI_at hjn] at HA1
        have hje : j < es.length := by rw [HN.out]; exact hjn
        have hne : es ≠ [] := fun e => by rw [e] at hje; simp at hje
        have hfj : Fine (nthE es j).ln := HFA.out.nth hje
        have HR := hi (H.out.below HBR.out)
        obtain ⟨rfl, hxa, hlr, _, _, _, _⟩ := HR.out.ne0 hne
        have hb1 := HR.out.box.cell 1
        rw [HN.out] at hb1
        have HLN := hi (hlr.lnc (nthE_at hje))
        have hlgl := hlr.lt
        have hvlt := readL_lt ⟨r, fp, c⟩ f0 es (presL f0 n fp k)
        obtain ⟨y, hy⟩ : ∃ y, nthE es j = y := ⟨_, rfl⟩
        rw [hy] at hfj HSN HLN
        have HT := hi (fun W => shows_any y.ln r W hfj)
        have hty := toldV_le hfj r
        obtain ⟨t, ht⟩ : ∃ t, toldV y.ln r = t := ⟨_, rfl⟩
        rw [ht] at HT HSN hty
        obtain ⟨v, hv⟩ : ∃ v, readL ⟨r, fp, c⟩ f0 es (presL f0 n fp k) = v := ⟨_, rfl⟩
        rw [hv] at HSN hvlt ⊢
        have HW := hi (fun W => HWT.out v k t W hvlt (by omega) (by omega) (by simpa using hlt))
        obtain ⟨v2, hv2⟩ : ∃ v2, withN (wideN r) v k t = v2 := ⟨_, rfl⟩
        rw [hv2] at HW HSN
        have hbl := HR.out.box.lt
        have HRB := hi HR.out.box
        clear hin hj hy ht hv hv2 hlr hne hfj hje
        obtain ⟨⟨⟨e, lb', q, a⟩, en, gr, pr⟩, s⟩ := y
        dsimp only [Ln.v] at HT HLN
        rw [← hid] at HA1
        clear hid
        go_wp2_with (go_at_call 90; ((with_reducible refine HA1.out.mono ?_); rintro e' w2 ⟨rfl, rfl⟩))
        have hS0 : (fun W' => CB W' w.heap.size 70 #[.int .i64 r, .int .i64 fp, .int .i64 c] ∧ W'.cell? ⟨b, 1, none⟩ = some (.slice (some ⟨lg, 0, none⟩) n lc) ∧ LnC W' lg (j * 7) ⟨⟨e, lb', q, a⟩, en, gr, pr⟩ ∧ b < W'.heap.size ∧ lg < W'.heap.size) wr.drew := ⟨HP.out.drew, hb1, HLN.out.drew, hbl, hlgl⟩
        refine wp_region_noPanic ?_
        refine wp_region_last_drew (S := (fun W' => CB W' w.heap.size 70 #[.int .i64 r, .int .i64 fp, .int .i64 c] ∧ W'.cell? ⟨b, 1, none⟩ = some (.slice (some ⟨lg, 0, none⟩) n lc) ∧ LnC W' lg (j * 7) ⟨⟨e, lb', q, a⟩, en, gr, pr⟩ ∧ b < W'.heap.size ∧ lg < W'.heap.size)) [] (by kernel_rfl) hS0 (fun hHeld => ?_)
        (try simp only [Array.replicate_succ, Array.replicate_zero, List.push_toArray, List.nil_append, List.cons_append])
        refine wpAnyF_take (i := 0) (v := ?_) (by kernel_rfl) (by kernel_rfl) rfl (by kernel_rfl) (by kernel_rfl) (by kernel_rfl) (fun _ _ _ h => h) (Or.inl ⟨by rfl, ?_⟩) (by assumption) ?_
        rotate_left
        · intro w' hSw; (try dsimp only at hSw); obtain ⟨hs1, hs2, hs3, _, _⟩ := hSw; have k0 := hs1.cell 0; have k1 := hs1.cell 1; have k2 := hs1.cell 2; obtain ⟨d0, d1, d2, d3, d4, d5, d6⟩ := hs3; dsimp only at d0 d1 d2 d3 d4 d5 d6; go_simp; (try with_reducible rfl)
        (try simp only [Act.put, List.getElem_toArray, List.getElem_cons_zero, List.setIfInBounds_toArray, List.set_cons_zero, List.set_cons_succ])
        refine wpAnyF_take (i := 1) (v := ?_) (by kernel_rfl) (by kernel_rfl) rfl (by kernel_rfl) (by kernel_rfl) (by kernel_rfl) (fun _ _ _ h => h) (Or.inl ⟨by rfl, ?_⟩) (by assumption) ?_
        rotate_left
        · intro w' hSw; (try dsimp only at hSw); obtain ⟨hs1, hs2, hs3, _, _⟩ := hSw; have k0 := hs1.cell 0; have k1 := hs1.cell 1; have k2 := hs1.cell 2; obtain ⟨d0, d1, d2, d3, d4, d5, d6⟩ := hs3; dsimp only at d0 d1 d2 d3 d4 d5 d6; go_simp; (try with_reducible rfl)
        (try simp only [Act.put, List.getElem_toArray, List.getElem_cons_zero, List.getElem_cons_succ, List.setIfInBounds_toArray, List.set_cons_zero, List.set_cons_succ])
        refine wpAnyF_take (i := 2) (v := ?_) (by kernel_rfl) (by kernel_rfl) rfl (by kernel_rfl) (by kernel_rfl) (by kernel_rfl) (fun _ _ _ h => h) (Or.inl ⟨by rfl, ?_⟩) (by assumption) ?_
        rotate_left
        · intro w' hSw; (try dsimp only at hSw); obtain ⟨hs1, hs2, hs3, _, _⟩ := hSw; have k0 := hs1.cell 0; have k1 := hs1.cell 1; have k2 := hs1.cell 2; obtain ⟨d0, d1, d2, d3, d4, d5, d6⟩ := hs3; dsimp only at d0 d1 d2 d3 d4 d5 d6; go_simp; (try with_reducible rfl)
        (try simp only [Act.put, List.getElem_toArray, List.getElem_cons_zero, List.getElem_cons_succ, List.setIfInBounds_toArray, List.set_cons_zero, List.set_cons_succ])
        refine wpAnyF_take (i := 3) (v := ?_) (by kernel_rfl) (by kernel_rfl) rfl (by kernel_rfl) (by kernel_rfl) (by kernel_rfl) (fun _ _ _ h => h) (Or.inl ⟨by rfl, ?_⟩) (by assumption) ?_
        rotate_left
        · intro w' hSw; (try dsimp only at hSw); obtain ⟨hs1, hs2, hs3, _, _⟩ := hSw; have k0 := hs1.cell 0; have k1 := hs1.cell 1; have k2 := hs1.cell 2; obtain ⟨d0, d1, d2, d3, d4, d5, d6⟩ := hs3; dsimp only at d0 d1 d2 d3 d4 d5 d6; go_simp; (try with_reducible rfl)
        (try simp only [Act.put, List.getElem_toArray, List.getElem_cons_zero, List.getElem_cons_succ, List.setIfInBounds_toArray, List.set_cons_zero, List.set_cons_succ])
        refine wpAnyF_take (i := 4) (v := ?_) (by kernel_rfl) (by kernel_rfl) rfl (by kernel_rfl) (by kernel_rfl) (by kernel_rfl) (fun _ _ _ h => h) (Or.inl ⟨by rfl, ?_⟩) (by assumption) ?_
        rotate_left
        · intro w' hSw; (try dsimp only at hSw); obtain ⟨hs1, hs2, hs3, _, _⟩ := hSw; have k0 := hs1.cell 0; have k1 := hs1.cell 1; have k2 := hs1.cell 2; obtain ⟨d0, d1, d2, d3, d4, d5, d6⟩ := hs3; dsimp only at d0 d1 d2 d3 d4 d5 d6; go_simp; (try with_reducible rfl)
        (try simp only [Act.put, List.getElem_toArray, List.getElem_cons_zero, List.getElem_cons_succ, List.setIfInBounds_toArray, List.set_cons_zero, List.set_cons_succ])
        refine wpAnyF_take (i := 5) (v := ?_) (by kernel_rfl) (by kernel_rfl) rfl (by kernel_rfl) (by kernel_rfl) (by kernel_rfl) (fun _ _ _ h => h) (Or.inl ⟨by rfl, ?_⟩) (by assumption) ?_
        rotate_left
        · intro w' hSw; (try dsimp only at hSw); obtain ⟨hs1, hs2, hs3, _, _⟩ := hSw; have k0 := hs1.cell 0; have k1 := hs1.cell 1; have k2 := hs1.cell 2; obtain ⟨d0, d1, d2, d3, d4, d5, d6⟩ := hs3; dsimp only at d0 d1 d2 d3 d4 d5 d6; go_simp; (try with_reducible rfl)
        (try simp only [Act.put, List.getElem_toArray, List.getElem_cons_zero, List.getElem_cons_succ, List.setIfInBounds_toArray, List.set_cons_zero, List.set_cons_succ])
        refine wpAnyF_take (i := 6) (v := ?_) (by kernel_rfl) (by kernel_rfl) rfl (by kernel_rfl) (by kernel_rfl) (by kernel_rfl) (fun _ _ _ h => h) (Or.inl ⟨by rfl, ?_⟩) (by assumption) ?_
        rotate_left
        · intro w' hSw; (try dsimp only at hSw); obtain ⟨hs1, hs2, hs3, _, _⟩ := hSw; have k0 := hs1.cell 0; have k1 := hs1.cell 1; have k2 := hs1.cell 2; obtain ⟨d0, d1, d2, d3, d4, d5, d6⟩ := hs3; dsimp only at d0 d1 d2 d3 d4 d5 d6; go_simp; (try with_reducible rfl)
        (try simp only [Act.put, List.getElem_toArray, List.getElem_cons_zero, List.getElem_cons_succ, List.setIfInBounds_toArray, List.set_cons_zero, List.set_cons_succ])
        refine wpAnyF_take (i := 7) (v := ?_) (by kernel_rfl) (by kernel_rfl) rfl (by kernel_rfl) (by kernel_rfl) (by kernel_rfl) (fun _ _ _ h => h) (Or.inl ⟨by rfl, ?_⟩) (by assumption) ?_
        rotate_left
        · intro w' hSw; (try dsimp only at hSw); obtain ⟨hs1, hs2, hs3, _, _⟩ := hSw; have k0 := hs1.cell 0; have k1 := hs1.cell 1; have k2 := hs1.cell 2; obtain ⟨d0, d1, d2, d3, d4, d5, d6⟩ := hs3; dsimp only at d0 d1 d2 d3 d4 d5 d6; go_simp; (try with_reducible rfl)
        (try simp only [Act.put, List.getElem_toArray, List.getElem_cons_zero, List.getElem_cons_succ, List.setIfInBounds_toArray, List.set_cons_zero, List.set_cons_succ])
        refine wpAnyF_take (i := 8) (v := ?_) (by kernel_rfl) (by kernel_rfl) rfl (by kernel_rfl) (by kernel_rfl) (by kernel_rfl) (fun _ _ _ h => h) (Or.inl ⟨by rfl, ?_⟩) (by assumption) ?_
        rotate_left
        · intro w' hSw; (try dsimp only at hSw); obtain ⟨hs1, hs2, hs3, _, _⟩ := hSw; have k0 := hs1.cell 0; have k1 := hs1.cell 1; have k2 := hs1.cell 2; obtain ⟨d0, d1, d2, d3, d4, d5, d6⟩ := hs3; dsimp only at d0 d1 d2 d3 d4 d5 d6; go_simp; (try with_reducible rfl)
        (try simp only [Act.put, List.getElem_toArray, List.getElem_cons_zero, List.getElem_cons_succ, List.setIfInBounds_toArray, List.set_cons_zero, List.set_cons_succ])
        refine wpAnyF_take (i := 9) (v := ?_) (by kernel_rfl) (by kernel_rfl) rfl (by kernel_rfl) (by kernel_rfl) (by kernel_rfl) (fun _ _ _ h => h) (Or.inl ⟨by rfl, ?_⟩) (by assumption) ?_
        rotate_left
        · intro w' hSw; (try dsimp only at hSw); obtain ⟨hs1, hs2, hs3, _, _⟩ := hSw; have k0 := hs1.cell 0; have k1 := hs1.cell 1; have k2 := hs1.cell 2; obtain ⟨d0, d1, d2, d3, d4, d5, d6⟩ := hs3; dsimp only at d0 d1 d2 d3 d4 d5 d6; go_simp; (try with_reducible rfl)
        (try simp only [Act.put, List.getElem_toArray, List.getElem_cons_zero, List.getElem_cons_succ, List.setIfInBounds_toArray, List.set_cons_zero, List.set_cons_succ])
        refine wpAnyF_take (i := 10) (v := ?_) (by kernel_rfl) (by kernel_rfl) rfl (by kernel_rfl) (by kernel_rfl) (by kernel_rfl) (fun _ _ _ h => h) (Or.inl ⟨by rfl, ?_⟩) (by assumption) ?_
        rotate_left
        · intro w' hSw; (try dsimp only at hSw); obtain ⟨hs1, hs2, hs3, _, _⟩ := hSw; have k0 := hs1.cell 0; have k1 := hs1.cell 1; have k2 := hs1.cell 2; obtain ⟨d0, d1, d2, d3, d4, d5, d6⟩ := hs3; dsimp only at d0 d1 d2 d3 d4 d5 d6; go_simp; (try with_reducible rfl)
        (try simp only [Act.put, List.getElem_toArray, List.getElem_cons_zero, List.getElem_cons_succ, List.setIfInBounds_toArray, List.set_cons_zero, List.set_cons_succ])
        refine wpAnyF_take (i := 11) (v := ?_) (by kernel_rfl) (by kernel_rfl) rfl (by kernel_rfl) (by kernel_rfl) (by kernel_rfl) (fun _ _ _ h => h) (Or.inl ⟨by rfl, ?_⟩) (by assumption) ?_
        rotate_left
        · intro w' hSw; (try dsimp only at hSw); obtain ⟨hs1, hs2, hs3, _, _⟩ := hSw; have k0 := hs1.cell 0; have k1 := hs1.cell 1; have k2 := hs1.cell 2; obtain ⟨d0, d1, d2, d3, d4, d5, d6⟩ := hs3; dsimp only at d0 d1 d2 d3 d4 d5 d6; go_simp; (try with_reducible rfl)
        (try simp only [Act.put, List.getElem_toArray, List.getElem_cons_zero, List.getElem_cons_succ, List.setIfInBounds_toArray, List.set_cons_zero, List.set_cons_succ])
        refine wpAnyF_ready (rs := [12]) (by kernel_rfl) (by simp) ?_
        refine AllReadyF.cons rfl (fun KK hKK => ?_) AllReadyF.nil
        go_simp
        ((with_reducible refine (HT.out _).mono ?_); rintro e' w3 ⟨rfl, hb3⟩; have HS3 := hi (And.intro (hHeld.1.below hb3) (And.intro ((hb3.cell (p := ⟨b, 1, none⟩) hHeld.2.2.2.1).trans hHeld.2.1) (And.intro (hHeld.2.2.1.below hHeld.2.2.2.2 hb3) (And.intro (Nat.lt_of_lt_of_le hHeld.2.2.2.1 hb3.size) (Nat.lt_of_lt_of_le hHeld.2.2.2.2 hb3.size))))); have HB3 := hi ((Below.drewN (m := 1) (Below.refl wr.heap.size wr)).trans hb3); clear hb3)
        (try go_simp)
        refine hKK.out _ _ HS3.out (fun hHeld => ?_)
        clear hKK KK
        (try simp only [Act.put, List.getElem_toArray, List.getElem_cons_zero, List.getElem_cons_succ, List.setIfInBounds_toArray, List.set_cons_zero, List.set_cons_succ])
        refine wpAnyF_ready (rs := [13]) (by kernel_rfl) (by simp) ?_
        refine AllReadyF.cons rfl (fun KK hKK => ?_) AllReadyF.nil
        go_simp
        ((with_reducible refine (HW.out _).mono ?_); rintro e' w4 ⟨rfl, hb4⟩; have HS4 := hi (And.intro (HS3.out.1.below hb4) (And.intro ((hb4.cell (p := ⟨b, 1, none⟩) HS3.out.2.2.2.1).trans HS3.out.2.1) (And.intro (HS3.out.2.2.1.below HS3.out.2.2.2.2 hb4) (And.intro (Nat.lt_of_lt_of_le HS3.out.2.2.2.1 hb4.size) (Nat.lt_of_lt_of_le HS3.out.2.2.2.2 hb4.size))))); have HB4 := hi (HB3.out.trans (hb4.mono HB3.out.size)); clear hb4)
        (try go_simp)
        refine hKK.out _ _ HS4.out (fun hHeld => ?_)
        clear hKK KK
        (try simp only [Act.put, List.getElem_toArray, List.getElem_cons_zero, List.getElem_cons_succ, List.setIfInBounds_toArray, List.set_cons_zero, List.set_cons_succ])
        refine wpAnyF_take (i := 14) (v := ?_) (by kernel_rfl) (by kernel_rfl) rfl (by kernel_rfl) (by kernel_rfl) (by kernel_rfl) (fun _ _ _ h => h) (Or.inl ⟨by rfl, ?_⟩) (by assumption) ?_
        rotate_left
        · intro w' hSw; (try dsimp only at hSw); obtain ⟨hs1, hs2, hs3, _, _⟩ := hSw; have k0 := hs1.cell 0; have k1 := hs1.cell 1; have k2 := hs1.cell 2; obtain ⟨d0, d1, d2, d3, d4, d5, d6⟩ := hs3; dsimp only at d0 d1 d2 d3 d4 d5 d6; go_simp; (try with_reducible rfl)
        (try simp only [Act.put, List.getElem_toArray, List.getElem_cons_zero, List.getElem_cons_succ, List.setIfInBounds_toArray, List.set_cons_zero, List.set_cons_succ])
        refine wpAnyF_done (by kernel_rfl) ?_ _
        refine NoPanic.normal ?_
        go_wp2
        go_roundw
        case rel => exact ⟨k + 1, by omega, by go_num, by rw [HE.out, HSN.out], hi (HX.out.trans (HB4.out.mono HX.out.size))⟩
        case measure => simp only [intOf]; omega
    · obtain rfl : k = c := by omega
      go_wp2
      go_ret
      exact ⟨rfl, HBW.out.trans (HX.out.mono HBW.out.size)⟩
end Go.Proofs.YtggeakkofcaklaaGreat
