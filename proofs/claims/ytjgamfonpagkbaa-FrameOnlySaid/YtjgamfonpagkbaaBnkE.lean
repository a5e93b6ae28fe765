/-
  Package bank: Put.
-/
import Derived.Test.YtjgamfonpagkbaaBnkD
import Derived.Deep.RegionHeld3
namespace Go.Proofs.Ytjgamfonpagkbaa
open Go.ChangeShapes Go.WideShapes Go.ChangeAt Go.RowKit
set_option linter.unusedVariables false

/-- What Put's last region reads, and that it may write. -/
structure PS (b g bx n cap k : Nat) (f : Int) (x : En) (W : World) : Prop where
  c0 : W.cell? ⟨b, 0, none⟩ = some (.int .i64 f)
  c1 : W.cell? ⟨b, 1, none⟩ = some (.slice (some ⟨g, 0, none⟩) n cap)
  ent : EnC W bx 0 x
  th : W.there g (k * 8) 8
theorem EnC.heap {W W' : World} {g o : Nat} {x : En} (h : EnC W g o x) (e : W'.heap[g]? = W.heap[g]?) : EnC W' g o x :=
  ⟨(World.cell?_of_block (w := W) (a := ⟨g, o, none⟩) e).trans h.c0, (World.cell?_of_block (w := W) (a := ⟨g, o + 1, none⟩) e).trans h.c1, (World.cell?_of_block (w := W) (a := ⟨g, o + 2, none⟩) e).trans h.c2,
   (World.cell?_of_block (w := W) (a := ⟨g, o + 3, none⟩) e).trans h.c3, (World.cell?_of_block (w := W) (a := ⟨g, o + 4, none⟩) e).trans h.c4, (World.cell?_of_block (w := W) (a := ⟨g, o + 5, none⟩) e).trans h.c5,
   (World.cell?_of_block (w := W) (a := ⟨g, o + 6, none⟩) e).trans h.c6, (World.cell?_of_block (w := W) (a := ⟨g, o + 7, none⟩) e).trans h.c7⟩
theorem PS.sets {b g bx n cap k : Nat} {f : Int} {x : En} {W : World} (h : PS b g bx n cap k f x W) (hb : b ≠ g) (hx : bx ≠ g) (o : Nat) (vs : List Value) : PS b g bx n cap k f x (W.setCells g o vs) :=
  ⟨(World.cell?_of_block (w := W) (a := ⟨b, 0, none⟩) (heap_sets hb vs o W)).trans h.c0, (World.cell?_of_block (w := W) (a := ⟨b, 1, none⟩) (heap_sets hb vs o W)).trans h.c1, h.ent.heap (heap_sets hx vs o W), World.there_setCells h.th _ _ _⟩
theorem CB.ent {W : World} {B : Nat} {t : TypeId} {x : En} (h : CB W B t x.ca) : EnC W B 0 x := ⟨h.cell 0, h.cell 1, h.cell 2, h.cell 3, h.cell 4, h.cell 5, h.cell 6, h.cell 7⟩
theorem Row.entThere {W : World} {g : Nat} {t : TypeId} {es : List En} (h : Row W g t (flE es)) {k : Nat} (hk : k < es.length) : W.there g (k * 8) 8 := h.there (by rw [flE_len]; omega)
theorem size_en : (Try.prog.info? 54).map (·.size) = some 8 := by kernel_rfl
theorem size_ln : (Try.prog.info? 52).map (·.size) = some 7 := by kernel_rfl
theorem size_irq : (Try.prog.info? 50).map (·.size) = some 4 := by kernel_rfl

/-- An entry with what counts of its priority. -/
def En.real (x : En) : En := ⟨{ x.ln with p := realV x.ln.p }, x.s⟩
def putR (f : Int) (es : List En) (id : Int) (x : En) : List En × Int :=
  if hasB f es.length id then (if x.ln.okB then (es.set (id - f).toNat x.real, 0) else (es, 1)) else (es, 90)

theorem BkAt.setEnt {W : World} {b g cap : Nat} {f : Int} {es : List En} (h : BkAt W b g cap f es) {k : Nat} (hk : k < es.length) (x : En) : BkAt (W.setCells g (k * 8) x.cs) b g cap f (es.set k x) :=
  ⟨by rw [List.length_set]; exact h.box.heap (heap_sets h.ne _ _ _), by
    have h1 := h.row.sets x.cs (k * 8) (by rw [flE_len, en_len]; omega)
    have h2 := flat_set en_len es k 0 es[k] x x.cs (List.getElem?_eq_getElem hk) (by rw [en_len]; omega) (splice_all es[k].cs x.cs rfl).symm
    rw [Nat.add_zero] at h2
    rwa [h2] at h1, h.ne⟩
/-- What Put, Do leave behind. -/
structure After (w : World) (b g cap : Nat) (f : Int) (es : List En) (W : World) : Prop where
  bk : BkAt W b g cap f es
  kept : Kept (· = g) w W

set_option maxHeartbeats 1000000 in
theorem put_no {b g cap : Nat} {f : Int} {es : List En} {id : Int} {x : En} {w : World} (h : BkAt w b g cap f es) (hf : Fit f es.length) (hi' : Int64 id) (hn : hasB f es.length id = false) :
    Calls Try.prog 39 #[.pointer (some ⟨b, 0, none⟩), .int .i64 id, x.v] w fun e w' => e = .returned (.int .i64 90) ∧ Below w.heap.size w w' := by
  have HC := hi (fun W (hW : Below w.heap.size w W) => has_any (h.below hW) hf hi')
  rw [hn] at HC
  clear h hf hi' hn
  go_enter Try.func39, Try.ntmps39
  go_wp2_with (go_at_call 17; ((with_reducible refine (HC.out _ (bal _ _)).mono ?_); rintro e w1 ⟨rfl, m, rfl⟩))
  go_ret
  exact ⟨rfl, Below.drewN (bal w _)⟩

set_option maxHeartbeats 1000000 in
theorem put_bad {b g cap : Nat} {f : Int} {es : List En} {id : Int} {x : En} {w : World} (h : BkAt w b g cap f es) (hf : Fit f es.length) (hi' : Int64 id) (hn : hasB f es.length id = true) (hx : x.ln.okB = false) :
    Calls Try.prog 39 #[.pointer (some ⟨b, 0, none⟩), .int .i64 id, x.v] w fun e w' => e = .returned (.int .i64 1) ∧ Below w.heap.size w w' := by
  have HC := hi (fun W (hW : Below w.heap.size w W) => has_any (h.below hW) hf hi')
  have HV := hi (fun W => valid_any x.ln W)
  rw [hn] at HC
  rw [hx] at HV
  clear h hf hi' hn hx
  obtain ⟨⟨⟨e, l, q, a⟩, en, gr, p⟩, s⟩ := x
  dsimp only [Ln.v] at HV
  go_enter Try.func39, Try.ntmps39
  go_wp2_with (first
    | (go_at_call 17; ((with_reducible refine (HC.out _ (bal _ _)).mono ?_); rintro e' w1 ⟨rfl, m, rfl⟩))
    | (go_at_call 60; ((with_reducible refine (HV.out _).mono ?_); rintro e' w2 ⟨rfl, hb⟩; have HB := hi ((Below.drewN (bal w _)).trans (hb.mono (by simp))); clear hb)))
  go_ret
  exact ⟨rfl, HB.out⟩

set_option maxRecDepth 100000 in
set_option maxHeartbeats 2000000 in
theorem put_yes {b g cap k : Nat} {f : Int} {es : List En} {x : En} {w : World} (h : BkAt w b g cap f es) (hf : Fit f es.length) (hk : k < es.length) (hx : x.ln.okB = true) :
    Calls Try.prog 39 #[.pointer (some ⟨b, 0, none⟩), .int .i64 (f + k), x.v] w fun e w' => e = .returned (.int .i64 0) ∧ After w b g cap f (es.set k x.real) w' := by
  have h64 : Int64 (f + k) := by have := hf.f0; have := hf.s1; constructor <;> omega
  have HC := hi (fun W (hW : Below w.heap.size w W) => has_any (h.below hW) hf h64)
  rw [show hasB f es.length (f + k) = true by rw [hasB_iff]; omega] at HC
  have HV := hi (fun W => valid_any x.ln W)
  rw [hx] at HV
  have HP := hi (fun W => real_any x.ln.p W)
  have hw : IntKind.i64.wrap (f + k - f) = k := by rw [IntKind.wrap_i64]; have := hf.n1; omega
  have H := hi h
  have HK := hi hk
  obtain ⟨n, hn⟩ : ∃ n, es.length = n := ⟨_, rfl⟩
  have HN := hi hn
  rw [hn] at hk
  have hne := h.ne
  clear h hf h64 hx hn
  obtain ⟨⟨⟨e, l, q, a⟩, en, gr, p⟩, s⟩ := x
  dsimp only [Ln.v] at HV HP
  have HR := hi (show En.real ⟨⟨⟨e, l, q, a⟩, en, gr, p⟩, s⟩ = ⟨⟨⟨e, l, q, a⟩, en, gr, realV p⟩, s⟩ from rfl)
  obtain ⟨p2, hp2⟩ : ∃ p2, realV p = p2 := ⟨_, rfl⟩
  rw [hp2] at HP HR
  clear hp2
  go_enter Try.func39, Try.ntmps39
  go_wp2_with (first
    | (go_at_call 17; ((with_reducible refine (HC.out _ (bal _ _)).mono ?_); rintro e' w1 ⟨rfl, m, rfl⟩))
    | (go_at_call 60; ((with_reducible refine (HV.out _).mono ?_); rintro e' w2 ⟨rfl, hb⟩; have HB := hi ((Below.drewN (bal w _)).trans (hb.mono (by simp))); have HX := hi (CB.below (CB.drewN (CB.new w 54 (En.ca ⟨⟨⟨e, l, q, a⟩, en, gr, p⟩, s⟩)) m) hb); have hx6 := HX.out.cell 6; have hx5 := HX.out.frozen 6; have HX2 := hi (show CB _ _ _ (En.ca ⟨⟨⟨e, l, q, a⟩, en, gr, p2⟩, s⟩) from HX.out.set 6 (.int .i64 p2)); clear hb))
    | (go_at_call 57; ((with_reducible refine (HP.out _).mono ?_); rintro e' w3 ⟨rfl, rfl⟩)))
  clear hx6 hx5 HX HV HC HP
  have hB2 : Below w.heap.size w (w2.setCell ⟨w.heap.size, 6, none⟩ (.int .i64 p2)) := below_set HB.out (Nat.le_refl _) _
  have HB2 := hi hB2
  have hbw : b < w.heap.size := H.out.box.lt
  have hgw : g < w.heap.size := H.out.row.lt
  have hBK := H.out.below hB2
  have hxne : w.heap.size ≠ g := by omega
  obtain ⟨W3, hW3⟩ : ∃ W3, w2.setCell ⟨w.heap.size, 6, none⟩ (.int .i64 p2) = W3 := ⟨_, rfl⟩
  rw [hW3] at HB2 hBK HX2 ⊢
  have HBK := hi hBK
  have hPS : PS b g w.heap.size n cap k f ⟨⟨⟨e, l, q, a⟩, en, gr, p2⟩, s⟩ W3.drew := ⟨hBK.box.cell 0, by rw [← HN.out]; exact hBK.box.cell 1, HX2.out.drew.ent, hBK.row.entThere HK.out⟩
  clear hW3 hB2 HB hBK
  obtain ⟨c0, c1, ⟨e0, e1, e2, e3, e4, e5, e6, e7⟩, hth⟩ := hPS
  have hPS : PS b g w.heap.size n cap k f ⟨⟨⟨e, l, q, a⟩, en, gr, p2⟩, s⟩ W3.drew := ⟨c0, c1, ⟨e0, e1, e2, e3, e4, e5, e6, e7⟩, hth⟩
  dsimp only [Nat.zero_add] at e0 e1 e2 e3 e4 e5 e6 e7
  refine wp_region_noPanic ?_
  refine wp_region_held_drew (S := (fun w' => w'.cell? ⟨b, 0, none⟩ = some (.int .i64 f) ∧ w'.cell? ⟨b, 1, none⟩ = some (.slice (some ⟨g, 0, none⟩) n cap) ∧ w'.cell? ⟨w.heap.size, 0, none⟩ = some (.bool e) ∧ w'.cell? ⟨w.heap.size, 1, none⟩ = some (.bool l) ∧ w'.cell? ⟨w.heap.size, 2, none⟩ = some (.bool q) ∧ w'.cell? ⟨w.heap.size, 3, none⟩ = some (.bool a) ∧ w'.cell? ⟨w.heap.size, 4, none⟩ = some (.bool en) ∧ w'.cell? ⟨w.heap.size, 5, none⟩ = some (.int .i64 gr) ∧ w'.cell? ⟨w.heap.size, 6, none⟩ = some (.int .i64 p2) ∧ w'.cell? ⟨w.heap.size, 7, none⟩ = some (.string s) ∧ PS b g w.heap.size n cap k f ⟨⟨⟨e, l, q, a⟩, en, gr, p2⟩, s⟩ w')) (by kernel_rfl) ⟨hPS.c0, hPS.c1, hPS.ent.c0, hPS.ent.c1, hPS.ent.c2, hPS.ent.c3, hPS.ent.c4, hPS.ent.c5, hPS.ent.c6, hPS.ent.c7, hPS⟩ (fun hHeld => ?_)
  (try simp only [Array.replicate_succ, Array.replicate_zero, List.push_toArray, List.nil_append, List.cons_append])
  refine wpAnyH_take (i := 0) (v := ?_) rfl (by kernel_rfl) (by kernel_rfl) (by kernel_rfl) (fun _ _ _ h => h) (Or.inl ⟨by rfl, ?_⟩) (by assumption) ?_
  rotate_left
  · intro w' hSw; (try dsimp only at hSw); obtain ⟨hs0, hs1, hs2, hs3, hs4, hs5, hs6, hs7, hs8, hs9, hs10⟩ := hSw; go_simp; (try with_reducible rfl)
  (try simp only [Act.put, List.getElem_toArray, List.getElem_cons_zero, List.setIfInBounds_toArray, List.set_cons_zero, List.set_cons_succ])
  refine wpAnyH_take (i := 1) (v := ?_) rfl (by kernel_rfl) (by kernel_rfl) (by kernel_rfl) (fun _ _ _ h => h) (Or.inl ⟨by rfl, ?_⟩) (by assumption) ?_
  rotate_left
  · intro w' hSw; (try dsimp only at hSw); obtain ⟨hs0, hs1, hs2, hs3, hs4, hs5, hs6, hs7, hs8, hs9, hs10⟩ := hSw; go_simp; (try with_reducible rfl)
  (try simp only [Act.put, List.getElem_toArray, List.getElem_cons_zero, List.getElem_cons_succ, List.setIfInBounds_toArray, List.set_cons_zero, List.set_cons_succ])
  refine wpAnyH_take (i := 2) (v := ?_) rfl (by kernel_rfl) (by kernel_rfl) (by kernel_rfl) (fun _ _ _ h => h) (Or.inl ⟨by rfl, ?_⟩) (by assumption) ?_
  rotate_left
  · intro w' hSw; (try dsimp only at hSw); obtain ⟨hs0, hs1, hs2, hs3, hs4, hs5, hs6, hs7, hs8, hs9, hs10⟩ := hSw; go_simp; (try with_reducible rfl)
  (try simp only [Act.put, List.getElem_toArray, List.getElem_cons_zero, List.getElem_cons_succ, List.setIfInBounds_toArray, List.set_cons_zero, List.set_cons_succ])
  refine wpAnyH_take (i := 3) (v := ?_) rfl (by kernel_rfl) (by kernel_rfl) (by kernel_rfl) (fun _ _ _ h => h) (Or.inl ⟨by rfl, ?_⟩) (by assumption) ?_
  rotate_left
  · intro w' hSw; (try dsimp only at hSw); obtain ⟨hs0, hs1, hs2, hs3, hs4, hs5, hs6, hs7, hs8, hs9, hs10⟩ := hSw; go_simp; (try with_reducible rfl)
  (try simp only [Act.put, List.getElem_toArray, List.getElem_cons_zero, List.getElem_cons_succ, List.setIfInBounds_toArray, List.set_cons_zero, List.set_cons_succ])
  refine wpAnyH_take (i := 4) (v := ?_) rfl (by kernel_rfl) (by kernel_rfl) (by kernel_rfl) (fun _ _ _ h => h) (Or.inl ⟨by rfl, ?_⟩) (by assumption) ?_
  rotate_left
  · intro w' hSw; (try dsimp only at hSw); obtain ⟨hs0, hs1, hs2, hs3, hs4, hs5, hs6, hs7, hs8, hs9, hs10⟩ := hSw; go_simp; (try with_reducible rfl)
  (try simp only [Act.put, List.getElem_toArray, List.getElem_cons_zero, List.getElem_cons_succ, List.setIfInBounds_toArray, List.set_cons_zero, List.set_cons_succ])
  refine wpAnyH_take (i := 5) (v := ?_) rfl (by kernel_rfl) (by kernel_rfl) (by kernel_rfl) (fun _ _ _ h => h) (Or.inl ⟨by rfl, ?_⟩) (by assumption) ?_
  rotate_left
  · intro w' hSw; (try dsimp only at hSw); obtain ⟨hs0, hs1, hs2, hs3, hs4, hs5, hs6, hs7, hs8, hs9, hs10⟩ := hSw; go_simp; (try with_reducible rfl)
  (try simp only [Act.put, List.getElem_toArray, List.getElem_cons_zero, List.getElem_cons_succ, List.setIfInBounds_toArray, List.set_cons_zero, List.set_cons_succ])
  refine wpAnyH_take (i := 6) (v := ?_) rfl (by kernel_rfl) (by kernel_rfl) (by kernel_rfl) (fun _ _ _ h => h) (Or.inl ⟨by rfl, ?_⟩) (by assumption) ?_
  rotate_left
  · intro w' hSw; (try dsimp only at hSw); obtain ⟨hs0, hs1, hs2, hs3, hs4, hs5, hs6, hs7, hs8, hs9, hs10⟩ := hSw; go_simp; (try with_reducible rfl)
  (try simp only [Act.put, List.getElem_toArray, List.getElem_cons_zero, List.getElem_cons_succ, List.setIfInBounds_toArray, List.set_cons_zero, List.set_cons_succ])
  refine wpAnyH_take (i := 7) (v := ?_) rfl (by kernel_rfl) (by kernel_rfl) (by kernel_rfl) (fun _ _ _ h => h) (Or.inl ⟨by rfl, ?_⟩) (by assumption) ?_
  rotate_left
  · intro w' hSw; (try dsimp only at hSw); obtain ⟨hs0, hs1, hs2, hs3, hs4, hs5, hs6, hs7, hs8, hs9, hs10⟩ := hSw; go_simp; (try with_reducible rfl)
  (try simp only [Act.put, List.getElem_toArray, List.getElem_cons_zero, List.getElem_cons_succ, List.setIfInBounds_toArray, List.set_cons_zero, List.set_cons_succ])
  refine wpAnyH_take (i := 8) (v := ?_) rfl (by kernel_rfl) (by kernel_rfl) (by kernel_rfl) (fun _ _ _ h => h) (Or.inl ⟨by rfl, ?_⟩) (by assumption) ?_
  rotate_left
  · intro w' hSw; (try dsimp only at hSw); obtain ⟨hs0, hs1, hs2, hs3, hs4, hs5, hs6, hs7, hs8, hs9, hs10⟩ := hSw; go_simp; (try with_reducible rfl)
  (try simp only [Act.put, List.getElem_toArray, List.getElem_cons_zero, List.getElem_cons_succ, List.setIfInBounds_toArray, List.set_cons_zero, List.set_cons_succ])
  refine wpAnyH_take (i := 9) (v := ?_) rfl (by kernel_rfl) (by kernel_rfl) (by kernel_rfl) (fun _ _ _ h => h) (Or.inl ⟨by rfl, ?_⟩) (by assumption) ?_
  rotate_left
  · intro w' hSw; (try dsimp only at hSw); obtain ⟨hs0, hs1, hs2, hs3, hs4, hs5, hs6, hs7, hs8, hs9, hs10⟩ := hSw; go_simp; (try with_reducible rfl)
  (try simp only [Act.put, List.getElem_toArray, List.getElem_cons_zero, List.getElem_cons_succ, List.setIfInBounds_toArray, List.set_cons_zero, List.set_cons_succ])
  refine wpAnyH_take (i := 10) (v := ?_) rfl (by kernel_rfl) (by kernel_rfl) (by kernel_rfl) (fun _ _ _ h => h) (Or.inl ⟨by rfl, ?_⟩) (by assumption) ?_
  rotate_left
  · intro w' hSw; (try dsimp only at hSw); obtain ⟨hs0, hs1, hs2, hs3, hs4, hs5, hs6, hs7, hs8, hs9, hs10⟩ := hSw; go_simp; (try with_reducible rfl)
  (try simp only [Act.put, List.getElem_toArray, List.getElem_cons_zero, List.getElem_cons_succ, List.setIfInBounds_toArray, List.set_cons_zero, List.set_cons_succ])
  refine wpAnyH_take (i := 11) (v := ?_) rfl (by kernel_rfl) (by kernel_rfl) (by kernel_rfl) (fun _ _ _ h => h) (Or.inl ⟨by rfl, ?_⟩) (by assumption) ?_
  rotate_left
  · intro w' hSw; (try dsimp only at hSw); obtain ⟨hs0, hs1, hs2, hs3, hs4, hs5, hs6, hs7, hs8, hs9, hs10⟩ := hSw; go_simp; (try with_reducible rfl)
  (try simp only [Act.put, List.getElem_toArray, List.getElem_cons_zero, List.getElem_cons_succ, List.setIfInBounds_toArray, List.set_cons_zero, List.set_cons_succ])
  refine wpAnyH_ready (rs := [12]) (by kernel_rfl) (by simp) ?_
  refine AllReadyH.cons rfl (fun KK hKK => ?_) AllReadyH.nil
  rw [if_pos (by rfl)]
  refine wp_store_mid 54 (.tmp 32) (.tmp 31) rfl g (k * 8) #[.bool e, .bool l, .bool q, .bool a, .bool en, .int .i64 gr, .int .i64 p2, .string s] rfl rfl hPS.th size_en (by simp [Value.oneCell']) ?_
  simp only
  have hPS2 := hPS.sets hne hxne (k * 8) [.bool e, .bool l, .bool q, .bool a, .bool en, .int .i64 gr, .int .i64 p2, .string s]
  refine hKK.out _ _ ⟨hPS2.c0, hPS2.c1, hPS2.ent.c0, hPS2.ent.c1, hPS2.ent.c2, hPS2.ent.c3, hPS2.ent.c4, hPS2.ent.c5, hPS2.ent.c6, hPS2.ent.c7, hPS2⟩ (fun hHeld => ?_)
  clear hKK KK
  (try simp only [Act.put, List.getElem_toArray, List.getElem_cons_zero, List.getElem_cons_succ])
  refine wpAnyH_done (by kernel_rfl) ?_ _
  refine NoPanic.normal ?_
  go_wp2
  go_ret
  refine ⟨rfl, ?_, kept_sets (bs := (· = g)) (b := g) rfl _ _ (Kept.drew (Kept.of HB2.out))⟩
  rw [HR.out]
  exact HBK.out.drew.setEnt HK.out ⟨⟨⟨e, l, q, a⟩, en, gr, p2⟩, s⟩

theorem After.of {w W : World} {b g cap : Nat} {f : Int} {es : List En} (h : BkAt w b g cap f es) (k : Below w.heap.size w W) : After w b g cap f es W := ⟨h.below k, Kept.of k⟩
theorem After.trans {w W W' : World} {b g cap : Nat} {f : Int} {es es' : List En} (h : After w b g cap f es W) (k : After W b g cap f es' W') : After w b g cap f es' W' := ⟨k.bk, h.kept.trans k.kept⟩
theorem has_at {f : Int} {n : Nat} {id : Int} (h : hasB f n id = true) : ∃ k : Nat, id = f + k ∧ k < n ∧ (id - f).toNat = k := by
  rw [hasB_iff] at h
  exact ⟨(id - f).toNat, by omega, by omega, rfl⟩
theorem put_any {b g cap : Nat} {f : Int} {es : List En} {id : Int} {x : En} {w : World} (h : BkAt w b g cap f es) (hf : Fit f es.length) (hi' : Int64 id) :
    Calls Try.prog 39 #[.pointer (some ⟨b, 0, none⟩), .int .i64 id, x.v] w fun e w' => e = .returned (.int .i64 (putR f es id x).2) ∧ After w b g cap f (putR f es id x).1 w' := by
  unfold putR
  cases hb : hasB f es.length id
  · refine (put_no h hf hi' hb).mono fun e w' ⟨h1, h2⟩ => ⟨by simpa using h1, ?_⟩
    simpa using After.of h h2
  · cases hx : x.ln.okB
    · refine (put_bad h hf hi' hb hx).mono fun e w' ⟨h1, h2⟩ => ⟨by simpa using h1, ?_⟩
      simpa using After.of h h2
    · obtain ⟨k, rfl, hk, e1⟩ := has_at hb
      refine (put_yes h hf hk hx).mono fun e w' ⟨h1, h2⟩ => ⟨by simpa using h1, ?_⟩
      rw [e1]
      simpa using h2

end Go.Proofs.Ytjgamfonpagkbaa
