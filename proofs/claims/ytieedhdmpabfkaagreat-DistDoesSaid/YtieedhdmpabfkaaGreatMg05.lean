import Derived.Test.YtieedhdmpabfkaaGreatMg04
import Derived.Test.YtieedhdmpabfkaaGreatMg02
import Derived.Deep.RegionHeld3
set_option linter.unusedSimpArgs false
namespace Go.Proofs.YtieedhdmpabfkaaGreat
open Go.ChangeShapes Go.WideShapes Go.ChangeAt Go.RowKit
set_option linter.unusedVariables false
def En.zero : En := ⟨Ln.zero, Rt.zero⟩
abbrev En.ca (x : En) : Array Value := #[.bool x.ln.st.e, .bool x.ln.st.l, .bool x.ln.st.h, .bool x.ln.st.a, .bool x.ln.en, .int .i64 x.ln.g, .int .i64 x.ln.p, .int .i64 x.s.c, .bool x.s.y]
theorem results_ent {fn : Func} {c t : Tmp} (h : fn.results = #[.cell c 115, .tmp t]) (tmps : Array Value) (w : World) (b : Nat) (x : En) (v : Value) (hp : tmps.getD c undef = .pointer (some ⟨b, 0, none⟩)) (ht : tmps.getD t undef = v)
  (hb : CB w b 115 x.ca) : (results fn tmps).run Tryz.prog w = .ok (.tuple #[x.v, v]) w := by
 have hp' : tmps[c]?.getD undef = .pointer (some ⟨b, 0, none⟩) := by simpa using hp
 have ht' : tmps[t]?.getD undef = v := by simpa using ht
 have c0 := hb.cell 0
 have c1 := hb.cell 1
 have c2 := hb.cell 2
 have c3 := hb.cell 3
 have c4 := hb.cell 4
 have c5 := hb.cell 5
 have c6 := hb.cell 6
 have c7 := hb.cell 7
 have c8 := hb.cell 8
 simp at c0 c1 c2 c3 c4 c5 c6 c7 c8
 simp [results, h, go_sem, hp', ht', c0, c1, c2, c3, c4, c5, c6, c7, c8]
abbrev setE (W : World) (B o : Nat) (x : En) : World := ((((((((W.setCell ⟨B, o, none⟩ (.bool x.ln.st.e)).setCell ⟨B, o + 1, none⟩ (.bool x.ln.st.l)).setCell ⟨B, o + 2, none⟩ (.bool x.ln.st.h)).setCell ⟨B, o + 3, none⟩ (.bool x.ln.st.a)).setCell ⟨B, o + 4, none⟩ (.bool x.ln.en)).setCell ⟨B, o + 5, none⟩ (.int .i64 x.ln.g)).setCell ⟨B, o + 6, none⟩ (.int .i64 x.ln.p)).setCell ⟨B, o + 7, none⟩ (.int .i64 x.s.c)).setCell ⟨B, o + 8, none⟩ (.bool x.s.y)
theorem CB.put9 {W : World} {B : Nat} {t : TypeId} {a0 a1 a2 a3 a4 a5 a6 a7 a8 : Value} (h : CB W B t #[a0, a1, a2, a3, a4, a5, a6, a7, a8]) (v0 v1 v2 v3 v4 v5 v6 v7 v8 : Value) :
  CB (((((((((W.setCell ⟨B, 0, none⟩ v0).setCell ⟨B, 1, none⟩ v1).setCell ⟨B, 2, none⟩ v2).setCell ⟨B, 3, none⟩ v3).setCell ⟨B, 4, none⟩ v4).setCell ⟨B, 5, none⟩ v5).setCell ⟨B, 6, none⟩ v6).setCell ⟨B, 7, none⟩ v7).setCell ⟨B, 8, none⟩ v8) B t #[v0, v1, v2, v3, v4, v5, v6, v7, v8] := by
 have := (((((((((h.set 0 v0).set 1 v1).set 2 v2).set 3 v3).set 4 v4).set 5 v5).set 6 v6).set 7 v7).set 8 v8)
 simpa only [List.setIfInBounds_toArray, List.set_cons_zero, List.set_cons_succ] using this
theorem CB.putE {W : World} {B : Nat} {t : TypeId} {y : En} (h : CB W B t y.ca) (x : En) : CB (setE W B 0 x) B t x.ca := h.put9 _ _ _ _ _ _ _ _ _
theorem below_putE {n : Nat} {w W : World} (h : Below n w W) {B o : Nat} (hb : n ≤ B) (x : En) : Below n w (setE W B o x) :=
 below_set (below_set (below_set (below_set (below_set (below_set (below_set (below_set (below_set h hb _) hb _) hb _) hb _) hb _) hb _) hb _) hb _) hb _
theorem CB.drewN {W : World} {B : Nat} {t : TypeId} {cs : Array Value} (h : CB W B t cs) (m : Nat) : CB (W.drewN m) B t cs := h
set_option maxHeartbeats 1000000 in
theorem get_no {b g cap : Nat} {f : Int} {es : List En} {id : Int} {w : World} (h : BkAt w b g cap f es) (hf : Fit f es.length) (hi' : Int64 id) (hn : hasB f es.length id = false) :
  Calls Tryz.prog 68 #[.pointer (some ⟨b, 0, none⟩), .int .i64 id] w fun e w' => e = .returned (.tuple #[En.zero.v, .int .i64 90]) ∧ Below w.heap.size w w' := by
 have HC := hi (fun W (hW : Below w.heap.size w W) => has_any (h.below hW) hf hi')
 rw [hn] at HC
 clear h hf hi' hn
 go_enter Tryz.func68, Tryz.ntmps68
 go_wp2_with (go_at_call 81; ((with_reducible refine (HC.out _ (bal _ _)).mono ?_); rintro e w1 ⟨rfl, m, rfl⟩))
 exact bodyPost_ret (results_ent rfl _ _ w.heap.size En.zero _ rfl rfl (CB.putE (y := En.zero) (CB.drewN (CB.new _ _ _) _) En.zero)) rfl ⟨rfl, below_putE (Below.drewN (bal w _)) (Nat.le_refl _) En.zero⟩
set_option maxHeartbeats 1000000 in
theorem get_yes {b g cap k : Nat} {f : Int} {es : List En} {x : En} {w : World} (h : BkAt w b g cap f es) (hf : Fit f es.length) (hk : es[k]? = some x) :
  Calls Tryz.prog 68 #[.pointer (some ⟨b, 0, none⟩), .int .i64 (f + k)] w fun e w' => e = .returned (.tuple #[x.v, .int .i64 0]) ∧ Below w.heap.size w w' := by
 have hkl : k < es.length := (List.getElem?_eq_some_iff.1 hk).1
 have h64 : Int64 (f + k) := by have := hf.f0; have := hf.s1; constructor <;> omega
 have HC := hi (fun W (hW : Below w.heap.size w W) => has_any (h.below hW) hf h64)
 rw [show hasB f es.length (f + k) = true by rw [hasB_iff]; omega] at HC
 have hw : IntKind.i64.wrap (f + k - f) = k := by rw [IntKind.wrap_i64]; have := hf.n1; omega
 have c0 := h.box.cell 0
 have c1 := h.box.cell 1
 obtain ⟨e0, e1, e2, e3, e4, e5, e6, e7, e8⟩ := h.row.ent hk
 obtain ⟨n, hn⟩ : ∃ n, es.length = n := ⟨_, rfl⟩
 rw [hn] at c1 hkl
 have hbl := h.box.lt
 have hgl := h.row.lt
 clear h hf hn h64
 obtain ⟨⟨⟨e, l, q, a⟩, en, gr, p⟩, s⟩ := x
 dsimp only at e0 e1 e2 e3 e4 e5 e6 e7 e8
 go_enter Tryz.func68, Tryz.ntmps68
 go_wp2_with (go_at_call 81; ((with_reducible refine (HC.out _ (bal _ _)).mono ?_); rintro e w1 ⟨rfl, m, rfl⟩))
 go_region
 go_wp2
 exact bodyPost_ret (results_ent rfl _ _ w.heap.size ⟨⟨⟨e, l, q, a⟩, en, gr, p⟩, s⟩ _ rfl rfl (CB.putE (y := En.zero) (CB.drewN (CB.new _ _ _) _) ⟨⟨⟨e, l, q, a⟩, en, gr, p⟩, s⟩)) rfl ⟨rfl, below_putE (Below.drewN (bal w _)) (Nat.le_refl _) ⟨⟨⟨e, l, q, a⟩, en, gr, p⟩, s⟩⟩
end Go.Proofs.YtieedhdmpabfkaaGreat
namespace Go.Proofs.YtieedhdmpabfkaaGreat
open Go.ChangeShapes Go.WideShapes Go.ChangeAt Go.RowKit
set_option linter.unusedVariables false
structure PS (b g bx n cap k : Nat) (f : Int) (x : En) (W : World) : Prop where
 c0 : W.cell? ⟨b, 0, none⟩ = some (.int .i64 f)
 c1 : W.cell? ⟨b, 1, none⟩ = some (.slice (some ⟨g, 0, none⟩) n cap)
 ent : EnC W bx 0 x
 th : W.there g (k * 9) 9
theorem EnC.heap {W W' : World} {g o : Nat} {x : En} (h : EnC W g o x) (e : W'.heap[g]? = W.heap[g]?) : EnC W' g o x :=
 ⟨(World.cell?_of_block (w := W) (a := ⟨g, o, none⟩) e).trans h.c0, (World.cell?_of_block (w := W) (a := ⟨g, o + 1, none⟩) e).trans h.c1, (World.cell?_of_block (w := W) (a := ⟨g, o + 2, none⟩) e).trans h.c2,
  (World.cell?_of_block (w := W) (a := ⟨g, o + 3, none⟩) e).trans h.c3, (World.cell?_of_block (w := W) (a := ⟨g, o + 4, none⟩) e).trans h.c4, (World.cell?_of_block (w := W) (a := ⟨g, o + 5, none⟩) e).trans h.c5,
  (World.cell?_of_block (w := W) (a := ⟨g, o + 6, none⟩) e).trans h.c6, (World.cell?_of_block (w := W) (a := ⟨g, o + 7, none⟩) e).trans h.c7, (World.cell?_of_block (w := W) (a := ⟨g, o + 8, none⟩) e).trans h.c8⟩
theorem PS.sets {b g bx n cap k : Nat} {f : Int} {x : En} {W : World} (h : PS b g bx n cap k f x W) (hb : b ≠ g) (hx : bx ≠ g) (o : Nat) (vs : List Value) : PS b g bx n cap k f x (W.setCells g o vs) :=
 ⟨(World.cell?_of_block (w := W) (a := ⟨b, 0, none⟩) (heap_sets hb vs o W)).trans h.c0, (World.cell?_of_block (w := W) (a := ⟨b, 1, none⟩) (heap_sets hb vs o W)).trans h.c1, h.ent.heap (heap_sets hx vs o W), World.there_setCells h.th _ _ _⟩
theorem CB.ent {W : World} {B : Nat} {t : TypeId} {x : En} (h : CB W B t x.ca) : EnC W B 0 x := ⟨h.cell 0, h.cell 1, h.cell 2, h.cell 3, h.cell 4, h.cell 5, h.cell 6, h.cell 7, h.cell 8⟩
theorem Row.entThere {W : World} {g : Nat} {t : TypeId} {es : List En} (h : Row W g t (flE es)) {k : Nat} (hk : k < es.length) : W.there g (k * 9) 9 := h.there (by rw [flE_len]; omega)
theorem size_en : (Tryz.prog.info? 115).map (·.size) = some 9 := by kernel_rfl
theorem size_ln : (Tryz.prog.info? 58).map (·.size) = some 7 := by kernel_rfl
theorem size_irq : (Tryz.prog.info? 31).map (·.size) = some 4 := by kernel_rfl
def En.real (x : En) : En := ⟨{ x.ln with p := realV x.ln.p }, x.s⟩
def putR (f : Int) (es : List En) (id : Int) (x : En) : List En × Int :=
 if hasB f es.length id then (if x.ln.okB then (es.set (id - f).toNat x.real, 0) else (es, 1)) else (es, 90)
theorem BkAt.setEnt {W : World} {b g cap : Nat} {f : Int} {es : List En} (h : BkAt W b g cap f es) {k : Nat} (hk : k < es.length) (x : En) : BkAt (W.setCells g (k * 9) x.cs) b g cap f (es.set k x) :=
 ⟨by rw [List.length_set]; exact h.box.heap (heap_sets h.ne _ _ _), by
  have h1 := h.row.sets x.cs (k * 9) (by rw [flE_len, en_len]; omega)
  have h2 := flat_set en_len es k 0 es[k] x x.cs (List.getElem?_eq_getElem hk) (by rw [en_len]; omega) (splice_all es[k].cs x.cs rfl).symm
  rw [Nat.add_zero] at h2
  rwa [h2] at h1, h.ne⟩
structure After (w : World) (b g cap : Nat) (f : Int) (es : List En) (W : World) : Prop where
 bk : BkAt W b g cap f es
 kept : Kept (· = g) w W
set_option maxHeartbeats 1000000 in
theorem put_no {b g cap : Nat} {f : Int} {es : List En} {id : Int} {x : En} {w : World} (h : BkAt w b g cap f es) (hf : Fit f es.length) (hi' : Int64 id) (hn : hasB f es.length id = false) :
  Calls Tryz.prog 85 #[.pointer (some ⟨b, 0, none⟩), .int .i64 id, x.v] w fun e w' => e = .returned (.int .i64 90) ∧ Below w.heap.size w w' := by
 have HC := hi (fun W (hW : Below w.heap.size w W) => has_any (h.below hW) hf hi')
 rw [hn] at HC
 clear h hf hi' hn
 go_enter Tryz.func85, Tryz.ntmps85
 go_wp2_with (go_at_call 81; ((with_reducible refine (HC.out _ (bal _ _)).mono ?_); rintro e w1 ⟨rfl, m, rfl⟩))
 go_ret
 exact ⟨rfl, Below.drewN (bal w _)⟩
set_option maxHeartbeats 1000000 in
theorem put_bad {b g cap : Nat} {f : Int} {es : List En} {id : Int} {x : En} {w : World} (h : BkAt w b g cap f es) (hf : Fit f es.length) (hi' : Int64 id) (hn : hasB f es.length id = true) (hx : x.ln.okB = false) :
  Calls Tryz.prog 85 #[.pointer (some ⟨b, 0, none⟩), .int .i64 id, x.v] w fun e w' => e = .returned (.int .i64 1) ∧ Below w.heap.size w w' := by
 have HC := hi (fun W (hW : Below w.heap.size w W) => has_any (h.below hW) hf hi')
 have HV := hi (fun W => valid_any x.ln W)
 rw [hn] at HC
 rw [hx] at HV
 clear h hf hi' hn hx
 obtain ⟨⟨⟨e, l, q, a⟩, en, gr, p⟩, s⟩ := x
 dsimp only [Ln.v] at HV
 go_enter Tryz.func85, Tryz.ntmps85
 go_wp2_with (first
  | (go_at_call 81; ((with_reducible refine (HC.out _ (bal _ _)).mono ?_); rintro e' w1 ⟨rfl, m, rfl⟩))
  | (go_at_call 120; ((with_reducible refine (HV.out _).mono ?_); rintro e' w2 ⟨rfl, hb⟩; have HB := hi ((Below.drewN (bal w _)).trans (hb.mono (by simp))); clear hb)))
 go_ret
 exact ⟨rfl, HB.out⟩
set_option maxRecDepth 100000 in
set_option maxHeartbeats 2000000 in
theorem put_yes {b g cap k : Nat} {f : Int} {es : List En} {x : En} {w : World} (h : BkAt w b g cap f es) (hf : Fit f es.length) (hk : k < es.length) (hx : x.ln.okB = true) :
  Calls Tryz.prog 85 #[.pointer (some ⟨b, 0, none⟩), .int .i64 (f + k), x.v] w fun e w' => e = .returned (.int .i64 0) ∧ After w b g cap f (es.set k x.real) w' := by
 have h64 : Int64 (f + k) := by have := hf.f0; have := hf.s1; constructor <;> omega
 have HC := hi (fun W (hW : Below w.heap.size w W) => has_any (h.below hW) hf h64)
 rw [show hasB f es.length (f + k) = true by rw [hasB_iff]; omega] at HC
 have HV := hi (fun W => valid_any x.ln W)
 rw [hx] at HV
 have HP := hi (fun W => real_any x.ln.p W)
 have hw : IntKind.i64.wrap (f + k - f) = k := by rw [IntKind.wrap_i64]; have := hf.n1; omega
 have H := hi h
 have HK := hi hk
 obtain ⟨n, hn⟩ : ∃ n, es.length = n := ⟨_, rfl⟩
 have HN := hi hn
 rw [hn] at hk
 have hne := h.ne
 clear h hf h64 hx hn
 obtain ⟨⟨⟨e, l, q, a⟩, en, gr, p⟩, s⟩ := x
 dsimp only [Ln.v] at HV HP
 have HR := hi (show En.real ⟨⟨⟨e, l, q, a⟩, en, gr, p⟩, s⟩ = ⟨⟨⟨e, l, q, a⟩, en, gr, realV p⟩, s⟩ from rfl)
 obtain ⟨p2, hp2⟩ : ∃ p2, realV p = p2 := ⟨_, rfl⟩
 rw [hp2] at HP HR
 clear hp2
 go_enter Tryz.func85, Tryz.ntmps85
 go_wp2_with (first
  | (go_at_call 81; ((with_reducible refine (HC.out _ (bal _ _)).mono ?_); rintro e' w1 ⟨rfl, m, rfl⟩))
  | (go_at_call 120; ((with_reducible refine (HV.out _).mono ?_); rintro e' w2 ⟨rfl, hb⟩; have HB := hi ((Below.drewN (bal w _)).trans (hb.mono (by simp))); have HX := hi (CB.below (CB.drewN (CB.new w 115 (En.ca ⟨⟨⟨e, l, q, a⟩, en, gr, p⟩, s⟩)) m) hb); have hx6 := HX.out.cell 6; have hx5 := HX.out.frozen 6; have HX2 := hi (show CB _ _ _ (En.ca ⟨⟨⟨e, l, q, a⟩, en, gr, p2⟩, s⟩) from HX.out.set 6 (.int .i64 p2)); clear hb))
  | (go_at_call 121; ((with_reducible refine (HP.out _).mono ?_); rintro e' w3 ⟨rfl, rfl⟩)))
 clear hx6 hx5 HX HV HC HP
 have hB2 : Below w.heap.size w (w2.setCell ⟨w.heap.size, 6, none⟩ (.int .i64 p2)) := below_set HB.out (Nat.le_refl _) _
 have HB2 := hi hB2
 have hbw : b < w.heap.size := H.out.box.lt
 have hgw : g < w.heap.size := H.out.row.lt
 have hBK := H.out.below hB2
 have hxne : w.heap.size ≠ g := by omega
 obtain ⟨W3, hW3⟩ : ∃ W3, w2.setCell ⟨w.heap.size, 6, none⟩ (.int .i64 p2) = W3 := ⟨_, rfl⟩
 rw [hW3] at HB2 hBK HX2 ⊢
 have HBK := hi hBK
 have hPS : PS b g w.heap.size n cap k f ⟨⟨⟨e, l, q, a⟩, en, gr, p2⟩, s⟩ W3.drew := ⟨hBK.box.cell 0, by rw [← HN.out]; exact hBK.box.cell 1, HX2.out.drew.ent, hBK.row.entThere HK.out⟩
 clear hW3 hB2 HB hBK
 obtain ⟨c0, c1, ⟨e0, e1, e2, e3, e4, e5, e6, e7, e8⟩, hth⟩ := hPS
 have hPS : PS b g w.heap.size n cap k f ⟨⟨⟨e, l, q, a⟩, en, gr, p2⟩, s⟩ W3.drew := ⟨c0, c1, ⟨e0, e1, e2, e3, e4, e5, e6, e7, e8⟩, hth⟩
 dsimp only [Nat.zero_add] at e0 e1 e2 e3 e4 e5 e6 e7 e8
 refine wp_region_noPanic ?_
 refine wp_region_held_drew (S := (fun w' => w'.cell? ⟨b, 0, none⟩ = some (.int .i64 f) ∧ w'.cell? ⟨b, 1, none⟩ = some (.slice (some ⟨g, 0, none⟩) n cap) ∧ w'.cell? ⟨w.heap.size, 0, none⟩ = some (.bool e) ∧ w'.cell? ⟨w.heap.size, 1, none⟩ = some (.bool l) ∧ w'.cell? ⟨w.heap.size, 2, none⟩ = some (.bool q) ∧ w'.cell? ⟨w.heap.size, 3, none⟩ = some (.bool a) ∧ w'.cell? ⟨w.heap.size, 4, none⟩ = some (.bool en) ∧ w'.cell? ⟨w.heap.size, 5, none⟩ = some (.int .i64 gr) ∧ w'.cell? ⟨w.heap.size, 6, none⟩ = some (.int .i64 p2) ∧ w'.cell? ⟨w.heap.size, 7, none⟩ = some (.int .i64 s.c) ∧ w'.cell? ⟨w.heap.size, 8, none⟩ = some (.bool s.y) ∧ PS b g w.heap.size n cap k f ⟨⟨⟨e, l, q, a⟩, en, gr, p2⟩, s⟩ w')) (by kernel_rfl) ⟨hPS.c0, hPS.c1, hPS.ent.c0, hPS.ent.c1, hPS.ent.c2, hPS.ent.c3, hPS.ent.c4, hPS.ent.c5, hPS.ent.c6, hPS.ent.c7, hPS.ent.c8, hPS⟩ (fun hHeld => ?_)
 (try simp only [r1, r2, r3, r4, r5])
 refine wpAnyH_take (i := 0) (v := ?_) rfl (by kernel_rfl) (by kernel_rfl) (by kernel_rfl) (fun _ _ _ h => h) (Or.inl ⟨by rfl, ?_⟩) (by assumption) ?_
 rotate_left
 ·intro w' hSw; (try dsimp only at hSw); obtain ⟨hs0, hs1, hs2, hs3, hs4, hs5, hs6, hs7, hs8, hs9, hs10, hs11⟩ := hSw; go_simp; (try with_reducible rfl)
 (try simp only [Act.put, n1, n2, n4, n5, n6])
 refine wpAnyH_take (i := 1) (v := ?_) rfl (by kernel_rfl) (by kernel_rfl) (by kernel_rfl) (fun _ _ _ h => h) (Or.inl ⟨by rfl, ?_⟩) (by assumption) ?_
 rotate_left
 ·intro w' hSw; (try dsimp only at hSw); obtain ⟨hs0, hs1, hs2, hs3, hs4, hs5, hs6, hs7, hs8, hs9, hs10, hs11⟩ := hSw; go_simp; (try with_reducible rfl)
 (try simp only [Act.put, n1, n2, n3, n4, n5, n6])
 refine wpAnyH_take (i := 2) (v := ?_) rfl (by kernel_rfl) (by kernel_rfl) (by kernel_rfl) (fun _ _ _ h => h) (Or.inl ⟨by rfl, ?_⟩) (by assumption) ?_
 rotate_left
 ·intro w' hSw; (try dsimp only at hSw); obtain ⟨hs0, hs1, hs2, hs3, hs4, hs5, hs6, hs7, hs8, hs9, hs10, hs11⟩ := hSw; go_simp; (try with_reducible rfl)
 (try simp only [Act.put, n1, n2, n3, n4, n5, n6])
 refine wpAnyH_take (i := 3) (v := ?_) rfl (by kernel_rfl) (by kernel_rfl) (by kernel_rfl) (fun _ _ _ h => h) (Or.inl ⟨by rfl, ?_⟩) (by assumption) ?_
 rotate_left
 ·intro w' hSw; (try dsimp only at hSw); obtain ⟨hs0, hs1, hs2, hs3, hs4, hs5, hs6, hs7, hs8, hs9, hs10, hs11⟩ := hSw; go_simp; (try with_reducible rfl)
 (try simp only [Act.put, n1, n2, n3, n4, n5, n6])
 refine wpAnyH_take (i := 4) (v := ?_) rfl (by kernel_rfl) (by kernel_rfl) (by kernel_rfl) (fun _ _ _ h => h) (Or.inl ⟨by rfl, ?_⟩) (by assumption) ?_
 rotate_left
 ·intro w' hSw; (try dsimp only at hSw); obtain ⟨hs0, hs1, hs2, hs3, hs4, hs5, hs6, hs7, hs8, hs9, hs10, hs11⟩ := hSw; go_simp; (try with_reducible rfl)
 (try simp only [Act.put, n1, n2, n3, n4, n5, n6])
 refine wpAnyH_take (i := 5) (v := ?_) rfl (by kernel_rfl) (by kernel_rfl) (by kernel_rfl) (fun _ _ _ h => h) (Or.inl ⟨by rfl, ?_⟩) (by assumption) ?_
 rotate_left
 ·intro w' hSw; (try dsimp only at hSw); obtain ⟨hs0, hs1, hs2, hs3, hs4, hs5, hs6, hs7, hs8, hs9, hs10, hs11⟩ := hSw; go_simp; (try with_reducible rfl)
 (try simp only [Act.put, n1, n2, n3, n4, n5, n6])
 refine wpAnyH_take (i := 6) (v := ?_) rfl (by kernel_rfl) (by kernel_rfl) (by kernel_rfl) (fun _ _ _ h => h) (Or.inl ⟨by rfl, ?_⟩) (by assumption) ?_
 rotate_left
 ·intro w' hSw; (try dsimp only at hSw); obtain ⟨hs0, hs1, hs2, hs3, hs4, hs5, hs6, hs7, hs8, hs9, hs10, hs11⟩ := hSw; go_simp; (try with_reducible rfl)
 (try simp only [Act.put, n1, n2, n3, n4, n5, n6])
 refine wpAnyH_take (i := 7) (v := ?_) rfl (by kernel_rfl) (by kernel_rfl) (by kernel_rfl) (fun _ _ _ h => h) (Or.inl ⟨by rfl, ?_⟩) (by assumption) ?_
 rotate_left
 ·intro w' hSw; (try dsimp only at hSw); obtain ⟨hs0, hs1, hs2, hs3, hs4, hs5, hs6, hs7, hs8, hs9, hs10, hs11⟩ := hSw; go_simp; (try with_reducible rfl)
 (try simp only [Act.put, n1, n2, n3, n4, n5, n6])
 refine wpAnyH_take (i := 8) (v := ?_) rfl (by kernel_rfl) (by kernel_rfl) (by kernel_rfl) (fun _ _ _ h => h) (Or.inl ⟨by rfl, ?_⟩) (by assumption) ?_
 rotate_left
 ·intro w' hSw; (try dsimp only at hSw); obtain ⟨hs0, hs1, hs2, hs3, hs4, hs5, hs6, hs7, hs8, hs9, hs10, hs11⟩ := hSw; go_simp; (try with_reducible rfl)
 (try simp only [Act.put, n1, n2, n3, n4, n5, n6])
 refine wpAnyH_take (i := 9) (v := ?_) rfl (by kernel_rfl) (by kernel_rfl) (by kernel_rfl) (fun _ _ _ h => h) (Or.inl ⟨by rfl, ?_⟩) (by assumption) ?_
 rotate_left
 ·intro w' hSw; (try dsimp only at hSw); obtain ⟨hs0, hs1, hs2, hs3, hs4, hs5, hs6, hs7, hs8, hs9, hs10, hs11⟩ := hSw; go_simp; (try with_reducible rfl)
 (try simp only [Act.put, n1, n2, n3, n4, n5, n6])
 refine wpAnyH_take (i := 10) (v := ?_) rfl (by kernel_rfl) (by kernel_rfl) (by kernel_rfl) (fun _ _ _ h => h) (Or.inl ⟨by rfl, ?_⟩) (by assumption) ?_
 rotate_left
 ·intro w' hSw; (try dsimp only at hSw); obtain ⟨hs0, hs1, hs2, hs3, hs4, hs5, hs6, hs7, hs8, hs9, hs10, hs11⟩ := hSw; go_simp; (try with_reducible rfl)
 (try simp only [Act.put, n1, n2, n3, n4, n5, n6])
 refine wpAnyH_take (i := 11) (v := ?_) rfl (by kernel_rfl) (by kernel_rfl) (by kernel_rfl) (fun _ _ _ h => h) (Or.inl ⟨by rfl, ?_⟩) (by assumption) ?_
 rotate_left
 ·intro w' hSw; (try dsimp only at hSw); obtain ⟨hs0, hs1, hs2, hs3, hs4, hs5, hs6, hs7, hs8, hs9, hs10, hs11⟩ := hSw; go_simp; (try with_reducible rfl)
 (try simp only [Act.put, n1, n2, n3, n4, n5, n6])
 refine wpAnyH_ready (rs := [12]) (by kernel_rfl) (by simp) ?_
 refine AllReadyH.cons rfl (fun KK hKK => ?_) AllReadyH.nil
 rw [if_pos (by rfl)]
 refine wp_store_mid 115 (.tmp 32) (.tmp 31) rfl g (k * 9) #[.bool e, .bool l, .bool q, .bool a, .bool en, .int .i64 gr, .int .i64 p2, .int .i64 s.c, .bool s.y] rfl rfl hPS.th size_en (by simp [Value.oneCell']) ?_
 simp only
 have hPS2 := hPS.sets hne hxne (k * 9) [.bool e, .bool l, .bool q, .bool a, .bool en, .int .i64 gr, .int .i64 p2, .int .i64 s.c, .bool s.y]
 refine hKK.out _ _ ⟨hPS2.c0, hPS2.c1, hPS2.ent.c0, hPS2.ent.c1, hPS2.ent.c2, hPS2.ent.c3, hPS2.ent.c4, hPS2.ent.c5, hPS2.ent.c6, hPS2.ent.c7, hPS2.ent.c8, hPS2⟩ (fun hHeld => ?_)
 clear hKK KK
 (try simp only [Act.put, List.getElem_toArray, List.getElem_cons_zero, List.getElem_cons_succ])
 refine wpAnyH_done (by kernel_rfl) ?_ _
 refine NoPanic.normal ?_
 go_wp2
 go_ret
 refine ⟨rfl, ?_, kept_sets (bs := (· = g)) (b := g) rfl _ _ (Kept.drew (Kept.of HB2.out))⟩
 rw [HR.out]
 exact HBK.out.drew.setEnt HK.out ⟨⟨⟨e, l, q, a⟩, en, gr, p2⟩, s⟩
theorem After.of {w W : World} {b g cap : Nat} {f : Int} {es : List En} (h : BkAt w b g cap f es) (k : Below w.heap.size w W) : After w b g cap f es W := ⟨h.below k, Kept.of k⟩
theorem After.trans {w W W' : World} {b g cap : Nat} {f : Int} {es es' : List En} (h : After w b g cap f es W) (k : After W b g cap f es' W') : After w b g cap f es' W' := ⟨k.bk, h.kept.trans k.kept⟩
theorem has_at {f : Int} {n : Nat} {id : Int} (h : hasB f n id = true) : ∃ k : Nat, id = f + k ∧ k < n ∧ (id - f).toNat = k := by
 rw [hasB_iff] at h
 exact ⟨(id - f).toNat, by omega, by omega, rfl⟩
theorem put_any {b g cap : Nat} {f : Int} {es : List En} {id : Int} {x : En} {w : World} (h : BkAt w b g cap f es) (hf : Fit f es.length) (hi' : Int64 id) :
  Calls Tryz.prog 85 #[.pointer (some ⟨b, 0, none⟩), .int .i64 id, x.v] w fun e w' => e = .returned (.int .i64 (putR f es id x).2) ∧ After w b g cap f (putR f es id x).1 w' := by
 unfold putR
 cases hb : hasB f es.length id
 ·refine (put_no h hf hi' hb).mono fun e w' ⟨h1, h2⟩ => ⟨by simpa using h1, ?_⟩
  simpa using After.of h h2
 ·cases hx : x.ln.okB
  ·refine (put_bad h hf hi' hb hx).mono fun e w' ⟨h1, h2⟩ => ⟨by simpa using h1, ?_⟩
   simpa using After.of h h2
  ·obtain ⟨k, rfl, hk, e1⟩ := has_at hb
   refine (put_yes h hf hk hx).mono fun e w' ⟨h1, h2⟩ => ⟨by simpa using h1, ?_⟩
   rw [e1]
   simpa using h2
end Go.Proofs.YtieedhdmpabfkaaGreat
namespace Go.Proofs.YtieedhdmpabfkaaGreat
open Go.ChangeShapes Go.WideShapes Go.ChangeAt Go.RowKit
set_option linter.unusedVariables false
def En.step (x : En) (a : Int) : En := ⟨{ x.ln with st := x.ln.st.step a }, x.s⟩
def nthE (es : List En) (k : Nat) : En := es[k]?.getD default
theorem nthE_at {es : List En} {k : Nat} (h : k < es.length) : es[k]? = some (nthE es k) := by simp [nthE, List.getElem?_eq_getElem h]
def doR (f : Int) (es : List En) (id a : Int) : List En × Int :=
 if hasB f es.length id then (es.set (id - f).toNat ((nthE es (id - f).toNat).step a), 0) else (es, 90)
theorem BkAt.setIrq {W : World} {b g cap : Nat} {f : Int} {es : List En} (h : BkAt W b g cap f es) {k : Nat} {x : En} (hk : es[k]? = some x) (y : St) :
  BkAt (W.setCells g (k * 9) [.bool y.e, .bool y.l, .bool y.h, .bool y.a]) b g cap f (es.set k ⟨{ x.ln with st := y }, x.s⟩) :=
 ⟨by rw [List.length_set]; exact h.box.heap (heap_sets h.ne _ _ _), by
  have hl : k < es.length := (List.getElem?_eq_some_iff.1 hk).1
  have h1 := h.row.sets [.bool y.e, .bool y.l, .bool y.h, .bool y.a] (k * 9) (by rw [flE_len]; simp; omega)
  have h2 := flat_set en_len es k 0 x ⟨{ x.ln with st := y }, x.s⟩ [.bool y.e, .bool y.l, .bool y.h, .bool y.a] hk (by simp) rfl
  rw [Nat.add_zero] at h2
  rwa [h2] at h1, h.ne⟩
theorem BkAt.setLn {W : World} {b g cap : Nat} {f : Int} {es : List En} (h : BkAt W b g cap f es) {k : Nat} {x : En} (hk : es[k]? = some x) (y : Ln) :
  BkAt (W.setCells g (k * 9) y.cs) b g cap f (es.set k ⟨y, x.s⟩) :=
 ⟨by rw [List.length_set]; exact h.box.heap (heap_sets h.ne _ _ _), by
  have hl : k < es.length := (List.getElem?_eq_some_iff.1 hk).1
  have h1 := h.row.sets y.cs (k * 9) (by rw [flE_len, ln_len]; omega)
  have h2 := flat_set en_len es k 0 x ⟨y, x.s⟩ y.cs hk (by rw [ln_len]; omega) rfl
  rw [Nat.add_zero] at h2
  rwa [h2] at h1, h.ne⟩
set_option maxHeartbeats 1000000 in
theorem do_no {b g cap : Nat} {f : Int} {es : List En} {id a : Int} {w : World} (h : BkAt w b g cap f es) (hf : Fit f es.length) (hi' : Int64 id) (hn : hasB f es.length id = false) :
  Calls Tryz.prog 39 #[.pointer (some ⟨b, 0, none⟩), .int .i64 id, .int .i64 a] w fun e w' => e = .returned (.int .i64 90) ∧ Below w.heap.size w w' := by
 have HC := hi (has_any h hf hi')
 rw [hn] at HC
 clear h hf hi' hn
 go_enter Tryz.func39, Tryz.ntmps39
 go_wp2_with (go_at_call 81; ((with_reducible refine HC.out.mono ?_); rintro e w1 ⟨rfl, m, rfl⟩))
 go_ret
 exact ⟨rfl, Below.drewN (Below.refl _ _)⟩
set_option maxRecDepth 100000 in
set_option maxHeartbeats 2000000 in
theorem do_yes {b g cap k : Nat} {f a : Int} {es : List En} {x : En} {w : World} (h : BkAt w b g cap f es) (hf : Fit f es.length) (hk : es[k]? = some x) :
  Calls Tryz.prog 39 #[.pointer (some ⟨b, 0, none⟩), .int .i64 (f + k), .int .i64 a] w fun e w' => e = .returned (.int .i64 0) ∧ After w b g cap f (es.set k (x.step a)) w' := by
 have hkl : k < es.length := (List.getElem?_eq_some_iff.1 hk).1
 have h64 : Int64 (f + k) := by have := hf.f0; have := hf.s1; constructor <;> omega
 have HC := hi (has_any h hf h64)
 rw [show hasB f es.length (f + k) = true by rw [hasB_iff]; omega] at HC
 have HS := hi (fun W => step_any x.ln.st a W)
 have hw : IntKind.i64.wrap (f + k - f) = k := by rw [IntKind.wrap_i64]; have := hf.n1; omega
 have H := hi h
 have HK := hi hk
 have HKL := hi hkl
 have c0 := h.box.cell 0
 have c1 := h.box.cell 1
 obtain ⟨e0, e1, e2, e3, e4, e5, e6, e7, e8⟩ := h.row.ent hk
 obtain ⟨n, hn⟩ : ∃ n, es.length = n := ⟨_, rfl⟩
 rw [hn] at c1 hkl
 have HX := hi (show x.step a = ⟨{ x.ln with st := x.ln.st.step a }, x.s⟩ from rfl)
 obtain ⟨y, hy⟩ : ∃ y, x.ln.st.step a = y := ⟨_, rfl⟩
 rw [hy] at HS HX
 clear h hf hn h64 hk hy
 obtain ⟨⟨⟨e, l, q, a'⟩, en, gr, p⟩, s⟩ := x
 obtain ⟨ye, yl, yh, ya⟩ := y
 dsimp only [St.v] at HS
 dsimp only at e0 e1 e2 e3 e4 e5 e6 e7 e8
 go_enter Tryz.func39, Tryz.ntmps39
 go_wp2_with (go_at_call 81; ((with_reducible refine HC.out.mono ?_); rintro e' w1 ⟨rfl, m, rfl⟩))
 go_quiet (fail)
 go_wp2_with (first
  | (go_at_call 82; ((with_reducible refine (HS.out _).mono ?_); rintro e' w2 ⟨rfl, hb⟩; have HB := hi ((Below.drewN (Below.refl w.heap.size w)).trans (hb.mono (by simp))); have HBK := hi (H.out.below HB.out); have HTH := hi (show w2.there g (k * 9) 4 from fun j hj => (HBK.out.row.entThere HKL.out) j (by omega)); clear hb))
  | (refine wpList_store_mid rfl 31 (.tmp 33) (.tmp 30) rfl g _ #[.bool ye, .bool yl, .bool yh, .bool ya] rfl rfl (by simpa using HTH.out) size_irq (by simp [Value.oneCell']) ?_))
 go_ret
 refine ⟨rfl, ?_, kept_sets (bs := (· = g)) (b := g) rfl _ _ (Kept.of HB.out)⟩
 rw [HX.out]
 simpa using HBK.out.setIrq HK.out ⟨ye, yl, yh, ya⟩
theorem do_any {b g cap : Nat} {f : Int} {es : List En} {id a : Int} {w : World} (h : BkAt w b g cap f es) (hf : Fit f es.length) (hi' : Int64 id) :
  Calls Tryz.prog 39 #[.pointer (some ⟨b, 0, none⟩), .int .i64 id, .int .i64 a] w fun e w' => e = .returned (.int .i64 (doR f es id a).2) ∧ After w b g cap f (doR f es id a).1 w' := by
 unfold doR
 cases hb : hasB f es.length id
 ·refine (do_no h hf hi' hb).mono fun e w' ⟨h1, h2⟩ => ⟨by simpa using h1, ?_⟩
  simpa using After.of h h2
 ·obtain ⟨k, rfl, hk, e1⟩ := has_at hb
  refine (do_yes h hf (nthE_at hk)).mono fun e w' ⟨h1, h2⟩ => ⟨by simpa using h1, ?_⟩
  rw [e1]
  simpa using h2
end Go.Proofs.YtieedhdmpabfkaaGreat
namespace Go.Proofs.YtieedhdmpabfkaaGreat
open Go.ChangeShapes Go.WideShapes Go.ChangeAt Go.RowKit
set_option linter.unusedVariables false
structure RfAt (W : World) (b lg xg : Nat) (la xa : Option Addr) (lc xc : Nat) (f : Int) (es : List En) : Prop where
 box : CB W b 153 #[.int .i64 f, .slice la es.length lc, .slice xa es.length xc]
 ne0 : es ≠ [] → la = some ⟨lg, 0, none⟩ ∧ xa = some ⟨xg, 0, none⟩ ∧ Row W lg 58 (flL es) ∧ Row W xg 9 (flX es) ∧ b ≠ lg ∧ b ≠ xg ∧ lg ≠ xg
section
variable {W W' : World} {b lg xg : Nat} {la xa : Option Addr} {lc xc : Nat} {f : Int} {es : List En}
theorem RfAt.below (h : RfAt W b lg xg la xa lc xc f es) (k : Below W.heap.size W W') : RfAt W' b lg xg la xa lc xc f es :=
 ⟨h.box.below k, fun hne => by obtain ⟨h1, h2, h3, h4, h5⟩ := h.ne0 hne; exact ⟨h1, h2, h3.below k, h4.below k, h5⟩⟩
theorem RfAt.kept (h : RfAt W b lg xg la xa lc xc f es) {bs : Nat → Prop} (k : Kept bs W W') (hb : ¬ bs b) (hl : es ≠ [] → ¬ bs lg ∧ ¬ bs xg) : RfAt W' b lg xg la xa lc xc f es :=
 ⟨h.box.heap (k.block b h.box.lt hb), fun hne => by obtain ⟨h1, h2, h3, h4, h5⟩ := h.ne0 hne; exact ⟨h1, h2, h3.kept k (hl hne).1, h4.kept k (hl hne).2, h5⟩⟩
theorem RfAt.drew (h : RfAt W b lg xg la xa lc xc f es) : RfAt W.drew b lg xg la xa lc xc f es := ⟨h.box, h.ne0⟩
end
theorem set_ne {es : List En} {k : Nat} {y : En} (h : k < es.length) : es.set k y ≠ [] := fun e => by
 have h1 := congrArg List.length e
 rw [List.length_set, List.length_nil] at h1
 omega
structure LnC (W : World) (g o : Nat) (x : Ln) : Prop where
 c0 : W.cell? ⟨g, o, none⟩ = some (.bool x.st.e)
 c1 : W.cell? ⟨g, o + 1, none⟩ = some (.bool x.st.l)
 c2 : W.cell? ⟨g, o + 2, none⟩ = some (.bool x.st.h)
 c3 : W.cell? ⟨g, o + 3, none⟩ = some (.bool x.st.a)
 c4 : W.cell? ⟨g, o + 4, none⟩ = some (.bool x.en)
 c5 : W.cell? ⟨g, o + 5, none⟩ = some (.int .i64 x.g)
 c6 : W.cell? ⟨g, o + 6, none⟩ = some (.int .i64 x.p)
theorem Row.lnc {W : World} {g : Nat} {t : TypeId} {es : List En} (h : Row W g t (flL es)) {k : Nat} {x : En} (hk : es[k]? = some x) : LnC W g (k * 7) x.ln := by
 have hl : k < es.length := (List.getElem?_eq_some_iff.1 hk).1
 have K : ∀ c u, c < 7 → x.ln.cs[c]? = some u → W.cell? ⟨g, k * 7 + c, none⟩ = some u := fun c u hc hu => by
  rw [h.cell (by rw [flL_len]; omega), flat_get (fun x : En => ln_len x.ln) es k c x hc hk]
  exact hu
 exact ⟨K 0 _ (by decide) rfl, K 1 _ (by decide) rfl, K 2 _ (by decide) rfl, K 3 _ (by decide) rfl, K 4 _ (by decide) rfl, K 5 _ (by decide) rfl, K 6 _ (by decide) rfl⟩
theorem Row.lnThere {W : World} {g : Nat} {t : TypeId} {es : List En} (h : Row W g t (flL es)) {k : Nat} (hk : k < es.length) : W.there g (k * 7) 7 := h.there (by rw [flL_len]; omega)
theorem LnC.heap {W W' : World} {g o : Nat} {x : Ln} (h : LnC W g o x) (e : W'.heap[g]? = W.heap[g]?) : LnC W' g o x :=
 ⟨(World.cell?_of_block (w := W) (a := ⟨g, o, none⟩) e).trans h.c0, (World.cell?_of_block (w := W) (a := ⟨g, o + 1, none⟩) e).trans h.c1, (World.cell?_of_block (w := W) (a := ⟨g, o + 2, none⟩) e).trans h.c2,
  (World.cell?_of_block (w := W) (a := ⟨g, o + 3, none⟩) e).trans h.c3, (World.cell?_of_block (w := W) (a := ⟨g, o + 4, none⟩) e).trans h.c4, (World.cell?_of_block (w := W) (a := ⟨g, o + 5, none⟩) e).trans h.c5,
  (World.cell?_of_block (w := W) (a := ⟨g, o + 6, none⟩) e).trans h.c6⟩
abbrev Ln.ca (x : Ln) : Array Value := #[.bool x.st.e, .bool x.st.l, .bool x.st.h, .bool x.st.a, .bool x.en, .int .i64 x.g, .int .i64 x.p]
theorem CB.lnc {W : World} {B : Nat} {t : TypeId} {x : Ln} (h : CB W B t x.ca) : LnC W B 0 x := ⟨h.cell 0, h.cell 1, h.cell 2, h.cell 3, h.cell 4, h.cell 5, h.cell 6⟩
def atI (f : Int) (n : Nat) (id : Int) : Int := if hasB f n id then id - f else -1
theorem atI_at {f : Int} {n k : Nat} (h : k < n) : atI f n (f + k) = k := by
 have : hasB f n (f + k) = true := by rw [hasB_iff]; omega
 rw [atI, if_pos this]; omega
theorem atI_no {f : Int} {n : Nat} {id : Int} (h : hasB f n id = false) : atI f n id = -1 := by simp [atI, h]
set_option maxHeartbeats 1000000 in
theorem at_any {b lg xg : Nat} {la xa : Option Addr} {lc xc : Nat} {f : Int} {es : List En} {id : Int} {w : World} (h : RfAt w b lg xg la xa lc xc f es) (hf : Fit f es.length) :
  Calls Tryz.prog 90 #[.pointer (some ⟨b, 0, none⟩), .int .i64 id] w fun e w' => e = .returned (.int .i64 (atI f es.length id)) ∧ w = w' := by
 have c0 := h.box.cell 0
 have c1 := h.box.cell 1
 have f0 := hf.f0
 have hn1 := hf.n1
 have hs1 := hf.s1
 obtain ⟨n, hn⟩ : ∃ n, es.length = n := ⟨_, rfl⟩
 rw [hn] at c1 hn1 hs1 ⊢
 clear h hf hn
 go_enter Tryz.func90, Tryz.ntmps90
 go_wp2
 go_loop [5] (fun i => ∃ k : Nat, k ≤ n ∧ i = .int .i64 k ∧ Hi (¬ (f ≤ id ∧ id < f + k))) (fun i => n - (intOf i).toNat)
 case atStart => exact ⟨0, Nat.zero_le _, rfl, hi (by omega)⟩
 case round =>
  obtain ⟨k, hk, rfl, HX⟩ := hrel
  by_cases hlt : k < n
  ·have hw : IntKind.i64.wrap (f + k) = f + k := by rw [IntKind.wrap_i64]; omega
   by_cases he : f + k = id
   ·have hq : (f + (k : Int) == id) = true := by simpa using he
    have hr := atI_at (f := f) hlt
    rw [he] at hr
    have HR := hi hr
    clear hr he
    go_wp2
    go_ret
    exact ⟨by rw [HR.out]; rfl, rfl⟩
   ·have hq : (f + (k : Int) == id) = false := by simpa using he
    have HE := hi he
    clear he
    go_wp2
    go_round
    case rel => exact ⟨k + 1, by omega, by go_num, hi (by have := HX.out; have := HE.out; omega)⟩
    case measure => simp only [intOf]; omega
  ·obtain rfl : k = n := by omega
   have hr : atI f k id = -1 := by
    refine atI_no ?_
    cases hb : hasB f k id
    ·rfl
    ·rw [hasB_iff] at hb; exact absurd hb HX.out
   have HR := hi hr
   clear hr
   go_wp2
   go_ret
   exact ⟨by rw [HR.out]; rfl, rfl⟩
structure RfAfter (w : World) (b lg xg : Nat) (la xa : Option Addr) (lc xc : Nat) (f : Int) (es : List En) (W : World) : Prop where
 rf : RfAt W b lg xg la xa lc xc f es
 kept : Kept (fun i => es ≠ [] ∧ (i = lg ∨ i = xg)) w W
section
variable {W w : World} {b lg xg : Nat} {la xa : Option Addr} {lc xc : Nat} {f : Int} {es : List En}
theorem RfAfter.of (h : RfAt w b lg xg la xa lc xc f es) (k : Below w.heap.size w W) : RfAfter w b lg xg la xa lc xc f es W := ⟨h.below k, Kept.of k⟩
theorem RfAt.setLn (h : RfAt W b lg xg la xa lc xc f es) {k : Nat} {x : En} (hk : es[k]? = some x) (y : Ln) : RfAt (W.setCells lg (k * 7) y.cs) b lg xg la xa lc xc f (es.set k ⟨y, x.s⟩) := by
 have hl : k < es.length := (List.getElem?_eq_some_iff.1 hk).1
 obtain ⟨h1, h2, h3, h4, h5, h6, h7⟩ := h.ne0 (fun e => by rw [e] at hl; simp at hl)
 refine ⟨by rw [List.length_set]; exact h.box.heap (heap_sets h5 _ _ _), fun _ => ⟨h1, h2, ?_, ?_, h5, h6, h7⟩⟩
 ·have g1 := h3.sets y.cs (k * 7) (by rw [flL_len, ln_len]; omega)
  have g2 := flat_set (fun x : En => ln_len x.ln) es k 0 x ⟨y, x.s⟩ y.cs hk (by rw [ln_len]; omega) (splice_all x.ln.cs y.cs rfl).symm
  rw [Nat.add_zero] at g2
  rwa [g2] at g1
 ·have g1 := h4.heap (heap_sets (b := lg) (i := xg) (Ne.symm h7) y.cs (k * 7) W)
  have e : flX (es.set k ⟨y, x.s⟩) = flX es := by
   have g2 := flat_set (enc := fun _ : En => [Value.string ⟨#[]⟩]) (m := 1) (fun _ => rfl) es k 0 x ⟨y, x.s⟩ [.string ⟨#[]⟩] hk (by simp) (splice_all _ _ rfl).symm
   have g3 := flat_set (enc := fun _ : En => [Value.string ⟨#[]⟩]) (m := 1) (fun _ => rfl) es k 0 x x [.string ⟨#[]⟩] hk (by simp) (splice_all _ _ rfl).symm
   rw [flX, ← g2, g3]
   congr 1
   apply List.ext_getElem?
   intro i
   by_cases hi' : k = i
   ·subst hi'; rw [List.getElem?_set_self hl, hk]
   ·rw [List.getElem?_set_ne hi']
  rw [e]
  exact g1
theorem RfAt.setIrq (h : RfAt W b lg xg la xa lc xc f es) {k : Nat} {x : En} (hk : es[k]? = some x) (y : St) : RfAt (W.setCells lg (k * 7) [.bool y.e, .bool y.l, .bool y.h, .bool y.a]) b lg xg la xa lc xc f (es.set k ⟨{ x.ln with st := y }, x.s⟩) := by
 have hl : k < es.length := (List.getElem?_eq_some_iff.1 hk).1
 obtain ⟨h1, h2, h3, h4, h5, h6, h7⟩ := h.ne0 (fun e => by rw [e] at hl; simp at hl)
 have hS := h.setLn hk { x.ln with st := y }
 obtain ⟨_, _, _, h4', _⟩ := hS.ne0 (set_ne hl)
 refine ⟨by rw [List.length_set]; exact h.box.heap (heap_sets h5 _ _ _), fun _ => ⟨h1, h2, ?_, ?_, h5, h6, h7⟩⟩
 ·have g1 := h3.sets [.bool y.e, .bool y.l, .bool y.h, .bool y.a] (k * 7) (by rw [flL_len]; simp; omega)
  have g2 := flat_set (fun x : En => ln_len x.ln) es k 0 x ⟨{ x.ln with st := y }, x.s⟩ [.bool y.e, .bool y.l, .bool y.h, .bool y.a] hk (by simp) rfl
  rw [Nat.add_zero] at g2
  rwa [g2] at g1
 ·exact h4'.heap ((heap_sets (b := lg) (i := xg) (Ne.symm h7) _ _ W).trans (heap_sets (b := lg) (i := xg) (Ne.symm h7) _ _ W).symm)
end
structure PR (b lg bx n lc k : Nat) (xv : Value) (x : Ln) (W : World) : Prop where
 c1 : W.cell? ⟨b, 1, none⟩ = some (.slice (some ⟨lg, 0, none⟩) n lc)
 c2 : W.cell? ⟨b, 2, none⟩ = some xv
 ln : LnC W bx 0 x
 th : W.there lg (k * 7) 7
theorem PR.sets {b lg bx n lc k : Nat} {xv : Value} {x : Ln} {W : World} (h : PR b lg bx n lc k xv x W) (hb : b ≠ lg) (hx : bx ≠ lg) (o : Nat) (vs : List Value) : PR b lg bx n lc k xv x (W.setCells lg o vs) :=
 ⟨(World.cell?_of_block (w := W) (a := ⟨b, 1, none⟩) (heap_sets hb vs o W)).trans h.c1, (World.cell?_of_block (w := W) (a := ⟨b, 2, none⟩) (heap_sets hb vs o W)).trans h.c2, h.ln.heap (heap_sets hx vs o W), World.there_setCells h.th _ _ _⟩
end Go.Proofs.YtieedhdmpabfkaaGreat
