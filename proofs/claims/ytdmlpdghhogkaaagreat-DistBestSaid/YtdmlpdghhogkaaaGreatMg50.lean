import Derived.Test.YtdmlpdghhogkaaaGreatMg49
namespace Go.Proofs.YtdmlpdghhogkaaaGreat
open Go.ChangeShapes Go.WideShapes Go.ChangeAt Go.RowKit Go.Shelf
set_option linter.unusedVariables false
attribute [local go_sem] Oper.semAt_some
structure DK (n : Nat) (w : World) (p q : Nat) (b c : Nat → Nat) (D : Ds) (l : Nat) (F : Nat → Prop) (W : World) : Prop where
  di : DiAt W p q b c D
  ql : q ≤ l
  ge : ∀ i, F i → l ≤ i
  below : Below n w W
  nl : n ≤ l
  lz : l ≤ W.heap.size
theorem DK.pb {n : Nat} {w : World} {p q : Nat} {b c : Nat → Nat} {D : Ds} {l : Nat} {F : Nat → Prop} {W : World} (h : DK n w p q b c D l F W) : p < q := by have := h.di.rng 0 (by omega); omega
theorem DK.qb {n : Nat} {w : World} {p q : Nat} {b c : Nat → Nat} {D : Ds} {l : Nat} {F : Nat → Prop} {W : World} (h : DK n w p q b c D l F W) : q ≤ l := h.ql
theorem DK.later {n : Nat} {w : World} {p q : Nat} {b c : Nat → Nat} {D : Ds} {l : Nat} {F : Nat → Prop} {W W' : World} (h : DK n w p q b c D l F W) (k : Below W.heap.size W W') (hn : n ≤ W.heap.size) : DK n w p q b c D l F W' := ⟨h.di.below k, h.ql, h.ge, h.below.trans (k.mono hn), h.nl, Nat.le_trans h.lz k.size⟩
theorem DK.set {n : Nat} {w : World} {p q : Nat} {b c : Nat → Nat} {D : Ds} {l : Nat} {F : Nat → Prop} {W : World} (h : DK n w p q b c D l F W) {x o : Nat} (hx : l ≤ x) (u : Value) : DK n w p q b c D l F (W.setCell ⟨x, o, none⟩ u) :=
  ⟨h.di.same (by simp) (fun i a e => Below.heap_setCell W ⟨x, o, none⟩ _ i (by have := h.ql; show i ≠ x; omega)), h.ql, h.ge, h.below.setCell (by have := h.nl; show n ≤ x; omega) _, h.nl, by simpa using h.lz⟩
theorem FrOk.dk {β : Type} (n : Nat) (w : World) (p q : Nat) (b c : Nat → Nat) (D : Ds) (l : Nat) : FrOk (fun (_ : β) F W => DK n w p q b c D l F W) :=
  ⟨fun s F A A' h k => ⟨h.di.kept k (fun i x y => by have := h.ge i x; have := y.2; have := h.ql; omega), h.ql, h.ge, h.below.trans (k.toBelow (Nat.le_trans h.nl h.lz) (fun i x => Nat.le_trans h.nl (h.ge i x))), h.nl, Nat.le_trans h.lz k.size⟩,
   fun s F G A h k => ⟨h.di, h.ql, fun i x => by rcases k i x with y | y; exact h.ge i y; exact Nat.le_trans h.lz y, h.below, h.nl, h.lz⟩⟩
set_option maxRecDepth 100000 in
set_option maxHeartbeats 16000000 in
theorem best_law (f n : Int) (v : Value) (xs : List Xa) (o : Int) (w : World) (hf0 : 0 ≤ f) (hf1 : f < 256) (hn0 : 0 ≤ n) (hn1 : n < 256) (h : ActsAt w v xs) (hl : xs.length ≤ 9223372036854775806) (ho0 : 0 ≤ o) (ho1 : o < 256) :
    Calls Tryz.prog 6 #[.int .u8 f, .int .u8 n, v, .int .u8 o] w fun e w' => e = .returned (.bool true) ∧ Below w.heap.size w w' := by
  have HP := hi (fun W (k : Below w.heap.size w W) => played_any f n v xs W hf0 hf1 hn0 hn1 (h.below k) hl)
  clear h hl
  have HB0 := hi (bal w (.cells #[.bool false] 4))
  have HR0 := hi (CB.new w 4 #[.bool false])
  refine (callsIn_wide (n := 6)).1 ?_
  refine callsIn_of_wp_marks Tryz.func6 rfl trivial ?_ rfl
  simp only [Tryz.ntmps6, List.size_toArray, List.length_cons, List.length_nil, Nat.reduceAdd, Nat.reduceSub, Array.replicate_succ, Array.replicate_zero, List.push_toArray, List.append_toArray, List.nil_append, List.cons_append]
  refine wpIn_wide.2 ?_
  go_wp2_with (first
    | (go_at_call 10; ((with_reducible refine (awake_any _).mono ?_); rintro e w1 ⟨rfl, hb⟩; have HB1 := hi (HB0.out.trans (hb.mono HB0.out.size)); have HR1 := hi (HR0.out.below hb); clear hb))
    | (go_at_call 20; ((with_reducible refine (HP.out _ HB1.out).mono ?_); rintro e w2 ⟨p, q, b, c, D, rfl, hd⟩; have HD := hi hd; clear hd)))
  have hok := HD.out.ok
  have hn1' := hok.n1
  have hn8' := hok.n8
  obtain ⟨k, hk, hko⟩ := tmod_core ho0 ho1 hok.n1 hok.n8
  obtain ⟨kz, hkz⟩ : ∃ kz : Int, (k : Int) = kz := ⟨_, rfl⟩
  rw [hkz] at hko
  have HCO := cores_any HD.out.di
  have HB2 := hi (HB1.out.trans (HD.out.below.mono HB1.out.size))
  have HR2 := hi (HR1.out.below HD.out.below)
  have HRL := hi HR1.out.lt
  have HPL := hi HD.out.lo
  have HQ := hi HD.out.di.le
  have BE := hi (best_dist HD.out.di hok kz)
  have RDY := hi (fun W (z : DiAt W p q b c D) => ready_dist z hok kz)
  have HAS := hi (fun W (z : DiAt W p q b c D) => asleep_dist z kz)
  obtain ⟨L, hL⟩ : ∃ L, readyL D kz = L := ⟨_, rfl⟩
  rw [hL] at BE RDY
  have HLEN := hi (show L.length ≤ 96 from by rw [← hL]; exact readyL_len hok kz)
  have HALL := hi (fun x (hx : x ∈ L) => show x.2.ln.en = true ∧ x.2.ln.st.a = false from by rw [← hL] at hx; have := ready_mem hx; exact ⟨this.2.1, ready_act this.2.2.1⟩)
  have HBO := hi (fun x (hx : x ∈ L) => best_of hx)
  have HSL := hi (show asleepV D kz = true → L = [] from fun e => by rw [← hL]; unfold readyL; rw [if_pos e])
  have HEM := hi (show L = [] → bestC L = ⟨0, 0, 0, false⟩ from fun e => by rw [e]; rfl)
  have HIS := hi (show L ≠ [] → (bestC L).is = true ∧ ∃ y : Ln, getV D kz (bestC L).id = (y, 0) ∧ y.p = (bestC L).p ∧ y.g = (bestC L).g ∧ y.en = true from fun e => by
    obtain ⟨x, hx, he⟩ := bestC_mem L e
    rw [he]
    rw [← hL] at hx
    have hm := ready_mem hx
    exact ⟨rfl, x.2.ln, seen_get hok hm.1, rfl, rfl, hm.2.1⟩)
  have HID := hi (show Int64 (bestC L).id from by
    by_cases e : L = []
    · rw [HEM.out e]; exact ⟨by decide, by decide⟩
    · obtain ⟨x, hx, he⟩ := bestC_mem L e
      rw [he]
      rw [← hL] at hx
      have h1 := hok.m
      obtain ⟨j, _, hj, ⟨i, hi, rfl⟩ | ⟨i, hi, rfl, _⟩⟩ := seen_mem (ready_mem hx).1
      · have := hok.own j hj
        constructor <;> show _ ≤ _ <;> dsimp only [candV] <;> omega
      · constructor <;> show _ ≤ _ <;> dsimp only [candV] <;> omega)
  have GT := hi (fun W (z : DiAt W p q b c D) => get_dist z hok (k := kz) HID.out)
  obtain ⟨⟨ci, cp, cg, cis⟩, hC⟩ : ∃ C, bestC L = C := ⟨_, rfl⟩
  rw [hC] at BE HBO HEM HIS GT
  dsimp only [Cd.v] at BE HBO HEM HIS GT
  obtain ⟨⟨⟨⟨le, ll, lh, la⟩, ln, lg, lp⟩, lr⟩, hG⟩ : ∃ R, getV D kz ci = R := ⟨_, rfl⟩
  rw [hG] at GT HIS
  dsimp only [Ln.v] at GT HIS
  obtain ⟨sl9, hAS⟩ : ∃ sl9, asleepV D kz = sl9 := ⟨_, rfl⟩
  rw [hAS] at HAS HSL
  obtain ⟨n9, hn9⟩ : ∃ n9, D.cs.length = n9 := ⟨_, rfl⟩
  have HCO := hi (show Calls Tryz.prog 21 #[.pointer (some ⟨b 0, 0, none⟩)] w2 fun e w' => e = .returned (.int .i64 n9) ∧ w2 = w' from by rw [← hn9]; exact HCO)
  rw [hn9] at hko hk hn1' hn8'
  have hn0' : (n9 : Int) ≠ 0 := by omega
  have hwk : IntKind.i64.wrap kz = kz := by rw [IntKind.wrap_i64]; omega
  clear hL hC hG hAS hok hn9 HP HID
  rcases (show n9 = 1 ∨ 1 < n9 by omega) with rfl | h19
  · obtain rfl : kz = 0 := by omega
    clear hkz
    have HCO := HCO.out
    (with_reducible refine HCO.mono ?_); rintro e w2' ⟨rfl, rfl⟩; have HCO := hi trivial
    go_wp2_with (first
      | (go_at_call 25; ((with_reducible refine BE.out.mono ?_); rintro e w3 ⟨rfl, hb⟩; have hbb := (hb.alloc hb.size (.cells #[.int .i64 ci, .int .i64 cp, .int .i64 cg, .bool cis] 55)).alloc (show w2.heap.size ≤ (w3.alloc (.cells #[.int .i64 ci, .int .i64 cp, .int .i64 cg, .bool cis] 55)).heap.size from by rw [World.size_alloc]; have := hb.size; omega) (.cells #[.int .i64 0] 3); have D5 := hi (HD.out.di.below hbb); have R5 := hi (HR2.out.below hbb); have B5 := hi (HB2.out.trans (hbb.mono HB2.out.size)); have C5 := hi ((CB.new w3 55 #[.int .i64 ci, .int .i64 cp, .int .i64 cg, .bool cis]).alloc (.cells #[.int .i64 0] 3)); have N5 := hi (cb_second (w := w3) (o := .cells #[.int .i64 ci, .int .i64 cp, .int .i64 cg, .bool cis] 55) (cs := #[.int .i64 0]) (t := 3)); have Q5 := hi (show q ≤ w3.heap.size from Nat.le_trans HQ.out hb.size); have S5 := hi (show ((w3.alloc (.cells #[.int .i64 ci, .int .i64 cp, .int .i64 cg, .bool cis] 55)).alloc (.cells #[.int .i64 0] 3)).heap.size = w3.heap.size + 2 from by simp); clear hb hbb))
      | (go_at_call 22; ((with_reducible refine (RDY.out _ D5.out).mono ?_); rintro e w6 ⟨R, gf, lb, rfl, hR, hit, hb⟩; have I6 := hi hit; have D6 := hi (D5.out.below hb); have R6 := hi (R5.out.below hb); have B6 := hi (B5.out.trans (hb.mono B5.out.size)); have C6 := hi (C5.out.below hb); have N6 := hi (N5.out.below hb); have HRR := hi hR; have S6 := hi (show w3.heap.size + 2 ≤ w6.heap.size from by have := hb.size; rw [S5.out] at this; exact this); clear hit hb hR)))
    obtain ⟨gf', lb', eq9, eg, hh6, hq⟩ := I6.out
    obtain ⟨rfl, rfl⟩ : gf = gf' ∧ lb = lb' := by simpa using eq9
    have hRw := I6.out.lt
    have hst := hq w6 (Nat.le_refl _) (fun _ _ => rfl)
    have hRo : ∀ i, R i → ¬ (i = w3.heap.size + 1 ∨ i = w3.heap.size ∨ i = w.heap.size) := fun i r => by
      have h1 := HRR.out i r
      rw [S5.out] at h1
      have := Q5.out
      have := HRL.out
      have := HPL.out
      have := D6.out.rng 0 (by omega)
      rcases h1 with ⟨h1, h2⟩ | h1 <;> omega
    have HRo := hi hRo
    have HRw := hi hRw
    clear hq eq9 hRo
    refine (wpIn_wide (n := 6)).1 ?_
    refine range_fr (n := 6) (by omega) (gf := gf) (lb := lb) rfl eg hst (Below.refl _ _) (fun _ => rfl) hRw
      (fun _ => False) (fun i x => x.elim)
      (fun pre G V => OwnB (w3.heap.size + 1) 3 (fun m : Nat => #[.int .i64 m]) pre.length G V ∧ OwnB w3.heap.size 55 (fun _ : List It => #[.int .i64 ci, .int .i64 cp, .int .i64 cg, .bool cis]) pre G V ∧ OwnB w.heap.size 4 (fun _ : List It => #[.bool false]) pre G V ∧ DK w.heap.size w p q b c D w3.heap.size G V)
      (fun cd pre G V => False)
      (((FrOk.ownB _ _ _).map List.length).and ((FrOk.ownB _ _ _).and ((FrOk.ownB _ _ _).and (FrOk.dk _ _ _ _ _ _ _ _))))
      (fun _ => ⟨fun _ _ _ _ h _ => h, fun _ _ _ _ h _ => h⟩)
      ⟨⟨fun x => x, N6.out⟩, ⟨fun x => x, C6.out⟩, ⟨fun x => x, R6.out⟩, ⟨D6.out, Q5.out, fun i x => x.elim, B6.out, by have := HRL.out; have := HPL.out; have := (D6.out.rng 0 (by omega)).1; have := (D6.out.rng 0 (by omega)).2; have := Q5.out; omega, by have := S6.out; omega⟩⟩
      (fun x a' G V => ∃ Bx, OwnB Bx 58 (fun _ : Unit => x.2.ln.cs.toArray) () G V ∧ a' = { tmps := #[.int .u8 f, .int .u8 n, v, .int .u8 o, undef, undef, undef, undef, .pointer (some ⟨w.heap.size, 0, none⟩), .bool true, .pointer (some ⟨b 0, 0, none⟩), .int .i64 0, .pointer (some ⟨w3.heap.size, 0, none⟩), .pointer (some ⟨w3.heap.size + 1, 0, none⟩), .int .i64 x.1, .pointer (some ⟨Bx, 0, none⟩), undef, undef, .bool true, .bool true, .bool false, .int .u8 f, .int .u8 n, v, .pointer (some ⟨b 0, 0, none⟩), .bool true, .bool false, .bool false, .pointer (some ⟨b 0, 0, none⟩), .bool false, .bool false, .int .u8 o, .int .i64 o, .pointer (some ⟨b 0, 0, none⟩), .int .i64 1, .int .i64 1, .int .i64 0, .pointer (some ⟨b 0, 0, none⟩), .int .i64 0, .agg #[.int .i64 ci, .int .i64 cp, .int .i64 cg, .bool cis], .pointer (some ⟨b 0, 0, none⟩), .int .i64 0, .func (.func gf) #[] lb, .int .i64 x.1, x.2.ln.v, undef, undef, undef, undef, undef, undef, undef, undef, undef, undef, undef, undef, undef, undef, undef, undef, undef, undef, undef, undef, undef, undef, undef, undef, undef, undef, undef, undef, undef, undef, undef, undef, undef, undef, undef, undef, undef, undef, undef, undef, undef, undef, undef, undef, undef, undef, undef, undef, undef, undef, undef, undef, undef, undef, undef, undef, undef, undef, undef, undef, undef, undef, undef, undef, undef, undef, undef, undef, undef, undef, undef, undef, undef, undef, undef, undef, undef, undef, undef, undef, undef, undef, undef, undef, undef, undef], defers := [] })
      (fun x a' => ⟨fun s F A A' q w => by obtain ⟨Bx, e1, e2⟩ := q; exact ⟨Bx, (FrOk.ownB Bx 58 (fun (_ : Unit) => x.2.ln.cs.toArray)).st () F A A' e1 w, e2⟩, fun s F G A q w => by obtain ⟨Bx, e1, e2⟩ := q; exact ⟨Bx, (FrOk.ownB Bx 58 (fun (_ : Unit) => x.2.ln.cs.toArray)).sub () F G A e1 w, e2⟩⟩)
      ?assign ?body ?done ?stop
    case assign =>
      rintro l' pre ⟨id, ⟨⟨⟨e, lb', q', a⟩, en, gr, pp⟩, s⟩⟩ G V K h hFG hG hsz hK
      have hkf : KF G R V (V.alloc (.cells #[.bool e, .bool lb', .bool q', .bool a, .bool en, .int .i64 gr, .int .i64 pp] 58)) := KF.of_below (bal V _) (fun i x => by rcases x with x | x; exact (hG i x).1; have := HRw.out i x; omega)
      obtain ⟨h1, h2, h3, h4⟩ := h
      gi_wp2
      exact hK _ _ hkf ⟨⟨h1.1, h1.2.alloc _⟩, ⟨h2.1, h2.2.alloc _⟩, ⟨h3.1, h3.2.alloc _⟩, h4.later (bal V _) (Nat.le_trans h4.nl h4.lz)⟩ ⟨V.heap.size, ⟨fun x => by have := (hG _ x).1; omega, CB.new _ _ _⟩, rfl⟩
    case body =>
      rintro l' pre ⟨id, ⟨⟨⟨e, lb', q', a⟩, en, gr, pp⟩, s⟩⟩ a' G V hFG hG hsz ⟨⟨hNn, hN⟩, ⟨hCn, hC⟩, ⟨hRn, hR⟩, hDK⟩ ⟨Bx, ⟨hBn, hbx⟩, rfl⟩ hpx
      have hmem := hpx.subset (show (id, (⟨⟨⟨e, lb', q', a⟩, en, gr, pp⟩, s⟩ : En)) ∈ pre ++ [(id, ⟨⟨⟨e, lb', q', a⟩, en, gr, pp⟩, s⟩)] by simp)
      replace hbx : CB V Bx 58 #[.bool e, .bool lb', .bool q', .bool a, .bool en, .int .i64 gr, .int .i64 pp] := hbx
      obtain ⟨b1, b2, b3⟩ := HBO.out _ hmem
      obtain ⟨al1, al2⟩ := HALL.out _ hmem
      dsimp only at b1 b2 b3 al1 al2
      subst b1 al1 al2
      have hplen := hpx.length_le
      rw [List.length_append] at hplen
      have hm96 := HLEN.out
      obtain ⟨m, hm⟩ : ∃ m, pre.length = m := ⟨_, rfl⟩
      rw [hm] at hN hplen
      have hml : m + 1 ≤ 96 := by simp at hplen; omega
      have hwm : IntKind.i64.wrap ((m : Int) + 1) = ((m + 1 : Nat) : Int) := by rw [IntKind.wrap_i64]; omega
      have HN := hi hN
      have HCC := hi hC
      have HRC := hi hR
      have HBX := hi hbx
      have HGG := hi hG
      have HNN := hi hNn
      have HM := hi hm
      have HCN := hi hCn
      have HRN := hi hRn
      have HDK := hi hDK
      have n0 := hN.cell 0
      have nf := hN.frozen
      have c0 := hC.cell 0
      have c1 := hC.cell 1
      have c3 := hC.cell 3
      have x0 := hbx.cell 0
      have x1 := hbx.cell 1
      have x3 := hbx.cell 3
      have x4 := hbx.cell 4
      have x6 := hbx.cell 6
      have hbn1 : Bx ≠ w3.heap.size + 1 := fun e => by subst e; have := HN.out; have h9 := HBX.out; unfold CB at this h9; rw [this] at h9; simp at h9
      have d2 : decide (pp < cp) = false := by simpa using b2
      clear hN hC hR hbx hG hNn hm hCn hRn hDK hpx hmem hplen hm96
      have hNs := (HN.out.set 0 (.int .i64 ((m + 1 : Nat) : Int)))
      have hkf : KF G R V (V.setCell ⟨w3.heap.size + 1, 0, none⟩ (.int .i64 ((m + 1 : Nat) : Int))) := ⟨by simp, fun i z => Below.heap_setCell V ⟨w3.heap.size + 1, 0, none⟩ _ i (fun e => by
        rw [e] at z
        rcases z with z | z
        · exact HNN.out z
        · exact HRo.out _ z (.inl rfl))⟩
      have fin : OwnB (w3.heap.size + 1) 3 (fun m : Nat => #[.int .i64 m]) (pre ++ [(id, (⟨⟨⟨e, lb', q', false⟩, true, gr, pp⟩, s⟩ : En))]).length G (V.setCell ⟨w3.heap.size + 1, 0, none⟩ (.int .i64 ((m + 1 : Nat) : Int))) ∧ OwnB w3.heap.size 55 (fun _ : List It => #[.int .i64 ci, .int .i64 cp, .int .i64 cg, .bool true]) (pre ++ [(id, (⟨⟨⟨e, lb', q', false⟩, true, gr, pp⟩, s⟩ : En))]) G (V.setCell ⟨w3.heap.size + 1, 0, none⟩ (.int .i64 ((m + 1 : Nat) : Int))) ∧ OwnB w.heap.size 4 (fun _ : List It => #[.bool false]) (pre ++ [(id, (⟨⟨⟨e, lb', q', false⟩, true, gr, pp⟩, s⟩ : En))]) G (V.setCell ⟨w3.heap.size + 1, 0, none⟩ (.int .i64 ((m + 1 : Nat) : Int))) ∧ DK w.heap.size w p q b c D w3.heap.size G (V.setCell ⟨w3.heap.size + 1, 0, none⟩ (.int .i64 ((m + 1 : Nat) : Int))) := by
        refine ⟨⟨HNN.out, ?_⟩, ⟨HCN.out, HCC.out.other _ _ _ (by omega)⟩, ⟨HRN.out, HRC.out.other _ _ _ (by have := HRL.out; have := HPL.out; have := HDK.out.pb; have := HDK.out.qb; omega)⟩, HDK.out.set (by omega) _⟩
        have : (pre ++ [(id, (⟨⟨⟨e, lb', q', false⟩, true, gr, pp⟩, s⟩ : En))]).length = m + 1 := by rw [List.length_append, HM.out]; rfl
        rw [this]
        simpa using hNs
      have FIN := hi fin
      have HKF := hi hkf
      have hzb := HBX.out.other (w3.heap.size + 1) 0 (.int .i64 ((m : Int) + 1)) hbn1
      have z3 := hzb.cell 3
      have z4 := hzb.cell 4
      have z6 := hzb.cell 6
      have hzc := HCC.out.other (w3.heap.size + 1) 0 (.int .i64 ((m : Int) + 1)) (by omega)
      have y0 := hzc.cell 0
      have y1 := hzc.cell 1
      have y3 := hzc.cell 3
      clear hzb hzc
      clear fin hkf hNs
      by_cases hpe : pp = cp
      · have hie := b3 hpe
        subst hpe
        have d3 : decide (id < ci) = false := by simpa using hie
        clear b3 b2
        gi_wp2
        exact ⟨HKF.out, FIN.out⟩
      · have d3 : (pp == cp) = false := by simpa using hpe
        clear b3
        gi_wp2
        exact ⟨HKF.out, FIN.out⟩
    case done =>
      rintro ys G V rfl hFG ⟨⟨hNn, hN⟩, ⟨hCn, hC⟩, ⟨hRn, hR⟩, hDK⟩ hK hs2
      have HNV := hi hN
      have HCV := hi hC
      have HRV := hi hR
      have HDV := hi hDK
      have HKV := hi (show V.heap[w6.heap.size]? = some (.deferred (some [])) from hK)
      have HSV := hi (show w6.heap.size + 2 ≤ V.heap.size from hs2)
      have HWL := hi (show w.heap.size < w6.heap.size from by have := HRL.out; have := HPL.out; have := hDK.pb; have := hDK.qb; have := S6.out; omega)
      have vc0 := HCV.out.cell 0
      have hlm := HLEN.out
      clear hN hC hR hDK hK hs2 hst hNn hCn hRn hFG
      by_cases hys : ys = []
      · have e0 := HEM.out hys
        simp only [Cd.mk.injEq] at e0
        obtain ⟨rfl, rfl, rfl, rfl⟩ := e0
        have hl0 : ys.length = 0 := by rw [hys]; rfl
        rw [hl0] at HNV
        clear HEM HIS HSL hys hl0 hlm HBO HALL HLEN
        cases sl9
        all_goals
          go_wp2_with (first
            | (go_at_call 26; ((with_reducible refine (GT.out _ HDV.out.di).mono ?_); rintro e w10 ⟨rfl, hb⟩; have hbb := hb.alloc hb.size (.cells #[.bool le, .bool ll, .bool lh, .bool la, .bool ln, .int .i64 lg, .int .i64 lp] 58); have D11 := hi (HDV.out.later hbb (Nat.le_trans HDV.out.nl HDV.out.lz)); have C11 := hi (HCV.out.below hbb); have N11 := hi (HNV.out.below hbb); have R11 := hi (HRV.out.below hbb); have K11 := hi ((hbb.block _ (by have := HSV.out; omega)).trans HKV.out); have S11 := hi (Nat.le_trans HSV.out hbb.size); have hl := CB.new w10 58 #[.bool le, .bool ll, .bool lh, .bool la, .bool ln, .int .i64 lg, .int .i64 lp]; have l4 := hl.cell 4; have l5 := hl.cell 5; have l6 := hl.cell 6; have c0 := C11.out.cell 0; have c1 := C11.out.cell 1; have c2 := C11.out.cell 2; have c3 := C11.out.cell 3; have n0 := N11.out.cell 0; have r0 := R11.out.cell 0; have rf := R11.out.frozen; clear hb hbb hl))
            | (go_at_call 27; ((with_reducible refine (HAS.out _ D11.out.di).mono ?_); rintro e w12 ⟨rfl, rfl⟩)))
          have hc := R11.out.set 0 (.bool true)
          have hkk := (Below.heap_setCell _ ⟨w.heap.size, 0, none⟩ (.bool true) _ (show w6.heap.size ≠ w.heap.size by have := HWL.out; omega)).trans K11.out
          have hb9 := D11.out.below.setCell (p := ⟨w.heap.size, 0, none⟩) (Nat.le_refl _) (.bool true)
          have hs11 := S11.out
          refine ⟨by simp, .inl ⟨_, _, rfl, run_takeDeferred hkk, ?_⟩⟩
          exact ⟨_, results_cellb rfl _ _ w.heap.size true rfl (hc.heap (World.putObj_heap_other (by have := HWL.out; omega))), rfl, below_put hb9 _ (by rw [World.size_setCell]; have := HWL.out; omega) (by have := HWL.out; omega)⟩
      · obtain ⟨h1, y, h2, h3, h4, h5⟩ := HIS.out hys
        simp only [Prod.mk.injEq] at h2
        obtain ⟨h2, rfl⟩ := h2
        subst h2
        subst h1
        dsimp only at h3 h4 h5
        subst h3 h4 h5
        have hsl : sl9 = false := by
          cases h : sl9
          · rfl
          · exact absurd (HSL.out h) hys
        subst hsl
        have hpos : 0 < ys.length := by
          rcases Nat.eq_zero_or_pos ys.length with e | e
          · exact absurd (List.length_eq_zero_iff.1 e) hys
          · exact e
        obtain ⟨m, hm⟩ : ∃ m, ys.length = m := ⟨_, rfl⟩
        rw [hm] at HNV hpos hlm
        have dpos : decide (0 < (m : Int)) = true := by simp; omega
        clear HEM HIS HSL hys hm HBO HALL HLEN
        go_wp2_with (first
          | (go_at_call 26; ((with_reducible refine (GT.out _ HDV.out.di).mono ?_); rintro e w10 ⟨rfl, hb⟩; have hbb := hb.alloc hb.size (.cells #[.bool le, .bool ll, .bool lh, .bool la, .bool true, .int .i64 lg, .int .i64 lp] 58); have D11 := hi (HDV.out.later hbb (Nat.le_trans HDV.out.nl HDV.out.lz)); have C11 := hi (HCV.out.below hbb); have N11 := hi (HNV.out.below hbb); have R11 := hi (HRV.out.below hbb); have K11 := hi ((hbb.block _ (by have := HSV.out; omega)).trans HKV.out); have S11 := hi (Nat.le_trans HSV.out hbb.size); have hl := CB.new w10 58 #[.bool le, .bool ll, .bool lh, .bool la, .bool true, .int .i64 lg, .int .i64 lp]; have l4 := hl.cell 4; have l5 := hl.cell 5; have l6 := hl.cell 6; have c0 := C11.out.cell 0; have c1 := C11.out.cell 1; have c2 := C11.out.cell 2; have c3 := C11.out.cell 3; have n0 := N11.out.cell 0; have r0 := R11.out.cell 0; have rf := R11.out.frozen; clear hb hbb hl))
          | (go_at_call 27; ((with_reducible refine (HAS.out _ D11.out.di).mono ?_); rintro e w12 ⟨rfl, rfl⟩)))
        have hc := R11.out.set 0 (.bool true)
        have hkk := (Below.heap_setCell _ ⟨w.heap.size, 0, none⟩ (.bool true) _ (show w6.heap.size ≠ w.heap.size by have := HWL.out; omega)).trans K11.out
        have hb9 := D11.out.below.setCell (p := ⟨w.heap.size, 0, none⟩) (Nat.le_refl _) (.bool true)
        have hs11 := S11.out
        refine ⟨by simp, .inl ⟨_, _, rfl, run_takeDeferred hkk, ?_⟩⟩
        exact ⟨_, results_cellb rfl _ _ w.heap.size true rfl (hc.heap (World.putObj_heap_other (by have := HWL.out; omega))), rfl, below_put hb9 _ (by rw [World.size_setCell]; have := HWL.out; omega) (by have := HWL.out; omega)⟩
    case stop =>
      rintro c pre G V _ _ h _ _
      exact h.elim
  · have hd19 : decide ((1 : Int) < n9) = true := by simp; omega
    have hi19 : (1 : Int) < n9 := by omega
    clear hkz
    have HCO := HCO.out
    (with_reducible refine HCO.mono ?_); rintro e w2' ⟨rfl, rfl⟩; have HCO := hi trivial
    go_wp2_with (first
      | (go_at_call 25; ((with_reducible refine BE.out.mono ?_); rintro e w3 ⟨rfl, hb⟩; have hbb := (hb.alloc hb.size (.cells #[.int .i64 ci, .int .i64 cp, .int .i64 cg, .bool cis] 55)).alloc (show w2.heap.size ≤ (w3.alloc (.cells #[.int .i64 ci, .int .i64 cp, .int .i64 cg, .bool cis] 55)).heap.size from by rw [World.size_alloc]; have := hb.size; omega) (.cells #[.int .i64 0] 3); have D5 := hi (HD.out.di.below hbb); have R5 := hi (HR2.out.below hbb); have B5 := hi (HB2.out.trans (hbb.mono HB2.out.size)); have C5 := hi ((CB.new w3 55 #[.int .i64 ci, .int .i64 cp, .int .i64 cg, .bool cis]).alloc (.cells #[.int .i64 0] 3)); have N5 := hi (cb_second (w := w3) (o := .cells #[.int .i64 ci, .int .i64 cp, .int .i64 cg, .bool cis] 55) (cs := #[.int .i64 0]) (t := 3)); have Q5 := hi (show q ≤ w3.heap.size from Nat.le_trans HQ.out hb.size); have S5 := hi (show ((w3.alloc (.cells #[.int .i64 ci, .int .i64 cp, .int .i64 cg, .bool cis] 55)).alloc (.cells #[.int .i64 0] 3)).heap.size = w3.heap.size + 2 from by simp); clear hb hbb))
      | (go_at_call 22; ((with_reducible refine (RDY.out _ D5.out).mono ?_); rintro e w6 ⟨R, gf, lb, rfl, hR, hit, hb⟩; have I6 := hi hit; have D6 := hi (D5.out.below hb); have R6 := hi (R5.out.below hb); have B6 := hi (B5.out.trans (hb.mono B5.out.size)); have C6 := hi (C5.out.below hb); have N6 := hi (N5.out.below hb); have HRR := hi hR; have S6 := hi (show w3.heap.size + 2 ≤ w6.heap.size from by have := hb.size; rw [S5.out] at this; exact this); clear hit hb hR)))
    obtain ⟨gf', lb', eq9, eg, hh6, hq⟩ := I6.out
    obtain ⟨rfl, rfl⟩ : gf = gf' ∧ lb = lb' := by simpa using eq9
    have hRw := I6.out.lt
    have hst := hq w6 (Nat.le_refl _) (fun _ _ => rfl)
    have hRo : ∀ i, R i → ¬ (i = w3.heap.size + 1 ∨ i = w3.heap.size ∨ i = w.heap.size) := fun i r => by
      have h1 := HRR.out i r
      rw [S5.out] at h1
      have := Q5.out
      have := HRL.out
      have := HPL.out
      have := D6.out.rng 0 (by omega)
      rcases h1 with ⟨h1, h2⟩ | h1 <;> omega
    have HRo := hi hRo
    have HRw := hi hRw
    clear hq eq9 hRo
    refine (wpIn_wide (n := 6)).1 ?_
    refine range_fr (n := 6) (by omega) (gf := gf) (lb := lb) rfl eg hst (Below.refl _ _) (fun _ => rfl) hRw
      (fun _ => False) (fun i x => x.elim)
      (fun pre G V => OwnB (w3.heap.size + 1) 3 (fun m : Nat => #[.int .i64 m]) pre.length G V ∧ OwnB w3.heap.size 55 (fun _ : List It => #[.int .i64 ci, .int .i64 cp, .int .i64 cg, .bool cis]) pre G V ∧ OwnB w.heap.size 4 (fun _ : List It => #[.bool false]) pre G V ∧ DK w.heap.size w p q b c D w3.heap.size G V)
      (fun cd pre G V => False)
      (((FrOk.ownB _ _ _).map List.length).and ((FrOk.ownB _ _ _).and ((FrOk.ownB _ _ _).and (FrOk.dk _ _ _ _ _ _ _ _))))
      (fun _ => ⟨fun _ _ _ _ h _ => h, fun _ _ _ _ h _ => h⟩)
      ⟨⟨fun x => x, N6.out⟩, ⟨fun x => x, C6.out⟩, ⟨fun x => x, R6.out⟩, ⟨D6.out, Q5.out, fun i x => x.elim, B6.out, by have := HRL.out; have := HPL.out; have := (D6.out.rng 0 (by omega)).1; have := (D6.out.rng 0 (by omega)).2; have := Q5.out; omega, by have := S6.out; omega⟩⟩
      (fun x a' G V => ∃ Bx, OwnB Bx 58 (fun _ : Unit => x.2.ln.cs.toArray) () G V ∧ a' = { tmps := #[.int .u8 f, .int .u8 n, v, .int .u8 o, undef, undef, undef, undef, .pointer (some ⟨w.heap.size, 0, none⟩), .bool true, .pointer (some ⟨b 0, 0, none⟩), .int .i64 kz, .pointer (some ⟨w3.heap.size, 0, none⟩), .pointer (some ⟨w3.heap.size + 1, 0, none⟩), .int .i64 x.1, .pointer (some ⟨Bx, 0, none⟩), undef, undef, .bool true, .bool true, .bool false, .int .u8 f, .int .u8 n, v, .pointer (some ⟨b 0, 0, none⟩), .bool true, .bool false, .bool false, .pointer (some ⟨b 0, 0, none⟩), .bool false, .bool false, .int .u8 o, .int .i64 o, .pointer (some ⟨b 0, 0, none⟩), .int .i64 n9, .int .i64 n9, .int .i64 kz, .pointer (some ⟨b 0, 0, none⟩), .int .i64 kz, .agg #[.int .i64 ci, .int .i64 cp, .int .i64 cg, .bool cis], .pointer (some ⟨b 0, 0, none⟩), .int .i64 kz, .func (.func gf) #[] lb, .int .i64 x.1, x.2.ln.v, undef, undef, undef, undef, undef, undef, undef, undef, undef, undef, undef, undef, undef, undef, undef, undef, undef, undef, undef, undef, undef, undef, undef, undef, undef, undef, undef, undef, undef, undef, undef, undef, undef, undef, undef, undef, undef, undef, undef, undef, undef, undef, undef, undef, undef, undef, undef, undef, undef, undef, undef, undef, undef, undef, undef, undef, undef, undef, undef, undef, undef, undef, undef, undef, undef, undef, undef, undef, undef, undef, undef, undef, undef, undef, undef, undef, undef, undef, undef, undef, undef, undef, undef, undef, undef, undef], defers := [] })
      (fun x a' => ⟨fun s F A A' q w => by obtain ⟨Bx, e1, e2⟩ := q; exact ⟨Bx, (FrOk.ownB Bx 58 (fun (_ : Unit) => x.2.ln.cs.toArray)).st () F A A' e1 w, e2⟩, fun s F G A q w => by obtain ⟨Bx, e1, e2⟩ := q; exact ⟨Bx, (FrOk.ownB Bx 58 (fun (_ : Unit) => x.2.ln.cs.toArray)).sub () F G A e1 w, e2⟩⟩)
      ?assign ?body ?done ?stop
    case assign =>
      rintro l' pre ⟨id, ⟨⟨⟨e, lb', q', a⟩, en, gr, pp⟩, s⟩⟩ G V K h hFG hG hsz hK
      have hkf : KF G R V (V.alloc (.cells #[.bool e, .bool lb', .bool q', .bool a, .bool en, .int .i64 gr, .int .i64 pp] 58)) := KF.of_below (bal V _) (fun i x => by rcases x with x | x; exact (hG i x).1; have := HRw.out i x; omega)
      obtain ⟨h1, h2, h3, h4⟩ := h
      gi_wp2
      exact hK _ _ hkf ⟨⟨h1.1, h1.2.alloc _⟩, ⟨h2.1, h2.2.alloc _⟩, ⟨h3.1, h3.2.alloc _⟩, h4.later (bal V _) (Nat.le_trans h4.nl h4.lz)⟩ ⟨V.heap.size, ⟨fun x => by have := (hG _ x).1; omega, CB.new _ _ _⟩, rfl⟩
    case body =>
      rintro l' pre ⟨id, ⟨⟨⟨e, lb', q', a⟩, en, gr, pp⟩, s⟩⟩ a' G V hFG hG hsz ⟨⟨hNn, hN⟩, ⟨hCn, hC⟩, ⟨hRn, hR⟩, hDK⟩ ⟨Bx, ⟨hBn, hbx⟩, rfl⟩ hpx
      have hmem := hpx.subset (show (id, (⟨⟨⟨e, lb', q', a⟩, en, gr, pp⟩, s⟩ : En)) ∈ pre ++ [(id, ⟨⟨⟨e, lb', q', a⟩, en, gr, pp⟩, s⟩)] by simp)
      replace hbx : CB V Bx 58 #[.bool e, .bool lb', .bool q', .bool a, .bool en, .int .i64 gr, .int .i64 pp] := hbx
      obtain ⟨b1, b2, b3⟩ := HBO.out _ hmem
      obtain ⟨al1, al2⟩ := HALL.out _ hmem
      dsimp only at b1 b2 b3 al1 al2
      subst b1 al1 al2
      have hplen := hpx.length_le
      rw [List.length_append] at hplen
      have hm96 := HLEN.out
      obtain ⟨m, hm⟩ : ∃ m, pre.length = m := ⟨_, rfl⟩
      rw [hm] at hN hplen
      have hml : m + 1 ≤ 96 := by simp at hplen; omega
      have hwm : IntKind.i64.wrap ((m : Int) + 1) = ((m + 1 : Nat) : Int) := by rw [IntKind.wrap_i64]; omega
      have HN := hi hN
      have HCC := hi hC
      have HRC := hi hR
      have HBX := hi hbx
      have HGG := hi hG
      have HNN := hi hNn
      have HM := hi hm
      have HCN := hi hCn
      have HRN := hi hRn
      have HDK := hi hDK
      have n0 := hN.cell 0
      have nf := hN.frozen
      have c0 := hC.cell 0
      have c1 := hC.cell 1
      have c3 := hC.cell 3
      have x0 := hbx.cell 0
      have x1 := hbx.cell 1
      have x3 := hbx.cell 3
      have x4 := hbx.cell 4
      have x6 := hbx.cell 6
      have hbn1 : Bx ≠ w3.heap.size + 1 := fun e => by subst e; have := HN.out; have h9 := HBX.out; unfold CB at this h9; rw [this] at h9; simp at h9
      have d2 : decide (pp < cp) = false := by simpa using b2
      clear hN hC hR hbx hG hNn hm hCn hRn hDK hpx hmem hplen hm96
      have hNs := (HN.out.set 0 (.int .i64 ((m + 1 : Nat) : Int)))
      have hkf : KF G R V (V.setCell ⟨w3.heap.size + 1, 0, none⟩ (.int .i64 ((m + 1 : Nat) : Int))) := ⟨by simp, fun i z => Below.heap_setCell V ⟨w3.heap.size + 1, 0, none⟩ _ i (fun e => by
        rw [e] at z
        rcases z with z | z
        · exact HNN.out z
        · exact HRo.out _ z (.inl rfl))⟩
      have fin : OwnB (w3.heap.size + 1) 3 (fun m : Nat => #[.int .i64 m]) (pre ++ [(id, (⟨⟨⟨e, lb', q', false⟩, true, gr, pp⟩, s⟩ : En))]).length G (V.setCell ⟨w3.heap.size + 1, 0, none⟩ (.int .i64 ((m + 1 : Nat) : Int))) ∧ OwnB w3.heap.size 55 (fun _ : List It => #[.int .i64 ci, .int .i64 cp, .int .i64 cg, .bool true]) (pre ++ [(id, (⟨⟨⟨e, lb', q', false⟩, true, gr, pp⟩, s⟩ : En))]) G (V.setCell ⟨w3.heap.size + 1, 0, none⟩ (.int .i64 ((m + 1 : Nat) : Int))) ∧ OwnB w.heap.size 4 (fun _ : List It => #[.bool false]) (pre ++ [(id, (⟨⟨⟨e, lb', q', false⟩, true, gr, pp⟩, s⟩ : En))]) G (V.setCell ⟨w3.heap.size + 1, 0, none⟩ (.int .i64 ((m + 1 : Nat) : Int))) ∧ DK w.heap.size w p q b c D w3.heap.size G (V.setCell ⟨w3.heap.size + 1, 0, none⟩ (.int .i64 ((m + 1 : Nat) : Int))) := by
        refine ⟨⟨HNN.out, ?_⟩, ⟨HCN.out, HCC.out.other _ _ _ (by omega)⟩, ⟨HRN.out, HRC.out.other _ _ _ (by have := HRL.out; have := HPL.out; have := HDK.out.pb; have := HDK.out.qb; omega)⟩, HDK.out.set (by omega) _⟩
        have : (pre ++ [(id, (⟨⟨⟨e, lb', q', false⟩, true, gr, pp⟩, s⟩ : En))]).length = m + 1 := by rw [List.length_append, HM.out]; rfl
        rw [this]
        simpa using hNs
      have FIN := hi fin
      have HKF := hi hkf
      have hzb := HBX.out.other (w3.heap.size + 1) 0 (.int .i64 ((m : Int) + 1)) hbn1
      have z3 := hzb.cell 3
      have z4 := hzb.cell 4
      have z6 := hzb.cell 6
      have hzc := HCC.out.other (w3.heap.size + 1) 0 (.int .i64 ((m : Int) + 1)) (by omega)
      have y0 := hzc.cell 0
      have y1 := hzc.cell 1
      have y3 := hzc.cell 3
      clear hzb hzc
      clear fin hkf hNs
      by_cases hpe : pp = cp
      · have hie := b3 hpe
        subst hpe
        have d3 : decide (id < ci) = false := by simpa using hie
        clear b3 b2
        gi_wp2
        exact ⟨HKF.out, FIN.out⟩
      · have d3 : (pp == cp) = false := by simpa using hpe
        clear b3
        gi_wp2
        exact ⟨HKF.out, FIN.out⟩
    case done =>
      rintro ys G V rfl hFG ⟨⟨hNn, hN⟩, ⟨hCn, hC⟩, ⟨hRn, hR⟩, hDK⟩ hK hs2
      have HNV := hi hN
      have HCV := hi hC
      have HRV := hi hR
      have HDV := hi hDK
      have HKV := hi (show V.heap[w6.heap.size]? = some (.deferred (some [])) from hK)
      have HSV := hi (show w6.heap.size + 2 ≤ V.heap.size from hs2)
      have HWL := hi (show w.heap.size < w6.heap.size from by have := HRL.out; have := HPL.out; have := hDK.pb; have := hDK.qb; have := S6.out; omega)
      have vc0 := HCV.out.cell 0
      have hlm := HLEN.out
      clear hN hC hR hDK hK hs2 hst hNn hCn hRn hFG
      by_cases hys : ys = []
      · have e0 := HEM.out hys
        simp only [Cd.mk.injEq] at e0
        obtain ⟨rfl, rfl, rfl, rfl⟩ := e0
        have hl0 : ys.length = 0 := by rw [hys]; rfl
        rw [hl0] at HNV
        clear HEM HIS HSL hys hl0 hlm HBO HALL HLEN
        cases sl9
        all_goals
          go_wp2_with (first
            | (go_at_call 26; ((with_reducible refine (GT.out _ HDV.out.di).mono ?_); rintro e w10 ⟨rfl, hb⟩; have hbb := hb.alloc hb.size (.cells #[.bool le, .bool ll, .bool lh, .bool la, .bool ln, .int .i64 lg, .int .i64 lp] 58); have D11 := hi (HDV.out.later hbb (Nat.le_trans HDV.out.nl HDV.out.lz)); have C11 := hi (HCV.out.below hbb); have N11 := hi (HNV.out.below hbb); have R11 := hi (HRV.out.below hbb); have K11 := hi ((hbb.block _ (by have := HSV.out; omega)).trans HKV.out); have S11 := hi (Nat.le_trans HSV.out hbb.size); have hl := CB.new w10 58 #[.bool le, .bool ll, .bool lh, .bool la, .bool ln, .int .i64 lg, .int .i64 lp]; have l4 := hl.cell 4; have l5 := hl.cell 5; have l6 := hl.cell 6; have c0 := C11.out.cell 0; have c1 := C11.out.cell 1; have c2 := C11.out.cell 2; have c3 := C11.out.cell 3; have n0 := N11.out.cell 0; have r0 := R11.out.cell 0; have rf := R11.out.frozen; clear hb hbb hl))
            | (go_at_call 27; ((with_reducible refine (HAS.out _ D11.out.di).mono ?_); rintro e w12 ⟨rfl, rfl⟩)))
          have hc := R11.out.set 0 (.bool true)
          have hkk := (Below.heap_setCell _ ⟨w.heap.size, 0, none⟩ (.bool true) _ (show w6.heap.size ≠ w.heap.size by have := HWL.out; omega)).trans K11.out
          have hb9 := D11.out.below.setCell (p := ⟨w.heap.size, 0, none⟩) (Nat.le_refl _) (.bool true)
          have hs11 := S11.out
          refine ⟨by simp, .inl ⟨_, _, rfl, run_takeDeferred hkk, ?_⟩⟩
          exact ⟨_, results_cellb rfl _ _ w.heap.size true rfl (hc.heap (World.putObj_heap_other (by have := HWL.out; omega))), rfl, below_put hb9 _ (by rw [World.size_setCell]; have := HWL.out; omega) (by have := HWL.out; omega)⟩
      · obtain ⟨h1, y, h2, h3, h4, h5⟩ := HIS.out hys
        simp only [Prod.mk.injEq] at h2
        obtain ⟨h2, rfl⟩ := h2
        subst h2
        subst h1
        dsimp only at h3 h4 h5
        subst h3 h4 h5
        have hsl : sl9 = false := by
          cases h : sl9
          · rfl
          · exact absurd (HSL.out h) hys
        subst hsl
        have hpos : 0 < ys.length := by
          rcases Nat.eq_zero_or_pos ys.length with e | e
          · exact absurd (List.length_eq_zero_iff.1 e) hys
          · exact e
        obtain ⟨m, hm⟩ : ∃ m, ys.length = m := ⟨_, rfl⟩
        rw [hm] at HNV hpos hlm
        have dpos : decide (0 < (m : Int)) = true := by simp; omega
        clear HEM HIS HSL hys hm HBO HALL HLEN
        go_wp2_with (first
          | (go_at_call 26; ((with_reducible refine (GT.out _ HDV.out.di).mono ?_); rintro e w10 ⟨rfl, hb⟩; have hbb := hb.alloc hb.size (.cells #[.bool le, .bool ll, .bool lh, .bool la, .bool true, .int .i64 lg, .int .i64 lp] 58); have D11 := hi (HDV.out.later hbb (Nat.le_trans HDV.out.nl HDV.out.lz)); have C11 := hi (HCV.out.below hbb); have N11 := hi (HNV.out.below hbb); have R11 := hi (HRV.out.below hbb); have K11 := hi ((hbb.block _ (by have := HSV.out; omega)).trans HKV.out); have S11 := hi (Nat.le_trans HSV.out hbb.size); have hl := CB.new w10 58 #[.bool le, .bool ll, .bool lh, .bool la, .bool true, .int .i64 lg, .int .i64 lp]; have l4 := hl.cell 4; have l5 := hl.cell 5; have l6 := hl.cell 6; have c0 := C11.out.cell 0; have c1 := C11.out.cell 1; have c2 := C11.out.cell 2; have c3 := C11.out.cell 3; have n0 := N11.out.cell 0; have r0 := R11.out.cell 0; have rf := R11.out.frozen; clear hb hbb hl))
          | (go_at_call 27; ((with_reducible refine (HAS.out _ D11.out.di).mono ?_); rintro e w12 ⟨rfl, rfl⟩)))
        have hc := R11.out.set 0 (.bool true)
        have hkk := (Below.heap_setCell _ ⟨w.heap.size, 0, none⟩ (.bool true) _ (show w6.heap.size ≠ w.heap.size by have := HWL.out; omega)).trans K11.out
        have hb9 := D11.out.below.setCell (p := ⟨w.heap.size, 0, none⟩) (Nat.le_refl _) (.bool true)
        have hs11 := S11.out
        refine ⟨by simp, .inl ⟨_, _, rfl, run_takeDeferred hkk, ?_⟩⟩
        exact ⟨_, results_cellb rfl _ _ w.heap.size true rfl (hc.heap (World.putObj_heap_other (by have := HWL.out; omega))), rfl, below_put hb9 _ (by rw [World.size_setCell]; have := HWL.out; omega) (by have := HWL.out; omega)⟩
    case stop =>
      rintro c pre G V _ _ h _ _
      exact h.elim
end Go.Proofs.YtdmlpdghhogkaaaGreat
