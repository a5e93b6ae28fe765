/-
  LpiDoes, at every world with the library's table.
-/
import Derived.Test.YtobhdjepfhbgaaaDoorLrT
import Derived.Test.YtobhdjepfhbgaaaDoorLrQ
namespace Go.Proofs.YtobhdjepfhbgaaaDoor
open Go.ChangeShapes Go.WideShapes Go.ChangeAt Go.RowKit Go.Shelf
set_option linter.unusedVariables false
set_option linter.unusedSimpArgs false

theorem PrX.nlt {w0 : World} {N : Nat → Prop} {p q l0 l1 d0 d1 : Nat} {t td : Tw} {W : World} (h : PrX w0 N p q l0 l1 d0 d1 t td W) {b : Nat} (hb : N b) : b < W.heap.size := by
  obtain ⟨⟨κ, _, _, _, _, hn⟩, _⟩ := h
  exact (hn b hb).2

set_option maxRecDepth 100000 in
set_option maxHeartbeats 16000000 in
theorem does_law (a b : Nat) (ha : a < 256) (hb : b < 256) (sv : Value) (ys : List Nat) (hyl : ys.length ≤ 9223372036854775807) (sa : Option Addr) (sb off cap : Nat) (xs : List Ac) (hF : ∀ x ∈ xs, x.Fair) (w : World) (hT : TabW w) (hy : BytesIn w sv ys) (hX : RowC w sa sb off 5 (xs.map acC)) :
    Calls Tryd.prog 3 #[.int .u8 a, .int .u8 b, sv, .slice sa xs.length cap] w fun e w' => e = .returned (.bool true) ∧ Below w.heap.size w w' := by
  have HA := hi (awake_any w hT)
  have HBG := hi (fun W (hk : Below w.heap.size w W) => begun_any a b ha hb sv ys hyl W (hT.below hk) (hy.below hk))
  have HX0 := hi hX
  have HFx := hi hF
  have hxl : xs.length ≤ 9223372036854775807 := by simpa using hX.len
  clear hT hy hX hF hyl
  go_enter Tryd.func3, Tryd.ntmps3
  go_wp2_with (first
    | (go_at_call 8; ((with_reducible refine HA.out.mono ?_); rintro e w1 ⟨rfl, hb1⟩; have H1 := hi hb1; clear hb1))
    | (go_at_call 9; ((with_reducible refine (HBG.out _ H1.out).mono ?_); rintro e w2 ⟨p0, q, l00, l1, d0, d1, bs, rfl, hl, hm, hp2⟩; have H2 := hi (And.intro (hp2.box (.cells (prC (pt p0) (pt q) (pt l00) (pt l1) (pt d0) (pt d1) true) 32)) (And.intro (CB.new w2 32 (prC (pt p0) (pt q) (pt l00) (pt l1) (pt d0) (pt d1) true)) (made_first a b bs hl hm).2)); have B2 := hi (H1.out.more (hp2.below.more (bal w2 (.cells (prC (pt p0) (pt q) (pt l00) (pt l1) (pt d0) (pt d1) true) 32)))); clear hl hm hp2; obtain ⟨r0, r1, r2, r3, r4, r5, r6⟩ := CB.seven H2.out.2.1))
    | (go_at_call 10; ((with_reducible refine (alike_any _ _ _ _ _ _ _ _ _ _ _ _ H2.out.1 H2.out.2.2 H2.out.2.1).mono ?_); rintro e w3 ⟨rfl, hb3⟩; have H3 := hi (And.intro (H2.out.1.later hb3) (And.intro (H2.out.2.1.below hb3) H2.out.2.2)); have B3 := hi (B2.out.more hb3); clear hb3 r0 r1 r2 r3 r4 r5 r6)))
  obtain ⟨P, hP⟩ : ∃ P, w2.heap.size = P := ⟨_, rfl⟩
  rw [hP] at H3
  try rw [hP]
  obtain ⟨t0, ht0⟩ : ∃ t, (⟨bs, newX (1 + a % 70) 0 70 160 9, newX (1 + b % 70) 80 70 180 9⟩ : Tw) = t := ⟨_, rfl⟩
  rw [ht0] at H3
  clear ht0 HBG hP H2 B2
  obtain ⟨N0, hN0⟩ : ∃ N : Nat → Prop, (fun b => False ∨ b = P) = N := ⟨_, rfl⟩
  have NP0 : N0 P := by rw [← hN0]; exact .inr rfl
  rw [hN0] at H3
  go_loopw [11] (fun i wr => ∃ (j p l0 : Nat) (t : Tw), i = .int .i64 j ∧ j ≤ xs.length ∧ Hi (PrX w1 N0 p q l0 l1 d0 d1 t t wr ∧ t.Ok 200 ∧ CB wr P 32 (prC (pt p) (pt q) (pt l0) (pt l1) (pt d0) (pt d1) true))) (fun i _ => xs.length - (intOf i).toNat)
  case atStart => exact ⟨0, p0, l00, t0, rfl, Nat.zero_le _, hi ⟨H3.out.1, H3.out.2.2, H3.out.2.1⟩⟩
  case round =>
    obtain ⟨j, p, l0, t, rfl, hj, HJ⟩ := hrel
    obtain ⟨v, rfl⟩ : ∃ v : World, v = wr := ⟨_, rfl⟩
    by_cases hlt : j < xs.length
    · obtain ⟨x, hx⟩ : ∃ x, xs[j]? = some x := ⟨_, List.getElem?_eq_getElem hlt⟩
      obtain ⟨rfl, g0, g1, g2, g3, g4⟩ := (HX0.out.below (H1.out.more HJ.out.1.below)).act hx
      have hjl : (j : Int) < (xs.length : Int) := by omega
      have hj0 : (0 : Int) ≤ (j : Int) := by omega
      have HFX := hi (HFx.out x (List.mem_of_getElem? hx))
      clear hx
      obtain ⟨xd, xid, xis, xtw, xv⟩ := x
      have HPX := hi (HJ.out.1.box (.cells #[.int .i64 xd, .int .i64 xid, .bool xis, .bool xtw, .int .u8 xv] 37))
      have HV := hi (And.intro (HJ.out.2.2.alloc (.cells #[.int .i64 xd, .int .i64 xid, .bool xis, .bool xtw, .int .u8 xv] 37)) (CB.new v 37 #[.int .i64 xd, .int .i64 xid, .bool xis, .bool xtw, .int .u8 xv]))
      obtain ⟨X, hX'⟩ : ∃ X, v.heap.size = X := ⟨_, rfl⟩
      rw [hX'] at HPX HV
      obtain ⟨N, hN⟩ : ∃ N : Nat → Prop, (fun b => N0 b ∨ b = X) = N := ⟨_, rfl⟩
      rw [hN] at HPX
      have NP : N P := by rw [← hN]; exact .inl NP0
      have NX : N X := by rw [← hN]; exact .inr rfl
      have HNL := hi (show ∀ b, N0 b → N b from fun b h => by rw [← hN]; exact .inl h)
      by_cases h9 : xd = 9
      · subst h9
        obtain ⟨z0, z1, z2, z3, z4⟩ := CB.five HV.out.2
        go_wp2
        clear z0 z1 z2 z3 z4
        obtain ⟨vX, hvX⟩ : ∃ V, (v.alloc (.cells #[.int .i64 9, .int .i64 xid, .bool xis, .bool xtw, .int .u8 xv] 37)) = V := ⟨_, rfl⟩
        rw [hvX] at HPX HV
        try rw [hvX]
        have okt := HJ.out.2.1
        have okx : t.x.Ok t.bs.length := by rw [okt.len]; exact okt.x
        obtain ⟨⟨s, cc, capc, SW, hLp⟩, g, cp, hMe⟩ := HPX.out.lpA
        have HLC := hi (lcopy_lpi l0 s cc capc SW t.x okx.n5 vX.drew (hLp.below (below_dr _)))
        have HMC := hi (show ∀ V, Below vX.heap.size vX V → Calls Tryd.prog 12 #[pt p] V fun e w' => ∃ q h c, e = .returned (pt q) ∧ MemAt 96 w' q h c t.bs ∧ V.heap.size ≤ q ∧ V.heap.size ≤ h ∧ Below V.heap.size V w' from fun V k => copy_any p g cp t.bs V (hMe.below k))
        clear hLp hMe hvX
        refine wp_region_noPanic ?_
        refine wp_region_last_drew (S := (fun V => CB V P 32 (prC (pt p) (pt q) (pt l0) (pt l1) (pt d0) (pt d1) true) ∧ CB V X 37 #[.int .i64 9, .int .i64 xid, .bool xis, .bool xtw, .int .u8 xv])) [] (by kernel_rfl) ⟨HV.out.1.below (below_dr _), HV.out.2.below (below_dr _)⟩ (fun hHeld => ?_)
        (try simp only [Array.replicate_succ, Array.replicate_zero, List.push_toArray, List.nil_append, List.cons_append])
        refine wpAnyF_take (i := 0) (v := ?_) (by kernel_rfl) (by kernel_rfl) rfl (by kernel_rfl) (by kernel_rfl) (by kernel_rfl) (fun _ _ _ h => h) (Or.inl ⟨by rfl, ?_⟩) (by assumption) ?_
        rotate_left
        · intro w' hSw; (try dsimp only at hSw); clear hSw; go_simp; (try with_reducible rfl)
        (try simp only [Act.put, List.getElem_toArray, List.getElem_cons_zero, List.getElem_cons_succ, List.setIfInBounds_toArray, List.set_cons_zero, List.set_cons_succ])
        refine wpAnyF_take (i := 1) (v := ?_) (by kernel_rfl) (by kernel_rfl) rfl (by kernel_rfl) (by kernel_rfl) (by kernel_rfl) (fun _ _ _ h => h) (Or.inl ⟨by rfl, ?_⟩) (by assumption) ?_
        rotate_left
        · intro w' hSw; (try dsimp only at hSw); clear hSw; go_simp; (try with_reducible rfl)
        (try simp only [Act.put, List.getElem_toArray, List.getElem_cons_zero, List.getElem_cons_succ, List.setIfInBounds_toArray, List.set_cons_zero, List.set_cons_succ])
        refine wpAnyF_take (i := 2) (v := ?_) (by kernel_rfl) (by kernel_rfl) rfl (by kernel_rfl) (by kernel_rfl) (by kernel_rfl) (fun _ _ _ h => h) (Or.inl ⟨by rfl, ?_⟩) (by assumption) ?_
        rotate_left
        · intro w' hSw; (try dsimp only at hSw); obtain ⟨q0, q1, q2, q3, q4, q5, q6⟩ := CB.seven hSw.1; clear hSw; go_simp; (try with_reducible rfl)
        (try simp only [Act.put, List.getElem_toArray, List.getElem_cons_zero, List.getElem_cons_succ, List.setIfInBounds_toArray, List.set_cons_zero, List.set_cons_succ])
        refine wpAnyF_take (i := 4) (v := ?_) (by kernel_rfl) (by kernel_rfl) rfl (by kernel_rfl) (by kernel_rfl) (by kernel_rfl) (fun _ _ _ h => h) (Or.inl ⟨by rfl, ?_⟩) (by assumption) ?_
        rotate_left
        · intro w' hSw; (try dsimp only at hSw); clear hSw; go_simp; (try with_reducible rfl)
        (try simp only [Act.put, List.getElem_toArray, List.getElem_cons_zero, List.getElem_cons_succ, List.setIfInBounds_toArray, List.set_cons_zero, List.set_cons_succ])
        refine wpAnyF_take (i := 5) (v := ?_) (by kernel_rfl) (by kernel_rfl) rfl (by kernel_rfl) (by kernel_rfl) (by kernel_rfl) (fun _ _ _ h => h) (Or.inl ⟨by rfl, ?_⟩) (by assumption) ?_
        rotate_left
        · intro w' hSw; (try dsimp only at hSw); obtain ⟨q0, q1, q2, q3, q4, q5, q6⟩ := CB.seven hSw.1; clear hSw; go_simp; (try with_reducible rfl)
        (try simp only [Act.put, List.getElem_toArray, List.getElem_cons_zero, List.getElem_cons_succ, List.setIfInBounds_toArray, List.set_cons_zero, List.set_cons_succ])
        refine wpAnyF_ready (rs := [3]) (by kernel_rfl) (by simp) ?_
        refine AllReadyF.cons rfl (fun KK hKK => ?_) AllReadyF.nil
        go_simp
        ((with_reducible refine (HLC.out).mono ?_); rintro e' w10 ⟨ln, sn, cn, capn, rfl, hL10, hz10, hb10⟩; have L10 := hi hL10; have B10 := hi ((below_dr vX).more hb10); have Z10 := hi hz10; have SS10 := And.intro (hHeld.1.below hb10) (hHeld.2.below hb10); clear hL10 hz10 hb10)
        (try go_simp)
        refine hKK.out _ _ SS10 (fun hHeld => ?_)
        clear hKK KK
        (try simp only [Act.put, List.getElem_toArray, List.getElem_cons_zero, List.getElem_cons_succ, List.setIfInBounds_toArray, List.set_cons_zero, List.set_cons_succ])
        refine wpAnyF_ready (rs := [6]) (by kernel_rfl) (by simp) ?_
        refine AllReadyF.cons rfl (fun KK hKK => ?_) AllReadyF.nil
        go_simp
        ((with_reducible refine (HMC.out _ B10.out).mono ?_); rintro e' w11 ⟨pn, gn, cpn, rfl, hM11, hz1, hz2, hb11⟩; have L11 := hi (L10.out.below hb11); have M11 := hi hM11; have Z11 := hi (And.intro hz1 hz2); have B11 := hi (B10.out.more hb11); have SS11 := And.intro (hHeld.1.below hb11) (hHeld.2.below hb11); clear hM11 hz1 hz2 hb11)
        (try go_simp)
        refine hKK.out _ _ SS11 (fun hHeld => ?_)
        clear hKK KK
        (try simp only [Act.put, List.getElem_toArray, List.getElem_cons_zero, List.getElem_cons_succ, List.setIfInBounds_toArray, List.set_cons_zero, List.set_cons_succ])
        refine wpAnyF_take (i := 7) (v := ?_) (by kernel_rfl) (by kernel_rfl) rfl (by kernel_rfl) (by kernel_rfl) (by kernel_rfl) (fun _ _ _ h => h) (Or.inl ⟨by rfl, ?_⟩) (by assumption) ?_
        rotate_left
        · intro w' hSw; (try dsimp only at hSw); clear hSw; go_simp; (try with_reducible rfl)
        (try simp only [Act.put, List.getElem_toArray, List.getElem_cons_zero, List.getElem_cons_succ, List.setIfInBounds_toArray, List.set_cons_zero, List.set_cons_succ])
        refine wpAnyF_take (i := 8) (v := ?_) (by kernel_rfl) (by kernel_rfl) rfl (by kernel_rfl) (by kernel_rfl) (by kernel_rfl) (fun _ _ _ h => h) (Or.inl ⟨by rfl, ?_⟩) (by assumption) ?_
        rotate_left
        · intro w' hSw; (try dsimp only at hSw); clear hSw; go_simp; (try with_reducible rfl)
        (try simp only [Act.put, List.getElem_toArray, List.getElem_cons_zero, List.getElem_cons_succ, List.setIfInBounds_toArray, List.set_cons_zero, List.set_cons_succ])
        refine wpAnyF_done (by kernel_rfl) ?_ _
        refine NoPanic.normal ?_
        have HF := hi (HPX.out.fresh B11.out)
        have HS := hi hHeld
        have Z := hi (show ((vX.heap.size ≤ ln ∧ vX.heap.size ≤ sn ∧ vX.heap.size ≤ cn) ∧ (ln < w10.heap.size ∧ sn < w10.heap.size ∧ cn < w10.heap.size) ∧ w10.heap.size ≤ pn ∧ w10.heap.size ≤ gn) ∧ (ln < w11.heap.size ∧ sn < w11.heap.size ∧ cn < w11.heap.size ∧ pn < w11.heap.size ∧ gn < w11.heap.size) ∧ vX.heap.size ≤ w10.heap.size ∧ P < vX.heap.size ∧ X < vX.heap.size from ⟨⟨Z10.out, ⟨L10.out.box.lt, L10.out.set.lt, L10.out.cfg.lt⟩, Z11.out⟩, ⟨L11.out.box.lt, L11.out.set.lt, L11.out.cfg.lt, M11.out.plt, M11.out.bytes.lt⟩, B10.out.size, HV.out.1.lt, HV.out.2.lt⟩)
        obtain ⟨N1, hN1⟩ : ∃ N1 : Nat → Prop, (fun b => N b ∨ (vX.heap.size ≤ b ∧ b < w11.heap.size)) = N1 := ⟨_, rfl⟩
        rw [hN1] at HF
        have NN := hi (show (∀ b, N b → N1 b) ∧ N1 ln ∧ N1 sn ∧ N1 cn ∧ N1 pn ∧ N1 gn from by
          have hz := Z.out
          rw [← hN1]
          exact ⟨fun b h => .inl h, .inr ⟨by omega, by omega⟩, .inr ⟨by omega, by omega⟩, .inr ⟨by omega, by omega⟩, .inr ⟨by omega, by omega⟩, .inr ⟨by omega, by omega⟩⟩)
        have NOT := hi (show ∀ b, N b → b ≠ pn ∧ b ≠ gn ∧ b ≠ ln ∧ b ≠ sn ∧ b ≠ cn from fun b hb => by have h1 := HPX.out.nlt hb; have h2 := Z.out; omega)
        clear hHeld SS10 SS11 HLC HMC
        have HST := hi (set_pr HF.out okx 8192 xis)
        have OK1 := hi (show (setV t.bs t.x 8192 xis).2.Ok (setV t.bs t.x 8192 xis).1.length from by rw [setV_len]; exact setV_ok okx _ _)
        have M1 := hi (show ∀ b ∈ (setV t.bs t.x 8192 xis).1, b < 256 from setV_mem okt.mem _ _ _)
        obtain ⟨b1, hb1⟩ : ∃ l, (setV t.bs t.x 8192 xis).1 = l := ⟨_, rfl⟩
        obtain ⟨x1, hx1⟩ : ∃ l, (setV t.bs t.x 8192 xis).2 = l := ⟨_, rfl⟩
        rw [hb1, hx1] at HST; rw [hb1, hx1] at OK1; rw [hb1] at M1
        have OK2 := hi (show (disS b1 x1).2.Ok (disS b1 x1).1.length from by rw [disS_len]; exact disS_ok OK1.out)
        obtain ⟨b2, hb2⟩ : ∃ l, (disS b1 x1).1 = l := ⟨_, rfl⟩
        obtain ⟨x2, hx2⟩ : ∃ l, (disS b1 x1).2 = l := ⟨_, rfl⟩
        rw [hb2, hx2] at OK2
        obtain ⟨r0, r1, r2, r3, r4, r5, r6⟩ := CB.seven HS.out.1
        obtain ⟨z0, z1, z2, z3, z4⟩ := CB.five HS.out.2
        clear hb1 hx1
        go_wp2_with (first
          | (go_at_call 13; ((with_reducible refine HST.out.mono ?_); rintro e w12 ⟨rfl, hp12, hk12⟩; have H12 := hi hp12; have S12 := hi (And.intro (hk12.cb HS.out.1 (NN.out.1 _ NP)) (hk12.cb HS.out.2 (NN.out.1 _ NX))); have K12 := hi hk12; clear hp12 hk12 z0 z1 z2 z3 z4; clear r0 r1 r2 r3 r4 r5 r6; obtain ⟨r0, r1, r2, r3, r4, r5, r6⟩ := CB.seven S12.out.1))
          | (go_at_call 14; ((with_reducible refine (disable_pr H12.out OK1.out).mono ?_); rintro e w13 ⟨⟨v13, rfl⟩, hp13, hk13⟩; dsimp only at hp13; rw [hb2, hx2] at hp13; have H13 := hi hp13; have S13 := hi (And.intro (hk13.cb S12.out.1 (NN.out.1 _ NP)) (hk13.cb S12.out.2 (NN.out.1 _ NX))); have K13 := hi (K12.out.trans hk13); clear hp13 hk13; clear r0 r1 r2 r3 r4 r5 r6; obtain ⟨r0, r1, r2, r3, r4, r5, r6⟩ := CB.seven S13.out.1))
          | (go_at_call 15; ((with_reducible refine (invAll_pr H13.out OK2.out).mono ?_); rintro e w14 ⟨⟨v14, rfl⟩, hp14, hk14⟩; have H14 := hi hp14; have S14 := hi (And.intro (hk14.cb S13.out.1 (NN.out.1 _ NP)) (hk14.cb S13.out.2 (NN.out.1 _ NX))); have K14 := hi (K13.out.trans hk14); clear hp14 hk14; clear r0 r1 r2 r3 r4 r5 r6; obtain ⟨r0, r1, r2, r3, r4, r5, r6⟩ := CB.seven S14.out.1; have uf := S14.out.1.frozen; have ul := S14.out.1.lt)))
        have HPN := hi (PrX.swapIn (N' := N) H14.out (M11.out.nk K14.out NN.out.2.2.2.2.1 NN.out.2.2.2.2.2) (L11.out.nk K14.out NN.out.2.1 NN.out.2.2.1 NN.out.2.2.2.1) NN.out.2.2.2.2.1 NN.out.2.2.2.2.2 NN.out.2.1 NN.out.2.2.1 NN.out.2.2.2.1 Z.out.1.2.1 Z.out.1.2.2 (fun b hb' => ⟨NN.out.1 b hb', NOT.out b hb'⟩))
        obtain ⟨vY, hvY⟩ : ∃ V, (w14.setCell ⟨P, 2, none⟩ (pt ln)).setCell ⟨P, 0, none⟩ (pt pn) = V := ⟨_, rfl⟩
        have hKY : Kept (· = P) w14 vY := by rw [← hvY]; exact (kept_setCell _ _ _ _).trans (kept_setCell _ _ _ _)
        have HPY := hi (HPN.out.own (hKY.wide (fun b e => by rw [e]; exact NP)))
        have HSY := hi (show CB vY P 32 (prC (pt pn) (pt q) (pt ln) (pt l1) (pt d0) (pt d1) true) ∧ CB vY X 37 #[.int .i64 9, .int .i64 xid, .bool xis, .bool xtw, .int .u8 xv] from ⟨by rw [← hvY]; exact (S14.out.1.set 2 _).set 0 _, S14.out.2.keptB hKY (by show ¬ (X = P); have := HJ.out.2.2.lt; omega)⟩)
        rw [hvY]
        clear hvY hKY uf ul r0 r1 r2 r3 r4 r5 r6
        have okt := HJ.out.2.1
        obtain ⟨u, hu⟩ : ∃ u, stepT t ⟨9, xid, xis, xtw, xv⟩ = u := ⟨_, rfl⟩
        have oku : u.Ok 200 := by rw [← hu]; exact stepT_ok okt _
        have okx : u.x.Ok u.bs.length := by rw [oku.len]; exact oku.x
        have HD := hi (does_any w1 N pn q ln l1 d0 d1 t vY.drew P ⟨9, xid, xis, xtw, xv⟩ HFX.out (HPY.out.later (below_dr _)) okt (HSY.out.1.below (below_dr _)) NP)
        rw [hu] at HD
        obtain ⟨hv, hhv⟩ : ∃ b, hasV u.bs u.x xid = b := ⟨_, rfl⟩
        have HH1 := hi (fun V (h : PrX w1 N pn q ln l1 d0 d1 u u V) => has_pr h okx xid)
        have HH2 := hi (fun V (h : PrX w1 N pn q ln l1 d0 d1 u u V) => rhas_pr h okx xid)
        rw [hhv] at HH1 HH2
        have hb3 : (hv != hv) = false := by simp
        clear hu hhv
        refine wp_region_noPanic ?_
        refine wp_region_last_drew (S := (fun V => CB V P 32 (prC (pt pn) (pt q) (pt ln) (pt l1) (pt d0) (pt d1) true) ∧ CB V X 37 #[.int .i64 9, .int .i64 xid, .bool xis, .bool xtw, .int .u8 xv])) [] (by kernel_rfl) ⟨HSY.out.1.below (below_dr _), HSY.out.2.below (below_dr _)⟩ (fun hHeld => ?_)
        (try simp only [Array.replicate_succ, Array.replicate_zero, List.push_toArray, List.nil_append, List.cons_append])
        refine wpAnyF_take (i := 0) (v := ?_) (by kernel_rfl) (by kernel_rfl) rfl (by kernel_rfl) (by kernel_rfl) (by kernel_rfl) (fun _ _ _ h => h) (Or.inl ⟨by rfl, ?_⟩) (by assumption) ?_
        rotate_left
        · intro w' hSw; (try dsimp only at hSw); obtain ⟨q0, q1, q2, q3, q4⟩ := CB.five hSw.2; clear hSw; go_simp; (try with_reducible rfl)
        (try simp only [Act.put, List.getElem_toArray, List.getElem_cons_zero, List.getElem_cons_succ, List.setIfInBounds_toArray, List.set_cons_zero, List.set_cons_succ])
        refine wpAnyF_ready (rs := [1]) (by kernel_rfl) (by simp) ?_
        refine AllReadyF.cons rfl (fun KK hKK => ?_) AllReadyF.nil
        go_simp
        ((with_reducible refine (HD.out).mono ?_); rintro e' w30 ⟨rfl, hp30, hk30⟩; have H30 := hi hp30; have SS30 := And.intro (hk30.cb hHeld.1 NP) (hk30.cb hHeld.2 NX); clear hp30 hk30)
        (try go_simp)
        refine hKK.out _ _ SS30 (fun hHeld => ?_)
        clear hKK KK
        (try simp only [Act.put, List.getElem_toArray, List.getElem_cons_zero, List.getElem_cons_succ, List.setIfInBounds_toArray, List.set_cons_zero, List.set_cons_succ])
        refine wpAnyF_take (i := 2) (v := ?_) (by kernel_rfl) (by kernel_rfl) rfl (by kernel_rfl) (by kernel_rfl) (by kernel_rfl) (fun _ _ _ h => h) (Or.inl ⟨by rfl, ?_⟩) (by assumption) ?_
        rotate_left
        · intro w' hSw; (try dsimp only at hSw); clear hSw; go_simp; (try with_reducible rfl)
        (try simp only [Act.put, List.getElem_toArray, List.getElem_cons_zero, List.getElem_cons_succ, List.setIfInBounds_toArray, List.set_cons_zero, List.set_cons_succ])
        refine wpAnyF_take (i := 3) (v := ?_) (by kernel_rfl) (by kernel_rfl) rfl (by kernel_rfl) (by kernel_rfl) (by kernel_rfl) (fun _ _ _ h => h) (Or.inl ⟨by rfl, ?_⟩) (by assumption) ?_
        rotate_left
        · intro w' hSw; (try dsimp only at hSw); clear hSw; go_simp; (try with_reducible rfl)
        (try simp only [Act.put, List.getElem_toArray, List.getElem_cons_zero, List.getElem_cons_succ, List.setIfInBounds_toArray, List.set_cons_zero, List.set_cons_succ])
        refine wpAnyF_ready (rs := [4]) (by kernel_rfl) (by simp) ?_
        refine AllReadyF.cons rfl (fun KK hKK => ?_) AllReadyF.nil
        go_simp
        ((with_reducible refine (alike_any _ _ _ _ _ _ _ _ _ _ _ _ H30.out oku hHeld.1).mono ?_); rintro e' w31 ⟨rfl, hb31⟩; have H31 := hi (H30.out.later hb31); have SS31 := And.intro (hHeld.1.below hb31) (hHeld.2.below hb31); clear hb31)
        (try go_simp)
        refine hKK.out _ _ SS31 (fun hHeld => ?_)
        clear hKK KK
        (try simp only [Act.put, List.getElem_toArray, List.getElem_cons_zero, List.getElem_cons_succ, List.setIfInBounds_toArray, List.set_cons_zero, List.set_cons_succ])
        refine wpAnyF_take (i := 5) (v := ?_) (by kernel_rfl) (by kernel_rfl) rfl (by kernel_rfl) (by kernel_rfl) (by kernel_rfl) (fun _ _ _ h => h) (Or.inl ⟨by rfl, ?_⟩) (by assumption) ?_
        rotate_left
        · intro w' hSw; (try dsimp only at hSw); clear hSw; go_simp; (try with_reducible rfl)
        (try simp only [Act.put, List.getElem_toArray, List.getElem_cons_zero, List.getElem_cons_succ, List.setIfInBounds_toArray, List.set_cons_zero, List.set_cons_succ])
        refine wpAnyF_take (i := 6) (v := ?_) (by kernel_rfl) (by kernel_rfl) rfl (by kernel_rfl) (by kernel_rfl) (by kernel_rfl) (fun _ _ _ h => h) (Or.inl ⟨by rfl, ?_⟩) (by assumption) ?_
        rotate_left
        · intro w' hSw; (try dsimp only at hSw); clear hSw; go_simp; (try with_reducible rfl)
        (try simp only [Act.put, List.getElem_toArray, List.getElem_cons_zero, List.getElem_cons_succ, List.setIfInBounds_toArray, List.set_cons_zero, List.set_cons_succ])
        refine wpAnyF_take (i := 7) (v := ?_) (by kernel_rfl) (by kernel_rfl) rfl (by kernel_rfl) (by kernel_rfl) (by kernel_rfl) (fun _ _ _ h => h) (Or.inl ⟨by rfl, ?_⟩) (by assumption) ?_
        rotate_left
        · intro w' hSw; (try dsimp only at hSw); clear hSw; go_simp; (try with_reducible rfl)
        (try simp only [Act.put, List.getElem_toArray, List.getElem_cons_zero, List.getElem_cons_succ, List.setIfInBounds_toArray, List.set_cons_zero, List.set_cons_succ])
        refine wpAnyF_take (i := 8) (v := ?_) (by kernel_rfl) (by kernel_rfl) rfl (by kernel_rfl) (by kernel_rfl) (by kernel_rfl) (fun _ _ _ h => h) (Or.inl ⟨by rfl, ?_⟩) (by assumption) ?_
        rotate_left
        · intro w' hSw; (try dsimp only at hSw); clear hSw; go_simp; (try with_reducible rfl)
        (try simp only [Act.put, List.getElem_toArray, List.getElem_cons_zero, List.getElem_cons_succ, List.setIfInBounds_toArray, List.set_cons_zero, List.set_cons_succ])
        refine wpAnyF_take (i := 9) (v := ?_) (by kernel_rfl) (by kernel_rfl) rfl (by kernel_rfl) (by kernel_rfl) (by kernel_rfl) (fun _ _ _ h => h) (Or.inl ⟨by rfl, ?_⟩) (by assumption) ?_
        rotate_left
        · intro w' hSw; (try dsimp only at hSw); clear hSw; go_simp; (try with_reducible rfl)
        (try simp only [Act.put, List.getElem_toArray, List.getElem_cons_zero, List.getElem_cons_succ, List.setIfInBounds_toArray, List.set_cons_zero, List.set_cons_succ])
        refine wpAnyF_take (i := 10) (v := ?_) (by kernel_rfl) (by kernel_rfl) rfl (by kernel_rfl) (by kernel_rfl) (by kernel_rfl) (fun _ _ _ h => h) (Or.inl ⟨by rfl, ?_⟩) (by assumption) ?_
        rotate_left
        · intro w' hSw; (try dsimp only at hSw); obtain ⟨q0, q1, q2, q3, q4, q5, q6⟩ := CB.seven hSw.1; clear hSw; go_simp; (try with_reducible rfl)
        (try simp only [Act.put, List.getElem_toArray, List.getElem_cons_zero, List.getElem_cons_succ, List.setIfInBounds_toArray, List.set_cons_zero, List.set_cons_succ])
        refine wpAnyF_take (i := 11) (v := ?_) (by kernel_rfl) (by kernel_rfl) rfl (by kernel_rfl) (by kernel_rfl) (by kernel_rfl) (fun _ _ _ h => h) (Or.inl ⟨by rfl, ?_⟩) (by assumption) ?_
        rotate_left
        · intro w' hSw; (try dsimp only at hSw); clear hSw; go_simp; (try with_reducible rfl)
        (try simp only [Act.put, List.getElem_toArray, List.getElem_cons_zero, List.getElem_cons_succ, List.setIfInBounds_toArray, List.set_cons_zero, List.set_cons_succ])
        refine wpAnyF_take (i := 12) (v := ?_) (by kernel_rfl) (by kernel_rfl) rfl (by kernel_rfl) (by kernel_rfl) (by kernel_rfl) (fun _ _ _ h => h) (Or.inl ⟨by rfl, ?_⟩) (by assumption) ?_
        rotate_left
        · intro w' hSw; (try dsimp only at hSw); obtain ⟨q0, q1, q2, q3, q4, q5, q6⟩ := CB.seven hSw.1; clear hSw; go_simp; (try with_reducible rfl)
        (try simp only [Act.put, List.getElem_toArray, List.getElem_cons_zero, List.getElem_cons_succ, List.setIfInBounds_toArray, List.set_cons_zero, List.set_cons_succ])
        refine wpAnyF_take (i := 13) (v := ?_) (by kernel_rfl) (by kernel_rfl) rfl (by kernel_rfl) (by kernel_rfl) (by kernel_rfl) (fun _ _ _ h => h) (Or.inl ⟨by rfl, ?_⟩) (by assumption) ?_
        rotate_left
        · intro w' hSw; (try dsimp only at hSw); clear hSw; go_simp; (try with_reducible rfl)
        (try simp only [Act.put, List.getElem_toArray, List.getElem_cons_zero, List.getElem_cons_succ, List.setIfInBounds_toArray, List.set_cons_zero, List.set_cons_succ])
        refine wpAnyF_take (i := 14) (v := ?_) (by kernel_rfl) (by kernel_rfl) rfl (by kernel_rfl) (by kernel_rfl) (by kernel_rfl) (fun _ _ _ h => h) (Or.inl ⟨by rfl, ?_⟩) (by assumption) ?_
        rotate_left
        · intro w' hSw; (try dsimp only at hSw); obtain ⟨q0, q1, q2, q3, q4⟩ := CB.five hSw.2; clear hSw; go_simp; (try with_reducible rfl)
        (try simp only [Act.put, List.getElem_toArray, List.getElem_cons_zero, List.getElem_cons_succ, List.setIfInBounds_toArray, List.set_cons_zero, List.set_cons_succ])
        refine wpAnyF_take (i := 16) (v := ?_) (by kernel_rfl) (by kernel_rfl) rfl (by kernel_rfl) (by kernel_rfl) (by kernel_rfl) (fun _ _ _ h => h) (Or.inl ⟨by rfl, ?_⟩) (by assumption) ?_
        rotate_left
        · intro w' hSw; (try dsimp only at hSw); clear hSw; go_simp; (try with_reducible rfl)
        (try simp only [Act.put, List.getElem_toArray, List.getElem_cons_zero, List.getElem_cons_succ, List.setIfInBounds_toArray, List.set_cons_zero, List.set_cons_succ])
        refine wpAnyF_take (i := 17) (v := ?_) (by kernel_rfl) (by kernel_rfl) rfl (by kernel_rfl) (by kernel_rfl) (by kernel_rfl) (fun _ _ _ h => h) (Or.inl ⟨by rfl, ?_⟩) (by assumption) ?_
        rotate_left
        · intro w' hSw; (try dsimp only at hSw); clear hSw; go_simp; (try with_reducible rfl)
        (try simp only [Act.put, List.getElem_toArray, List.getElem_cons_zero, List.getElem_cons_succ, List.setIfInBounds_toArray, List.set_cons_zero, List.set_cons_succ])
        refine wpAnyF_take (i := 18) (v := ?_) (by kernel_rfl) (by kernel_rfl) rfl (by kernel_rfl) (by kernel_rfl) (by kernel_rfl) (fun _ _ _ h => h) (Or.inl ⟨by rfl, ?_⟩) (by assumption) ?_
        rotate_left
        · intro w' hSw; (try dsimp only at hSw); obtain ⟨q0, q1, q2, q3, q4, q5, q6⟩ := CB.seven hSw.1; clear hSw; go_simp; (try with_reducible rfl)
        (try simp only [Act.put, List.getElem_toArray, List.getElem_cons_zero, List.getElem_cons_succ, List.setIfInBounds_toArray, List.set_cons_zero, List.set_cons_succ])
        refine wpAnyF_take (i := 19) (v := ?_) (by kernel_rfl) (by kernel_rfl) rfl (by kernel_rfl) (by kernel_rfl) (by kernel_rfl) (fun _ _ _ h => h) (Or.inl ⟨by rfl, ?_⟩) (by assumption) ?_
        rotate_left
        · intro w' hSw; (try dsimp only at hSw); clear hSw; go_simp; (try with_reducible rfl)
        (try simp only [Act.put, List.getElem_toArray, List.getElem_cons_zero, List.getElem_cons_succ, List.setIfInBounds_toArray, List.set_cons_zero, List.set_cons_succ])
        refine wpAnyF_take (i := 20) (v := ?_) (by kernel_rfl) (by kernel_rfl) rfl (by kernel_rfl) (by kernel_rfl) (by kernel_rfl) (fun _ _ _ h => h) (Or.inl ⟨by rfl, ?_⟩) (by assumption) ?_
        rotate_left
        · intro w' hSw; (try dsimp only at hSw); obtain ⟨q0, q1, q2, q3, q4, q5, q6⟩ := CB.seven hSw.1; clear hSw; go_simp; (try with_reducible rfl)
        (try simp only [Act.put, List.getElem_toArray, List.getElem_cons_zero, List.getElem_cons_succ, List.setIfInBounds_toArray, List.set_cons_zero, List.set_cons_succ])
        refine wpAnyF_take (i := 21) (v := ?_) (by kernel_rfl) (by kernel_rfl) rfl (by kernel_rfl) (by kernel_rfl) (by kernel_rfl) (fun _ _ _ h => h) (Or.inl ⟨by rfl, ?_⟩) (by assumption) ?_
        rotate_left
        · intro w' hSw; (try dsimp only at hSw); clear hSw; go_simp; (try with_reducible rfl)
        (try simp only [Act.put, List.getElem_toArray, List.getElem_cons_zero, List.getElem_cons_succ, List.setIfInBounds_toArray, List.set_cons_zero, List.set_cons_succ])
        refine wpAnyF_take (i := 22) (v := ?_) (by kernel_rfl) (by kernel_rfl) rfl (by kernel_rfl) (by kernel_rfl) (by kernel_rfl) (fun _ _ _ h => h) (Or.inl ⟨by rfl, ?_⟩) (by assumption) ?_
        rotate_left
        · intro w' hSw; (try dsimp only at hSw); obtain ⟨q0, q1, q2, q3, q4⟩ := CB.five hSw.2; clear hSw; go_simp; (try with_reducible rfl)
        (try simp only [Act.put, List.getElem_toArray, List.getElem_cons_zero, List.getElem_cons_succ, List.setIfInBounds_toArray, List.set_cons_zero, List.set_cons_succ])
        refine wpAnyF_ready (rs := [15]) (by kernel_rfl) (by simp) ?_
        refine AllReadyF.cons rfl (fun KK hKK => ?_) AllReadyF.nil
        go_simp
        ((with_reducible refine (HH1.out _ H31.out).mono ?_); rintro e' w32 ⟨rfl, hb32⟩; have H32 := hi (H31.out.later hb32); have SS32 := And.intro (hHeld.1.below hb32) (hHeld.2.below hb32); clear hb32)
        (try go_simp)
        refine hKK.out _ _ SS32 (fun hHeld => ?_)
        clear hKK KK
        (try simp only [Act.put, List.getElem_toArray, List.getElem_cons_zero, List.getElem_cons_succ, List.setIfInBounds_toArray, List.set_cons_zero, List.set_cons_succ])
        refine wpAnyF_ready (rs := [23]) (by kernel_rfl) (by simp) ?_
        refine AllReadyF.cons rfl (fun KK hKK => ?_) AllReadyF.nil
        go_simp
        ((with_reducible refine (HH2.out _ H32.out).mono ?_); rintro e' w33 ⟨rfl, hb33⟩; have H33 := hi (H32.out.later hb33); have SS33 := And.intro (hHeld.1.below hb33) (hHeld.2.below hb33); clear hb33)
        (try go_simp)
        refine hKK.out _ _ SS33 (fun hHeld => ?_)
        clear hKK KK
        (try simp only [Act.put, List.getElem_toArray, List.getElem_cons_zero, List.getElem_cons_succ, List.setIfInBounds_toArray, List.set_cons_zero, List.set_cons_succ])
        refine wpAnyF_take (i := 24) (v := ?_) (by kernel_rfl) (by kernel_rfl) rfl (by kernel_rfl) (by kernel_rfl) (by kernel_rfl) (fun _ _ _ h => h) (Or.inl ⟨by rfl, ?_⟩) (by assumption) ?_
        rotate_left
        · intro w' hSw; (try dsimp only at hSw); clear hSw; go_simp; (try with_reducible rfl)
        (try simp only [Act.put, List.getElem_toArray, List.getElem_cons_zero, List.getElem_cons_succ, List.setIfInBounds_toArray, List.set_cons_zero, List.set_cons_succ])
        refine wpAnyF_take (i := 25) (v := ?_) (by kernel_rfl) (by kernel_rfl) rfl (by kernel_rfl) (by kernel_rfl) (by kernel_rfl) (fun _ _ _ h => h) (Or.inl ⟨by rfl, ?_⟩) (by assumption) ?_
        rotate_left
        · intro w' hSw; (try dsimp only at hSw); clear hSw; go_simp; (try with_reducible rfl)
        (try simp only [Act.put, List.getElem_toArray, List.getElem_cons_zero, List.getElem_cons_succ, List.setIfInBounds_toArray, List.set_cons_zero, List.set_cons_succ])
        refine wpAnyF_done (by kernel_rfl) ?_ _
        refine NoPanic.normal ?_
        have HE := hi (And.intro (PrX.less H33.out HNL.out) hHeld.1)
        go_wp2
        go_roundw
        case rel => exact ⟨j + 1, pn, ln, u, by go_num, by omega, hi ⟨HE.out.1, oku, HE.out.2⟩⟩
        case measure => simp [intOf]; omega
      · have h9b : (xd == 9) = false := by simpa using h9
        obtain ⟨z0, z1, z2, z3, z4⟩ := CB.five HV.out.2
        go_wp2
        clear z0 z1 z2 z3 z4 g0 g1 g2 g3 g4
        obtain ⟨vX, hvX⟩ : ∃ V, (v.alloc (.cells #[.int .i64 xd, .int .i64 xid, .bool xis, .bool xtw, .int .u8 xv] 37)) = V := ⟨_, rfl⟩
        rw [hvX] at HPX HV
        try rw [hvX]
        clear hvX
        have okt := HJ.out.2.1
        obtain ⟨u, hu⟩ : ∃ u, stepT t ⟨xd, xid, xis, xtw, xv⟩ = u := ⟨_, rfl⟩
        have oku : u.Ok 200 := by rw [← hu]; exact stepT_ok okt _
        have okx : u.x.Ok u.bs.length := by rw [oku.len]; exact oku.x
        have HD := hi (does_any w1 N p q l0 l1 d0 d1 t vX.drew P ⟨xd, xid, xis, xtw, xv⟩ HFX.out (HPX.out.later (below_dr _)) okt (HV.out.1.below (below_dr _)) NP)
        rw [hu] at HD
        obtain ⟨hv, hhv⟩ : ∃ b, hasV u.bs u.x xid = b := ⟨_, rfl⟩
        have HH1 := hi (fun V (h : PrX w1 N p q l0 l1 d0 d1 u u V) => has_pr h okx xid)
        have HH2 := hi (fun V (h : PrX w1 N p q l0 l1 d0 d1 u u V) => rhas_pr h okx xid)
        rw [hhv] at HH1 HH2
        have hb3 : (hv != hv) = false := by simp
        clear hu hhv
        refine wp_region_noPanic ?_
        refine wp_region_last_drew (S := (fun V => CB V P 32 (prC (pt p) (pt q) (pt l0) (pt l1) (pt d0) (pt d1) true) ∧ CB V X 37 #[.int .i64 xd, .int .i64 xid, .bool xis, .bool xtw, .int .u8 xv])) [] (by kernel_rfl) ⟨HV.out.1.below (below_dr _), HV.out.2.below (below_dr _)⟩ (fun hHeld => ?_)
        (try simp only [Array.replicate_succ, Array.replicate_zero, List.push_toArray, List.nil_append, List.cons_append])
        refine wpAnyF_take (i := 0) (v := ?_) (by kernel_rfl) (by kernel_rfl) rfl (by kernel_rfl) (by kernel_rfl) (by kernel_rfl) (fun _ _ _ h => h) (Or.inl ⟨by rfl, ?_⟩) (by assumption) ?_
        rotate_left
        · intro w' hSw; (try dsimp only at hSw); obtain ⟨q0, q1, q2, q3, q4⟩ := CB.five hSw.2; clear hSw; go_simp; (try with_reducible rfl)
        (try simp only [Act.put, List.getElem_toArray, List.getElem_cons_zero, List.getElem_cons_succ, List.setIfInBounds_toArray, List.set_cons_zero, List.set_cons_succ])
        refine wpAnyF_ready (rs := [1]) (by kernel_rfl) (by simp) ?_
        refine AllReadyF.cons rfl (fun KK hKK => ?_) AllReadyF.nil
        go_simp
        ((with_reducible refine (HD.out).mono ?_); rintro e' w30 ⟨rfl, hp30, hk30⟩; have H30 := hi hp30; have SS30 := And.intro (hk30.cb hHeld.1 NP) (hk30.cb hHeld.2 NX); clear hp30 hk30)
        (try go_simp)
        refine hKK.out _ _ SS30 (fun hHeld => ?_)
        clear hKK KK
        (try simp only [Act.put, List.getElem_toArray, List.getElem_cons_zero, List.getElem_cons_succ, List.setIfInBounds_toArray, List.set_cons_zero, List.set_cons_succ])
        refine wpAnyF_take (i := 2) (v := ?_) (by kernel_rfl) (by kernel_rfl) rfl (by kernel_rfl) (by kernel_rfl) (by kernel_rfl) (fun _ _ _ h => h) (Or.inl ⟨by rfl, ?_⟩) (by assumption) ?_
        rotate_left
        · intro w' hSw; (try dsimp only at hSw); clear hSw; go_simp; (try with_reducible rfl)
        (try simp only [Act.put, List.getElem_toArray, List.getElem_cons_zero, List.getElem_cons_succ, List.setIfInBounds_toArray, List.set_cons_zero, List.set_cons_succ])
        refine wpAnyF_take (i := 3) (v := ?_) (by kernel_rfl) (by kernel_rfl) rfl (by kernel_rfl) (by kernel_rfl) (by kernel_rfl) (fun _ _ _ h => h) (Or.inl ⟨by rfl, ?_⟩) (by assumption) ?_
        rotate_left
        · intro w' hSw; (try dsimp only at hSw); clear hSw; go_simp; (try with_reducible rfl)
        (try simp only [Act.put, List.getElem_toArray, List.getElem_cons_zero, List.getElem_cons_succ, List.setIfInBounds_toArray, List.set_cons_zero, List.set_cons_succ])
        refine wpAnyF_ready (rs := [4]) (by kernel_rfl) (by simp) ?_
        refine AllReadyF.cons rfl (fun KK hKK => ?_) AllReadyF.nil
        go_simp
        ((with_reducible refine (alike_any _ _ _ _ _ _ _ _ _ _ _ _ H30.out oku hHeld.1).mono ?_); rintro e' w31 ⟨rfl, hb31⟩; have H31 := hi (H30.out.later hb31); have SS31 := And.intro (hHeld.1.below hb31) (hHeld.2.below hb31); clear hb31)
        (try go_simp)
        refine hKK.out _ _ SS31 (fun hHeld => ?_)
        clear hKK KK
        (try simp only [Act.put, List.getElem_toArray, List.getElem_cons_zero, List.getElem_cons_succ, List.setIfInBounds_toArray, List.set_cons_zero, List.set_cons_succ])
        refine wpAnyF_take (i := 5) (v := ?_) (by kernel_rfl) (by kernel_rfl) rfl (by kernel_rfl) (by kernel_rfl) (by kernel_rfl) (fun _ _ _ h => h) (Or.inl ⟨by rfl, ?_⟩) (by assumption) ?_
        rotate_left
        · intro w' hSw; (try dsimp only at hSw); clear hSw; go_simp; (try with_reducible rfl)
        (try simp only [Act.put, List.getElem_toArray, List.getElem_cons_zero, List.getElem_cons_succ, List.setIfInBounds_toArray, List.set_cons_zero, List.set_cons_succ])
        refine wpAnyF_take (i := 6) (v := ?_) (by kernel_rfl) (by kernel_rfl) rfl (by kernel_rfl) (by kernel_rfl) (by kernel_rfl) (fun _ _ _ h => h) (Or.inl ⟨by rfl, ?_⟩) (by assumption) ?_
        rotate_left
        · intro w' hSw; (try dsimp only at hSw); clear hSw; go_simp; (try with_reducible rfl)
        (try simp only [Act.put, List.getElem_toArray, List.getElem_cons_zero, List.getElem_cons_succ, List.setIfInBounds_toArray, List.set_cons_zero, List.set_cons_succ])
        refine wpAnyF_take (i := 7) (v := ?_) (by kernel_rfl) (by kernel_rfl) rfl (by kernel_rfl) (by kernel_rfl) (by kernel_rfl) (fun _ _ _ h => h) (Or.inl ⟨by rfl, ?_⟩) (by assumption) ?_
        rotate_left
        · intro w' hSw; (try dsimp only at hSw); clear hSw; go_simp; (try with_reducible rfl)
        (try simp only [Act.put, List.getElem_toArray, List.getElem_cons_zero, List.getElem_cons_succ, List.setIfInBounds_toArray, List.set_cons_zero, List.set_cons_succ])
        refine wpAnyF_take (i := 8) (v := ?_) (by kernel_rfl) (by kernel_rfl) rfl (by kernel_rfl) (by kernel_rfl) (by kernel_rfl) (fun _ _ _ h => h) (Or.inl ⟨by rfl, ?_⟩) (by assumption) ?_
        rotate_left
        · intro w' hSw; (try dsimp only at hSw); clear hSw; go_simp; (try with_reducible rfl)
        (try simp only [Act.put, List.getElem_toArray, List.getElem_cons_zero, List.getElem_cons_succ, List.setIfInBounds_toArray, List.set_cons_zero, List.set_cons_succ])
        refine wpAnyF_take (i := 9) (v := ?_) (by kernel_rfl) (by kernel_rfl) rfl (by kernel_rfl) (by kernel_rfl) (by kernel_rfl) (fun _ _ _ h => h) (Or.inl ⟨by rfl, ?_⟩) (by assumption) ?_
        rotate_left
        · intro w' hSw; (try dsimp only at hSw); clear hSw; go_simp; (try with_reducible rfl)
        (try simp only [Act.put, List.getElem_toArray, List.getElem_cons_zero, List.getElem_cons_succ, List.setIfInBounds_toArray, List.set_cons_zero, List.set_cons_succ])
        refine wpAnyF_take (i := 10) (v := ?_) (by kernel_rfl) (by kernel_rfl) rfl (by kernel_rfl) (by kernel_rfl) (by kernel_rfl) (fun _ _ _ h => h) (Or.inl ⟨by rfl, ?_⟩) (by assumption) ?_
        rotate_left
        · intro w' hSw; (try dsimp only at hSw); obtain ⟨q0, q1, q2, q3, q4, q5, q6⟩ := CB.seven hSw.1; clear hSw; go_simp; (try with_reducible rfl)
        (try simp only [Act.put, List.getElem_toArray, List.getElem_cons_zero, List.getElem_cons_succ, List.setIfInBounds_toArray, List.set_cons_zero, List.set_cons_succ])
        refine wpAnyF_take (i := 11) (v := ?_) (by kernel_rfl) (by kernel_rfl) rfl (by kernel_rfl) (by kernel_rfl) (by kernel_rfl) (fun _ _ _ h => h) (Or.inl ⟨by rfl, ?_⟩) (by assumption) ?_
        rotate_left
        · intro w' hSw; (try dsimp only at hSw); clear hSw; go_simp; (try with_reducible rfl)
        (try simp only [Act.put, List.getElem_toArray, List.getElem_cons_zero, List.getElem_cons_succ, List.setIfInBounds_toArray, List.set_cons_zero, List.set_cons_succ])
        refine wpAnyF_take (i := 12) (v := ?_) (by kernel_rfl) (by kernel_rfl) rfl (by kernel_rfl) (by kernel_rfl) (by kernel_rfl) (fun _ _ _ h => h) (Or.inl ⟨by rfl, ?_⟩) (by assumption) ?_
        rotate_left
        · intro w' hSw; (try dsimp only at hSw); obtain ⟨q0, q1, q2, q3, q4, q5, q6⟩ := CB.seven hSw.1; clear hSw; go_simp; (try with_reducible rfl)
        (try simp only [Act.put, List.getElem_toArray, List.getElem_cons_zero, List.getElem_cons_succ, List.setIfInBounds_toArray, List.set_cons_zero, List.set_cons_succ])
        refine wpAnyF_take (i := 13) (v := ?_) (by kernel_rfl) (by kernel_rfl) rfl (by kernel_rfl) (by kernel_rfl) (by kernel_rfl) (fun _ _ _ h => h) (Or.inl ⟨by rfl, ?_⟩) (by assumption) ?_
        rotate_left
        · intro w' hSw; (try dsimp only at hSw); clear hSw; go_simp; (try with_reducible rfl)
        (try simp only [Act.put, List.getElem_toArray, List.getElem_cons_zero, List.getElem_cons_succ, List.setIfInBounds_toArray, List.set_cons_zero, List.set_cons_succ])
        refine wpAnyF_take (i := 14) (v := ?_) (by kernel_rfl) (by kernel_rfl) rfl (by kernel_rfl) (by kernel_rfl) (by kernel_rfl) (fun _ _ _ h => h) (Or.inl ⟨by rfl, ?_⟩) (by assumption) ?_
        rotate_left
        · intro w' hSw; (try dsimp only at hSw); obtain ⟨q0, q1, q2, q3, q4⟩ := CB.five hSw.2; clear hSw; go_simp; (try with_reducible rfl)
        (try simp only [Act.put, List.getElem_toArray, List.getElem_cons_zero, List.getElem_cons_succ, List.setIfInBounds_toArray, List.set_cons_zero, List.set_cons_succ])
        refine wpAnyF_take (i := 16) (v := ?_) (by kernel_rfl) (by kernel_rfl) rfl (by kernel_rfl) (by kernel_rfl) (by kernel_rfl) (fun _ _ _ h => h) (Or.inl ⟨by rfl, ?_⟩) (by assumption) ?_
        rotate_left
        · intro w' hSw; (try dsimp only at hSw); clear hSw; go_simp; (try with_reducible rfl)
        (try simp only [Act.put, List.getElem_toArray, List.getElem_cons_zero, List.getElem_cons_succ, List.setIfInBounds_toArray, List.set_cons_zero, List.set_cons_succ])
        refine wpAnyF_take (i := 17) (v := ?_) (by kernel_rfl) (by kernel_rfl) rfl (by kernel_rfl) (by kernel_rfl) (by kernel_rfl) (fun _ _ _ h => h) (Or.inl ⟨by rfl, ?_⟩) (by assumption) ?_
        rotate_left
        · intro w' hSw; (try dsimp only at hSw); clear hSw; go_simp; (try with_reducible rfl)
        (try simp only [Act.put, List.getElem_toArray, List.getElem_cons_zero, List.getElem_cons_succ, List.setIfInBounds_toArray, List.set_cons_zero, List.set_cons_succ])
        refine wpAnyF_take (i := 18) (v := ?_) (by kernel_rfl) (by kernel_rfl) rfl (by kernel_rfl) (by kernel_rfl) (by kernel_rfl) (fun _ _ _ h => h) (Or.inl ⟨by rfl, ?_⟩) (by assumption) ?_
        rotate_left
        · intro w' hSw; (try dsimp only at hSw); obtain ⟨q0, q1, q2, q3, q4, q5, q6⟩ := CB.seven hSw.1; clear hSw; go_simp; (try with_reducible rfl)
        (try simp only [Act.put, List.getElem_toArray, List.getElem_cons_zero, List.getElem_cons_succ, List.setIfInBounds_toArray, List.set_cons_zero, List.set_cons_succ])
        refine wpAnyF_take (i := 19) (v := ?_) (by kernel_rfl) (by kernel_rfl) rfl (by kernel_rfl) (by kernel_rfl) (by kernel_rfl) (fun _ _ _ h => h) (Or.inl ⟨by rfl, ?_⟩) (by assumption) ?_
        rotate_left
        · intro w' hSw; (try dsimp only at hSw); clear hSw; go_simp; (try with_reducible rfl)
        (try simp only [Act.put, List.getElem_toArray, List.getElem_cons_zero, List.getElem_cons_succ, List.setIfInBounds_toArray, List.set_cons_zero, List.set_cons_succ])
        refine wpAnyF_take (i := 20) (v := ?_) (by kernel_rfl) (by kernel_rfl) rfl (by kernel_rfl) (by kernel_rfl) (by kernel_rfl) (fun _ _ _ h => h) (Or.inl ⟨by rfl, ?_⟩) (by assumption) ?_
        rotate_left
        · intro w' hSw; (try dsimp only at hSw); obtain ⟨q0, q1, q2, q3, q4, q5, q6⟩ := CB.seven hSw.1; clear hSw; go_simp; (try with_reducible rfl)
        (try simp only [Act.put, List.getElem_toArray, List.getElem_cons_zero, List.getElem_cons_succ, List.setIfInBounds_toArray, List.set_cons_zero, List.set_cons_succ])
        refine wpAnyF_take (i := 21) (v := ?_) (by kernel_rfl) (by kernel_rfl) rfl (by kernel_rfl) (by kernel_rfl) (by kernel_rfl) (fun _ _ _ h => h) (Or.inl ⟨by rfl, ?_⟩) (by assumption) ?_
        rotate_left
        · intro w' hSw; (try dsimp only at hSw); clear hSw; go_simp; (try with_reducible rfl)
        (try simp only [Act.put, List.getElem_toArray, List.getElem_cons_zero, List.getElem_cons_succ, List.setIfInBounds_toArray, List.set_cons_zero, List.set_cons_succ])
        refine wpAnyF_take (i := 22) (v := ?_) (by kernel_rfl) (by kernel_rfl) rfl (by kernel_rfl) (by kernel_rfl) (by kernel_rfl) (fun _ _ _ h => h) (Or.inl ⟨by rfl, ?_⟩) (by assumption) ?_
        rotate_left
        · intro w' hSw; (try dsimp only at hSw); obtain ⟨q0, q1, q2, q3, q4⟩ := CB.five hSw.2; clear hSw; go_simp; (try with_reducible rfl)
        (try simp only [Act.put, List.getElem_toArray, List.getElem_cons_zero, List.getElem_cons_succ, List.setIfInBounds_toArray, List.set_cons_zero, List.set_cons_succ])
        refine wpAnyF_ready (rs := [15]) (by kernel_rfl) (by simp) ?_
        refine AllReadyF.cons rfl (fun KK hKK => ?_) AllReadyF.nil
        go_simp
        ((with_reducible refine (HH1.out _ H31.out).mono ?_); rintro e' w32 ⟨rfl, hb32⟩; have H32 := hi (H31.out.later hb32); have SS32 := And.intro (hHeld.1.below hb32) (hHeld.2.below hb32); clear hb32)
        (try go_simp)
        refine hKK.out _ _ SS32 (fun hHeld => ?_)
        clear hKK KK
        (try simp only [Act.put, List.getElem_toArray, List.getElem_cons_zero, List.getElem_cons_succ, List.setIfInBounds_toArray, List.set_cons_zero, List.set_cons_succ])
        refine wpAnyF_ready (rs := [23]) (by kernel_rfl) (by simp) ?_
        refine AllReadyF.cons rfl (fun KK hKK => ?_) AllReadyF.nil
        go_simp
        ((with_reducible refine (HH2.out _ H32.out).mono ?_); rintro e' w33 ⟨rfl, hb33⟩; have H33 := hi (H32.out.later hb33); have SS33 := And.intro (hHeld.1.below hb33) (hHeld.2.below hb33); clear hb33)
        (try go_simp)
        refine hKK.out _ _ SS33 (fun hHeld => ?_)
        clear hKK KK
        (try simp only [Act.put, List.getElem_toArray, List.getElem_cons_zero, List.getElem_cons_succ, List.setIfInBounds_toArray, List.set_cons_zero, List.set_cons_succ])
        refine wpAnyF_take (i := 24) (v := ?_) (by kernel_rfl) (by kernel_rfl) rfl (by kernel_rfl) (by kernel_rfl) (by kernel_rfl) (fun _ _ _ h => h) (Or.inl ⟨by rfl, ?_⟩) (by assumption) ?_
        rotate_left
        · intro w' hSw; (try dsimp only at hSw); clear hSw; go_simp; (try with_reducible rfl)
        (try simp only [Act.put, List.getElem_toArray, List.getElem_cons_zero, List.getElem_cons_succ, List.setIfInBounds_toArray, List.set_cons_zero, List.set_cons_succ])
        refine wpAnyF_take (i := 25) (v := ?_) (by kernel_rfl) (by kernel_rfl) rfl (by kernel_rfl) (by kernel_rfl) (by kernel_rfl) (fun _ _ _ h => h) (Or.inl ⟨by rfl, ?_⟩) (by assumption) ?_
        rotate_left
        · intro w' hSw; (try dsimp only at hSw); clear hSw; go_simp; (try with_reducible rfl)
        (try simp only [Act.put, List.getElem_toArray, List.getElem_cons_zero, List.getElem_cons_succ, List.setIfInBounds_toArray, List.set_cons_zero, List.set_cons_succ])
        refine wpAnyF_done (by kernel_rfl) ?_ _
        refine NoPanic.normal ?_
        have HE := hi (And.intro (PrX.less H33.out HNL.out) hHeld.1)
        go_wp2
        go_roundw
        case rel => exact ⟨j + 1, p, l0, u, by go_num, by omega, hi ⟨HE.out.1, oku, HE.out.2⟩⟩
        case measure => simp [intOf]; omega
    · have hje : j = xs.length := by omega
      subst hje
      have hjl : ¬ (xs.length : Int) < (xs.length : Int) := by omega
      have HBE := hi (H1.out.more HJ.out.1.below)
      clear HJ
      go_wp2
      go_ret
      exact ⟨rfl, HBE.out⟩

end Go.Proofs.YtobhdjepfhbgaaaDoor
