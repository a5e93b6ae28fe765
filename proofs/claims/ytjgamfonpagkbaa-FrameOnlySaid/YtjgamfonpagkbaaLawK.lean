/-
  The law FrameOnly at every input.
-/
import Derived.Test.YtjgamfonpagkbaaFrmO
import Derived.Test.YtjgamfonpagkbaaLawE
namespace Go.Proofs.Ytjgamfonpagkbaa
open Go.ChangeShapes Go.WideShapes Go.ChangeAt Go.RowKit Go.Shelf
set_option linter.unusedVariables false
attribute [local go_sem] Oper.semAt_some
attribute [local go_sem high] neqLn neqEn guardL guardE

/-! ### Plain -/
theorem told_zero (r : Int) : toldV Ln.zero r = 0 := by
  unfold toldV
  repeat' split
  all_goals rfl
theorem only_read (p : Pl) (c : Nat) (f0 : Int) (es : List En) (ids : List Int) : bits .andNot .u64 (readV p c f0 (onlyV f0 es ids) : Nat) (readV p c f0 es : Nat) = 0 := by
  have h1 := readV_lt p c f0 (onlyV f0 es ids)
  have h2 := readV_lt p c f0 es
  rw [u64_andNot_nat _ _ h1 h2]
  have h3 : (readV p c f0 (onlyV f0 es ids)) &&& (18446744073709551615 - readV p c f0 es) = 0 := by
    apply Nat.eq_of_testBit_eq
    intro i
    rw [show 18446744073709551615 - readV p c f0 es = 2 ^ 64 - (readV p c f0 es + 1) by omega, Nat.testBit_and, Nat.testBit_two_pow_sub_succ (by omega), readV_bit, readV_bit, onlyV_len, Nat.zero_testBit]
    by_cases h : i < 64
    · cases hb : hasB f0 es.length (p.f + ((i / wideN p.r : Nat) : Int))
      · simp
      · obtain ⟨_, hj⟩ := plc_at hb
        rw [onlyV_at hj]
        split
        · simp only [h, decide_true, Bool.true_and]
          cases (decide (i / wideN p.r < c) && true && (toldV (nthE es (plcK f0 p.f (i / wideN p.r))).ln p.r).testBit (i % wideN p.r)) <;> rfl
        · rw [show (nthE es (plcK f0 p.f (i / wideN p.r))).wipe.ln = Ln.zero from rfl, told_zero]
          simp
    · simp [h]
  rw [h3]
  rfl

/-- Where the law stands: the bank, the boxes of the ids, of the answer, of the bank, of the place. -/
structure OW (w w1 : World) (b g cap Q P : Nat) (f : Int) (es : List En) (p : Pl) (v : Value) (W : World) : Prop where
  bk : BkF w1 b g cap f es W
  i : CB W w.heap.size 34 #[v]
  r : CB W (w.heap.size + 1) 4 #[.bool false]
  q : CB W Q 24 #[.pointer (some ⟨b, 0, none⟩)]
  p : CB W P 37 p.cs
  lw : w.heap.size + 2 ≤ w1.heap.size
  low : Below w.heap.size w w1
theorem OW.later {w w1 W W' : World} {b g cap Q P : Nat} {f : Int} {es : List En} {p : Pl} {v : Value} (h : OW w w1 b g cap Q P f es p v W) (k : Below W.heap.size W W') : OW w w1 b g cap Q P f es p v W' := ⟨h.bk.later k, h.i.below k, h.r.below k, h.q.below k, h.p.below k, h.lw, h.low⟩
theorem OW.base {w w1 W : World} {b g cap Q P : Nat} {f : Int} {es : List En} {p : Pl} {v : Value} (h : OW w w1 b g cap Q P f es p v W) : Below w.heap.size w W := h.low.trans (h.bk.below.mono h.low.size)
theorem OW.c {w w1 W : World} {b g cap Q P : Nat} {f : Int} {es : List En} {r fp pc : Int} {v : Value} (h : OW w w1 b g cap Q P f es ⟨r, fp, pc⟩ v W) :
    W.cell? ⟨w.heap.size, 0, none⟩ = some v ∧ W.cell? ⟨Q, 0, none⟩ = some (.pointer (some ⟨b, 0, none⟩)) ∧ W.cell? ⟨P, 0, none⟩ = some (.int .i64 r) ∧ W.cell? ⟨P, 1, none⟩ = some (.int .i64 fp) ∧ W.cell? ⟨P, 2, none⟩ = some (.int .i64 pc) := ⟨h.i.cell 0, h.q.cell 0, h.p.cell 0, h.p.cell 1, h.p.cell 2⟩
theorem OW.a {w w1 W : World} {b g cap Q P : Nat} {f : Int} {es : List En} {p : Pl} {v : Value} (h : OW w w1 b g cap Q P f es p v W) : W.cell? ⟨w.heap.size + 1, 0, none⟩ = some (.bool false) ∧ W.frozen? ⟨w.heap.size + 1, 0, none⟩ = false := ⟨h.r.cell 0, h.r.frozen 0⟩

/-- And the copy, above them. -/
structure OC (w w1 : World) (b g cap Q P : Nat) (f : Int) (es : List En) (p : Pl) (v : Value) (b2 g2 cap2 : Nat) (q : List En) (W : World) : Prop where
  ow : OW w w1 b g cap Q P f es p v W
  cp : BkAt W b2 g2 cap2 f q
  d : b < g2 ∧ g < g2 ∧ Q < g2 ∧ P < g2 ∧ w.heap.size + 1 < g2
section
variable {w w1 W W' : World} {b g cap Q P : Nat} {f : Int} {es : List En} {p : Pl} {v : Value} {b2 g2 cap2 : Nat} {q q' : List En}
theorem OW.copy (h : OW w w1 b g cap Q P f es p v W) (hg : W.heap.size ≤ g2) (hc : BkAt W' b2 g2 cap2 f q) (k : Below W.heap.size W W') : OC w w1 b g cap Q P f es p v b2 g2 cap2 q W' := by
  have h1 := h.bk.bk.box.lt; have h2 := h.bk.bk.row.lt; have h3 := h.q.lt; have h4 := h.p.lt; have h5 := h.r.lt
  exact ⟨h.later k, hc, by omega, by omega, by omega, by omega, by omega⟩
theorem OC.later (h : OC w w1 b g cap Q P f es p v b2 g2 cap2 q W) (k : Below W.heap.size W W') : OC w w1 b g cap Q P f es p v b2 g2 cap2 q W' := ⟨h.ow.later k, h.cp.below k, h.d⟩
theorem OC.put (h : OC w w1 b g cap Q P f es p v b2 g2 cap2 q W) (k : After W b2 g2 cap2 f q' W') : OC w w1 b g cap Q P f es p v b2 g2 cap2 q' W' := by
  obtain ⟨d1, d2, d3, d4, d5⟩ := h.d
  have h1 := h.ow.bk.lb
  have hk := k.kept
  exact ⟨⟨⟨h.ow.bk.bk.kept hk (fun e => by omega) (fun e => by omega), h.ow.bk.lb, h.ow.bk.lg, h.ow.bk.fit, h.ow.bk.few, h.ow.bk.fine, h.ow.bk.below.trans (hk.toBelow h.ow.bk.below.size (fun i e => by omega))⟩, h.ow.i.keptB hk (fun e => by omega), h.ow.r.keptB hk (fun e => by omega), h.ow.q.keptB hk (fun e => by omega), h.ow.p.keptB hk (fun e => by omega), h.ow.lw, h.ow.low⟩, k.bk, h.d⟩
end

set_option maxRecDepth 100000 in
set_option maxHeartbeats 16000000 in
theorem lawOnly_any (f n : Int) (v : Value) (xs : List Ac11) (a0 : Option Addr) (n0 cap0 : Nat) (ids : List Int) (off : Int) (w : World) (hf0 : 0 ≤ f) (hf1 : f < 256) (hn0 : 0 ≤ n) (hn1 : n < 256) (h : ActsAt w v xs) (hl : xs.length ≤ 9223372036854775806)
    (hv : IntsAt w (.slice a0 n0 cap0) ids) (hr : ∀ x ∈ ids, Int64 x) (hil : n0 ≤ 9223372036854775806) (ho : Int64 off) :
    Calls Try.prog 7 #[.int .u8 f, .int .u8 n, v, .slice a0 n0 cap0, .int .i64 off] w fun e w' => e = .returned (.bool true) ∧ Below w.heap.size w w' := by
  have CP := hi (fun W (hW : Below w.heap.size w W) => played_any f n v xs W hf0 hf1 hn0 hn1 (h.below hW) hl)
  have CD := hi (fun V => distD_any off V ho)
  have hln : ids.length ≤ 9223372036854775806 := by
    obtain ⟨a', cap', e, _⟩ := hv
    injection e with e1 e2 e3
    omega
  have HV := hi (fun W (hW : Below w.heap.size w W) => intsAt_grew hv hW)
  have CO := hi (fun b g cap f0 es W (hB : BkAt W b g cap f0 es) (hF : Fit f0 es.length) (hA : FineAll es) (hW : Below w.heap.size w W) => only_any hB hF hA (HV.out W hW) hr hln)
  have CH := hi (fun x W (hW : Below w.heap.size w W) => ints_has ids x (.slice a0 n0 cap0) W (HV.out W hW) hln)
  have HI0 := hi ((CB.new w 34 #[.slice a0 n0 cap0]).alloc (.cells #[.bool false] 4))
  have HR0 := hi (cb_second (w := w) (o := .cells #[.slice a0 n0 cap0] 34) (cs := #[.bool false]) (t := 4))
  have HB0 := hi (bal_two w (.cells #[.slice a0 n0 cap0] 34) (.cells #[.bool false] 4))
  have HZ0 := hi (show ((w.alloc (.cells #[.slice a0 n0 cap0] 34)).alloc (.cells #[.bool false] 4)).heap.size = w.heap.size + 2 by simp)
  clear h hv hr hln hil ho hl
  refine (callsIn_wide (n := 6)).1 ?_
  refine callsIn_of_wp_marks Try.func7 rfl trivial ?_ rfl
  simp only [Try.ntmps7, List.size_toArray, List.length_cons, List.length_nil, Nat.reduceAdd, Nat.reduceSub, Array.replicate_succ, Array.replicate_zero, List.push_toArray, List.append_toArray, List.nil_append, List.cons_append]
  refine wpIn_wide.2 ?_
  go_wp2_with (first
    | (go_at_call 9; ((with_reducible refine (awake_any _).mono ?_); rintro e' w1 ⟨rfl, hb⟩; have HI1 := hi (HI0.out.below hb); have HR1 := hi (HR0.out.below hb); have HB1 := hi (HB0.out.trans (hb.mono HB0.out.size)); have HZ1 := hi (show w.heap.size + 2 ≤ w1.heap.size by rw [← HZ0.out]; exact hb.size); clear hb))
    | (go_at_call 16; ((with_reducible refine (CP.out _ HB1.out).mono ?_); rintro e' w2 ⟨b, g, cap, f0, es, rfl, hB⟩; have hb3 := bal w2 (.cells #[.pointer (some ⟨b, 0, none⟩)] 24); have HK3 := hi (hB.later hb3); have HB3 := hi ((HB1.out.trans (hB.below.mono HB1.out.size)).trans (hb3.mono (HB1.out.trans (hB.below.mono HB1.out.size)).size)); have HI3 := hi ((HI1.out.below hB.below).below hb3); have HR3 := hi ((HR1.out.below hB.below).below hb3); have HQ3 := hi (CB.new w2 24 #[.pointer (some ⟨b, 0, none⟩)]); have q0 := HQ3.out.cell 0; have q0' : (w2.alloc (.cells #[.pointer (some ⟨b, 0, none⟩)] 24)).cell? ⟨w2.heap.size, 0, none⟩ = some (.pointer (some ⟨b, 0, none⟩)) := q0; clear hB hb3 q0))
    | (go_at_call 13; ((with_reducible refine (CD.out _).mono ?_); rintro e' w4 ⟨⟨r, fp, pc⟩, c, er, rfl, hok, hb⟩; have HOK := hi hok; have hb4 := hb.alloc hb.size (.cells #[.int .i64 r, .int .i64 fp, .int .i64 pc] 37); have HS4 := hi (show OW w w1 b g cap w2.heap.size w4.heap.size f0 es ⟨r, fp, pc⟩ (.slice a0 n0 cap0) (w4.alloc (.cells #[.int .i64 r, .int .i64 fp, .int .i64 pc] 37)) from ⟨HK3.out.later hb4, HI3.out.below hb4, HR3.out.below hb4, HQ3.out.below hb4, CB.new w4 _ _, HZ1.out, HB1.out⟩); obtain ⟨i4, q4, p4, p4', p4''⟩ := HS4.out.c; obtain ⟨r4, z4⟩ := HS4.out.a; clear hok hb hb4))
    | (go_at_call 21; ((with_reducible refine (all_it HC7.out.cp HF7.out).mono ?_); rintro e' w8 ⟨fv, rfl, hit, hb⟩; have HIT := hi hit; have HC8 := hi (HC7.out.later hb); have hs8 := hb.size; clear hit hb))
    | (go_at_call 14; ((with_reducible refine (read_any (p := ⟨r, fp, pc⟩) (c := c) HC6.out.ow.bk.bk HC6.out.ow.bk.fit HC6.out.ow.bk.fine HPK.out).mono ?_); rintro e' w7 ⟨rfl, hb⟩; have HC7 := hi (HC6.out.later hb); clear hb))
    | (go_at_call 20; ((with_reducible refine (CO.out b g cap f0 es _ HS5.out.bk.bk HS5.out.bk.fit HS5.out.bk.fine HS5.out.base).mono ?_); rintro e' w6 ⟨b2, g2, cap2, rfl, hb2, hg2, hbk2, hb⟩; have HC6 := hi (HS5.out.copy hg2 hbk2 hb); have HF7 := hi (show Fit f0 (onlyV f0 es ids).length by rw [onlyV_len]; exact HS5.out.bk.fit); obtain ⟨i6, q6, p6, p6', p6''⟩ := HC6.out.ow.c; clear hb2 hg2 hbk2 hb))
    | (go_at_call 14; ((with_reducible refine (read_any (p := ⟨r, fp, pc⟩) (c := c) HS4.out.bk.bk HS4.out.bk.fit HS4.out.bk.fine (HOK.out (by have h9 := ‹(er != 0) = false›; simpa using h9))).mono ?_); rintro e' w5 ⟨rfl, hb⟩; have HPK := hi (HOK.out (by have h9 := ‹(er != 0) = false›; simpa using h9)); have HS5 := hi (HS4.out.later hb); obtain ⟨i5, q5, p5, p5', p5''⟩ := HS5.out.c; clear hb)))
  · have hc := HS4.out.r.set 0 (.bool true)
    exact ⟨_, results_cellb rfl _ _ (w.heap.size + 1) true rfl hc, rfl, below_set HS4.out.base (by show w.heap.size ≤ w.heap.size + 1; omega) _⟩
  -- RANGE
  obtain ⟨gf, lb, rfl, eg, hh8, hq⟩ := HIT.out
  have hst := hq w8 (Nat.le_refl _) (fun _ _ _ => rfl)
  clear hq HIT CP CD CO HV HI0 HR0 HB0 HZ0 HI1 HR1 HB1 HZ1 HK3 HI3 HR3 HB3 HQ3 HOK HC6 HC7 HS4 HS5
  have HJ0 := hi (show Kept (fun _ => False) w8 w8 from Kept.refl _ _)
  refine (wpIn_wide (n := 6)).1 ?_
  refine range_win (n := 6) (by omega) (gf := gf) (lb := lb) rfl eg
    hst (fun a b => KpX.trans a b) (fun V l o o' h1 h2 h3 h4 => kpx_put (by omega) (by omega)) (Below.refl _ _) (fun _ => rfl)
    (fun pre V => Kept (fun _ => False) w8 V)
    (fun cd pre V => False)
    (AbL.of (m := 2 + 0) (fun s A A' row hs hg hr => hs.grownW hg (fun r e => by have := hr _ e; omega)) rfl)
    (fun _ _ _ _ _ hs _ _ => hs)
    HJ0.out
    (fun x a' V => ∃ Bx, w8.heap.size + 2 + 0 ≤ Bx ∧ CB V Bx 54 x.2.ca ∧ a' = { tmps := #[.int .u8 f, .int .u8 n, v, .slice a0 n0 cap0, .int .i64 off, undef, undef, undef, .pointer (some ⟨w.heap.size, 0, none⟩), undef, .pointer (some ⟨w.heap.size + 1, 0, none⟩), .bool true, .pointer (some ⟨w2.heap.size, 0, none⟩), .pointer (some ⟨w4.heap.size, 0, none⟩), .int .i64 er, .int .u64 (readV ⟨r, fp, pc⟩ c f0 es : Nat), .pointer (some ⟨b2, 0, none⟩), .int .i64 x.1, .pointer (some ⟨Bx, 0, none⟩), undef, undef, undef, undef, .bool true, .bool true, .bool false, .int .u8 f, .int .u8 n, v, .pointer (some ⟨b, 0, none⟩), .bool true, .bool false, .bool false, .pointer (some ⟨b, 0, none⟩), .bool false, .bool false, .tuple #[(⟨r, fp, pc⟩ : Pl).v, .int .i64 er], .int .i64 off, .tuple #[(⟨r, fp, pc⟩ : Pl).v, .int .i64 er], (⟨r, fp, pc⟩ : Pl).v, .int .i64 er, .int .i64 er, .bool false, .pointer (some ⟨b, 0, none⟩), .agg #[.int .i64 r, .int .i64 fp, .int .i64 pc], .int .u64 (readV ⟨r, fp, pc⟩ c f0 es : Nat), .pointer (some ⟨b, 0, none⟩), .slice a0 n0 cap0, .pointer (some ⟨b2, 0, none⟩), .pointer (some ⟨b2, 0, none⟩), .bool false, .bool false, .pointer (some ⟨b, 0, none⟩), .agg #[.int .i64 r, .int .i64 fp, .int .i64 pc], .int .u64 (readV ⟨r, fp, pc⟩ c f0 es : Nat), .int .u64 (readV ⟨r, fp, pc⟩ c f0 es : Nat), .bool false, .bool false, .pointer (some ⟨b2, 0, none⟩), .func (.func gf) #[] lb, .int .i64 x.1, x.2.v, undef, undef, undef, undef, undef, undef, undef, undef, undef, undef, undef, undef, undef, undef, undef, undef, undef, undef, undef, undef, undef, undef, undef, undef, undef, undef, undef, undef, undef, undef, undef, undef, undef, undef, undef, undef, undef, undef, undef, undef, undef, undef, undef, undef, undef, undef, undef, undef, undef, undef, undef, undef], defers := [] })
    (fun x a' => AbL.of (m := 2 + 0) (fun s A A' row hs hg hr => by obtain ⟨Bx, e1, e2, e3⟩ := hs; exact ⟨Bx, e1, e2.kept hg (fun e => by have := hr _ e.symm; omega), e3⟩) rfl)
    ?assign ?body ?done ?stop
  case assign =>
    rintro l' pre ⟨id, ⟨⟨⟨e, lb', q, a⟩, en, gr, p⟩, s⟩⟩ V K h hsz hK
    gi_wp2
    exact hK _ _ (KW.of_below (bal V _)) (KpX.of_below (bal V _) (by omega) hsz) (h.below (bal V _)) ⟨V.heap.size, hsz, CB.new _ _ _, rfl⟩
  case body =>
    rintro l' pre ⟨id, e0⟩ a' V hsz hJ ⟨Bx, hBx, hbx, rfl⟩ hpx
    obtain ⟨hm, hx9⟩ := items_next hpx
    rw [onlyV_len] at hm
    obtain ⟨m, hmm⟩ : ∃ m, pre.length = m := ⟨_, rfl⟩
    rw [hmm] at hm hx9
    obtain ⟨rfl, rfl⟩ := Prod.mk.inj hx9
    have hat := onlyV_at (f := f0) (ids := ids) hm
    have HJ := hi hJ
    have HCV := hi (HC8.out.later hJ.none)
    have HG := hi (get_yes HCV.out.ow.bk.bk HCV.out.ow.bk.fit (nthE_at hm))
    have CHV := hi (fun x W (hW : Below w.heap.size w W) => CH.out x W hW)
    obtain ⟨i9, q9, p9, p9', p9''⟩ := HCV.out.ow.c
    rw [hat] at hbx ⊢
    obtain ⟨y, hy⟩ : ∃ y, nthE es m = y := ⟨_, rfl⟩
    rw [hy] at hbx HG ⊢
    clear hat hx9 hpx hmm hy hJ hm
    obtain ⟨⟨⟨e, lb', q, a⟩, en, gr, p⟩, s⟩ := y
    dsimp only [En.v, Ln.v] at HG
    have hEQ := eqLn_self e lb' q a en gr p
    have hEZ := eqLn_self false false false false false 0 0
    clear HC8 HJ0 hst
    cases hin : isIn ids (f0 + (m : Int))
    · rw [hin] at hbx
      simp only [Bool.false_eq_true, if_false] at hbx ⊢
      dsimp only [En.wipe, En.ca, En.v, Ln.zero, St.zero] at hbx ⊢
      have HBX := hi hbx
      obtain ⟨d0, d1, d2, d3, d4, d5, d6, d7⟩ := CB.ent (x := ⟨Ln.zero, s⟩) hbx
      dsimp only [Ln.zero, St.zero] at d0 d1 d2 d3 d4 d5 d6 d7
      clear hbx
      gi_wp2_with (first
        | (refine ⟨trivial, ?_⟩; gi_at_call 19; ((with_reducible refine (CallsIn.inRound l' (callsIn_wide.2 HG.out)).mono ?_); rintro e' V1 ⟨rfl, hB⟩; have hV1 := hB.size; have hB2 := hB.alloc hB.size (.cells #[.bool e, .bool lb', .bool q, .bool a, .bool en, .int .i64 gr, .int .i64 p, .string s] 54); have HCN := hi (HCV.out.later hB2); have HBN := hi hB2; have HX1 := hi (HBX.out.below hB2); obtain ⟨e0, e1, e2, e3, e4, e5, e6, e7⟩ := CB.ent (x := ⟨⟨⟨e, lb', q, a⟩, en, gr, p⟩, s⟩) (CB.new V1 54 #[.bool e, .bool lb', .bool q, .bool a, .bool en, .int .i64 gr, .int .i64 p, .string s]); dsimp only at e0 e1 e2 e3 e4 e5 e6 e7; obtain ⟨i9, q9, p9, p9', p9''⟩ := HCN.out.ow.c; obtain ⟨d0, d1, d2, d3, d4, d5, d6, d7⟩ := CB.ent (x := ⟨Ln.zero, s⟩) HX1.out; dsimp only [Ln.zero, St.zero] at d0 d1 d2 d3 d4 d5 d6 d7; clear hB hB2))
        | (refine ⟨trivial, ?_⟩; gi_at_call 22; ((with_reducible refine (CallsIn.inRound l' (callsIn_wide.2 (CH.out (f0 + (m : Int)) _ HCN.out.ow.base))).mono ?_); rintro e' V3 ⟨rfl, rfl⟩))
        | gi_in)
      refine ⟨KW.of_below HBN.out, KpX.of_below HBN.out (by omega) (by omega), ?_⟩
      exact HJ.out.below HBN.out
    · rw [hin] at hbx
      simp only [if_true] at hbx ⊢
      dsimp only [En.ca, En.v] at hbx ⊢
      have HBX := hi hbx
      obtain ⟨d0, d1, d2, d3, d4, d5, d6, d7⟩ := CB.ent (x := ⟨⟨⟨e, lb', q, a⟩, en, gr, p⟩, s⟩) hbx
      dsimp only [Ln.zero, St.zero] at d0 d1 d2 d3 d4 d5 d6 d7
      clear hbx
      gi_wp2_with (first
        | (refine ⟨trivial, ?_⟩; gi_at_call 19; ((with_reducible refine (CallsIn.inRound l' (callsIn_wide.2 HG.out)).mono ?_); rintro e' V1 ⟨rfl, hB⟩; have hV1 := hB.size; have hB2 := hB.alloc hB.size (.cells #[.bool e, .bool lb', .bool q, .bool a, .bool en, .int .i64 gr, .int .i64 p, .string s] 54); have HCN := hi (HCV.out.later hB2); have HBN := hi hB2; have HX1 := hi (HBX.out.below hB2); obtain ⟨e0, e1, e2, e3, e4, e5, e6, e7⟩ := CB.ent (x := ⟨⟨⟨e, lb', q, a⟩, en, gr, p⟩, s⟩) (CB.new V1 54 #[.bool e, .bool lb', .bool q, .bool a, .bool en, .int .i64 gr, .int .i64 p, .string s]); dsimp only at e0 e1 e2 e3 e4 e5 e6 e7; obtain ⟨i9, q9, p9, p9', p9''⟩ := HCN.out.ow.c; obtain ⟨d0, d1, d2, d3, d4, d5, d6, d7⟩ := CB.ent (x := ⟨⟨⟨e, lb', q, a⟩, en, gr, p⟩, s⟩) HX1.out; dsimp only [Ln.zero, St.zero] at d0 d1 d2 d3 d4 d5 d6 d7; clear hB hB2))
        | (refine ⟨trivial, ?_⟩; gi_at_call 22; ((with_reducible refine (CallsIn.inRound l' (callsIn_wide.2 (CH.out (f0 + (m : Int)) _ HCN.out.ow.base))).mono ?_); rintro e' V3 ⟨rfl, rfl⟩))
        | gi_in)
      refine ⟨KW.of_below HBN.out, KpX.of_below HBN.out (by omega) (by omega), ?_⟩
      exact HJ.out.below HBN.out
  case done =>
    rintro ys V rfl hJ hK hsz4
    have hg8 := HC8.out.cp.row.lt
    have hr8 := HC8.out.ow.r.lt
    have HCV := hi (HC8.out.later hJ.none)
    have HFN := hi (onlyV_fine (f := f0) (ids := ids) HC8.out.ow.bk.fine)
    have hz := only_read ⟨r, fp, pc⟩ c f0 es ids
    have hl := onlyV_len f0 es ids
    have HF8 := hi (show Fit f0 ((onlyV f0 es ids).map En.wipe).length by rw [List.length_map, onlyV_len]; exact HC8.out.ow.bk.fit)
    have HKV := hi (show V.heap[w8.heap.size]? = some (.deferred (some [])) from hK)
    obtain ⟨i9, q9, p9, p9', p9''⟩ := HCV.out.ow.c
    clear hJ hK hst HJ0 hl
    dsimp only
    go_wp2_with (first
      | (go_at_call 14; ((with_reducible refine (read_any (p := ⟨r, fp, pc⟩) (c := c) HC11.out.ow.bk.bk HC11.out.ow.bk.fit HC11.out.ow.bk.fine HPK.out).mono ?_); rintro e' w12 ⟨rfl, hb⟩; have HC12 := hi (HC11.out.later hb); obtain ⟨r9, z9⟩ := HC12.out.ow.a; have HKZ := hi ((hb.block w8.heap.size (by have := HZ11.out; omega)).trans HKY.out); clear hb))
      | (go_at_call 23; ((with_reducible refine (reset_any HC10.out.cp HF7.out).mono ?_); rintro e' w11 ⟨rfl, hA⟩; have HC11 := hi (HC10.out.put hA); have HKY := hi ((hA.kept.block w8.heap.size (by have := HZ10.out; omega) (fun e => by omega)).trans HKX.out); have HZ11 := hi (show w8.heap.size + 2 ≤ w11.heap.size from Nat.le_trans HZ10.out hA.kept.size); obtain ⟨i9, q9, p9, p9', p9''⟩ := HC11.out.ow.c; clear hA))
      | (go_at_call 14; ((with_reducible refine (read_any (p := ⟨r, fp, pc⟩) (c := c) HCV.out.cp HF7.out HFN.out HPK.out).mono ?_); rintro e' w10 ⟨rfl, hb⟩; have HC10 := hi (HCV.out.later hb); have HKX := hi ((hb.block w8.heap.size (by omega)).trans HKV.out); have HZ10 := hi (show w8.heap.size + 2 ≤ w10.heap.size from Nat.le_trans hsz4 hb.size); clear hb)))
    have hc := HC12.out.ow.r.set 0 (.bool true)
    have hkk : (w12.setCell ⟨w.heap.size + 1, 0, none⟩ (.bool true)).heap[w8.heap.size]? = some (.deferred (some [])) := (Below.heap_setCell w12 ⟨w.heap.size + 1, 0, none⟩ _ _ (show w8.heap.size ≠ w.heap.size + 1 by omega)).trans HKZ.out
    refine ⟨by simp, .inl ⟨_, _, rfl, run_takeDeferred hkk, ?_⟩⟩
    have hb9 : Below w.heap.size w (w12.setCell ⟨w.heap.size + 1, 0, none⟩ (.bool true)) := below_set HC12.out.ow.base (by show w.heap.size ≤ w.heap.size + 1; omega) _
    exact ⟨_, results_cellb rfl _ _ (w.heap.size + 1) true rfl (hc.heap (World.putObj_heap_other (by omega))), rfl, below_put hb9 _ (by have := HC12.out.ow.base.size; show _ ≤ (w12.setCell ⟨w.heap.size + 1, 0, none⟩ (.bool true)).heap.size; simpa using this) (by omega)⟩
  case stop =>
    rintro c pre V _ h _ _
    exact h.elim

end Go.Proofs.Ytjgamfonpagkbaa
