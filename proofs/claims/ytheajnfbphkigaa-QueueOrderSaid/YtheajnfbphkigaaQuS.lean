/-
  QueueLoop.
-/
import Derived.Test.YtheajnfbphkigaaQuN
namespace Go.Proofs.Ytheajnfbphkigaa
open Go.ChangeShapes Go.WideShapes Go.ChangeAt Go.RowKit
set_option linter.unusedVariables false
set_option linter.unusedSimpArgs false
attribute [local go_sem high] eql_cm neq_cm guard_cm
attribute [local go_sem] Oper.semAt_some

theorem Since.from_ {w w1 : World} {p g cap : Nat} {bs : List Nat} {W : World} (h : Since w1 p g cap bs W) (k : Below w.heap.size w w1) : Since w p g cap bs W :=
  ⟨h.mem, Nat.le_trans k.size h.p, Nat.le_trans k.size h.g, k.trans (h.below.mono k.size)⟩
theorem FrI.qm_ {w : World} {p g b : Nat} {bs bs' : List Nat} {q q' : Qu} {W W' : World} (s : FrI w p g b bs q W) (k : QM W p g 700 b bs' q' W') (hb : w.heap.size ≤ b) : FrI w p g b bs' q' W' :=
  ⟨⟨k.m, s.m.p, s.m.g, s.m.below.trans (k.kept.toBelow s.m.below.size (fun y e => by have := s.m.g; omega))⟩, k.q⟩
theorem results_b {fn : Func} {c : Tmp} (h : fn.results = #[.cell c 4]) (tmps : Array Value) (w : World) (b : Nat) (v : Value) (hp : tmps.getD c undef = .pointer (some ⟨b, 0, none⟩)) (hb : CB w b 4 #[v]) :
    (results fn tmps).run Try.prog w = .ok v w := by
  have hp' : tmps[c]?.getD undef = .pointer (some ⟨b, 0, none⟩) := by simpa using hp
  have c0 := hb.cell 0
  simp at c0
  simp [results, h, go_sem, hp', c0]
theorem wrongN_zero : ∀ l : List Cm, wrongN (l.map fun c => (c, (0 : Int))) = 0
  | [] => rfl
  | c :: l => by have h := wrongN_zero l; simp [wrongN] at h ⊢
/-- The three boxes that the law lays first, and what waits behind them. -/
structure LpA (w : World) (sv : Value) (most : Nat) (a : Option Addr) (B off : Nat) (cs : List Cm) (W : World) : Prop where
  c : CB W w.heap.size 50 #[sv]
  o : CB W (w.heap.size + 1) 5 #[.int .u8 most]
  r : CB W (w.heap.size + 2) 4 #[.bool false]
  s : CmdsAt W a B off cs
  lt : cs ≠ [] → B < w.heap.size
theorem LpA.later {w : World} {sv : Value} {most : Nat} {a : Option Addr} {B off : Nat} {cs : List Cm} {W W' : World} (h : LpA w sv most a B off cs W) (k : Below W.heap.size W W') : LpA w sv most a B off cs W' := ⟨h.c.below k, h.o.below k, h.r.below k, h.s.below k, h.lt⟩
theorem LpA.kept {w : World} {sv : Value} {most : Nat} {a : Option Addr} {B off : Nat} {cs : List Cm} {W W' : World} {bs : Nat → Prop} (h : LpA w sv most a B off cs W) (k : Kept bs W W') (hn : ∀ i, bs i → w.heap.size + 3 ≤ i) : LpA w sv most a B off cs W' :=
  ⟨h.c.keptB k (fun e => by have := hn _ e; omega), h.o.keptB k (fun e => by have := hn _ e; omega), h.r.keptB k (fun e => by have := hn _ e; omega), h.s.kept k (fun hne e => by have := hn _ e; have := h.lt hne; omega), h.lt⟩
theorem LpA.three {w : World} {sv : Value} {most : Nat} {a : Option Addr} {B off : Nat} {cs : List Cm} {W : World} (h : LpA w sv most a B off cs W) : W.cell? ⟨w.heap.size, 0, none⟩ = some sv ∧ W.cell? ⟨w.heap.size + 1, 0, none⟩ = some (.int .u8 most) ∧ W.cell? ⟨w.heap.size + 2, 0, none⟩ = some (.bool false) := ⟨h.c.cell 0, h.o.cell 0, h.r.cell 0⟩

theorem kept_grown_ {A A' : World} {row : Option Nat} (hg : A.grownBy A' row) : Kept (fun i => row = some i) A A' :=
  ⟨hg.os, hg.tape, hg.output, hg.size, fun i hi' hn => hg.block i hi' (fun e => hn e.symm)⟩
/-- Ahead of the loop and in it. -/
structure LpI (w : World) (p g b nb : Nat) (ln : List Nat) (q : Qu) (sv : Value) (most : Nat) (a : Option Addr) (B off : Nat) (cs : List Cm) (n k : Nat) (W : World) : Prop where
  f : FrI w p g b ln q W
  a : LpA w sv most a B off cs W
  n : CB W nb 3 #[.int .i64 n]
  k : CB W (nb + 1) 3 #[.int .i64 k]
theorem LpI.later {w : World} {p g b nb : Nat} {ln : List Nat} {q : Qu} {sv : Value} {most : Nat} {a : Option Addr} {B off : Nat} {cs : List Cm} {n k : Nat} {W W' : World} (h : LpI w p g b nb ln q sv most a B off cs n k W) (z : Below W.heap.size W W') : LpI w p g b nb ln q sv most a B off cs n k W' := ⟨h.f.later z, h.a.later z, h.n.below z, h.k.below z⟩
theorem LpI.kept {w : World} {p g b nb B0 : Nat} {ln : List Nat} {q : Qu} {sv : Value} {most : Nat} {a : Option Addr} {B off : Nat} {cs : List Cm} {n k : Nat} {W W' : World} {bs : Nat → Prop} (h : LpI w p g b nb ln q sv most a B off cs n k W) (z : Kept bs W W') (hp : p < B0) (hg : g < B0) (hb : b < B0) (hnb : nb + 1 < B0) (hw : w.heap.size + 3 ≤ B0) (hn : ∀ i, bs i → B0 ≤ i) : LpI w p g b nb ln q sv most a B off cs n k W' :=
  ⟨⟨⟨h.f.m.mem.kept z (fun e => by have := hn _ e; omega) (fun e => by have := hn _ e; omega), h.f.m.p, h.f.m.g, h.f.m.below.trans (z.toBelow h.f.m.below.size (fun i e => by have := hn _ e; omega))⟩, h.f.q.keptB z (fun e => by have := hn _ e; omega)⟩,
    h.a.kept z (fun i e => by have := hn _ e; omega), h.n.keptB z (fun e => by have := hn _ e; omega), h.k.keptB z (fun e => by have := hn _ e; omega)⟩
theorem LpI.inc {w : World} {p g b nb : Nat} {ln : List Nat} {q : Qu} {sv : Value} {most : Nat} {a : Option Addr} {B off : Nat} {cs : List Cm} {n k : Nat} {W : World} (h : LpI w p g b nb ln q sv most a B off cs n k W) (hp : p < nb) (hg : g < nb) (hb : b < nb) (hw : w.heap.size + 3 ≤ nb) : LpI w p g b nb ln q sv most a B off cs n (k + 1) (W.setCell ⟨nb + 1, 0, none⟩ (.int .i64 ((k : Int) + 1))) := by
  have z := kept_setCell W (nb + 1) 0 (.int .i64 ((k : Int) + 1))
  exact ⟨⟨⟨h.f.m.mem.kept z (by omega) (by omega), h.f.m.p, h.f.m.g, h.f.m.below.trans (z.toBelow h.f.m.below.size (fun i e => by omega))⟩, h.f.q.keptB z (by omega)⟩,
    h.a.kept z (fun i e => by omega), h.n.keptB z (by omega), by have := h.k.set 0 (.int .i64 ((k : Int) + 1)); simpa using this⟩
theorem lp_abl {w : World} {p g b nb B0 k0 : Nat} {ln : List Nat} {q : Qu} {sv : Value} {most : Nat} {a : Option Addr} {B off : Nat} {cs : List Cm} {n : Nat} (hp : p < B0) (hg : g < B0) (hb : b < B0) (hnb : nb + 1 < B0) (hw : w.heap.size + 3 ≤ B0) : AbL B0 k0 (fun (pre : List (Cm × Int)) V => LpI w p g b nb ln q sv most a B off cs n pre.length V) := fun s A A' row hs hgr hr =>
  hs.kept (kept_grown_ hgr) hp hg hb hnb hw (fun i e => by rcases hr i e with ⟨h1, h2, _⟩ | ⟨h1, h2⟩ <;> omega)
set_option pp.deepTerms true in
set_option pp.maxSteps 200000 in
set_option maxRecDepth 100000 in
set_option maxHeartbeats 8000000 in
theorem loop_law (e : Nat) (he : e < 256) (most : Nat) (hmo : most < 256) (a : Option Addr) (B off cp : Nat) (cs : List Cm) (w : World) (hC : CmdsAt w a B off cs) : Calls Try.prog 8 #[.int .u8 e, .slice a cs.length cp, .int .u8 most] w fun e w' => e = .returned (.bool true) ∧ Below w.heap.size w w' := by
  have HA := hi (fun W => awake_any W)
  have HFR := hi (fun W => fresh_any e he W)
  have HFL := hi (fun p g b W hM hQ hc hap => fill_any p g 700 (List.replicate 700 0) b (frQ e) a B off cp cs W hM hQ (frQ_fair e) hc hap)
  have hF := Lies.fill cs (frQ_lies e).1
  obtain ⟨T, hT⟩ : ∃ T, fillS cs (List.replicate 700 0) (frQ e) = T := ⟨_, rfl⟩
  rw [hT] at HFL hF
  clear hT
  obtain ⟨n, x, qn, ln⟩ := T
  dsimp only at HFL hF
  have hE : eachL ln qn = (cs.take n).map fun c => (c, (0 : Int)) := by rw [hF.each, (frQ_lies e).2.1]; rfl
  have hle := hF.le
  have hfa : qn.Fair := by
    have h1 := hF.lies.fit
    have h2 := hF.len
    have h3 := hF.lies.a0
    rw [List.length_replicate] at h2
    obtain ⟨k1, k2⟩ := okQ_out hF.lies.ok
    obtain ⟨_, r1, r2, _⟩ := mayB_out k1
    obtain ⟨_, v1, v2, _⟩ := mayB_out k2
    refine ⟨?_, ?_, ?_, ?_⟩ <;> simp only [i64B] <;> omega
  have HEQ := hi (fun p V => eachq_any qn p V)
  have HWR := hi (fun p g W hM => wrong_any p g 700 ln qn W hM hfa)
  have hwr : wrongN (eachL ln qn) = 0 := by rw [hE]; exact wrongN_zero _
  rw [hwr] at HWR
  have hlen := hC.len
  have HC := hi hC
  have hS : frS e = 32 * (1 + (e : Int) % 20) := by simp [frS]
  unfold frQ at HFR HFL
  dsimp only [Qu.v] at HFR HFL
  rw [hS] at HFR HFL
  clear hS hF hwr hC
  have H0 := hi (show LpA w (.slice a cs.length cp) most a B off cs (((w.alloc (.cells #[.slice a cs.length cp] 50)).alloc (.cells #[.int .u8 most] 5)).alloc (.cells #[.bool false] 4)) ∧ Below w.heap.size w (((w.alloc (.cells #[.slice a cs.length cp] 50)).alloc (.cells #[.int .u8 most] 5)).alloc (.cells #[.bool false] 4)) from
    ⟨⟨((CB.new w _ _).alloc _).alloc _, cb_second.alloc _, cb_third, HC.out.below (bal_three w _ _ _), HC.out.lt⟩, bal_three w _ _ _⟩)
  obtain ⟨q1, q2, q3, q4⟩ := qn
  dsimp only [Qu.v] at HEQ HWR
  refine (callsIn_wide (n := 6)).1 ?_
  refine callsIn_of_wp_marks Try.func8 rfl trivial ?_ rfl
  simp only [Try.ntmps8, List.size_toArray, List.length_cons, List.length_nil, Nat.reduceAdd, Nat.reduceSub, Array.replicate_succ, Array.replicate_zero, List.push_toArray, List.append_toArray, List.nil_append, List.cons_append]
  refine wpIn_wide.2 ?_
  go_wp2_with (first
    | (go_at_call 9; ((with_reducible refine (HA.out _).mono ?_); rintro e' w1 ⟨rfl, hb1⟩; have H1 := hi (And.intro (H0.out.1.later hb1) (H0.out.2.trans (hb1.mono H0.out.2.size))); clear hb1))
    | (go_at_call 17; ((with_reducible refine (HFR.out _).mono ?_); rintro e' w2 ⟨p, g, rfl, hs2⟩; have H2 := hi (And.intro (show FrI w p g w2.heap.size (List.replicate 700 0) ⟨16, 32 * (1 + (e : Int) % 20), 0, 0⟩ (w2.alloc (.cells #[.int .i64 16, .int .i64 (32 * (1 + (e : Int) % 20)), .int .i64 0, .int .i64 0] 25)) from ⟨(hs2.from_ H1.out.2).later (bal _ _), CB.new w2 _ _⟩) ((H1.out.1.later hs2.below).later (bal w2 (.cells #[.int .i64 16, .int .i64 (32 * (1 + (e : Int) % 20)), .int .i64 0, .int .i64 0] 25)))); have z2 := And.intro (Nat.le_trans (Nat.succ_le_of_lt H1.out.1.r.lt) hs2.below.size) (And.intro (Nat.le_trans (Nat.succ_le_of_lt H1.out.1.r.lt) hs2.p) (Nat.le_trans (Nat.succ_le_of_lt H1.out.1.r.lt) hs2.g)); clear hs2; obtain ⟨a0, a1, a2, a3⟩ := CB.four H2.out.1.q; obtain ⟨c0, c1, c2⟩ := H2.out.2.three; have qf := (CB.new w2 25 #[.int .i64 0, .int .i64 0, .int .i64 0, .int .i64 0]).frozen))
    | (go_at_call 22; ((with_reducible refine (HFL.out p g _ _ H2.out.1.m.mem H2.out.1.q H2.out.2.s (fun hne => by have := HC.out.lt hne; omega)).mono ?_); rintro e' w4 ⟨rfl, hq4⟩; have H4 := hi (And.intro (H2.out.1.qm_ hq4 (by omega)) (H2.out.2.kept hq4.kept (fun i h => by rcases h with rfl | rfl <;> omega))); clear hq4 a0 a1 a2 a3 c0 c1 c2; have H5 := hi (show LpI w p g w2.heap.size w4.heap.size ln ⟨q1, q2, q3, q4⟩ (.slice a cs.length cp) most a B off cs n 0 ((w4.alloc (.cells #[.int .i64 n] 3)).alloc (.cells #[.int .i64 0] 3)) from ⟨(H4.out.1.later (bal _ _)).later (bal _ _), (H4.out.2.later (bal _ _)).later (bal _ _), (CB.new w4 _ _).alloc _, cb_second⟩); obtain ⟨a0, a1, a2, a3⟩ := CB.four H5.out.f.q))
    | (go_at_call 21; ((with_reducible refine (HEQ.out p _).mono ?_); rintro e' w5 ⟨rfl, rfl⟩)))
  obtain ⟨V0, hV0⟩ : ∃ V0, ((((w4.alloc (.cells #[.int .i64 n] 3)).alloc (.cells #[.int .i64 0] 3)).alloc (.cells #[.int .i64 q1, .int .i64 q2, .int .i64 q3, .int .i64 q4] 25)).alloc (.cells #[.pointer (some ⟨p, 0, none⟩)] 28)) = V0 := ⟨_, rfl⟩
  have hz0 : V0.heap.size = w4.heap.size + 4 := by rw [← hV0]; simp
  have z4 := And.intro H4.out.1.m.mem.plt (And.intro H4.out.1.m.mem.bytes.lt H4.out.1.q.lt)
  have H6 := hi (show LpI w p g w2.heap.size w4.heap.size ln ⟨q1, q2, q3, q4⟩ (.slice a cs.length cp) most a B off cs n 0 V0 by rw [← hV0]; exact (H5.out.later (bal _ _)).later (bal _ _))
  have hst := eachq_stops (w4.heap.size + 2) p g 700 ln ⟨q1, q2, q3, q4⟩ hfa V0 (by omega) (by rw [← hV0]; have := (CB.new ((w4.alloc (.cells #[.int .i64 n] 3)).alloc (.cells #[.int .i64 0] 3)) 25 #[.int .i64 q1, .int .i64 q2, .int .i64 q3, .int .i64 q4]).alloc (.cells #[.pointer (some ⟨p, 0, none⟩)] 28); simp only [World.size_alloc] at this; exact this) (by rw [← hV0]; have := CB.new (((w4.alloc (.cells #[.int .i64 n] 3)).alloc (.cells #[.int .i64 0] 3)).alloc (.cells #[.int .i64 q1, .int .i64 q2, .int .i64 q3, .int .i64 q4] 25)) 28 #[.pointer (some ⟨p, 0, none⟩)]; simp only [World.size_alloc] at this; exact this) H6.out.f.m.mem
  rw [hE] at hst
  have HV0 := hi hV0
  clear hV0 a0 a1 a2 a3
  change Code.wp _ _ _ _ ((((w4.alloc (.cells #[.int .i64 n] 3)).alloc (.cells #[.int .i64 0] 3)).alloc (.cells #[.int .i64 q1, .int .i64 q2, .int .i64 q3, .int .i64 q4] 25)).alloc (.cells #[.pointer (some ⟨p, 0, none⟩)] 28))
  rw [HV0.out]
  refine (wpIn_wide (n := 6)).1 ?_
  have hw3 : w.heap.size + 3 ≤ w2.heap.size := z2.1
  have hEl : ((cs.take n).map fun c => (c, (0 : Int))).length = n := by simp; omega
  refine range_win (n := 6) (by omega) (gf := 45) (lb := #[.pointer (some ⟨w4.heap.size + 1 + 1, 0, none⟩), .pointer (some ⟨w4.heap.size + 1 + 1 + 1, 0, none⟩)]) rfl (enters_of Try.func45 (by kernel_rfl) rfl)
    hst (fun a b => KpQ.trans a b) (fun W l o o' h1 h2 h3 h4 => ⟨by simp, fun i hi => World.putObj_heap_other (by omega)⟩) (Below.refl _ _) (fun _ => rfl)
    (fun pre V => LpI w p g w2.heap.size w4.heap.size ln ⟨q1, q2, q3, q4⟩ (.slice a cs.length cp) most a B off cs n pre.length V ∧ pre.length ≤ most)
    (fun cd pre V => cd = Code.exit 0 ∧ most ≤ n ∧ LpI w p g w2.heap.size w4.heap.size ln ⟨q1, q2, q3, q4⟩ (.slice a cs.length cp) most a B off cs n most V)
    (AbL.and (lp_abl (by omega) (by omega) (by omega) (by omega) (by omega)) (AbL.pure _ _ _))
    (fun cd => fun s A A' row hs hg hr => ⟨hs.1, hs.2.1, hs.2.2.kept (kept_grown_ hg) (by omega) (by omega) (by omega) (by omega) (by omega) (B0 := V0.heap.size) (fun i e => by rcases hr i e with ⟨h1, h2, _⟩ | ⟨h1, h2⟩ <;> omega)⟩)
    ⟨H6.out, Nat.zero_le _⟩
    (fun x' a' V => (∃ cb, V0.heap.size + 2 + 8 ≤ cb ∧ CB V cb 36 (Cm.cs x'.1) ∧ ∃ (d1 d2 d3 d4 d5 d6 d7 d8 : Int) (d9 : Bool), a' = { tmps := #[.int .u8 e, .slice a cs.length cp, .int .u8 most, undef, .pointer (some ⟨w.heap.size, 0, none⟩), .pointer (some ⟨w.heap.size + 1, 0, none⟩), .pointer (some ⟨w.heap.size + 1 + 1, 0, none⟩), .bool true, .pointer (some ⟨w2.heap.size, 0, none⟩), .pointer (some ⟨p, 0, none⟩), .pointer (some ⟨w4.heap.size, 0, none⟩), .int .i64 x, .pointer (some ⟨w4.heap.size + 1, 0, none⟩), .pointer (some ⟨cb, 0, none⟩), .int .i64 x'.2, .bool true, .bool true, .bool false, .tuple #[.agg #[.int .i64 16, .int .i64 (32 * (1 + (e : Int) % 20)), .int .i64 0, .int .i64 0], .pointer (some ⟨p, 0, none⟩)], .int .u8 e, .tuple #[.agg #[.int .i64 16, .int .i64 (32 * (1 + (e : Int) % 20)), .int .i64 0, .int .i64 0], .pointer (some ⟨p, 0, none⟩)], .agg #[.int .i64 16, .int .i64 (32 * (1 + (e : Int) % 20)), .int .i64 0, .int .i64 0], .pointer (some ⟨p, 0, none⟩), .bool true, .bool false, .bool false, .pointer (some ⟨p, 0, none⟩), .bool false, .bool false, .tuple #[.int .i64 n, .int .i64 x], .pointer (some ⟨p, 0, none⟩), .slice a cs.length cp, .tuple #[.int .i64 n, .int .i64 x], .int .i64 n, .int .i64 x, .agg #[.int .i64 q1, .int .i64 q2, .int .i64 q3, .int .i64 q4], .pointer (some ⟨p, 0, none⟩), .func (.func 45) #[] #[.pointer (some ⟨w4.heap.size + 1 + 1, 0, none⟩), .pointer (some ⟨w4.heap.size + 1 + 1 + 1, 0, none⟩)], .agg #[.int .i64 d1, .int .i64 d2, .int .i64 d3, .int .i64 d4, .int .i64 d5, .int .i64 d6, .int .i64 d7, .int .i64 d8, .bool d9], .int .i64 x'.2, undef, undef, undef, undef, undef, undef, undef, undef, undef, undef, undef, undef, undef, undef, undef, undef, undef, undef, undef, undef, undef, undef, undef, undef, undef, undef, undef, undef, undef, undef, undef, undef, undef], defers := [] }))
    (fun x' a' s A A' row hs hg hr => by
      obtain ⟨cb, hcb, hc, hd⟩ := hs
      exact ⟨cb, hcb, hc.kept hg (fun e => by rcases hr cb e.symm with ⟨h1, h2, _⟩ | ⟨h1, h2⟩ <;> omega), hd⟩)
    ?assign ?body ?done ?stop
  case assign =>
    rintro l' pre ⟨⟨d1, d2, d3, d4, d5, d6, d7, d8, d9⟩, le⟩ V K ⟨h, hkm⟩ hsz hK
    rw [zip_two]
    have qf := (CB.new V 36 #[.int .i64 0, .int .i64 0, .int .i64 0, .int .i64 0, .int .i64 0, .int .i64 0, .int .i64 0, .int .i64 0, .bool false]).frozen
    have HH := hi h
    clear h
    dsimp only [Cm.v]
    gi_wp2
    exact hK _ _ (KW.of_below (bal V _)) (KpQ.of_below (bal V _) (by omega) (by omega) (by omega) (by omega)) ⟨HH.out.later (bal V _), hkm⟩ ⟨V.heap.size, by omega, CB.new V _ _, d1, d2, d3, d4, d5, d6, d7, d8, d9, rfl⟩
  case body =>
    rintro l' pre ⟨c, le⟩ a' V hsz ⟨hW, hkm⟩ ⟨cb, hcb, hcc, d1, d2, d3, d4, d5, d6, d7, d8, d9, rfl⟩ hpx
    have hln : pre.length + 1 ≤ n := by have h := hpx.length_le; rw [hEl] at h; simpa using h
    have hget : cs[pre.length]? = some c ∧ le = 0 := by
      obtain ⟨r, hr⟩ := hpx
      have h : ((cs.take n).map fun c => (c, (0 : Int)))[pre.length]? = some (c, le) := by rw [← hr]; simp
      rw [List.getElem?_map, List.getElem?_take, if_pos (by omega)] at h
      cases h' : cs[pre.length]? with
      | none => rw [h'] at h; simp at h
      | some c' => rw [h'] at h; simp at h; exact ⟨by rw [h.1], h.2.symm⟩
    obtain ⟨hg1, rfl⟩ := hget
    have hne : cs ≠ [] := fun e => by rw [e] at hg1; simp at hg1
    have hcm := hW.a.s.cells _ _ hg1
    have hat := hW.a.s.at_ hne
    unfold cmdC at hcm
    obtain ⟨m0, m1, m2, m3, m4, m5, m6, m7, m8⟩ := hcm
    obtain ⟨g0, g1, g2⟩ := hW.a.three
    have kc := hW.k.cell 0
    have kn := hW.n.cell 0
    have kf := hW.k.frozen
    have kz := hW.k.lt
    obtain ⟨c1, c2, c3, c4, c5, c6, c7, c8, c9⟩ := c
    obtain ⟨e0, e1, e2, e3, e4, e5, e6, e7, e8⟩ := CB.nine hcc
    have qc : eqCm ⟨c1, c2, c3, c4, c5, c6, c7, c8, c9⟩ ⟨c1, c2, c3, c4, c5, c6, c7, c8, c9⟩ = true := by rw [eqCm_iff]; simp
    subst hat
    have HWI := hi hW
    have hlb := (List.getElem?_eq_some_iff.1 hg1).1
    obtain ⟨k, hk⟩ : ∃ k, pre.length = k := ⟨_, rfl⟩
    have hkl : (pre ++ [((⟨c1, c2, c3, c4, c5, c6, c7, c8, c9⟩ : Cm), (0 : Int))]).length = k + 1 := by simp [hk]
    rw [hk] at HWI hln hkm m0 m1 m2 m3 m4 m5 m6 m7 m8 kc hlb
    dsimp only at m0 m1 m2 m3 m4 m5 m6 m7 m8
    have HKL := hi hkl
    clear hW hpx hg1 hk hcc hkl hne
    by_cases hm : k = most
    · subst hm
      gi_wp2
      exact ⟨KW.refl _ _, KpQ.refl _ _ _ _ _, rfl, by omega, HWI.out⟩
    · have hge : decide ((n : Int) ≤ (k : Int)) = false := by simp; omega
      have hgn : decide (n ≤ k) = false := by simp; omega
      gi_wp2
      refine wpIn_region_quiet_round rfl (by kernel_rfl) (by kernel_rfl) (by kernel_rfl) ?_
      repeat (quiet_step_in (fail))
      refine wpQuietIn_nil ?_
      intro _ hw'
      obtain ⟨nq, hw''⟩ := hw'
      subst hw''
      have HBD := hi (Below.drewN (m := nq) (Below.refl V.heap.size V))
      have HWD := hi (HWI.out.later HBD.out)
      clear m0 m1 m2 m3 m4 m5 m6 m7 m8 g0 g1 g2 kc kn kf kz e0 e1 e2 e3 e4 e5 e6 e7 e8
      have kc := HWD.out.k.cell 0
      have kf := HWD.out.k.frozen
      have kz := HWD.out.k.lt
      gi_wp2
      refine ⟨(KW.of_below HBD.out).trans (KW.set _ _ _), (KpQ.of_below HBD.out (by omega) (by omega) (by omega) (by omega)).trans ⟨by simp, fun i hi => Below.heap_setCell (V.drewN nq) ⟨w4.heap.size + 1, 0, none⟩ _ i (show i ≠ w4.heap.size + 1 by omega)⟩, ?_, by rw [HKL.out]; omega⟩
      rw [HKL.out]
      exact HWD.out.inc (by omega) (by omega) (by omega) (by omega)
  case done =>
    rintro ys V rfl ⟨hW, hkm⟩ hK hs2
    rw [hEl] at hW hkm
    have HW := hi hW
    have HK := hi hK
    obtain ⟨g0, g1, g2⟩ := hW.a.three
    obtain ⟨b0, b1, b2, b3⟩ := CB.four hW.f.q
    have kc := hW.k.cell 0
    have kn := hW.n.cell 0
    clear hW hK
    go_wp2_with (go_at_call 25; ((with_reducible refine (HWR.out p g _ HW.out.f.m.mem).mono ?_); rintro e' w7 ⟨rfl, hb7⟩; have H7 := hi (HW.out.later hb7); have HK7 := hi ((hb7.block V0.heap.size (by omega)).trans HK.out); have rf := H7.out.a.r.frozen; have rz := H7.out.a.r.lt; clear g0 g1 g2 b0 b1 b2 b3 kc kn; have g2 := H7.out.a.three.2.2))
    have hc9 : CB (w7.setCell ⟨w.heap.size + 1 + 1, 0, none⟩ (.bool true)) (w.heap.size + 1 + 1) 4 #[.bool true] := by have := H7.out.a.r.set 0 (.bool true); simpa using this
    have hb9 : Below w.heap.size w (w7.setCell ⟨w.heap.size + 1 + 1, 0, none⟩ (.bool true)) := below_set H7.out.f.m.below (by show w.heap.size ≤ w.heap.size + 1 + 1; omega) _
    have hkk : (w7.setCell ⟨w.heap.size + 1 + 1, 0, none⟩ (.bool true)).heap[w4.heap.size + 4]? = some (.deferred (some [])) := (Below.heap_setCell w7 ⟨w.heap.size + 1 + 1, 0, none⟩ (.bool true) (w4.heap.size + 4) (by show w4.heap.size + 4 ≠ w.heap.size + 1 + 1; omega)).trans (by rw [← hz0]; exact HK7.out)
    refine ⟨by simp, .inl ⟨_, _, rfl, run_takeDeferred hkk, ?_⟩⟩
    exact ⟨_, results_b rfl _ _ (w.heap.size + 1 + 1) (.bool true) rfl ((World.putObj_heap_other (by omega)).trans hc9), rfl, below_put hb9 _ (by have := H7.out.f.m.below.size; simpa using this) (by omega)⟩
  case stop =>
    rintro cd pre V hpre ⟨rfl, hmn, hW⟩ hK hs2
    have HW := hi hW
    have HK := hi hK
    obtain ⟨g0, g1, g2⟩ := hW.a.three
    obtain ⟨b0, b1, b2, b3⟩ := CB.four hW.f.q
    have kc := hW.k.cell 0
    have kn := hW.n.cell 0
    clear hW hK
    rcases Nat.lt_or_eq_of_le hmn with hlt | rfl
    · refine wpIn_wide.2 ?_
      go_wp2_with (go_at_call 25; ((with_reducible refine (HWR.out p g _ HW.out.f.m.mem).mono ?_); rintro e' w7 ⟨rfl, hb7⟩; have H7 := hi (HW.out.later hb7); have HK7 := hi ((hb7.block V0.heap.size (by omega)).trans HK.out); have rf := H7.out.a.r.frozen; have rz := H7.out.a.r.lt; clear g0 g1 g2 b0 b1 b2 b3 kc kn; have g2 := H7.out.a.three.2.2))
      have hc9 : CB (w7.setCell ⟨w.heap.size + 1 + 1, 0, none⟩ (.bool true)) (w.heap.size + 1 + 1) 4 #[.bool true] := by have := H7.out.a.r.set 0 (.bool true); simpa using this
      have hb9 : Below w.heap.size w (w7.setCell ⟨w.heap.size + 1 + 1, 0, none⟩ (.bool true)) := below_set H7.out.f.m.below (by show w.heap.size ≤ w.heap.size + 1 + 1; omega) _
      have hkk : (w7.setCell ⟨w.heap.size + 1 + 1, 0, none⟩ (.bool true)).heap[w4.heap.size + 4]? = some (.deferred (some [])) := (Below.heap_setCell w7 ⟨w.heap.size + 1 + 1, 0, none⟩ (.bool true) (w4.heap.size + 4) (by show w4.heap.size + 4 ≠ w.heap.size + 1 + 1; omega)).trans (by rw [← hz0]; exact HK7.out)
      refine ⟨by simp, .inl ⟨_, _, rfl, run_takeDeferred hkk, ?_⟩⟩
      exact ⟨_, results_b rfl _ _ (w.heap.size + 1 + 1) (.bool true) rfl ((World.putObj_heap_other (by omega)).trans hc9), rfl, below_put hb9 _ (by have := H7.out.f.m.below.size; simpa using this) (by omega)⟩
    · refine wpIn_wide.2 ?_
      go_wp2_with (go_at_call 25; ((with_reducible refine (HWR.out p g _ HW.out.f.m.mem).mono ?_); rintro e' w7 ⟨rfl, hb7⟩; have H7 := hi (HW.out.later hb7); have HK7 := hi ((hb7.block V0.heap.size (by omega)).trans HK.out); have rf := H7.out.a.r.frozen; have rz := H7.out.a.r.lt; clear g0 g1 g2 b0 b1 b2 b3 kc kn; have g2 := H7.out.a.three.2.2))
      have hc9 : CB (w7.setCell ⟨w.heap.size + 1 + 1, 0, none⟩ (.bool true)) (w.heap.size + 1 + 1) 4 #[.bool true] := by have := H7.out.a.r.set 0 (.bool true); simpa using this
      have hb9 : Below w.heap.size w (w7.setCell ⟨w.heap.size + 1 + 1, 0, none⟩ (.bool true)) := below_set H7.out.f.m.below (by show w.heap.size ≤ w.heap.size + 1 + 1; omega) _
      have hkk : (w7.setCell ⟨w.heap.size + 1 + 1, 0, none⟩ (.bool true)).heap[w4.heap.size + 4]? = some (.deferred (some [])) := (Below.heap_setCell w7 ⟨w.heap.size + 1 + 1, 0, none⟩ (.bool true) (w4.heap.size + 4) (by show w4.heap.size + 4 ≠ w.heap.size + 1 + 1; omega)).trans (by rw [← hz0]; exact HK7.out)
      refine ⟨by simp, .inl ⟨_, _, rfl, run_takeDeferred hkk, ?_⟩⟩
      exact ⟨_, results_b rfl _ _ (w.heap.size + 1 + 1) (.bool true) rfl ((World.putObj_heap_other (by omega)).trans hc9), rfl, below_put hb9 _ (by have := H7.out.f.m.below.size; simpa using this) (by omega)⟩

end Go.Proofs.Ytheajnfbphkigaa
