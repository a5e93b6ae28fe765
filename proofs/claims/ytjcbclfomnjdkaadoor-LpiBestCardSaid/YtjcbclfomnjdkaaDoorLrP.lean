/-
  LpiBest, at every world with the library's table.
-/
import Derived.Test.YtjcbclfomnjdkaaDoorLrM
import Derived.Test.YtjcbclfomnjdkaaDoorLrN
namespace Go.Proofs.YtjcbclfomnjdkaaDoor
open Go.ChangeShapes Go.WideShapes Go.ChangeAt Go.RowKit Go.Shelf
set_option linter.unusedVariables false
set_option linter.unusedSimpArgs false
attribute [local go_sem] Oper.semAt_some

structure BsI (b : Nat) (x : St) (w1 : World) (pre : List Nat) (W : World) : Prop where
  box : CB W b 3 #[.int .i64 (inN x pre)]
  kept : Kept (· = b) w1 W
theorem BsI.abl {b : Nat} {x : St} {w1 : World} (hb : b < w1.heap.size) : AbL w1.heap.size 0 (BsI b x w1) := fun pre A A' row h hg hr => by
  obtain ⟨h1, hk⟩ := h
  have hrow : ∀ i, i < w1.heap.size → A'.heap[i]? = A.heap[i]? := fun i hi => hg.block i (Nat.lt_of_lt_of_le hi hk.size) (fun e => by
    rcases hr i e.symm with ⟨h3, _⟩ | ⟨h3, _⟩ <;> omega)
  exact ⟨(hrow b hb).trans h1, ⟨hg.os.trans hk.os, hg.tape.trans hk.tape, hg.output.trans hk.output, Nat.le_trans hk.size hg.size, fun i hi hn => (hrow i hi).trans (hk.block i hi hn)⟩⟩

theorem results_bx {fn : Func} {c : Tmp} (h : fn.results = #[.cell c 4]) (tmps : Array Value) (w : World) (b : Nat) (v : Value) (hp : tmps.getD c undef = .pointer (some ⟨b, 0, none⟩)) (hb : CB w b 4 #[v]) :
    (results fn tmps).run Tryd.prog w = .ok v w := by
  have hp' : tmps[c]?.getD undef = .pointer (some ⟨b, 0, none⟩) := by simpa using hp
  have c0 := hb.cell 0
  simp [results, h, go_sem, hp', c0]

set_option maxRecDepth 100000 in
set_option maxHeartbeats 8000000 in
theorem best_law (a b : Nat) (ha : a < 256) (hb : b < 256) (sv : Value) (ys : List Nat) (hyl : ys.length ≤ 9223372036854775807) (sa : Option Addr) (sb off cap : Nat) (xs : List Ac) (hF : ∀ x ∈ xs, x.Fair) (w : World) (hT : TabW w) (hy : BytesIn w sv ys) (hX : RowC w sa sb off 5 (xs.map acC)) :
    Calls Tryd.prog 6 #[.int .u8 a, .int .u8 b, sv, .slice sa xs.length cap] w fun e w' => e = .returned (.bool true) ∧ Below w.heap.size w w' := by
  have hk0 := bal w (.cells #[.bool false] 4)
  have HR := hi (And.intro (CB.new w 4 #[.bool false]) hk0)
  have HA := hi (awake_any _ (hT.below hk0))
  have HPL := hi (fun W (hk : Below w.heap.size w W) => played_any a b ha hb sv ys hyl sa sb off cap xs hF W (hT.below hk) (hy.below hk) (hX.below hk))
  clear hT hy hX hF hyl hk0
  refine (callsIn_wide (n := 6)).1 ?_
  refine callsIn_of_wp_marks Tryd.func6 rfl trivial ?_ rfl
  simp only [Tryd.ntmps6, List.size_toArray, List.length_cons, List.length_nil, Nat.reduceAdd, Nat.reduceSub, Array.replicate_succ, Array.replicate_zero, List.push_toArray, List.append_toArray, List.nil_append, List.cons_append]
  gi_wp2_with (first
    | (refine ⟨trivial, ?_⟩; gi_at_call 8; ((with_reducible refine (callsIn_wide.2 HA.out).mono ?_); rintro e w1 ⟨rfl, hb1⟩; have H1 := hi (And.intro (HR.out.2.more hb1) (HR.out.1.below hb1)); clear hb1))
    | (refine ⟨trivial, ?_⟩; gi_at_call 27; ((with_reducible refine (callsIn_wide.2 (HPL.out _ H1.out.1)).mono ?_); rintro e w2 ⟨p, q, l0, l1, d0, d1, t, rfl, hp2⟩; have H2 := hi hp2; clear hp2))
    | gi_in)
  have hPb := (H2.out.h.box (.cells (prC (pt p) (pt q) (pt l0) (pt l1) (pt d0) (pt d1) true) 32))
  have hPc := CB.new w2 32 (prC (pt p) (pt q) (pt l0) (pt l1) (pt d0) (pt d1) true)
  have hLb := hPb.box (.cells #[pt l0] 27)
  have hLc := CB.new (w2.alloc (.cells (prC (pt p) (pt q) (pt l0) (pt l1) (pt d0) (pt d1) true) 32)) 27 #[pt l0]
  rw [World.size_alloc] at hLb hLc
  have okx : t.x.Ok t.bs.length := by rw [H2.out.ok.len]; exact H2.out.ok.x
  have HOK := hi okx
  have HR2 := hi (H1.out.2.below H2.out.h.below)
  have HLb := hi (And.intro hLb (And.intro (hPc.alloc (.cells #[pt l0] 27)) hLc))
  have HBE := hi (best_pr hLb okx)
  have HON := hi (fun (W : World) (hk : Below ((w2.alloc (.cells (prC (pt p) (pt q) (pt l0) (pt l1) (pt d0) (pt d1) true) 32)).alloc (.cells #[pt l0] 27)).heap.size ((w2.alloc (.cells (prC (pt p) (pt q) (pt l0) (pt l1) (pt d0) (pt d1) true) 32)).alloc (.cells #[pt l0] 27)) W) => on_pr (hLb.later hk))
  obtain ⟨cd, hcd⟩ : ∃ c, bestV t.x = c := ⟨_, rfl⟩
  rw [hcd] at HBE
  have HCD := hi hcd
  have hz1 := H1.out.2.lt
  have hz2 := H2.out.h.below.size
  clear hPb hPc hLb hLc okx hcd
  obtain ⟨ci, cp, cg, cis⟩ := cd
  cases hon : t.x.on
  · rw [hon] at HON
    have hc0 := best_off HOK.out hon
    rw [HCD.out] at hc0
    obtain ⟨rfl, rfl, rfl, rfl⟩ : ci = 0 ∧ cp = 0 ∧ cg = 0 ∧ cis = false := by simpa using hc0
    clear hc0
    gi_wp2_with (first
      | (refine ⟨trivial, ?_⟩; gi_at_call 26; ((with_reducible refine (callsIn_wide.2 HBE.out).mono ?_); rintro e w3 ⟨rfl, hb3⟩; have hk3 := hb3.alloc hb3.size (.cells cdN 63); have H3 := hi (And.intro hk3 (And.intro (HLb.out.2.2.below hk3) (And.intro (CB.new w3 63 cdN) (HR2.out.below ((bal2' w2 _ _).more hk3))))); clear hb3 hk3; have r0 := H3.out.2.1.cell 0; obtain ⟨c0, c1, c2, c3⟩ := CB.four H3.out.2.2.1; have u0 := H3.out.2.2.2.cell 0; have uf := H3.out.2.2.2.frozen; have uz := H3.out.2.2.2.lt))
      | (refine ⟨trivial, ?_⟩; gi_at_call 22; ((with_reducible refine (callsIn_wide.2 (HON.out _ H3.out.1)).mono ?_); rintro e w4 ⟨rfl, hb4⟩; have H4 := hi (And.intro (H3.out.1.more hb4) (And.intro (H3.out.2.1.below hb4) (And.intro (H3.out.2.2.1.below hb4) (H3.out.2.2.2.below hb4)))); clear hb4 r0 c0 c1 c2 c3 u0 uf uz; have r0 := H4.out.2.1.cell 0; obtain ⟨c0, c1, c2, c3⟩ := CB.four H4.out.2.2.1; have u0 := H4.out.2.2.2.cell 0; have uf := H4.out.2.2.2.frozen; have uz := H4.out.2.2.2.lt))
      | gi_in)
    refine ⟨_, results_bx rfl _ _ w.heap.size _ rfl (H4.out.2.2.2.set 0 (.bool true)), rfl, ?_⟩
    exact below_set (H1.out.1.more (H2.out.h.below.more ((bal2' w2 _ _).more H4.out.1))) (Nat.le_refl _) _
  · rw [hon] at HON
    have HWL := hi (fun W => waiting_lpi l0 p W)
    gi_wp2_with (first
      | (refine ⟨trivial, ?_⟩; gi_at_call 26; ((with_reducible refine (callsIn_wide.2 HBE.out).mono ?_); rintro e w3 ⟨rfl, hb3⟩; have hz3 := hb3.size; have hk3 := hb3.alloc hb3.size (.cells #[.int .i64 ci, .int .i64 cp, .int .i64 cg, .bool cis] 63); have H3 := hi (And.intro hk3 (And.intro (HLb.out.2.2.below hk3) (And.intro (CB.new w3 63 #[.int .i64 ci, .int .i64 cp, .int .i64 cg, .bool cis]) (And.intro (HLb.out.2.1.below hk3) (HR2.out.below ((bal2' w2 _ _).more hk3)))))); clear hb3 hk3; have r0 := H3.out.2.1.cell 0))
      | (refine ⟨trivial, ?_⟩; gi_at_call 22; ((with_reducible refine (callsIn_wide.2 (HON.out _ H3.out.1)).mono ?_); rintro e w4 ⟨rfl, hb4⟩; have hz4 := hb4.size; have hk4 := hb4.alloc hb4.size (.cells #[.int .i64 0] 3); have H4 := hi (And.intro (H3.out.1.more hk4) (And.intro (H3.out.2.1.below hk4) (And.intro (H3.out.2.2.1.below hk4) (And.intro (H3.out.2.2.2.1.below hk4) (And.intro (H3.out.2.2.2.2.below hk4) (CB.new w4 3 #[.int .i64 0])))))); clear hb4 hk4 r0; have r0 := H4.out.2.1.cell 0; obtain ⟨p0, p1, p2, p3, p4, p5, p6⟩ := CB.seven H4.out.2.2.2.1))
      | (refine ⟨trivial, ?_⟩; gi_at_call 25; ((with_reducible refine (callsIn_wide.2 (HWL.out _)).mono ?_); rintro e w5 ⟨rfl, rfl⟩))
      | gi_in)
    simp only [World.size_alloc] at hz3 hz4
    obtain ⟨s, c, cap', S, g, cp', hLp0, hMe0, hgc, hg0, _⟩ := HLb.out.1.openA
    have hLz := And.intro hLp0.box.lt (And.intro hLp0.set.lt hLp0.cfg.lt)
    simp only [World.size_alloc] at hLz
    have hMz := And.intro hMe0.plt hMe0.bytes.lt
    simp only [World.size_alloc] at hMz
    have HNE0 := hi (show l0 < w4.heap.size ∧ s < w4.heap.size ∧ p < w4.heap.size ∧ g < w4.heap.size from by omega)
    have hLp := hLp0.below H4.out.1
    have hMe := hMe0.below H4.out.1
    have hwb := bal2' (w4.alloc (.cells #[.int .i64 0] 3)) (.cells #[pt l0] 27) (.cells #[pt p] 25)
    have hd := (CB.new (w4.alloc (.cells #[.int .i64 0] 3)) 27 #[pt l0]).alloc (.cells #[pt p] 25)
    have hm := CB.new ((w4.alloc (.cells #[.int .i64 0] 3)).alloc (.cells #[pt l0] 27)) 25 #[pt p]
    have hnb := (H4.out.2.2.2.2.2.below hwb)
    simp only [World.size_alloc] at hd hm
    obtain ⟨w5, hw5⟩ : ∃ W, ((w4.alloc (.cells #[.int .i64 0] 3)).alloc (.cells #[pt l0] 27)).alloc (.cells #[pt p] 25) = W := ⟨_, rfl⟩
    have hz5 : w5.heap.size = w4.heap.size + 3 := by rw [← hw5]; simp
    rw [hw5] at hwb hd hm hnb
    have HB := hi (show WtB (w4.heap.size + 1) l0 s c cap' p g cp' S t.x t.bs w5 from ⟨hd, hm, (hLp.below hwb).hd, hMe.below hwb⟩)
    have HLT := hi HB.out.lt
    have HNE := hi (show ∀ i, wtBs (w4.heap.size + 1) l0 s p g t.x i → ¬ (i = w4.heap.size) from fun i hi e => by
      have := HNE0.out
      unfold wtBs at hi
      omega)
    have HST := hi (wait_stops _ l0 s c cap' p g cp' S t.x t.bs HOK.out w5 HB.out)
    have HLP := hi (hLp.below hwb)
    have HME := hi (hMe.below hwb)
    have HNB := hi hnb
    have HWB := hi hwb
    rw [wait_on hon] at HST
    obtain ⟨L, hL⟩ : ∃ L, lst t.x.P t.x.n = L := ⟨_, rfl⟩
    rw [hL] at HST
    have HL := hi hL
    have HW5 := hi hw5
    have HLM := hi (show ∀ k, k ∈ L → k < t.x.n from fun k hk => by rw [← hL] at hk; exact (lst_mem.1 hk).1)
    have hbv : bestL t.x L = ⟨ci, cp, cg, cis⟩ := by rw [← HCD.out, bestV, hL]
    have HBV := hi hbv
    clear hLp hMe hLp0 hMe0 hd hm hnb hwb hL hbv hw5 p0 p1 p2 p3 p4 p5 p6 r0
    rw [HW5.out]
    refine range_win (n := 6) (by omega) (gf := 66) (lb := #[.pointer (some ⟨w4.heap.size + 1, 0, none⟩), .pointer (some ⟨w4.heap.size + 1 + 1, 0, none⟩)]) rfl (enters_of Tryd.func66 (by kernel_rfl) rfl)
      HST.out (fun a b => KpB.trans a b) (fun W l' o o' h1 h2 h3 h4 => KpB.put HLT.out (by omega) W o') (Below.refl _ _) (fun _ => rfl)
      (BsI w4.heap.size t.x w5) (fun cd pre V => False) (BsI.abl (by omega)) (fun _ _ _ _ _ hs _ _ => hs)
      ⟨HNB.out, Kept.refl _ _⟩
      (fun k a' V => a' = { tmps := #[.int .u8 a, .int .u8 b, sv, .slice sa xs.length cap, undef, undef, undef, undef, pt w.heap.size, .bool true, pt w2.heap.size, .bool true, pt (w2.heap.size + 1), pt w3.heap.size, pt w4.heap.size, .int .i64 (idOf k), undef, undef, undef, undef, .bool true, .bool true, .bool false, .tuple #[.agg (prC (pt p) (pt q) (pt l0) (pt l1) (pt d0) (pt d1) true), .bool true], .int .u8 a, .int .u8 b, sv, .slice sa xs.length cap, .tuple #[.agg (prC (pt p) (pt q) (pt l0) (pt l1) (pt d0) (pt d1) true), .bool true], .agg (prC (pt p) (pt q) (pt l0) (pt l1) (pt d0) (pt d1) true), .bool true, .bool true, .bool false, .bool false, .bool true, .bool false, .bool false, .pointer (some ⟨w2.heap.size, 2, none⟩), .pointer (some ⟨w2.heap.size, 2, none⟩), pt l0, pt l0, .agg #[.int .i64 ci, .int .i64 cp, .int .i64 cg, .bool cis], pt l0, .bool true, .bool false, undef, undef, undef, pt l0, pt w2.heap.size, pt p, .func (.func 66) #[] #[.pointer (some ⟨w4.heap.size + 1, 0, none⟩), .pointer (some ⟨w4.heap.size + 1 + 1, 0, none⟩)], .int .i64 (idOf k), undef, undef, undef, undef, undef, undef, undef, undef, undef, undef, undef, undef, undef, undef, undef, undef, undef, undef, undef, undef, undef, undef, undef, undef, undef, undef, undef, undef, undef, undef, undef, undef, undef, undef, undef, undef, undef, undef, undef, undef, undef, undef, undef, undef, undef, undef, undef, undef, undef, undef, undef, undef, undef, undef, undef, undef, undef, undef, undef, undef, undef, undef, undef, undef, undef, undef, undef, undef, undef, undef], defers := [] })
      (fun x a' => AbL.pure _ _ _)
      ?assign ?body ?done ?stop
    case assign =>
      rintro l' pre k V K h hsz hK
      gi_wp2
      exact hK _ _ (KW.refl _ _) (KpB.refl _ _) h rfl
    case body =>
      rintro l' pre k a' V hsz hI rfl hpx
      have hvs := hI.kept.size
      have hkm : k ∈ L := hpx.subset (by simp)
      have hkn := HLM.out k hkm
      have hV : LpB V l0 s c cap' S t.x := HLP.out.kept hI.kept (by show ¬ (l0 = w4.heap.size); omega) (by show ¬ (s = w4.heap.size); omega) (by show ¬ (c = w4.heap.size); omega)
      have HS := hi (setup_lpi l0 s c cap' S t.x HOK.out.n5 HOK.out.cm (idOf k) V hV)
      have e1 : inV t.x (idOf k) = decide (cfgK t.x k % 2 = 1) := by rw [inV, idOf_eq, ownB_at, decide_eq_true hkn, Bool.true_and, kOf_at]
      have e2 : prV t.x (idOf k) = (realN (cfgK t.x k) : Int) := by rw [prV, idOf_eq, if_pos (by rw [ownB_at, decide_eq_true hkn]), kOf_at]
      rw [e1, e2] at HS
      have r0 := ((H4.out.2.1.below HWB.out).keptB hI.kept (by show ¬ (w2.heap.size + 1 = w4.heap.size); omega)).cell 0
      obtain ⟨c0, c1, c2, c3⟩ := CB.four ((H4.out.2.2.1.below HWB.out).keptB hI.kept (by show ¬ (w3.heap.size = w4.heap.size); omega))
      have hpl := hpx.length_le
      have hLl : L.length ≤ 512 := by rw [← HL.out]; exact Nat.le_trans (lst_len _ _) HOK.out.n5
      have hil := inN_le t.x pre
      have hnm : inN t.x pre ≤ 512 := by simp at hpl; omega
      have HSN := hi (inN_snoc t.x pre k)
      have hbx := hI.box
      have HI := hi hI
      obtain ⟨m, hm⟩ : ∃ m, inN t.x pre = m := ⟨_, rfl⟩
      rw [hm] at hbx HSN hnm
      obtain ⟨rv, hrv⟩ : ∃ r : Int, (realN (cfgK t.x k) : Int) = r := ⟨_, rfl⟩
      obtain ⟨z, hz⟩ : ∃ z : Int, idOf k = z := ⟨_, rfl⟩
      have HBN := hi (fun h => best_not (x := t.x) (l := L) hkm h)
      rw [HBV.out, hrv, ← idOf_eq, hz] at HBN
      rw [hrv, hz] at HS
      rw [hz]
      have n0 := hbx.cell 0
      have nf := hbx.frozen
      have nz := hbx.lt
      have HBX := hi hbx
      have hwm : IntKind.i64.wrap ((m : Int) + 1) = ((m + 1 : Nat) : Int) := by rw [IntKind.wrap_i64]; omega
      have FIN := hi (show ∀ (V' : World) (j : Nat), CB V' w4.heap.size 3 #[.int .i64 j] → Kept (· = w4.heap.size) V V' → inN t.x (pre ++ [k]) = j → KW w5.heap.size V V' ∧ KpB (wtBs (w4.heap.size + 1) l0 s p g t.x) V V' ∧ BsI w4.heap.size t.x w5 (pre ++ [k]) V' from fun V' j h1 h2 h3 =>
        ⟨KW.of_kept h2 (fun i e => by have e' : i = w4.heap.size := e; omega), KpB.of_kept h2 (fun i hi => ⟨Nat.lt_of_lt_of_le (HLT.out i hi) hvs, fun e => HNE.out i hi e⟩), by rw [h3]; exact h1, HI.out.kept.trans h2⟩)
      clear hI hpx hV e1 e2 hm hrv hz hkm hpl hil hbx
      by_cases hcf : cfgK t.x k % 2 = 1
      · rw [if_pos hcf] at HSN
        rw [decide_eq_true hcf] at HS
        obtain ⟨b1, b2, b3⟩ := HBN.out hcf
        dsimp only at b1 b2 b3
        subst b1
        by_cases hrc : rv = cp
        · have b4 : ¬ z < ci := fun h => b3 ⟨hrc, h⟩
          clear b3 HBN hcf
          gi_wp2_with (first
            | (refine ⟨trivial, ?_⟩; gi_at_call 31; ((with_reducible refine (CallsIn.inRound l' (callsIn_wide.2 HS.out)).mono ?_); rintro e w8 ⟨rfl, rfl⟩))
            | gi_in)
          exact FIN.out _ (m + 1) (HBX.out.set 0 _) (kept_setCell _ _ _ _) HSN.out
        · clear b3 HBN hcf
          gi_wp2_with (first
            | (refine ⟨trivial, ?_⟩; gi_at_call 31; ((with_reducible refine (CallsIn.inRound l' (callsIn_wide.2 HS.out)).mono ?_); rintro e w8 ⟨rfl, rfl⟩))
            | gi_in)
          exact FIN.out _ (m + 1) (HBX.out.set 0 _) (kept_setCell _ _ _ _) HSN.out
      · rw [if_neg hcf] at HSN
        rw [decide_eq_false hcf] at HS
        clear HBN hcf
        gi_wp2_with (first
          | (refine ⟨trivial, ?_⟩; gi_at_call 31; ((with_reducible refine (CallsIn.inRound l' (callsIn_wide.2 HS.out)).mono ?_); rintro e w8 ⟨rfl, rfl⟩))
          | gi_in)
        exact FIN.out _ m HBX.out (Kept.refl _ _) HSN.out
    case done =>
      rintro ys' V rfl hI hK hs2
      have hvs := hI.kept.size
      have hn := HNE0.out
      have hV : LpB V l0 s c cap' S t.x := HLP.out.kept hI.kept (by show ¬ (l0 = w4.heap.size); omega) (by show ¬ (s = w4.heap.size); omega) (by show ¬ (c = w4.heap.size); omega)
      have hM := HME.out.kept hI.kept (by show ¬ (p = w4.heap.size); omega) (by show ¬ (g = w4.heap.size); omega)
      have HS := hi (setup_lpi l0 s c cap' S t.x HOK.out.n5 HOK.out.cm ci V hV)
      have HH := hi (has_lpi l0 s c cap' p g cp' S t.x t.bs HOK.out ci V hV.hd hM)
      have r0 := ((H4.out.2.1.below HWB.out).keptB hI.kept (by show ¬ (w2.heap.size + 1 = w4.heap.size); omega)).cell 0
      obtain ⟨c0, c1, c2, c3⟩ := CB.four ((H4.out.2.2.1.below HWB.out).keptB hI.kept (by show ¬ (w3.heap.size = w4.heap.size); omega))
      obtain ⟨p0, p1, p2, p3, p4, p5, p6⟩ := CB.seven ((H4.out.2.2.2.1.below HWB.out).keptB hI.kept (by show ¬ (w2.heap.size = w4.heap.size); omega))
      have HRV := hi ((H4.out.2.2.2.2.1.below HWB.out).keptB hI.kept (by show ¬ (w.heap.size = w4.heap.size); omega))
      have u0 := HRV.out.cell 0
      have uf := HRV.out.frozen
      have uz := HRV.out.lt
      have n0 := hI.box.cell 0
      have hbi := best_is t.x ys'
      rw [HBV.out] at hbi
      dsimp only at hbi
      obtain ⟨m, hm⟩ : ∃ m, inN t.x ys' = m := ⟨_, rfl⟩
      rw [hm] at n0 hbi
      have HI := hi hI
      have HK := hi hK
      have HBL := hi (fun h => best_last (bs := t.bs) HOK.out hon h)
      rw [HCD.out] at HBL
      clear hI hK hV hM hm
      cases cis
      · have hm0 : ¬ (0 : Int) < (m : Int) := by
          have := of_decide_eq_false hbi.symm
          omega
        clear hbi
        gi_wp2_with (first
          | (refine ⟨trivial, ?_⟩; gi_at_call 31; ((with_reducible refine (callsIn_wide.2 HS.out).mono ?_); rintro e w8 ⟨rfl, rfl⟩))
          | gi_in)
        all_goals try (exact absurd (show some undef = some (Value.bool _) from by assumption) (by unfold undef; simp))
        refine ⟨trivial, ?_⟩
        gi_wp2
        have hb0 : Below V.heap.size V V := Below.refl _ _
        have hB5 : Below w.heap.size w w5 := H1.out.1.more (H2.out.h.below.more ((bal2' w2 _ _).more (H4.out.1.more HWB.out)))
        have hkc := kept_setCell V w.heap.size 0 (.bool true)
        have hKm := (hkc.block (w4.heap.size + 3) (Nat.lt_of_lt_of_le (show w4.heap.size + 3 < V.heap.size by omega) hb0.size) (by show ¬ (w4.heap.size + 3 = w.heap.size); omega)).trans ((hb0.block (w4.heap.size + 3) (by omega)).trans (show V.heap[w4.heap.size + 3]? = some (.deferred (some [])) from hz5 ▸ HK.out))
        have hput := kept_put (V.setCell ⟨w.heap.size, 0, none⟩ (.bool true)) (w4.heap.size + 3) (.deferred none)
        refine ⟨by simp, .inl ⟨_, _, rfl, run_takeDeferred hKm, ?_⟩⟩
        refine ⟨_, results_bx rfl _ _ w.heap.size _ rfl (((HRV.out.below hb0).set 0 (.bool true)).keptB hput (by show ¬ (w.heap.size = w4.heap.size + 3); omega)), rfl, ?_⟩
        exact hB5.trans (((((HI.out.kept.mono (cs := fun b => b = w4.heap.size ∨ b = w.heap.size ∨ b = w4.heap.size + 3) (fun _ e => .inl e)).trans (Kept.of hb0)).trans (hkc.mono (fun _ e => .inr (.inl e)))).trans (hput.mono (fun _ e => .inr (.inr e)))).toBelow hB5.size (fun b e => by have e' : b = w4.heap.size ∨ b = w.heap.size ∨ b = w4.heap.size + 3 := e; omega))
      · have hm0 : (0 : Int) < (m : Int) := by
          have := of_decide_eq_true hbi.symm
          omega
        clear hbi
        obtain ⟨g1, g2, g3, g4⟩ := HBL.out rfl
        dsimp only at g1 g2 g3 g4
        rw [g1, g2] at HS
        rw [g4] at HH
        subst g3
        gi_wp2_with (first
          | (refine ⟨trivial, ?_⟩; gi_at_call 31; ((with_reducible refine (callsIn_wide.2 HS.out).mono ?_); rintro e w8 ⟨rfl, rfl⟩))
          | (refine ⟨trivial, ?_⟩; gi_at_call 17; ((with_reducible refine (callsIn_wide.2 HH.out).mono ?_); rintro e w9 ⟨rfl, hb9⟩; have H9 := hi hb9; have u0 := (HRV.out.below hb9).cell 0; have uf := (HRV.out.below hb9).frozen; have uz := (HRV.out.below hb9).lt; clear hb9))
          | gi_in)
        have hb0 : Below V.heap.size V w9 := H9.out
        have hB5 : Below w.heap.size w w5 := H1.out.1.more (H2.out.h.below.more ((bal2' w2 _ _).more (H4.out.1.more HWB.out)))
        have hkc := kept_setCell w9 w.heap.size 0 (.bool true)
        have hKm := (hkc.block (w4.heap.size + 3) (Nat.lt_of_lt_of_le (show w4.heap.size + 3 < V.heap.size by omega) hb0.size) (by show ¬ (w4.heap.size + 3 = w.heap.size); omega)).trans ((hb0.block (w4.heap.size + 3) (by omega)).trans (show V.heap[w4.heap.size + 3]? = some (.deferred (some [])) from hz5 ▸ HK.out))
        have hput := kept_put (w9.setCell ⟨w.heap.size, 0, none⟩ (.bool true)) (w4.heap.size + 3) (.deferred none)
        refine ⟨by simp, .inl ⟨_, _, rfl, run_takeDeferred hKm, ?_⟩⟩
        refine ⟨_, results_bx rfl _ _ w.heap.size _ rfl (((HRV.out.below hb0).set 0 (.bool true)).keptB hput (by show ¬ (w.heap.size = w4.heap.size + 3); omega)), rfl, ?_⟩
        exact hB5.trans (((((HI.out.kept.mono (cs := fun b => b = w4.heap.size ∨ b = w.heap.size ∨ b = w4.heap.size + 3) (fun _ e => .inl e)).trans (Kept.of hb0)).trans (hkc.mono (fun _ e => .inr (.inl e)))).trans (hput.mono (fun _ e => .inr (.inr e)))).toBelow hB5.size (fun b e => by have e' : b = w4.heap.size ∨ b = w.heap.size ∨ b = w4.heap.size + 3 := e; omega))
    case stop =>
      rintro cd pre V hpre h _ _
      exact h.elim

end Go.Proofs.YtjcbclfomnjdkaaDoor
