import Derived.Test.YtieedhdmpabfkaaGreatMg08
import Derived.Test.YtieedhdmpabfkaaGreatMg07
import Derived.Test.YtieedhdmpabfkaaGreatMg02
import Derived.Test.YtieedhdmpabfkaaGreatMg06
set_option linter.unusedSimpArgs false
namespace Go.Proofs.YtieedhdmpabfkaaGreat
open Go.ChangeShapes Go.WideShapes Go.ChangeAt Go.RowKit Go.Shelf
set_option linter.unusedVariables false
attribute [local go_sem] Oper.semAt_some
theorem info_ln : (Tryz.prog.info? 58).map (fun i => (i.zero, i.size, i.bytes)) = some (some (.agg #[.bool false, .bool false, .bool false, .bool false, .bool false, .int .i64 0, .int .i64 0]), 7, 24) := by kernel_rfl
theorem info_str : (Tryz.prog.info? 9).map (fun i => (i.zero, i.size, i.bytes)) = some (some (.string ⟨#[]⟩), 1, 16) := by kernel_rfl
theorem fresh_succ (k : Nat) (s : Rt) : fresh (k + 1) s = fresh k s ++ [⟨Ln.zero, s⟩] := by simp [fresh, List.replicate_succ']
theorem flL_fresh (k : Nat) (s : Rt) : flL (fresh (k + 1) s) = flL (fresh k s) ++ Ln.zero.cs := by rw [fresh_succ, flL, flat_append, flat_one]
theorem flX_fresh (k : Nat) (s : Rt) : flX (fresh (k + 1) s) = flX (fresh k s) ++ [.string ⟨#[]⟩] := by rw [fresh_succ, flX, flat_append, flat_one]
theorem fresh_len (k : Nat) (s : Rt) : (fresh k s).length = k := by simp [fresh]
theorem cell_ln_new (w : World) (t : TypeId) : ∀ j u, Ln.zero.cs[j]? = some u → (w.alloc (.cells #[.bool false, .bool false, .bool false, .bool false, .bool false, .int .i64 0, .int .i64 0] t)).cell? ((⟨w.heap.size, 0, none⟩ : Addr).add j) = some u := by
 intro j u h
 rw [addr_add, Nat.zero_add, (CB.new w t _).cell]
 match j, h with
 | 0, h => simpa [Ln.cs, Ln.zero, St.zero] using h
 | 1, h => simpa [Ln.cs, Ln.zero, St.zero] using h
 | 2, h => simpa [Ln.cs, Ln.zero, St.zero] using h
 | 3, h => simpa [Ln.cs, Ln.zero, St.zero] using h
 | 4, h => simpa [Ln.cs, Ln.zero, St.zero] using h
 | 5, h => simpa [Ln.cs, Ln.zero, St.zero] using h
 | 6, h => simpa [Ln.cs, Ln.zero, St.zero] using h
 | j + 7, h => simp [Ln.cs] at h
theorem cell_one_at {W : World} {b : Nat} (hb : b = W.heap.size) (x : Value) (t : TypeId) : ∀ j u, [x][j]? = some u → (W.alloc (.cells #[x] t)).cell? ((⟨b, 0, none⟩ : Addr).add j) = some u := by
 subst hb
 exact cell_one_new W x t
theorem own_apart {W : World} {base sz sz' n n' : Nat} {te te' : TypeId} {v v' : Value} {cs cs' : List Value} (h : W.ownsRow base te sz v n cs) (h' : W.ownsRow base te' sz' v' n' cs') (hne : te ≠ te') : v.ownBlock = none ∨ v.ownBlock ≠ v'.ownBlock := by
 rcases h.2 with ⟨rfl, _⟩ | ⟨g, cap, cur, rfl, _, hg, _⟩
 ·exact .inl rfl
 ·rcases h'.2 with ⟨rfl, _⟩ | ⟨g', cap', cur', rfl, _, hg', _⟩
  ·exact .inr (by simp [Value.ownBlock])
  ·refine .inr fun e => ?_
   obtain rfl : g = g' := by simpa [Value.ownBlock] using e
   rw [hg] at hg'
   simp only [Option.some.injEq, Obj.cells.injEq] at hg'
   exact hne hg'.2.1
theorem own_above {W : World} {base sz n : Nat} {te : TypeId} {v : Value} {cs : List Value} (h : W.ownsRow base te sz v n cs) {b : Nat} (hb : b < base) : some b ≠ v.ownBlock := fun e => by have := (h.lt b e.symm).1; omega
structure RN (w : World) (k : Nat) (v1 v2 : Value) (s : Rt) (f : Int) (W : World) : Prop where
 box : CB W w.heap.size 153 #[.int .i64 f, v1, v2]
 l : W.ownsRow (w.heap.size + 1) 58 7 v1 k (flL (fresh k s))
 x : W.ownsRow (w.heap.size + 1) 9 1 v2 k (flX (fresh k s))
 below : Below w.heap.size w W
structure RM (w : World) (k : Nat) (v1 v2 : Value) (s : Rt) (f : Int) (W : World) : Prop where
 box : CB W w.heap.size 153 #[.int .i64 f, v1, v2]
 l : W.ownsRow (w.heap.size + 1) 58 7 v1 (k + 1) (flL (fresh (k + 1) s))
 x : W.ownsRow (w.heap.size + 1) 9 1 v2 k (flX (fresh k s))
 below : Below w.heap.size w W
theorem ty_lx : (58 : Nat) ≠ 9 := by decide
theorem CB.set3 {W : World} {B : Nat} {t : TypeId} {a0 a1 a2 : Value} (h : CB W B t #[a0, a1, a2]) (v : Value) : CB (W.setCell ⟨B, 1, none⟩ v) B t #[a0, v, a2] := by
 have := h.set 1 v
 simpa only [List.setIfInBounds_toArray, List.set_cons_zero, List.set_cons_succ] using this
theorem CB.set3b {W : World} {B : Nat} {t : TypeId} {a0 a1 a2 : Value} (h : CB W B t #[a0, a1, a2]) (v : Value) : CB (W.setCell ⟨B, 2, none⟩ v) B t #[a0, a1, v] := by
 have := h.set 2 v
 simpa only [List.setIfInBounds_toArray, List.set_cons_zero, List.set_cons_succ] using this
theorem own_setCell {W : World} {base sz n : Nat} {te : TypeId} {v : Value} {cs : List Value} (h : W.ownsRow base te sz v n cs) {b o : Nat} (hb : b < base) (u : Value) : (W.setCell ⟨b, o, none⟩ u).ownsRow base te sz v n cs :=
 h.kept (row := some b) ⟨rfl, rfl, rfl, by simp, fun k hk hne => Below.heap_setCell W ⟨b, o, none⟩ u k (fun e => hne (by rw [e]))⟩ (.inr (own_above h hb).symm)
theorem RN.lines {w W w9 : World} {k : Nat} {v1 v2 v' : Value} {s : Rt} {f : Int} {tmp : Obj} (h : RN w k v1 v2 s f W) (ho : w9.ownsRow (w.heap.size + 1) 58 7 v' (k + 1) (flL (fresh k s) ++ Ln.zero.cs)) (hg : (W.alloc tmp).grownBy w9 v1.ownBlock) :
  CB w9 w.heap.size 153 #[.int .i64 f, v1, v2] ∧ RM w k v' v2 s f (w9.setCell ⟨w.heap.size, 1, none⟩ v') := by
 have hb1 : CB w9 w.heap.size 153 #[.int .i64 f, v1, v2] := CB.kept (h.box.alloc tmp) hg (own_above h.l (by omega))
 have hx1 := (h.x.alloc tmp).kept hg (own_apart (h.x.alloc tmp) (h.l.alloc tmp) (Ne.symm ty_lx))
 have hbl : Below w.heap.size w w9 := (h.below.alloc h.below.size tmp).grown hg (by have := h.below.size; simp; omega) (fun j e => by have := (h.l.lt j e).1; omega)
 refine ⟨hb1, hb1.set3 v', ?_, own_setCell hx1 (by omega) _, below_set hbl (Nat.le_refl _) _⟩
 rw [flL_fresh]
 exact own_setCell ho (by omega) _
theorem RM.texts {w W w9 : World} {k : Nat} {v1 v2 v' : Value} {s : Rt} {f : Int} {tmp : Obj} (h : RM w k v1 v2 s f W) (ho : w9.ownsRow (w.heap.size + 1) 9 1 v' (k + 1) (flX (fresh k s) ++ [.string ⟨#[]⟩])) (hg : (W.alloc tmp).grownBy w9 v2.ownBlock) :
  CB w9 w.heap.size 153 #[.int .i64 f, v1, v2] ∧ RN w (k + 1) v1 v' s f (w9.setCell ⟨w.heap.size, 2, none⟩ v') := by
 have hb1 : CB w9 w.heap.size 153 #[.int .i64 f, v1, v2] := CB.kept (h.box.alloc tmp) hg (own_above h.x (by omega))
 have hl1 := (h.l.alloc tmp).kept hg (own_apart (h.l.alloc tmp) (h.x.alloc tmp) ty_lx)
 have hbl : Below w.heap.size w w9 := (h.below.alloc h.below.size tmp).grown hg (by have := h.below.size; simp; omega) (fun j e => by have := (h.x.lt j e).1; omega)
 refine ⟨hb1, hb1.set3b v', own_setCell hl1 (by omega) _, ?_, below_set hbl (Nat.le_refl _) _⟩
 rw [flX_fresh]
 exact own_setCell ho (by omega) _
def RMade (w : World) (f : Int) (n : Nat) (s : Rt) (e : Ending) (w' : World) : Prop :=
 ∃ b lg xg la xa lc xc, e = .returned (.tuple #[.pointer (some ⟨b, 0, none⟩), .bool true]) ∧ w.heap.size ≤ b ∧ w.heap.size ≤ lg ∧ w.heap.size ≤ xg ∧ RfAt w' b lg xg la xa lc xc f (fresh n s) ∧ Below w.heap.size w w'
theorem rmade_of {w W : World} {n : Nat} {v1 v2 : Value} {s : Rt} {f : Int} (h : RN w n v1 v2 s f W) : RMade w f n s (.returned (.tuple #[.pointer (some ⟨w.heap.size, 0, none⟩), .bool true])) W := by
 have hap := own_apart h.l h.x ty_lx
 have hlt1 := h.l.lt
 have hlt2 := h.x.lt
 rcases h.l.2 with ⟨rfl, h0⟩ | ⟨lg, lc, cur, rfl, hb, hg, _⟩
 ·subst h0
  obtain ⟨va, vc, rfl⟩ : ∃ a c, v2 = .slice a 0 c := by
   rcases h.x.2 with ⟨rfl, _⟩ | ⟨g, cap, cur, rfl, _⟩
   ·exact ⟨_, _, rfl⟩
   ·exact ⟨_, _, rfl⟩
  exact ⟨w.heap.size, w.heap.size, w.heap.size, none, va, 0, vc, rfl, Nat.le_refl _, Nat.le_refl _, Nat.le_refl _, ⟨by rw [fresh_len]; exact h.box, fun hne => absurd rfl hne⟩, h.below⟩
 ·rcases h.x.2 with ⟨rfl, h0⟩ | ⟨xg, xc, cur', rfl, hb', hg', _⟩
  ·subst h0
   exact ⟨w.heap.size, w.heap.size, w.heap.size, _, none, _, 0, rfl, Nat.le_refl _, Nat.le_refl _, Nat.le_refl _, ⟨by rw [fresh_len]; exact h.box, fun hne => absurd rfl hne⟩, h.below⟩
  ·refine ⟨w.heap.size, lg, xg, _, _, lc, xc, rfl, Nat.le_refl _, by omega, by omega, ⟨by rw [fresh_len]; exact h.box, fun hne => ⟨rfl, rfl, Row.own h.l, Row.own h.x, by omega, by omega, fun e => ?_⟩⟩, h.below⟩
   subst e
   rcases hap with hap | hap
   ·simp [Value.ownBlock] at hap
   ·exact hap rfl
set_option maxRecDepth 100000 in
set_option maxHeartbeats 4000000 in
theorem rnew_yes (f : Int) (n : Nat) (s : Rt) (w : World) (h : NewOk f n) :
  Calls Tryz.prog 64 #[.int .i64 f, .int .i64 n, .string ⟨#[]⟩] w (RMade w f n s) := by
 obtain ⟨f1, n1, hs⟩ := h
 obtain ⟨i0, hi2, hz0, hz1, hz2⟩ := info_parts info_ln
 obtain ⟨j0, hj2, hy0, hy1, hy2⟩ := info_parts info_str
 have hd1 : decide (f < 0) = false := by simp; omega
 have hd2 : decide ((n : Int) < 0) = false := by simp
 have hd3 : decide (16384 < f) = false := by simp; omega
 have hd4 : decide (16384 < (n : Int)) = false := by simp; omega
 have hw : IntKind.i64.wrap (f + n) = f + n := by rw [IntKind.wrap_i64]; omega
 have hd5 : decide (16384 < f + (n : Int)) = false := by simp; omega
 have hn : n ≤ 16384 := by omega
 have H0 := hi (show RN w 0 (.slice none 0 0) (.slice none 0 0) s f (w.alloc (.cells #[.int .i64 f, .slice none 0 0, .slice none 0 0] 153)) from ⟨CB.new w _ _, World.ownsRow_nil _ _ _ _, World.ownsRow_nil _ _ _ _, bal w _⟩)
 go_enter Tryz.func64, Tryz.ntmps64
 go_wp2
 go_loopw [9] (fun i wr => ∃ k : Nat, k ≤ n ∧ i = .int .i64 k ∧ ∃ v1 v2, Hi (RN w k v1 v2 s f wr)) (fun i _ => n - (intOf i).toNat)
 case atStart => exact ⟨0, Nat.zero_le _, rfl, _, _, H0⟩
 case round =>
  obtain ⟨k, hk, rfl, v1, v2, HX⟩ := hrel
  clear H0
  by_cases hlt : k < n
  ·have hX := HX.out
   have hbox := hX.box
   have hl := hX.l
   have hbs := hX.below.size
   have hwl := hbox.lt
   have c1 := hbox.cell 1
   have c2 := hbox.cell 2
   obtain ⟨va, vc, rfl⟩ := own_slice hl
   obtain ⟨xa, xc, rfl⟩ := own_slice hX.x
   clear hX
   go_wp2_with (first
    | (at_builtin; refine wpList_append_own _ rfl _ _ 150 rfl (w.heap.size + 1) 58 i0 (.agg #[.bool false, .bool false, .bool false, .bool false, .bool false, .int .i64 0, .int .i64 0]) 7 24 Tryz.underlying150 hi2 hz0 hz1 hz2 rfl (by decide) _ _ _ rfl (hl.alloc _) ⟨wr.heap.size, 0, none⟩ 1 1 Ln.zero.cs rfl rfl (cell_ln_new _ _) (ln_one _) (by unfold maxLen; omega) (by omega) (by simp; omega) ?_; intro v' w9 hown' hgrow _; obtain ⟨g', cap', rfl⟩ := ownsRow_succ hown'; obtain ⟨hb9, hm9⟩ := HX.out.lines hown' hgrow; have d0 := hb9.cell 0; have d1 := hb9.cell 1; have d2 := hb9.cell 2; have fz := hb9.frozen; have HM := hi hm9; have hx2 := hm9.x; have hw9 : w.heap.size ≤ w9.heap.size := (by have h9 := hm9.below.size; simpa using h9); have m1 := hm9.box.cell 1; have m2 := hm9.box.cell 2; have mf := hm9.box.frozen; clear hb9 hm9)
    | (at_builtin; refine wpList_append_own _ rfl _ _ 151 rfl (w.heap.size + 1) 9 j0 (.string ⟨#[]⟩) 1 16 Tryz.underlying151 hj2 hy0 hy1 hy2 rfl (by decide) _ _ _ rfl (hx2.alloc _) ⟨w9.heap.size, 0, none⟩ 1 1 [.string ⟨#[]⟩] rfl rfl (cell_one_at (by simp) _ _) (by simp [Value.oneCell']) (by unfold maxLen; omega) (by omega) (by simp; omega) ?_; intro v'' w8 hown8 hgrow8 _; obtain ⟨g8, cap8, rfl⟩ := ownsRow_succ hown8; obtain ⟨hb8, hm8⟩ := HM.out.texts hown8 hgrow8; have e0 := hb8.cell 0; have e1 := hb8.cell 1; have e2 := hb8.cell 2; have fy := hb8.frozen; have HR := hi hm8; clear hb8 hm8))
   go_roundw
   case rel => exact ⟨k + 1, by omega, by go_num, _, _, HR⟩
   case measure => simp only [intOf]; omega
  ·obtain rfl : k = n := by omega
   go_wp2
   go_ret2
   exact rmade_of HX.out
end Go.Proofs.YtieedhdmpabfkaaGreat
namespace Go.Proofs.YtieedhdmpabfkaaGreat
open Go.ChangeShapes Go.WideShapes Go.ChangeAt Go.RowKit Go.Shelf
set_option linter.unusedVariables false
attribute [local go_sem] Oper.semAt_some
theorem pres_yes {f0 : Int} {n : Nat} {fp : Int} {k : Nat} (h : hasB f0 n (fp + k) = true) : presL f0 n fp (k + 1) = presL f0 n fp k ++ [k] := by
 rw [presL, List.range_succ, filterN_yes _ h]; rfl
theorem pres_no {f0 : Int} {n : Nat} {fp : Int} {k : Nat} (h : hasB f0 n (fp + k) = false) : presL f0 n fp (k + 1) = presL f0 n fp k := by
 rw [presL, List.range_succ, filterN_no _ h]; rfl
theorem LnC.below {W W' : World} {g o : Nat} {x : Ln} (h : LnC W g o x) (hg : g < W.heap.size) (k : Below W.heap.size W W') : LnC W' g o x := h.heap (k.block g hg)
theorem LnC.drew {W : World} {g o : Nat} {x : Ln} (h : LnC W g o x) : LnC W.drew g o x := h.heap rfl
set_option maxRecDepth 100000 in
set_option maxHeartbeats 16000000 in
theorem rread_any {b lg xg : Nat} {la xa : Option Addr} {lc xc : Nat} {f0 : Int} {es : List En} {p : Pl} {c : Nat} {w : World} (h : RfAt w b lg xg la xa lc xc f0 es) (hf : Fit f0 es.length) (hfine : FineAll es) (hp : PlOk p c) :
  Calls Tryz.prog 101 #[.pointer (some ⟨b, 0, none⟩), p.v] w fun e w' => e = .returned (.int .u64 (readV p c f0 es : Nat)) ∧ Below w.heap.size w w' := by
 have HF := hi hf
 have HFA := hi hfine
 have H := hi h
 have HAT := hi (fun id W (hW : Below w.heap.size w W) => at_any (id := id) (h.below hW) hf)
 have HWT := hi (fun v k x W hv hx hk hc => rwith_any v p k x W hv hx hk hc)
 obtain ⟨n, hn⟩ : ∃ n, es.length = n := ⟨_, rfl⟩
 have HN := hi hn
 have hpk := hp.cnt
 have hfew := hp.few
 have hpf0 := hp.f0
 have hpf1 := hp.f1
 unfold readV
 rw [hn] at HAT ⊢
 clear h hf hfine hp hn
 obtain ⟨r, fp, pc⟩ := p
 dsimp only at hpk hpf0 hpf1
 subst hpk
 dsimp only [Pl.v, Pl.cs] at HWT ⊢
 have HNW := hi (CB.new w 70 #[.int .i64 r, .int .i64 fp, .int .i64 c])
 have HBW := hi (bal w (.cells #[.int .i64 r, .int .i64 fp, .int .i64 c] 70))
 have HSZ := hi (show (w.alloc (.cells #[.int .i64 r, .int .i64 fp, .int .i64 c] 70)).heap.size = w.heap.size + 1 by simp)
 go_enter Tryz.func101, Tryz.ntmps101
 go_wp2
 obtain ⟨w1, hw1⟩ : ∃ w1, w.alloc (.cells #[.int .i64 r, .int .i64 fp, .int .i64 c] 70) = w1 := ⟨_, rfl⟩
 rw [hw1] at HNW HBW HSZ ⊢
 clear hw1
 go_loopw [5, 6] (fun o i wr => ∃ k : Nat, k ≤ c ∧ i = .int .i64 k ∧ o = .int .u64 (readL ⟨r, fp, c⟩ f0 es (presL f0 n fp k) : Nat) ∧ Hi (Below w1.heap.size w1 wr)) (fun _ i _ => c - (intOf i).toNat)
 case atStart => exact ⟨0, Nat.zero_le _, rfl, rfl, hi (Below.refl _ _)⟩
 case round =>
  obtain ⟨k, hk, rfl, rfl, HX⟩ := hrel
  have HP := hi (HNW.out.below HX.out)
  have p0 := HP.out.cell 0
  have p1 := HP.out.cell 1
  have p2 := HP.out.cell 2
  have p0' : wr.cell? ⟨w.heap.size, 0, none⟩ = some (.int .i64 r) := p0
  have p1' : wr.cell? ⟨w.heap.size, 1, none⟩ = some (.int .i64 fp) := p1
  have p2' : wr.cell? ⟨w.heap.size, 2, none⟩ = some (.int .i64 c) := p2
  clear p0 p1 p2
  by_cases hlt : k < c
  ·have HBR := hi (HBW.out.trans (HX.out.mono HBW.out.size))
   have HA1 := hi (HAT.out (fp + k) wr HBR.out)
   have hw : IntKind.i64.wrap (fp + k) = fp + k := by rw [IntKind.wrap_i64]; omega
   cases hin : hasB f0 n (fp + k)
   ·rw [atI_no hin] at HA1
    have HE := hi (pres_no hin)
    clear hin
    go_wp2_with (go_at_call 90; ((with_reducible refine HA1.out.mono ?_); rintro e w2 ⟨rfl, rfl⟩))
    go_roundw
    case rel => exact ⟨k + 1, by omega, by go_num, by rw [HE.out], HX⟩
    case measure => simp only [intOf]; omega
   ·obtain ⟨hid, hjn⟩ := plc_at hin
    have HE := hi (pres_yes hin)
    obtain ⟨j, hj⟩ : ∃ j, plcK f0 fp k = j := ⟨_, rfl⟩
    have HSN := hi (readL_snoc ⟨r, fp, c⟩ f0 es (presL f0 n fp k) k)
    dsimp only at HSN
    rw [hj] at hid hjn HSN
    rw [hid, atI_at hjn] at HA1
    have hje : j < es.length := by rw [HN.out]; exact hjn
    have hne : es ≠ [] := fun e => by rw [e] at hje; simp at hje
    have hfj : Fine (nthE es j).ln := HFA.out.nth hje
    have HR := hi (H.out.below HBR.out)
    obtain ⟨rfl, hxa, hlr, _, _, _, _⟩ := HR.out.ne0 hne
    have hb1 := HR.out.box.cell 1
    rw [HN.out] at hb1
    have HLN := hi (hlr.lnc (nthE_at hje))
    have hlgl := hlr.lt
    have hvlt := readL_lt ⟨r, fp, c⟩ f0 es (presL f0 n fp k)
    obtain ⟨y, hy⟩ : ∃ y, nthE es j = y := ⟨_, rfl⟩
    rw [hy] at hfj HSN HLN
    have HT := hi (fun W => shows_any y.ln r W hfj)
    have hty := toldV_le hfj r
    obtain ⟨t, ht⟩ : ∃ t, toldV y.ln r = t := ⟨_, rfl⟩
    rw [ht] at HT HSN hty
    obtain ⟨v, hv⟩ : ∃ v, readL ⟨r, fp, c⟩ f0 es (presL f0 n fp k) = v := ⟨_, rfl⟩
    rw [hv] at HSN hvlt ⊢
    have HW := hi (fun W => HWT.out v k t W hvlt (by omega) (by omega) (by simpa using hlt))
    obtain ⟨v2, hv2⟩ : ∃ v2, withN (wideN r) v k t = v2 := ⟨_, rfl⟩
    rw [hv2] at HW HSN
    have hbl := HR.out.box.lt
    have HRB := hi HR.out.box
    clear hin hj hy ht hv hv2 hlr hne hfj hje
    obtain ⟨⟨⟨e, lb', q, a⟩, en, gr, pr⟩, s⟩ := y
    dsimp only [Ln.v] at HT HLN
    rw [← hid] at HA1
    clear hid
    go_wp2_with (go_at_call 90; ((with_reducible refine HA1.out.mono ?_); rintro e' w2 ⟨rfl, rfl⟩))
    have hS0 : (fun W' => CB W' w.heap.size 70 #[.int .i64 r, .int .i64 fp, .int .i64 c] ∧ W'.cell? ⟨b, 1, none⟩ = some (.slice (some ⟨lg, 0, none⟩) n lc) ∧ LnC W' lg (j * 7) ⟨⟨e, lb', q, a⟩, en, gr, pr⟩ ∧ b < W'.heap.size ∧ lg < W'.heap.size) wr.drew := ⟨HP.out.drew, hb1, HLN.out.drew, hbl, hlgl⟩
    refine wp_region_noPanic ?_
    refine wp_region_last_drew (S := (fun W' => CB W' w.heap.size 70 #[.int .i64 r, .int .i64 fp, .int .i64 c] ∧ W'.cell? ⟨b, 1, none⟩ = some (.slice (some ⟨lg, 0, none⟩) n lc) ∧ LnC W' lg (j * 7) ⟨⟨e, lb', q, a⟩, en, gr, pr⟩ ∧ b < W'.heap.size ∧ lg < W'.heap.size)) [] (by kernel_rfl) hS0 (fun hHeld => ?_)
    (try simp only [r1, r2, r3, r4, r5])
    refine tk 0 (v := ?_) rfl (Or.inl ⟨by rfl, ?_⟩) ?_
    rotate_left
    ·intro w' hSw; (try dsimp only at hSw); obtain ⟨hs1, hs2, hs3, _, _⟩ := hSw; have k0 := hs1.cell 0; have k1 := hs1.cell 1; have k2 := hs1.cell 2; obtain ⟨d0, d1, d2, d3, d4, d5, d6⟩ := hs3; dsimp only at d0 d1 d2 d3 d4 d5 d6; go_simp; (try with_reducible rfl)
    (try simp only [Act.put, n1, n2, n4, n5, n6])
    refine tk 1 (v := ?_) rfl (Or.inl ⟨by rfl, ?_⟩) ?_
    rotate_left
    ·intro w' hSw; (try dsimp only at hSw); obtain ⟨hs1, hs2, hs3, _, _⟩ := hSw; have k0 := hs1.cell 0; have k1 := hs1.cell 1; have k2 := hs1.cell 2; obtain ⟨d0, d1, d2, d3, d4, d5, d6⟩ := hs3; dsimp only at d0 d1 d2 d3 d4 d5 d6; go_simp; (try with_reducible rfl)
    (try simp only [Act.put, n1, n2, n3, n4, n5, n6])
    refine tk 2 (v := ?_) rfl (Or.inl ⟨by rfl, ?_⟩) ?_
    rotate_left
    ·intro w' hSw; (try dsimp only at hSw); obtain ⟨hs1, hs2, hs3, _, _⟩ := hSw; have k0 := hs1.cell 0; have k1 := hs1.cell 1; have k2 := hs1.cell 2; obtain ⟨d0, d1, d2, d3, d4, d5, d6⟩ := hs3; dsimp only at d0 d1 d2 d3 d4 d5 d6; go_simp; (try with_reducible rfl)
    (try simp only [Act.put, n1, n2, n3, n4, n5, n6])
    refine tk 3 (v := ?_) rfl (Or.inl ⟨by rfl, ?_⟩) ?_
    rotate_left
    ·intro w' hSw; (try dsimp only at hSw); obtain ⟨hs1, hs2, hs3, _, _⟩ := hSw; have k0 := hs1.cell 0; have k1 := hs1.cell 1; have k2 := hs1.cell 2; obtain ⟨d0, d1, d2, d3, d4, d5, d6⟩ := hs3; dsimp only at d0 d1 d2 d3 d4 d5 d6; go_simp; (try with_reducible rfl)
    (try simp only [Act.put, n1, n2, n3, n4, n5, n6])
    refine tk 4 (v := ?_) rfl (Or.inl ⟨by rfl, ?_⟩) ?_
    rotate_left
    ·intro w' hSw; (try dsimp only at hSw); obtain ⟨hs1, hs2, hs3, _, _⟩ := hSw; have k0 := hs1.cell 0; have k1 := hs1.cell 1; have k2 := hs1.cell 2; obtain ⟨d0, d1, d2, d3, d4, d5, d6⟩ := hs3; dsimp only at d0 d1 d2 d3 d4 d5 d6; go_simp; (try with_reducible rfl)
    (try simp only [Act.put, n1, n2, n3, n4, n5, n6])
    refine tk 5 (v := ?_) rfl (Or.inl ⟨by rfl, ?_⟩) ?_
    rotate_left
    ·intro w' hSw; (try dsimp only at hSw); obtain ⟨hs1, hs2, hs3, _, _⟩ := hSw; have k0 := hs1.cell 0; have k1 := hs1.cell 1; have k2 := hs1.cell 2; obtain ⟨d0, d1, d2, d3, d4, d5, d6⟩ := hs3; dsimp only at d0 d1 d2 d3 d4 d5 d6; go_simp; (try with_reducible rfl)
    (try simp only [Act.put, n1, n2, n3, n4, n5, n6])
    refine tk 6 (v := ?_) rfl (Or.inl ⟨by rfl, ?_⟩) ?_
    rotate_left
    ·intro w' hSw; (try dsimp only at hSw); obtain ⟨hs1, hs2, hs3, _, _⟩ := hSw; have k0 := hs1.cell 0; have k1 := hs1.cell 1; have k2 := hs1.cell 2; obtain ⟨d0, d1, d2, d3, d4, d5, d6⟩ := hs3; dsimp only at d0 d1 d2 d3 d4 d5 d6; go_simp; (try with_reducible rfl)
    (try simp only [Act.put, n1, n2, n3, n4, n5, n6])
    refine tk 7 (v := ?_) rfl (Or.inl ⟨by rfl, ?_⟩) ?_
    rotate_left
    ·intro w' hSw; (try dsimp only at hSw); obtain ⟨hs1, hs2, hs3, _, _⟩ := hSw; have k0 := hs1.cell 0; have k1 := hs1.cell 1; have k2 := hs1.cell 2; obtain ⟨d0, d1, d2, d3, d4, d5, d6⟩ := hs3; dsimp only at d0 d1 d2 d3 d4 d5 d6; go_simp; (try with_reducible rfl)
    (try simp only [Act.put, n1, n2, n3, n4, n5, n6])
    refine tk 8 (v := ?_) rfl (Or.inl ⟨by rfl, ?_⟩) ?_
    rotate_left
    ·intro w' hSw; (try dsimp only at hSw); obtain ⟨hs1, hs2, hs3, _, _⟩ := hSw; have k0 := hs1.cell 0; have k1 := hs1.cell 1; have k2 := hs1.cell 2; obtain ⟨d0, d1, d2, d3, d4, d5, d6⟩ := hs3; dsimp only at d0 d1 d2 d3 d4 d5 d6; go_simp; (try with_reducible rfl)
    (try simp only [Act.put, n1, n2, n3, n4, n5, n6])
    refine tk 9 (v := ?_) rfl (Or.inl ⟨by rfl, ?_⟩) ?_
    rotate_left
    ·intro w' hSw; (try dsimp only at hSw); obtain ⟨hs1, hs2, hs3, _, _⟩ := hSw; have k0 := hs1.cell 0; have k1 := hs1.cell 1; have k2 := hs1.cell 2; obtain ⟨d0, d1, d2, d3, d4, d5, d6⟩ := hs3; dsimp only at d0 d1 d2 d3 d4 d5 d6; go_simp; (try with_reducible rfl)
    (try simp only [Act.put, n1, n2, n3, n4, n5, n6])
    refine tk 10 (v := ?_) rfl (Or.inl ⟨by rfl, ?_⟩) ?_
    rotate_left
    ·intro w' hSw; (try dsimp only at hSw); obtain ⟨hs1, hs2, hs3, _, _⟩ := hSw; have k0 := hs1.cell 0; have k1 := hs1.cell 1; have k2 := hs1.cell 2; obtain ⟨d0, d1, d2, d3, d4, d5, d6⟩ := hs3; dsimp only at d0 d1 d2 d3 d4 d5 d6; go_simp; (try with_reducible rfl)
    (try simp only [Act.put, n1, n2, n3, n4, n5, n6])
    refine tk 11 (v := ?_) rfl (Or.inl ⟨by rfl, ?_⟩) ?_
    rotate_left
    ·intro w' hSw; (try dsimp only at hSw); obtain ⟨hs1, hs2, hs3, _, _⟩ := hSw; have k0 := hs1.cell 0; have k1 := hs1.cell 1; have k2 := hs1.cell 2; obtain ⟨d0, d1, d2, d3, d4, d5, d6⟩ := hs3; dsimp only at d0 d1 d2 d3 d4 d5 d6; go_simp; (try with_reducible rfl)
    (try simp only [Act.put, n1, n2, n3, n4, n5, n6])
    refine wpAnyF_ready (rs := [12]) (by kernel_rfl) (by simp) ?_
    refine AllReadyF.cons rfl (fun KK hKK => ?_) AllReadyF.nil
    go_simp
    ((with_reducible refine (HT.out _).mono ?_); rintro e' w3 ⟨rfl, hb3⟩; have HS3 := hi (And.intro (hHeld.1.below hb3) (And.intro ((hb3.cell (p := ⟨b, 1, none⟩) hHeld.2.2.2.1).trans hHeld.2.1) (And.intro (hHeld.2.2.1.below hHeld.2.2.2.2 hb3) (And.intro (Nat.lt_of_lt_of_le hHeld.2.2.2.1 hb3.size) (Nat.lt_of_lt_of_le hHeld.2.2.2.2 hb3.size))))); have HB3 := hi ((Below.drewN (m := 1) (Below.refl wr.heap.size wr)).trans hb3); clear hb3)
    (try go_simp)
    refine hKK.out _ _ HS3.out (fun hHeld => ?_)
    clear hKK KK
    (try simp only [Act.put, n1, n2, n3, n4, n5, n6])
    refine wpAnyF_ready (rs := [13]) (by kernel_rfl) (by simp) ?_
    refine AllReadyF.cons rfl (fun KK hKK => ?_) AllReadyF.nil
    go_simp
    ((with_reducible refine (HW.out _).mono ?_); rintro e' w4 ⟨rfl, hb4⟩; have HS4 := hi (And.intro (HS3.out.1.below hb4) (And.intro ((hb4.cell (p := ⟨b, 1, none⟩) HS3.out.2.2.2.1).trans HS3.out.2.1) (And.intro (HS3.out.2.2.1.below HS3.out.2.2.2.2 hb4) (And.intro (Nat.lt_of_lt_of_le HS3.out.2.2.2.1 hb4.size) (Nat.lt_of_lt_of_le HS3.out.2.2.2.2 hb4.size))))); have HB4 := hi (HB3.out.trans (hb4.mono HB3.out.size)); clear hb4)
    (try go_simp)
    refine hKK.out _ _ HS4.out (fun hHeld => ?_)
    clear hKK KK
    (try simp only [Act.put, n1, n2, n3, n4, n5, n6])
    refine tk 14 (v := ?_) rfl (Or.inl ⟨by rfl, ?_⟩) ?_
    rotate_left
    ·intro w' hSw; (try dsimp only at hSw); obtain ⟨hs1, hs2, hs3, _, _⟩ := hSw; have k0 := hs1.cell 0; have k1 := hs1.cell 1; have k2 := hs1.cell 2; obtain ⟨d0, d1, d2, d3, d4, d5, d6⟩ := hs3; dsimp only at d0 d1 d2 d3 d4 d5 d6; go_simp; (try with_reducible rfl)
    (try simp only [Act.put, n1, n2, n3, n4, n5, n6])
    refine wpAnyF_done (by kernel_rfl) ?_ _
    refine NoPanic.normal ?_
    go_wp2
    go_roundw
    case rel => exact ⟨k + 1, by omega, by go_num, by rw [HE.out, HSN.out], hi (HX.out.trans (HB4.out.mono HX.out.size))⟩
    case measure => simp only [intOf]; omega
  ·obtain rfl : k = c := by omega
   go_wp2
   go_ret
   exact ⟨rfl, HBW.out.trans (HX.out.mono HBW.out.size)⟩
end Go.Proofs.YtieedhdmpabfkaaGreat
namespace Go.Proofs.YtieedhdmpabfkaaGreat
open Go.ChangeShapes Go.WideShapes Go.ChangeAt Go.RowKit
set_option linter.unusedVariables false
def trigV (id : Int) (x : Nat) : Int := if id < 16 then 0 else if x.testBit 1 then 8 else 9
def actV (r : Int) : Int := if r = 7 then 3 else if r = 8 then 4 else if r = 9 then 7 else if r = 10 then 6 else 0
def chgV (id : Int) (l : Ln) (r : Int) (x : Nat) : Ln :=
 if r = 4 then { l with g := x } else if r = 5 ∨ r = 6 then (if x = 1 then { l with en := decide (r = 5) } else l) else if r = 11 then { l with p := realV x }
 else if r = 12 then { l with st := l.st.step (trigV id x) } else if x = 1 then { l with st := l.st.step (actV r) } else l
theorem and_two (x : Nat) (hx : x < 18446744073709551616) : (bits .and .u64 (x : Int) 2 != 0) = x.testBit 1 := by
 rw [show (2 : Int) = ((2 : Nat) : Int) from rfl, u64_and_nat _ _ hx (by decide)]
 have e : x &&& 2 = if x.testBit 1 then 2 else 0 := by
  apply Nat.eq_of_testBit_eq
  intro i
  rw [Nat.testBit_and, show (2 : Nat) = 2 ^ 1 from rfl, Nat.testBit_two_pow]
  by_cases h : i = 1
  ·subst h; cases x.testBit 1 <;> rfl
  ·have : ¬ 1 = i := fun e => h e.symm
   cases x.testBit 1
   ·simp [this]
   ·rw [if_pos rfl, Nat.testBit_two_pow]; simp [this]
 rw [e]
 cases x.testBit 1 <;> rfl
theorem trigger_any (id : Int) (x : Nat) (w : World) (hx : x < 18446744073709551616) : Calls Tryz.prog 124 #[.int .i64 id, .int .u64 x] w fun e w' => e = .returned (.int .i64 (trigV id x)) ∧ w = w' := by
 have h := and_two x hx
 obtain ⟨b, hb⟩ : ∃ b, x.testBit 1 = b := ⟨_, rfl⟩
 have HB := hi hb
 rw [hb] at h
 clear hb
 cases b
 all_goals
  go_enter Tryz.func124, Tryz.ntmps124
  go_wp2
  all_goals
   go_ret
   refine ⟨ret_int ?_, rfl⟩
   rw [trigV, HB.out]
   simp_all
theorem act_any (r : Int) (w : World) : Calls Tryz.prog 125 #[.int .i64 r] w fun e w' => e = .returned (.int .i64 (actV r)) ∧ w = w' := by
 go_enter Tryz.func125, Tryz.ntmps125
 go_wp2
 all_goals
  go_ret
  refine ⟨ret_int ?_, rfl⟩
  simp_all [actV]
theorem results_ln {fn : Func} {c : Tmp} (h : fn.results = #[.cell c 58]) (tmps : Array Value) (w : World) (b : Nat) (x : Ln) (hp : tmps.getD c undef = .pointer (some ⟨b, 0, none⟩))
  (hb : CB w b 58 x.ca) : (results fn tmps).run Tryz.prog w = .ok x.v w := by
 have hp' : tmps[c]?.getD undef = .pointer (some ⟨b, 0, none⟩) := by simpa using hp
 have c0 := hb.cell 0
 have c1 := hb.cell 1
 have c2 := hb.cell 2
 have c3 := hb.cell 3
 have c4 := hb.cell 4
 have c5 := hb.cell 5
 have c6 := hb.cell 6
 simp at c0 c1 c2 c3 c4 c5 c6
 simp [results, h, go_sem, hp', c0, c1, c2, c3, c4, c5, c6]
abbrev setL (W : World) (B o : Nat) (x : Ln) : World := ((((((W.setCell ⟨B, o, none⟩ (.bool x.st.e)).setCell ⟨B, o + 1, none⟩ (.bool x.st.l)).setCell ⟨B, o + 2, none⟩ (.bool x.st.h)).setCell ⟨B, o + 3, none⟩ (.bool x.st.a)).setCell ⟨B, o + 4, none⟩ (.bool x.en)).setCell ⟨B, o + 5, none⟩ (.int .i64 x.g)).setCell ⟨B, o + 6, none⟩ (.int .i64 x.p)
theorem CB.put7 {W : World} {B : Nat} {t : TypeId} {a0 a1 a2 a3 a4 a5 a6 : Value} (h : CB W B t #[a0, a1, a2, a3, a4, a5, a6]) (v0 v1 v2 v3 v4 v5 v6 : Value) :
  CB (((((((W.setCell ⟨B, 0, none⟩ v0).setCell ⟨B, 1, none⟩ v1).setCell ⟨B, 2, none⟩ v2).setCell ⟨B, 3, none⟩ v3).setCell ⟨B, 4, none⟩ v4).setCell ⟨B, 5, none⟩ v5).setCell ⟨B, 6, none⟩ v6) B t #[v0, v1, v2, v3, v4, v5, v6] := by
 have := (((((((h.set 0 v0).set 1 v1).set 2 v2).set 3 v3).set 4 v4).set 5 v5).set 6 v6)
 simpa only [List.setIfInBounds_toArray, List.set_cons_zero, List.set_cons_succ] using this
theorem CB.putL {W : World} {B : Nat} {t : TypeId} {y : Ln} (h : CB W B t y.ca) (x : Ln) : CB (setL W B 0 x) B t x.ca := h.put7 _ _ _ _ _ _ _
theorem below_putL {n : Nat} {w W : World} (h : Below n w W) {B o : Nat} (hb : n ≤ B) (x : Ln) : Below n w (setL W B o x) :=
 below_set (below_set (below_set (below_set (below_set (below_set (below_set h hb _) hb _) hb _) hb _) hb _) hb _) hb _
abbrev setI (W : World) (B o : Nat) (x : St) : World := (((W.setCell ⟨B, o, none⟩ (.bool x.e)).setCell ⟨B, o + 1, none⟩ (.bool x.l)).setCell ⟨B, o + 2, none⟩ (.bool x.h)).setCell ⟨B, o + 3, none⟩ (.bool x.a)
theorem CB.putI {W : World} {B : Nat} {t : TypeId} {y : Ln} (h : CB W B t y.ca) (x : St) : CB (setI W B 0 x) B t (Ln.ca { y with st := x }) := by
 have := ((((h.set 0 (.bool x.e)).set 1 (.bool x.l)).set 2 (.bool x.h)).set 3 (.bool x.a))
 simpa only [List.setIfInBounds_toArray, List.set_cons_zero, List.set_cons_succ] using this
theorem CB.otherI {W : World} {B : Nat} {t : TypeId} {cs : Array Value} (h : CB W B t cs) {b o : Nat} (hne : B ≠ b) (x : St) : CB (setI W b o x) B t cs := (((h.other b _ _ hne).other b _ _ hne).other b _ _ hne).other b _ _ hne
theorem CB.otherL {W : World} {B : Nat} {t : TypeId} {cs : Array Value} (h : CB W B t cs) {b o : Nat} (hne : B ≠ b) (x : Ln) : CB (setL W b o x) B t cs := ((((((h.other b _ _ hne).other b _ _ hne).other b _ _ hne).other b _ _ hne).other b _ _ hne).other b _ _ hne).other b _ _ hne
theorem below_putI {n : Nat} {w W : World} (h : Below n w W) {B o : Nat} (hb : n ≤ B) (x : St) : Below n w (setI W B o x) := below_set (below_set (below_set (below_set h hb _) hb _) hb _) hb _
structure TwL (w : World) (l : Ln) (W : World) : Prop where
 a : CB W w.heap.size 58 l.ca
 z : CB W (w.heap.size + 1) 58 Ln.zero.ca
 below : Below w.heap.size w W
theorem TwL.new (w : World) (l : Ln) : TwL w l ((w.alloc (.cells l.ca 58)).alloc (.cells Ln.zero.ca 58)) := ⟨(CB.new w _ _).alloc _, cb_second, bal_two w _ _⟩
theorem TwL.later {w W W' : World} {l : Ln} (h : TwL w l W) (k : Below W.heap.size W W') : TwL w l W' := ⟨h.a.below k, h.z.below k, h.below.trans (k.mono h.below.size)⟩
theorem TwL.drew {w W : World} {l : Ln} (h : TwL w l W) : TwL w l W.drew := ⟨h.a, h.z, Below.drewN (m := 1) h.below⟩
theorem TwL.putI {w W : World} {l : Ln} (h : TwL w l W) (x : St) : TwL w { l with st := x } (setI W w.heap.size 0 x) := ⟨h.a.putI x, h.z.otherI (by omega) x, below_putI h.below (Nat.le_refl _) x⟩
theorem TwL.end_ {w W : World} {l : Ln} (h : TwL w l W) : CB (setL W (w.heap.size + 1) 0 l) (w.heap.size + 1) 58 l.ca ∧ Below w.heap.size w (setL W (w.heap.size + 1) 0 l) := ⟨h.z.putL l, below_putL h.below (by omega) l⟩
theorem CB.cells7 {W : World} {B : Nat} {t : TypeId} {l : Ln} (h : CB W B t l.ca) : W.cell? ⟨B, 0, none⟩ = some (.bool l.st.e) ∧ W.cell? ⟨B, 1, none⟩ = some (.bool l.st.l) ∧ W.cell? ⟨B, 2, none⟩ = some (.bool l.st.h) ∧ W.cell? ⟨B, 3, none⟩ = some (.bool l.st.a) ∧ W.cell? ⟨B, 4, none⟩ = some (.bool l.en) ∧ W.cell? ⟨B, 5, none⟩ = some (.int .i64 l.g) ∧ W.cell? ⟨B, 6, none⟩ = some (.int .i64 l.p) :=
 ⟨h.cell 0, h.cell 1, h.cell 2, h.cell 3, h.cell 4, h.cell 5, h.cell 6⟩
set_option maxHeartbeats 2000000 in
theorem chg_group (id : Int) (l : Ln) (x : Nat) (w : World) (hx : x < 9223372036854775808) : Calls Tryz.prog 87 #[l.v, .int .i64 id, .int .i64 4, .int .u64 x] w fun e w' => e = .returned ({ l with g := (x : Int) }).v ∧ Below w.heap.size w w' := by
 have hw : IntKind.i64.wrap (x : Int) = x := by rw [IntKind.wrap_i64]; omega
 obtain ⟨⟨e, lb, q, a⟩, en, g, p⟩ := l
 dsimp only [Ln.v]
 go_enter Tryz.func87, Tryz.ntmps87
 go_wp2
 exact bodyPost_ret (results_ln rfl _ _ (w.heap.size + 1) ⟨⟨e, lb, q, a⟩, en, (x : Int), p⟩ rfl cb_second) rfl ⟨rfl, bal_two _ _ _⟩
set_option maxHeartbeats 2000000 in
theorem chg_prio (id : Int) (l : Ln) (x : Nat) (w : World) (hx : x < 9223372036854775808) : Calls Tryz.prog 87 #[l.v, .int .i64 id, .int .i64 11, .int .u64 x] w fun e w' => e = .returned ({ l with p := realV x }).v ∧ Below w.heap.size w w' := by
 have hw : IntKind.i64.wrap (x : Int) = x := by rw [IntKind.wrap_i64]; omega
 have HR := hi (fun W => real_any x W)
 obtain ⟨p2, hp2⟩ : ∃ p2, realV x = p2 := ⟨_, rfl⟩
 rw [hp2] at HR ⊢
 clear hp2
 obtain ⟨⟨e, lb, q, a⟩, en, g, p⟩ := l
 dsimp only [Ln.v]
 go_enter Tryz.func87, Tryz.ntmps87
 go_wp2_with (go_at_call 121; ((with_reducible refine (HR.out _).mono ?_); rintro e' w1 ⟨rfl, rfl⟩))
 exact bodyPost_ret (results_ln rfl _ _ (w.heap.size + 1) ⟨⟨e, lb, q, a⟩, en, g, p2⟩ rfl cb_second) rfl ⟨rfl, bal_two _ _ _⟩
set_option maxHeartbeats 2000000 in
theorem chg_en (id : Int) (l : Ln) (r : Int) (x : Nat) (w : World) (hr : r = 5 ∨ r = 6) (hx : x < 9223372036854775808) : Calls Tryz.prog 87 #[l.v, .int .i64 id, .int .i64 r, .int .u64 x] w fun e w' => e = .returned (if x = 1 then { l with en := decide (r = 5) } else l).v ∧ Below w.heap.size w w' := by
 obtain ⟨⟨e, lb, q, a⟩, en, g, p⟩ := l
 by_cases h1 : x = 1
 ·subst h1
  rw [if_pos rfl]
  rcases hr with rfl | rfl
  ·dsimp only [Ln.v]
   go_enter Tryz.func87, Tryz.ntmps87
   go_wp2
   exact bodyPost_ret (results_ln rfl _ _ (w.heap.size + 1) ⟨⟨e, lb, q, a⟩, true, g, p⟩ rfl cb_second) rfl ⟨rfl, bal_two _ _ _⟩
  ·dsimp only [Ln.v]
   go_enter Tryz.func87, Tryz.ntmps87
   go_wp2
   exact bodyPost_ret (results_ln rfl _ _ (w.heap.size + 1) ⟨⟨e, lb, q, a⟩, false, g, p⟩ rfl cb_second) rfl ⟨rfl, bal_two _ _ _⟩
 ·rw [if_neg h1]
  have hq : ((x : Int) == 1) = false := by simp; omega
  clear h1
  dsimp only [Ln.v]
  rcases hr with rfl | rfl
  all_goals
   go_enter Tryz.func87, Tryz.ntmps87
   go_wp2
   exact bodyPost_ret (results_ln rfl _ _ (w.heap.size + 1) ⟨⟨e, lb, q, a⟩, en, g, p⟩ rfl cb_second) rfl ⟨rfl, bal_two _ _ _⟩
set_option maxRecDepth 100000 in
set_option maxHeartbeats 4000000 in
theorem chg_cfg (id : Int) (l : Ln) (x : Nat) (w : World) (hx : x < 9223372036854775808) : Calls Tryz.prog 87 #[l.v, .int .i64 id, .int .i64 12, .int .u64 x] w fun e w' => e = .returned ({ l with st := l.st.step (trigV id x) }).v ∧ Below w.heap.size w w' := by
 have HS := hi (fun W => step_any l.st (trigV id x) W)
 have HG := hi (fun W => trigger_any id x W (by omega))
 obtain ⟨y, hy⟩ : ∃ y, l.st.step (trigV id x) = y := ⟨_, rfl⟩
 rw [hy] at HS ⊢
 obtain ⟨t, ht⟩ : ∃ t, trigV id x = t := ⟨_, rfl⟩
 rw [ht] at HS HG
 clear ht hy
 obtain ⟨⟨e, lb, q, a⟩, en, g, p⟩ := l
 obtain ⟨ye, yl, yh, ya⟩ := y
 dsimp only [St.v] at HS
 dsimp only [Ln.v]
 have HT := hi (TwL.new w ⟨⟨e, lb, q, a⟩, en, g, p⟩).drew
 dsimp only [Ln.zero, St.zero] at HT
 go_enter Tryz.func87, Tryz.ntmps87
 go_wp2
 obtain ⟨W1, hW1⟩ : ∃ W1, (w.alloc (.cells #[.bool e, .bool lb, .bool q, .bool a, .bool en, .int .i64 g, .int .i64 p] 58)).alloc (.cells #[.bool false, .bool false, .bool false, .bool false, .bool false, .int .i64 0, .int .i64 0] 58) = W1 := ⟨_, rfl⟩
 rw [hW1] at HT ⊢
 clear hW1
 refine wp_region_noPanic ?_
 refine wp_region_last_drew (S := (fun W' => CB W' w.heap.size 58 #[.bool e, .bool lb, .bool q, .bool a, .bool en, .int .i64 g, .int .i64 p])) [7] (by kernel_rfl) HT.out.a (fun hHeld => ?_)
 (try simp only [r1, r2, r3, r4, r5])
 refine tk 0 (v := ?_) rfl (Or.inl ⟨by rfl, ?_⟩) ?_
 rotate_left
 ·intro w' hSw; (try dsimp only at hSw); obtain ⟨d0, d1, d2, d3, d4, d5, d6⟩ := CB.cells7 (l := ⟨⟨e, lb, q, a⟩, en, g, p⟩) hSw; dsimp only at d0 d1 d2 d3 d4 d5 d6; go_simp; (try with_reducible rfl)
 (try simp only [Act.put, n1, n2, n4, n5, n6])
 refine tk 1 (v := ?_) rfl (Or.inl ⟨by rfl, ?_⟩) ?_
 rotate_left
 ·intro w' hSw; (try dsimp only at hSw); obtain ⟨d0, d1, d2, d3, d4, d5, d6⟩ := CB.cells7 (l := ⟨⟨e, lb, q, a⟩, en, g, p⟩) hSw; dsimp only at d0 d1 d2 d3 d4 d5 d6; go_simp; (try with_reducible rfl)
 (try simp only [Act.put, n1, n2, n3, n4, n5, n6])
 refine tk 2 (v := ?_) rfl (Or.inl ⟨by rfl, ?_⟩) ?_
 rotate_left
 ·intro w' hSw; (try dsimp only at hSw); obtain ⟨d0, d1, d2, d3, d4, d5, d6⟩ := CB.cells7 (l := ⟨⟨e, lb, q, a⟩, en, g, p⟩) hSw; dsimp only at d0 d1 d2 d3 d4 d5 d6; go_simp; (try with_reducible rfl)
 (try simp only [Act.put, n1, n2, n3, n4, n5, n6])
 refine tk 3 (v := ?_) rfl (Or.inl ⟨by rfl, ?_⟩) ?_
 rotate_left
 ·intro w' hSw; (try dsimp only at hSw); obtain ⟨d0, d1, d2, d3, d4, d5, d6⟩ := CB.cells7 (l := ⟨⟨e, lb, q, a⟩, en, g, p⟩) hSw; dsimp only at d0 d1 d2 d3 d4 d5 d6; go_simp; (try with_reducible rfl)
 (try simp only [Act.put, n1, n2, n3, n4, n5, n6])
 refine wpAnyF_ready (rs := [4]) (by kernel_rfl) (by simp) ?_
 refine AllReadyF.cons rfl (fun KK hKK => ?_) AllReadyF.nil
 go_simp
 ((with_reducible refine (HG.out _).mono ?_); rintro e' w1 ⟨rfl, rfl⟩)
 (try go_simp)
 refine hKK.out _ _ hHeld (fun hHeld => ?_)
 clear hKK KK
 (try simp only [Act.put, n1, n2, n3, n4, n5, n6])
 refine wpAnyF_ready (rs := [5]) (by kernel_rfl) (by simp) ?_
 refine AllReadyF.cons rfl (fun KK hKK => ?_) AllReadyF.nil
 go_simp
 ((with_reducible refine (HS.out _).mono ?_); rintro e' w2 ⟨rfl, hb⟩; have HT2 := hi (HT.out.later hb))
 (try go_simp)
 refine hKK.out _ _ HT2.out.a (fun hHeld => ?_)
 clear hKK KK
 (try simp only [Act.put, n1, n2, n3, n4, n5, n6])
 refine tk 6 (v := ?_) rfl (Or.inl ⟨by rfl, ?_⟩) ?_
 rotate_left
 ·intro w' hSw; (try dsimp only at hSw); obtain ⟨d0, d1, d2, d3, d4, d5, d6⟩ := CB.cells7 (l := ⟨⟨e, lb, q, a⟩, en, g, p⟩) hSw; dsimp only at d0 d1 d2 d3 d4 d5 d6; go_simp; (try with_reducible rfl)
 (try simp only [Act.put, n1, n2, n3, n4, n5, n6])
 refine wpAnyF_ready (rs := [7]) (by kernel_rfl) (by simp) ?_
 refine AllReadyF.last (by kernel_rfl) rfl (fun KK hKK => ?_) AllReadyF.nil
 obtain ⟨d0, d1, d2, d3, d4, d5, d6⟩ := CB.cells7 (l := ⟨⟨e, lb, q, a⟩, en, g, p⟩) HT2.out.a
 have f0 := HT2.out.a.frozen
 dsimp only at d0 d1 d2 d3 d4 d5 d6
 go_simp
 refine hKK.out _ _ ?_
 clear hKK KK
 (try simp only [Act.put, n1, n2, n3, n4, n5, n6])
 refine wpAnyF_done (by kernel_rfl) ?_ _
 refine NoPanic.normal ?_
 have HT3 := hi (HT2.out.putI ⟨ye, yl, yh, ya⟩)
 dsimp only [setI] at HT3
 obtain ⟨W4, hW4⟩ : ∃ W4, (((w2.setCell ⟨w.heap.size, 0, none⟩ (.bool ye)).setCell ⟨w.heap.size, 1, none⟩ (.bool yl)).setCell ⟨w.heap.size, 2, none⟩ (.bool yh)).setCell ⟨w.heap.size, 3, none⟩ (.bool ya) = W4 := ⟨_, rfl⟩
 rw [hW4] at HT3 ⊢
 obtain ⟨d0, d1, d2, d3, d4, d5, d6⟩ := CB.cells7 (l := ⟨⟨ye, yl, yh, ya⟩, en, g, p⟩) HT3.out.a
 obtain ⟨z0, z1, z2, z3, z4, z5, z6⟩ := CB.cells7 (l := Ln.zero) HT3.out.z
 have fz := HT3.out.z.frozen
 dsimp only [Ln.zero, St.zero] at d0 d1 d2 d3 d4 d5 d6 z0 z1 z2 z3 z4 z5 z6
 clear hW4 hHeld HT2 HT hb
 go_wp2
 obtain ⟨hcb, hbl⟩ := TwL.end_ HT3.out
 exact bodyPost_ret (results_ln rfl _ _ (w.heap.size + 1) ⟨⟨ye, yl, yh, ya⟩, en, g, p⟩ rfl hcb) rfl ⟨rfl, hbl⟩
set_option maxRecDepth 100000 in
set_option maxHeartbeats 4000000 in
theorem chg_act (id : Int) (l : Ln) (r : Int) (w : World) (h4 : r ≠ 4) (h5 : r ≠ 5) (h6 : r ≠ 6) (h11 : r ≠ 11) (h12 : r ≠ 12) : Calls Tryz.prog 87 #[l.v, .int .i64 id, .int .i64 r, .int .u64 1] w fun e w' => e = .returned ({ l with st := l.st.step (actV r) }).v ∧ Below w.heap.size w w' := by
 have q4 : (r == 4) = false := by simpa using h4
 have q5 : (r == 5) = false := by simpa using h5
 have q6 : (r == 6) = false := by simpa using h6
 have q11 : (r == 11) = false := by simpa using h11
 have q12 : (r == 12) = false := by simpa using h12
 have HS := hi (fun W => step_any l.st (actV r) W)
 have HG := hi (fun W => act_any r W)
 obtain ⟨y, hy⟩ : ∃ y, l.st.step (actV r) = y := ⟨_, rfl⟩
 rw [hy] at HS ⊢
 obtain ⟨t, ht⟩ : ∃ t, actV r = t := ⟨_, rfl⟩
 rw [ht] at HS HG
 clear ht hy h4 h5 h6 h11 h12
 obtain ⟨⟨e, lb, q, a⟩, en, g, p⟩ := l
 obtain ⟨ye, yl, yh, ya⟩ := y
 dsimp only [St.v] at HS
 dsimp only [Ln.v]
 have HT := hi (TwL.new w ⟨⟨e, lb, q, a⟩, en, g, p⟩).drew
 dsimp only [Ln.zero, St.zero] at HT
 go_enter Tryz.func87, Tryz.ntmps87
 go_wp2
 obtain ⟨W1, hW1⟩ : ∃ W1, (w.alloc (.cells #[.bool e, .bool lb, .bool q, .bool a, .bool en, .int .i64 g, .int .i64 p] 58)).alloc (.cells #[.bool false, .bool false, .bool false, .bool false, .bool false, .int .i64 0, .int .i64 0] 58) = W1 := ⟨_, rfl⟩
 rw [hW1] at HT ⊢
 clear hW1
 refine wp_region_noPanic ?_
 refine wp_region_last_drew (S := (fun W' => CB W' w.heap.size 58 #[.bool e, .bool lb, .bool q, .bool a, .bool en, .int .i64 g, .int .i64 p])) [6] (by kernel_rfl) HT.out.a (fun hHeld => ?_)
 (try simp only [r1, r2, r3, r4, r5])
 refine tk 0 (v := ?_) rfl (Or.inl ⟨by rfl, ?_⟩) ?_
 rotate_left
 ·intro w' hSw; (try dsimp only at hSw); obtain ⟨d0, d1, d2, d3, d4, d5, d6⟩ := CB.cells7 (l := ⟨⟨e, lb, q, a⟩, en, g, p⟩) hSw; dsimp only at d0 d1 d2 d3 d4 d5 d6; go_simp; (try with_reducible rfl)
 (try simp only [Act.put, n1, n2, n4, n5, n6])
 refine tk 1 (v := ?_) rfl (Or.inl ⟨by rfl, ?_⟩) ?_
 rotate_left
 ·intro w' hSw; (try dsimp only at hSw); obtain ⟨d0, d1, d2, d3, d4, d5, d6⟩ := CB.cells7 (l := ⟨⟨e, lb, q, a⟩, en, g, p⟩) hSw; dsimp only at d0 d1 d2 d3 d4 d5 d6; go_simp; (try with_reducible rfl)
 (try simp only [Act.put, n1, n2, n3, n4, n5, n6])
 refine tk 2 (v := ?_) rfl (Or.inl ⟨by rfl, ?_⟩) ?_
 rotate_left
 ·intro w' hSw; (try dsimp only at hSw); obtain ⟨d0, d1, d2, d3, d4, d5, d6⟩ := CB.cells7 (l := ⟨⟨e, lb, q, a⟩, en, g, p⟩) hSw; dsimp only at d0 d1 d2 d3 d4 d5 d6; go_simp; (try with_reducible rfl)
 (try simp only [Act.put, n1, n2, n3, n4, n5, n6])
 refine wpAnyF_ready (rs := [3]) (by kernel_rfl) (by simp) ?_
 refine AllReadyF.cons rfl (fun KK hKK => ?_) AllReadyF.nil
 go_simp
 ((with_reducible refine (HG.out _).mono ?_); rintro e' w1 ⟨rfl, rfl⟩)
 (try go_simp)
 refine hKK.out _ _ hHeld (fun hHeld => ?_)
 clear hKK KK
 (try simp only [Act.put, n1, n2, n3, n4, n5, n6])
 refine wpAnyF_ready (rs := [4]) (by kernel_rfl) (by simp) ?_
 refine AllReadyF.cons rfl (fun KK hKK => ?_) AllReadyF.nil
 go_simp
 ((with_reducible refine (HS.out _).mono ?_); rintro e' w2 ⟨rfl, hb⟩; have HT2 := hi (HT.out.later hb))
 (try go_simp)
 refine hKK.out _ _ HT2.out.a (fun hHeld => ?_)
 clear hKK KK
 (try simp only [Act.put, n1, n2, n3, n4, n5, n6])
 refine tk 5 (v := ?_) rfl (Or.inl ⟨by rfl, ?_⟩) ?_
 rotate_left
 ·intro w' hSw; (try dsimp only at hSw); obtain ⟨d0, d1, d2, d3, d4, d5, d6⟩ := CB.cells7 (l := ⟨⟨e, lb, q, a⟩, en, g, p⟩) hSw; dsimp only at d0 d1 d2 d3 d4 d5 d6; go_simp; (try with_reducible rfl)
 (try simp only [Act.put, n1, n2, n3, n4, n5, n6])
 refine wpAnyF_ready (rs := [6]) (by kernel_rfl) (by simp) ?_
 refine AllReadyF.last (by kernel_rfl) rfl (fun KK hKK => ?_) AllReadyF.nil
 obtain ⟨d0, d1, d2, d3, d4, d5, d6⟩ := CB.cells7 (l := ⟨⟨e, lb, q, a⟩, en, g, p⟩) HT2.out.a
 have f0 := HT2.out.a.frozen
 dsimp only at d0 d1 d2 d3 d4 d5 d6
 go_simp
 refine hKK.out _ _ ?_
 clear hKK KK
 (try simp only [Act.put, n1, n2, n3, n4, n5, n6])
 refine wpAnyF_done (by kernel_rfl) ?_ _
 refine NoPanic.normal ?_
 have HT3 := hi (HT2.out.putI ⟨ye, yl, yh, ya⟩)
 dsimp only [setI] at HT3
 obtain ⟨W4, hW4⟩ : ∃ W4, (((w2.setCell ⟨w.heap.size, 0, none⟩ (.bool ye)).setCell ⟨w.heap.size, 1, none⟩ (.bool yl)).setCell ⟨w.heap.size, 2, none⟩ (.bool yh)).setCell ⟨w.heap.size, 3, none⟩ (.bool ya) = W4 := ⟨_, rfl⟩
 rw [hW4] at HT3 ⊢
 obtain ⟨d0, d1, d2, d3, d4, d5, d6⟩ := CB.cells7 (l := ⟨⟨ye, yl, yh, ya⟩, en, g, p⟩) HT3.out.a
 obtain ⟨z0, z1, z2, z3, z4, z5, z6⟩ := CB.cells7 (l := Ln.zero) HT3.out.z
 have fz := HT3.out.z.frozen
 dsimp only [Ln.zero, St.zero] at d0 d1 d2 d3 d4 d5 d6 z0 z1 z2 z3 z4 z5 z6
 clear hW4 hHeld HT2 HT hb
 go_wp2
 obtain ⟨hcb, hbl⟩ := TwL.end_ HT3.out
 exact bodyPost_ret (results_ln rfl _ _ (w.heap.size + 1) ⟨⟨ye, yl, yh, ya⟩, en, g, p⟩ rfl hcb) rfl ⟨rfl, hbl⟩
set_option maxHeartbeats 4000000 in
theorem chg_none (id : Int) (l : Ln) (r : Int) (x : Nat) (w : World) (h4 : r ≠ 4) (h5 : r ≠ 5) (h6 : r ≠ 6) (h11 : r ≠ 11) (h12 : r ≠ 12) (hx : x ≠ 1) : Calls Tryz.prog 87 #[l.v, .int .i64 id, .int .i64 r, .int .u64 x] w fun e w' => e = .returned (l).v ∧ Below w.heap.size w w' := by
 have q4 : (r == 4) = false := by simpa using h4
 have q5 : (r == 5) = false := by simpa using h5
 have q6 : (r == 6) = false := by simpa using h6
 have q11 : (r == 11) = false := by simpa using h11
 have q12 : (r == 12) = false := by simpa using h12
 have hq : ((x : Int) == 1) = false := by simp; omega
 clear h4 h5 h6 h11 h12 hx
 obtain ⟨⟨e, lb, q, a⟩, en, g, p⟩ := l
 dsimp only [Ln.v]
 go_enter Tryz.func87, Tryz.ntmps87
 go_wp2
 exact bodyPost_ret (results_ln rfl _ _ (w.heap.size + 1) ⟨⟨e, lb, q, a⟩, en, g, p⟩ rfl cb_second) rfl ⟨rfl, bal_two _ _ _⟩
theorem changed_any (id : Int) (l : Ln) (r : Int) (x : Nat) (w : World) (hx : x < 9223372036854775808) : Calls Tryz.prog 87 #[l.v, .int .i64 id, .int .i64 r, .int .u64 x] w fun e w' => e = .returned (chgV id l r x).v ∧ Below w.heap.size w w' := by
 by_cases h4 : r = 4
 ·subst h4; rw [show chgV id l 4 x = { l with g := (x : Int) } from rfl]; exact chg_group id l x w hx
 ·by_cases h5 : r = 5 ∨ r = 6
  ·rw [show chgV id l r x = if x = 1 then { l with en := decide (r = 5) } else l by rw [chgV, if_neg h4, if_pos h5]]; exact chg_en id l r x w h5 hx
  ·by_cases h11 : r = 11
   ·subst h11; rw [show chgV id l 11 x = { l with p := realV x } from rfl]; exact chg_prio id l x w hx
   ·by_cases h12 : r = 12
    ·subst h12; rw [show chgV id l 12 x = { l with st := l.st.step (trigV id x) } from rfl]; exact chg_cfg id l x w hx
    ·by_cases h1 : x = 1
     ·subst h1; rw [show chgV id l r 1 = { l with st := l.st.step (actV r) } by rw [chgV, if_neg h4, if_neg h5, if_neg h11, if_neg h12, if_pos rfl]]; exact chg_act id l r w h4 (fun e => h5 (.inl e)) (fun e => h5 (.inr e)) h11 h12
     ·rw [show chgV id l r x = l by rw [chgV, if_neg h4, if_neg h5, if_neg h11, if_neg h12, if_neg h1]]; exact chg_none id l r x w h4 (fun e => h5 (.inl e)) (fun e => h5 (.inr e)) h11 h12 h1
end Go.Proofs.YtieedhdmpabfkaaGreat
namespace Go.Proofs.YtieedhdmpabfkaaGreat
open Go.ChangeShapes Go.WideShapes Go.ChangeAt Go.RowKit
set_option linter.unusedVariables false
theorem shr_one_bit (x : Nat) (hx : x < 18446744073709551616) : bits .and .u64 ((x : Int) / 2) 1 = ((if x.testBit 1 then 1 else 0 : Nat) : Int) := by
 have := and_one x 1 hx
 simpa using this
structure ThL (w : World) (l m : Ln) (W : World) : Prop where
 a : CB W w.heap.size 58 l.ca
 z : CB W (w.heap.size + 1) 58 Ln.zero.ca
 o : CB W (w.heap.size + 2) 58 m.ca
 below : Below w.heap.size w W
theorem ThL.new (w : World) (l : Ln) : ThL w l l (((w.alloc (.cells l.ca 58)).alloc (.cells Ln.zero.ca 58)).alloc (.cells l.ca 58)) :=
 ⟨((CB.new w _ _).alloc _).alloc _, cb_mid, by have := CB.new ((w.alloc (.cells l.ca 58)).alloc (.cells Ln.zero.ca 58)) 58 l.ca; simpa using this, bal_three w _ _ _⟩
theorem ThL.later {w W W' : World} {l m : Ln} (h : ThL w l m W) (k : Below W.heap.size W W') : ThL w l m W' := ⟨h.a.below k, h.z.below k, h.o.below k, h.below.trans (k.mono h.below.size)⟩
theorem ThL.end_ {w W : World} {l m : Ln} (h : ThL w l m W) (x : St) : CB (setL (setI W (w.heap.size + 2) 0 x) (w.heap.size + 1) 0 { m with st := x }) (w.heap.size + 1) 58 (Ln.ca { m with st := x }) ∧ Below w.heap.size w (setL (setI W (w.heap.size + 2) 0 x) (w.heap.size + 1) 0 { m with st := x }) :=
 ⟨(h.z.otherI (by omega) x).putL _, below_putL (below_putI h.below (by omega) x) (by omega) _⟩
set_option maxHeartbeats 2000000 in
theorem rchg_group (id : Int) (l : Ln) (x : Nat) (w : World) (hx : x < 9223372036854775808) : Calls Tryz.prog 128 #[.int .i64 id, l.v, .int .i64 4, .int .u64 x] w fun e w' => e = .returned ({ l with g := (x : Int) } : Ln).v ∧ Below w.heap.size w w' := by
 obtain ⟨⟨e, lb, q, a⟩, en, g, p⟩ := l
 dsimp only [Ln.v]
 by_cases h1 : x = 1
 ·subst h1
  go_enter Tryz.func128, Tryz.ntmps128
  go_wp2
  exact bodyPost_ret (results_ln rfl _ _ (w.heap.size + 1) ⟨⟨e, lb, q, a⟩, en, 1, p⟩ rfl cb_mid) rfl ⟨rfl, bal_three _ _ _ _⟩
 ·have hw : IntKind.i64.wrap (x : Int) = x := by rw [IntKind.wrap_i64]; omega
  have hq : ((x : Int) == 1) = false := by simp; omega
  go_enter Tryz.func128, Tryz.ntmps128
  go_wp2
  exact bodyPost_ret (results_ln rfl _ _ (w.heap.size + 1) ⟨⟨e, lb, q, a⟩, en, (x : Int), p⟩ rfl cb_mid) rfl ⟨rfl, bal_three _ _ _ _⟩
set_option maxHeartbeats 2000000 in
theorem rchg_prio (id : Int) (l : Ln) (x : Nat) (w : World) (hx : x < 9223372036854775808) : Calls Tryz.prog 128 #[.int .i64 id, l.v, .int .i64 11, .int .u64 x] w fun e w' => e = .returned ({ l with p := realV x } : Ln).v ∧ Below w.heap.size w w' := by
 have hw : IntKind.i64.wrap (x : Int) = x := by rw [IntKind.wrap_i64]; omega
 have HR := hi (fun W => refReal_any x W)
 obtain ⟨p2, hp2⟩ : ∃ p2, realV x = p2 := ⟨_, rfl⟩
 rw [hp2] at HR ⊢
 clear hp2
 obtain ⟨⟨e, lb, q, a⟩, en, g, p⟩ := l
 dsimp only [Ln.v]
 go_enter Tryz.func128, Tryz.ntmps128
 go_wp2_with (go_at_call 141; ((with_reducible refine (HR.out _).mono ?_); rintro e' w1 ⟨rfl, rfl⟩))
 all_goals
  exact bodyPost_ret (results_ln rfl _ _ (w.heap.size + 1) ⟨⟨e, lb, q, a⟩, en, g, p2⟩ rfl cb_mid) rfl ⟨rfl, bal_three _ _ _ _⟩
set_option maxHeartbeats 2000000 in
theorem rchg_en (id : Int) (l : Ln) (r : Int) (x : Nat) (w : World) (hr : r = 5 ∨ r = 6) (hx : x < 9223372036854775808) : Calls Tryz.prog 128 #[.int .i64 id, l.v, .int .i64 r, .int .u64 x] w fun e w' => e = .returned (if x = 1 then { l with en := decide (r = 5) } else l : Ln).v ∧ Below w.heap.size w w' := by
 obtain ⟨⟨e, lb, q, a⟩, en, g, p⟩ := l
 by_cases h1 : x = 1
 ·subst h1
  rw [if_pos rfl]
  rcases hr with rfl | rfl
  ·dsimp only [Ln.v]
   go_enter Tryz.func128, Tryz.ntmps128
   go_wp2
   exact bodyPost_ret (results_ln rfl _ _ (w.heap.size + 1) ⟨⟨e, lb, q, a⟩, true, g, p⟩ rfl cb_mid) rfl ⟨rfl, bal_three _ _ _ _⟩
  ·dsimp only [Ln.v]
   go_enter Tryz.func128, Tryz.ntmps128
   go_wp2
   exact bodyPost_ret (results_ln rfl _ _ (w.heap.size + 1) ⟨⟨e, lb, q, a⟩, false, g, p⟩ rfl cb_mid) rfl ⟨rfl, bal_three _ _ _ _⟩
 ·rw [if_neg h1]
  have hq : ((x : Int) == 1) = false := by simp; omega
  clear h1
  dsimp only [Ln.v]
  rcases hr with rfl | rfl
  all_goals
   go_enter Tryz.func128, Tryz.ntmps128
   go_wp2
   exact bodyPost_ret (results_ln rfl _ _ (w.heap.size + 1) ⟨⟨e, lb, q, a⟩, en, g, p⟩ rfl cb_mid) rfl ⟨rfl, bal_three _ _ _ _⟩
set_option maxRecDepth 100000 in
set_option maxHeartbeats 4000000 in
theorem rchg_cfg (id : Int) (l : Ln) (x : Nat) (w : World) (hx : x < 9223372036854775808) : Calls Tryz.prog 128 #[.int .i64 id, l.v, .int .i64 12, .int .u64 x] w fun e w' => e = .returned ({ l with st := l.st.step (trigV id x) } : Ln).v ∧ Below w.heap.size w w' := by
 have h := shr_one_bit x (by omega)
 by_cases hid : id < 16
 ·have ht : trigV id x = 0 := by simp [trigV, hid]
  rw [ht, show l.st.step 0 = l.st from step_odd (by decide)]
  have hd : decide (16 ≤ id) = false := by simp; omega
  clear ht hid
  obtain ⟨⟨e, lb, q, a⟩, en, g, p⟩ := l
  dsimp only [Ln.v]
  cases hb : x.testBit 1
  all_goals
   rw [hb] at h
   simp only [Bool.false_eq_true, if_false, if_true, Int.cast_ofNat_Int] at h
   clear hb
   go_enter Tryz.func128, Tryz.ntmps128
   go_wp2
   all_goals
    exact bodyPost_ret (results_ln rfl _ _ (w.heap.size + 1) ⟨⟨e, lb, q, a⟩, en, g, p⟩ rfl cb_mid) rfl ⟨rfl, bal_three _ _ _ _⟩
 ·have hd : decide (16 ≤ id) = true := by simp; omega
  cases hb : x.testBit 1
  ·have HS := hi (fun W => rstep_any l.st 9 W)
   rw [show trigV id x = 9 by simp [trigV, hid, hb]]
   obtain ⟨y, hy⟩ : ∃ y, l.st.step 9 = y := ⟨_, rfl⟩
   rw [hy] at HS ⊢
   rw [hb] at h
   simp only [Bool.false_eq_true, if_false, Int.cast_ofNat_Int] at h
   clear hb hid hy
   obtain ⟨⟨e, lb, q, a⟩, en, g, p⟩ := l
   obtain ⟨ye, yl, yh, ya⟩ := y
   have HT := hi (ThL.new w ⟨⟨e, lb, q, a⟩, en, g, p⟩)
   dsimp only [Ln.v, St.v, Ln.zero, St.zero] at HS HT ⊢
   go_enter Tryz.func128, Tryz.ntmps128
   go_wp2_with (go_at_call 103; ((with_reducible refine (HS.out _).mono ?_); rintro e' w2 ⟨rfl, hb⟩; have HT2 := hi (HT.out.later hb); obtain ⟨d0, d1, d2, d3, d4, d5, d6⟩ := CB.cells7 (l := ⟨⟨e, lb, q, a⟩, en, g, p⟩) HT2.out.o; have fo := HT2.out.o.frozen; obtain ⟨z0, z1, z2, z3, z4, z5, z6⟩ := CB.cells7 (l := Ln.zero) HT2.out.z; have fz := HT2.out.z.frozen; dsimp only [Ln.zero, St.zero] at d0 d1 d2 d3 d4 d5 d6 z0 z1 z2 z3 z4 z5 z6; clear hb))
   all_goals
    obtain ⟨hcb, hbl⟩ := HT2.out.end_ ⟨ye, yl, yh, ya⟩
    exact bodyPost_ret (results_ln rfl _ _ (w.heap.size + 1) ⟨⟨ye, yl, yh, ya⟩, en, g, p⟩ rfl hcb) rfl ⟨rfl, hbl⟩
  ·have HS := hi (fun W => rstep_any l.st 8 W)
   rw [show trigV id x = 8 by simp [trigV, hid, hb]]
   obtain ⟨y, hy⟩ : ∃ y, l.st.step 8 = y := ⟨_, rfl⟩
   rw [hy] at HS ⊢
   rw [hb] at h
   simp only [if_true, Int.cast_ofNat_Int] at h
   clear hb hid hy
   obtain ⟨⟨e, lb, q, a⟩, en, g, p⟩ := l
   obtain ⟨ye, yl, yh, ya⟩ := y
   have HT := hi (ThL.new w ⟨⟨e, lb, q, a⟩, en, g, p⟩)
   dsimp only [Ln.v, St.v, Ln.zero, St.zero] at HS HT ⊢
   go_enter Tryz.func128, Tryz.ntmps128
   go_wp2_with (go_at_call 103; ((with_reducible refine (HS.out _).mono ?_); rintro e' w2 ⟨rfl, hb⟩; have HT2 := hi (HT.out.later hb); obtain ⟨d0, d1, d2, d3, d4, d5, d6⟩ := CB.cells7 (l := ⟨⟨e, lb, q, a⟩, en, g, p⟩) HT2.out.o; have fo := HT2.out.o.frozen; obtain ⟨z0, z1, z2, z3, z4, z5, z6⟩ := CB.cells7 (l := Ln.zero) HT2.out.z; have fz := HT2.out.z.frozen; dsimp only [Ln.zero, St.zero] at d0 d1 d2 d3 d4 d5 d6 z0 z1 z2 z3 z4 z5 z6; clear hb))
   all_goals
    obtain ⟨hcb, hbl⟩ := HT2.out.end_ ⟨ye, yl, yh, ya⟩
    exact bodyPost_ret (results_ln rfl _ _ (w.heap.size + 1) ⟨⟨ye, yl, yh, ya⟩, en, g, p⟩ rfl hcb) rfl ⟨rfl, hbl⟩
set_option maxRecDepth 100000 in
set_option maxHeartbeats 4000000 in
theorem rchg_act7 (id : Int) (l : Ln) (w : World) : Calls Tryz.prog 128 #[.int .i64 id, l.v, .int .i64 7, .int .u64 1] w fun e w' => e = .returned ({ l with st := l.st.step 3 } : Ln).v ∧ Below w.heap.size w w' := by
 have HS := hi (fun W => rstep_any l.st 3 W)
 obtain ⟨y, hy⟩ : ∃ y, l.st.step 3 = y := ⟨_, rfl⟩
 rw [hy] at HS ⊢
 clear hy
 obtain ⟨⟨e, lb, q, a⟩, en, g, p⟩ := l
 obtain ⟨ye, yl, yh, ya⟩ := y
 have HT := hi (ThL.new w ⟨⟨e, lb, q, a⟩, en, g, p⟩)
 dsimp only [Ln.v, St.v, Ln.zero, St.zero] at HS HT ⊢
 go_enter Tryz.func128, Tryz.ntmps128
 go_wp2_with (go_at_call 103; ((with_reducible refine (HS.out _).mono ?_); rintro e' w2 ⟨rfl, hb⟩; have HT2 := hi (HT.out.later hb); obtain ⟨d0, d1, d2, d3, d4, d5, d6⟩ := CB.cells7 (l := ⟨⟨e, lb, q, a⟩, en, g, p⟩) HT2.out.o; have fo := HT2.out.o.frozen; obtain ⟨z0, z1, z2, z3, z4, z5, z6⟩ := CB.cells7 (l := Ln.zero) HT2.out.z; have fz := HT2.out.z.frozen; dsimp only [Ln.zero, St.zero] at d0 d1 d2 d3 d4 d5 d6 z0 z1 z2 z3 z4 z5 z6; clear hb))
 all_goals
  obtain ⟨hcb, hbl⟩ := HT2.out.end_ ⟨ye, yl, yh, ya⟩
  exact bodyPost_ret (results_ln rfl _ _ (w.heap.size + 1) ⟨⟨ye, yl, yh, ya⟩, en, g, p⟩ rfl hcb) rfl ⟨rfl, hbl⟩
set_option maxRecDepth 100000 in
set_option maxHeartbeats 4000000 in
theorem rchg_act8 (id : Int) (l : Ln) (w : World) : Calls Tryz.prog 128 #[.int .i64 id, l.v, .int .i64 8, .int .u64 1] w fun e w' => e = .returned ({ l with st := l.st.step 4 } : Ln).v ∧ Below w.heap.size w w' := by
 have HS := hi (fun W => rstep_any l.st 4 W)
 obtain ⟨y, hy⟩ : ∃ y, l.st.step 4 = y := ⟨_, rfl⟩
 rw [hy] at HS ⊢
 clear hy
 obtain ⟨⟨e, lb, q, a⟩, en, g, p⟩ := l
 obtain ⟨ye, yl, yh, ya⟩ := y
 have HT := hi (ThL.new w ⟨⟨e, lb, q, a⟩, en, g, p⟩)
 dsimp only [Ln.v, St.v, Ln.zero, St.zero] at HS HT ⊢
 go_enter Tryz.func128, Tryz.ntmps128
 go_wp2_with (go_at_call 103; ((with_reducible refine (HS.out _).mono ?_); rintro e' w2 ⟨rfl, hb⟩; have HT2 := hi (HT.out.later hb); obtain ⟨d0, d1, d2, d3, d4, d5, d6⟩ := CB.cells7 (l := ⟨⟨e, lb, q, a⟩, en, g, p⟩) HT2.out.o; have fo := HT2.out.o.frozen; obtain ⟨z0, z1, z2, z3, z4, z5, z6⟩ := CB.cells7 (l := Ln.zero) HT2.out.z; have fz := HT2.out.z.frozen; dsimp only [Ln.zero, St.zero] at d0 d1 d2 d3 d4 d5 d6 z0 z1 z2 z3 z4 z5 z6; clear hb))
 all_goals
  obtain ⟨hcb, hbl⟩ := HT2.out.end_ ⟨ye, yl, yh, ya⟩
  exact bodyPost_ret (results_ln rfl _ _ (w.heap.size + 1) ⟨⟨ye, yl, yh, ya⟩, en, g, p⟩ rfl hcb) rfl ⟨rfl, hbl⟩
set_option maxRecDepth 100000 in
set_option maxHeartbeats 4000000 in
theorem rchg_act9 (id : Int) (l : Ln) (w : World) : Calls Tryz.prog 128 #[.int .i64 id, l.v, .int .i64 9, .int .u64 1] w fun e w' => e = .returned ({ l with st := l.st.step 7 } : Ln).v ∧ Below w.heap.size w w' := by
 have HS := hi (fun W => rstep_any l.st 7 W)
 obtain ⟨y, hy⟩ : ∃ y, l.st.step 7 = y := ⟨_, rfl⟩
 rw [hy] at HS ⊢
 clear hy
 obtain ⟨⟨e, lb, q, a⟩, en, g, p⟩ := l
 obtain ⟨ye, yl, yh, ya⟩ := y
 have HT := hi (ThL.new w ⟨⟨e, lb, q, a⟩, en, g, p⟩)
 dsimp only [Ln.v, St.v, Ln.zero, St.zero] at HS HT ⊢
 go_enter Tryz.func128, Tryz.ntmps128
 go_wp2_with (go_at_call 103; ((with_reducible refine (HS.out _).mono ?_); rintro e' w2 ⟨rfl, hb⟩; have HT2 := hi (HT.out.later hb); obtain ⟨d0, d1, d2, d3, d4, d5, d6⟩ := CB.cells7 (l := ⟨⟨e, lb, q, a⟩, en, g, p⟩) HT2.out.o; have fo := HT2.out.o.frozen; obtain ⟨z0, z1, z2, z3, z4, z5, z6⟩ := CB.cells7 (l := Ln.zero) HT2.out.z; have fz := HT2.out.z.frozen; dsimp only [Ln.zero, St.zero] at d0 d1 d2 d3 d4 d5 d6 z0 z1 z2 z3 z4 z5 z6; clear hb))
 all_goals
  obtain ⟨hcb, hbl⟩ := HT2.out.end_ ⟨ye, yl, yh, ya⟩
  exact bodyPost_ret (results_ln rfl _ _ (w.heap.size + 1) ⟨⟨ye, yl, yh, ya⟩, en, g, p⟩ rfl hcb) rfl ⟨rfl, hbl⟩
set_option maxRecDepth 100000 in
set_option maxHeartbeats 4000000 in
theorem rchg_act10 (id : Int) (l : Ln) (w : World) : Calls Tryz.prog 128 #[.int .i64 id, l.v, .int .i64 10, .int .u64 1] w fun e w' => e = .returned ({ l with st := l.st.step 6 } : Ln).v ∧ Below w.heap.size w w' := by
 have HS := hi (fun W => rstep_any l.st 6 W)
 obtain ⟨y, hy⟩ : ∃ y, l.st.step 6 = y := ⟨_, rfl⟩
 rw [hy] at HS ⊢
 clear hy
 obtain ⟨⟨e, lb, q, a⟩, en, g, p⟩ := l
 obtain ⟨ye, yl, yh, ya⟩ := y
 have HT := hi (ThL.new w ⟨⟨e, lb, q, a⟩, en, g, p⟩)
 dsimp only [Ln.v, St.v, Ln.zero, St.zero] at HS HT ⊢
 go_enter Tryz.func128, Tryz.ntmps128
 go_wp2_with (go_at_call 103; ((with_reducible refine (HS.out _).mono ?_); rintro e' w2 ⟨rfl, hb⟩; have HT2 := hi (HT.out.later hb); obtain ⟨d0, d1, d2, d3, d4, d5, d6⟩ := CB.cells7 (l := ⟨⟨e, lb, q, a⟩, en, g, p⟩) HT2.out.o; have fo := HT2.out.o.frozen; obtain ⟨z0, z1, z2, z3, z4, z5, z6⟩ := CB.cells7 (l := Ln.zero) HT2.out.z; have fz := HT2.out.z.frozen; dsimp only [Ln.zero, St.zero] at d0 d1 d2 d3 d4 d5 d6 z0 z1 z2 z3 z4 z5 z6; clear hb))
 all_goals
  obtain ⟨hcb, hbl⟩ := HT2.out.end_ ⟨ye, yl, yh, ya⟩
  exact bodyPost_ret (results_ln rfl _ _ (w.heap.size + 1) ⟨⟨ye, yl, yh, ya⟩, en, g, p⟩ rfl hcb) rfl ⟨rfl, hbl⟩
set_option maxHeartbeats 4000000 in
theorem rchg_odd (id : Int) (l : Ln) (r : Int) (x : Nat) (w : World) (h4 : r ≠ 4) (h5 : r ≠ 5) (h6 : r ≠ 6) (h7 : r ≠ 7) (h8 : r ≠ 8) (h9 : r ≠ 9) (h10 : r ≠ 10) (h11 : r ≠ 11) (h12 : r ≠ 12) : Calls Tryz.prog 128 #[.int .i64 id, l.v, .int .i64 r, .int .u64 x] w fun e w' => e = .returned (l : Ln).v ∧ Below w.heap.size w w' := by
 have q4 : (r == 4) = false := by simpa using h4
 have q5 : (r == 5) = false := by simpa using h5
 have q6 : (r == 6) = false := by simpa using h6
 have q7 : (r == 7) = false := by simpa using h7
 have q8 : (r == 8) = false := by simpa using h8
 have q9 : (r == 9) = false := by simpa using h9
 have q10 : (r == 10) = false := by simpa using h10
 have q11 : (r == 11) = false := by simpa using h11
 have q12 : (r == 12) = false := by simpa using h12
 clear h4 h5 h6 h7 h8 h9 h10 h11 h12
 obtain ⟨⟨e, lb, q, a⟩, en, g, p⟩ := l
 dsimp only [Ln.v]
 go_enter Tryz.func128, Tryz.ntmps128
 go_wp2
 all_goals
  exact bodyPost_ret (results_ln rfl _ _ (w.heap.size + 1) ⟨⟨e, lb, q, a⟩, en, g, p⟩ rfl cb_mid) rfl ⟨rfl, bal_three _ _ _ _⟩
set_option maxHeartbeats 4000000 in
theorem rchg_none (id : Int) (l : Ln) (r : Int) (x : Nat) (w : World) (h4 : r ≠ 4) (h5 : r ≠ 5) (h6 : r ≠ 6) (h11 : r ≠ 11) (h12 : r ≠ 12) (hx : x ≠ 1) : Calls Tryz.prog 128 #[.int .i64 id, l.v, .int .i64 r, .int .u64 x] w fun e w' => e = .returned (l : Ln).v ∧ Below w.heap.size w w' := by
 have q4 : (r == 4) = false := by simpa using h4
 have q5 : (r == 5) = false := by simpa using h5
 have q6 : (r == 6) = false := by simpa using h6
 have q11 : (r == 11) = false := by simpa using h11
 have q12 : (r == 12) = false := by simpa using h12
 have hq : ((x : Int) == 1) = false := by simp; omega
 clear h4 h5 h6 h11 h12 hx
 obtain ⟨⟨e, lb, q, a⟩, en, g, p⟩ := l
 dsimp only [Ln.v]
 go_enter Tryz.func128, Tryz.ntmps128
 go_wp2
 all_goals
  exact bodyPost_ret (results_ln rfl _ _ (w.heap.size + 1) ⟨⟨e, lb, q, a⟩, en, g, p⟩ rfl cb_mid) rfl ⟨rfl, bal_three _ _ _ _⟩
theorem rchanged_any (id : Int) (l : Ln) (r : Int) (x : Nat) (w : World) (hx : x < 9223372036854775808) : Calls Tryz.prog 128 #[.int .i64 id, l.v, .int .i64 r, .int .u64 x] w fun e w' => e = .returned (chgV id l r x : Ln).v ∧ Below w.heap.size w w' := by
 by_cases h4 : r = 4
 ·subst h4; rw [show chgV id l 4 x = { l with g := (x : Int) } from rfl]; exact rchg_group id l x w hx
 ·by_cases h5 : r = 5 ∨ r = 6
  ·rw [show chgV id l r x = if x = 1 then { l with en := decide (r = 5) } else l by rw [chgV, if_neg h4, if_pos h5]]; exact rchg_en id l r x w h5 hx
  ·by_cases h11 : r = 11
   ·subst h11; rw [show chgV id l 11 x = { l with p := realV x } from rfl]; exact rchg_prio id l x w hx
   ·by_cases h12 : r = 12
    ·subst h12; rw [show chgV id l 12 x = { l with st := l.st.step (trigV id x) } from rfl]; exact rchg_cfg id l x w hx
    ·have h5' : r ≠ 5 := fun e => h5 (.inl e)
     have h6' : r ≠ 6 := fun e => h5 (.inr e)
     by_cases h1 : x = 1
     ·subst h1; rw [show chgV id l r 1 = { l with st := l.st.step (actV r) } by rw [chgV, if_neg h4, if_neg h5, if_neg h11, if_neg h12, if_pos rfl]]
      by_cases h7 : r = 7
      ·subst h7; exact rchg_act7 id l w
      ·by_cases h8 : r = 8
       ·subst h8; exact rchg_act8 id l w
       ·by_cases h9 : r = 9
        ·subst h9; exact rchg_act9 id l w
        ·by_cases h10 : r = 10
         ·subst h10; exact rchg_act10 id l w
         ·rw [show actV r = 0 by rw [actV, if_neg h7, if_neg h8, if_neg h9, if_neg h10], show l.st.step 0 = l.st from step_odd (by decide)]
          exact rchg_odd id l r 1 w h4 h5' h6' h7 h8 h9 h10 h11 h12
     ·rw [show chgV id l r x = l by rw [chgV, if_neg h4, if_neg h5, if_neg h11, if_neg h12, if_neg h1]]; exact rchg_none id l r x w h4 h5' h6' h11 h12 h1
end Go.Proofs.YtieedhdmpabfkaaGreat
