import Derived.Test.YtieedhdmpabfkaaGreatMg12
import Derived.Test.YtieedhdmpabfkaaGreatMg24
set_option linter.unusedSimpArgs false
namespace Go.Proofs.YtieedhdmpabfkaaGreat
open Go.ChangeShapes Go.WideShapes Go.ChangeAt Go.RowKit Go.Shelf
set_option linter.unusedVariables false
attribute [local go_sem] Oper.semAt_some
def stepC (c : Cd) (x : It) : Cd := if !c.is || befC (candV x.1 x.2.ln) c then candV x.1 x.2.ln else c
def bestC (xs : List It) : Cd := xs.foldl stepC Cd.zero
theorem bestC_snoc (xs : List It) (x : It) : bestC (xs ++ [x]) = stepC (bestC xs) x := by simp [bestC]
abbrev setC (W : World) (B : Nat) (x : Cd) : World := (((W.setCell ⟨B, 0, none⟩ (.int .i64 x.id)).setCell ⟨B, 1, none⟩ (.int .i64 x.p)).setCell ⟨B, 2, none⟩ (.int .i64 x.g)).setCell ⟨B, 3, none⟩ (.bool x.is)
theorem CB.put4 {W : World} {B : Nat} {t : TypeId} {a0 a1 a2 a3 : Value} (h : CB W B t #[a0, a1, a2, a3]) (v0 v1 v2 v3 : Value) :
  CB ((((W.setCell ⟨B, 0, none⟩ v0).setCell ⟨B, 1, none⟩ v1).setCell ⟨B, 2, none⟩ v2).setCell ⟨B, 3, none⟩ v3) B t #[v0, v1, v2, v3] := by
 have := ((((h.set 0 v0).set 1 v1).set 2 v2).set 3 v3)
 simpa only [List.setIfInBounds_toArray, List.set_cons_zero, List.set_cons_succ] using this
theorem CB.putC {W : World} {B : Nat} {t : TypeId} {y : Cd} (h : CB W B t y.cs) (x : Cd) : CB (setC W B x) B t x.cs := h.put4 _ _ _ _
theorem CB.otherC {W : World} {B b : Nat} {t : TypeId} {cs : Array Value} (h : CB W B t cs) (hne : B ≠ b) (x : Cd) : CB (setC W b x) B t cs := (((h.other _ _ _ hne).other _ _ _ hne).other _ _ _ hne).other _ _ _ hne
theorem below_setC {n : Nat} {w W : World} (h : Below n w W) {b : Nat} (hb : n ≤ b) (x : Cd) : Below n w (setC W b x) := below_set (below_set (below_set (below_set h hb _) hb _) hb _) hb _
theorem heap_setC {W : World} {b i : Nat} (hne : i ≠ b) (x : Cd) : (setC W b x).heap[i]? = W.heap[i]? :=
 (Below.heap_setCell _ ⟨b, 3, none⟩ _ i hne).trans ((Below.heap_setCell _ ⟨b, 2, none⟩ _ i hne).trans ((Below.heap_setCell _ ⟨b, 1, none⟩ _ i hne).trans (Below.heap_setCell _ ⟨b, 0, none⟩ _ i hne)))
structure BB (w : World) (c : Cd) (V : World) : Prop where
 res : CB V w.heap.size 55 Cd.zero.cs
 best : CB V (w.heap.size + 1) 55 c.cs
 below : Below w.heap.size w V
theorem BB.later {w V V' : World} {c : Cd} (h : BB w c V) (k : Below V.heap.size V V') : BB w c V' := ⟨h.res.below k, h.best.below k, h.below.trans (k.mono h.below.size)⟩
theorem BB.put {w V : World} {c : Cd} (h : BB w c V) (x : Cd) : BB w x (setC V (w.heap.size + 1) x) := ⟨h.res.otherC (by omega) x, h.best.putC x, below_setC h.below (by omega) x⟩
theorem BB.cells {w V : World} {c : Cd} (h : BB w c V) : V.cell? ⟨w.heap.size + 1, 0, none⟩ = some (.int .i64 c.id) ∧ V.cell? ⟨w.heap.size + 1, 1, none⟩ = some (.int .i64 c.p) ∧ V.cell? ⟨w.heap.size + 1, 2, none⟩ = some (.int .i64 c.g) ∧ V.cell? ⟨w.heap.size + 1, 3, none⟩ = some (.bool c.is) := ⟨h.best.cell 0, h.best.cell 1, h.best.cell 2, h.best.cell 3⟩
end Go.Proofs.YtieedhdmpabfkaaGreat
namespace Go.Proofs.YtieedhdmpabfkaaGreat
open Go.ChangeShapes Go.WideShapes Go.ChangeAt Go.RowKit Go.Shelf
set_option linter.unusedVariables false
attribute [local go_sem] Oper.semAt_some
def stepG (c : Cd) (id : Int) (l : Ln) : Cd := if !c.is || beforeB l.p id c.p c.id then ⟨id, l.p, l.g, true⟩ else c
def rbestG (G : Int → Ln) (L : List Int) : Cd := L.foldl (fun c id => stepG c id (G id)) Cd.zero
theorem rbestG_take (G : Int → Ln) {L : List Int} {j : Nat} (h : j < L.length) : rbestG G (L.take (j + 1)) = stepG (rbestG G (L.take j)) L[j] (G L[j]) := by
 rw [← List.take_append_getElem h, rbestG, List.foldl_append]
 rfl
def rbestV (D : Ds) (k : Int) : Cd := rbestG (fun id => (getV D k id).1) (rreadyV D k)
theorem rreadyV_len {D : Ds} (ok : D.Ok) (k : Int) : (rreadyV D k).length ≤ 96 := by
 unfold rreadyV
 split
 ·exact Nat.zero_le _
 ·exact Nat.le_trans (List.length_filter_le _ _) (rseenV_len ok k)
theorem cd_cells {W : World} {B : Nat} {t : TypeId} {x : Cd} (h : CB W B t x.cs) : W.cell? ⟨B, 0, none⟩ = some (.int .i64 x.id) ∧ W.cell? ⟨B, 1, none⟩ = some (.int .i64 x.p) ∧ W.cell? ⟨B, 2, none⟩ = some (.int .i64 x.g) ∧ W.cell? ⟨B, 3, none⟩ = some (.bool x.is) := ⟨h.cell 0, h.cell 1, h.cell 2, h.cell 3⟩
section
variable {w : World} {lo hi' : Nat} {b c : Nat → Nat} {D : Ds}
set_option maxRecDepth 100000 in
set_option maxHeartbeats 8000000 in
theorem rbest_dist (h : RdAt w lo hi' b c D) (ok : D.Ok) (k : Int) :
  Calls Tryz.prog 54 #[.pointer (some ⟨b 0, 0, none⟩), .int .i64 k] w fun e W => e = .returned (rbestV D k).v ∧ Below w.heap.size w W := by
 have HRD := hi (fun W (q : Below w.heap.size w W) => rready_dist (h.below q) ok k)
 have HGT := hi (fun W (q : Below w.heap.size w W) (id : Int) => rget_dist (h.below q) ok k id)
 have HL96 := hi (rreadyV_len ok k)
 unfold rbestV
 obtain ⟨G, hG⟩ : ∃ G, (fun id => (getV D k id).1) = G := ⟨_, rfl⟩
 have HGV := hi (fun id => congrFun hG id)
 obtain ⟨L, hL⟩ : ∃ L, rreadyV D k = L := ⟨_, rfl⟩
 rw [hG, hL]
 rw [hL] at HRD HL96
 clear h ok hG hL
 have HBZ := hi (bal_two w (.cells #[.int .i64 0, .int .i64 0, .int .i64 0, .bool false] 55) (.cells #[.int .i64 0, .int .i64 0, .int .i64 0, .bool false] 55))
 have HCB := hi ((CB.new w 55 #[.int .i64 0, .int .i64 0, .int .i64 0, .bool false]).alloc (.cells #[.int .i64 0, .int .i64 0, .int .i64 0, .bool false] 55))
 have HCC := hi (show CB ((w.alloc (.cells #[.int .i64 0, .int .i64 0, .int .i64 0, .bool false] 55)).alloc (.cells #[.int .i64 0, .int .i64 0, .int .i64 0, .bool false] 55)) (w.heap.size + 1) 55 #[.int .i64 0, .int .i64 0, .int .i64 0, .bool false] from cb_second)
 go_enter Tryz.func54, Tryz.ntmps54
 go_wp2_with (first
  | (go_at_call 56; ((with_reducible refine (HRD.out _ HBZ.out).mono ?_); rintro e w1 ⟨o, rfl, hC⟩; obtain ⟨a, cap, rfl, hnw⟩ := hC.new; have HB1 := hi (HBZ.out.trans (hC.below.mono HBZ.out.size)); have HNW := hi hnw; have HC0 := hi (HCB.out.below hC.below); have HC1 := hi (HCC.out.below hC.below); clear hC hnw)))
 clear HRD HCB HCC
 go_loopw [14] (fun i wr => ∃ j : Nat, i = .int .i64 j ∧ Hi (j ≤ L.length ∧ Kept (fun i => i = w.heap.size + 1) w1 wr ∧ CB wr (w.heap.size + 1) 55 (rbestG G (L.take j)).cs)) (fun i _ => L.length - (intOf i).toNat)
 case atStart => exact ⟨0, rfl, hi ⟨Nat.zero_le _, Kept.refl _ _, HC1.out⟩⟩
 case round =>
  obtain ⟨j, rfl, HH⟩ := hrel
  obtain ⟨hj, hK, hcb⟩ := HH.out
  have hw0 := HB1.out.size
  have HBW := hi (show Below w.heap.size w wr from HB1.out.trans (hK.toBelow hw0 (fun i e => by omega)))
  by_cases hlt : j < L.length
  ·have hj96 : j < 96 := by have := HL96.out; omega
   obtain ⟨gl, rfl, hgl, hrow⟩ := (HNW.out.kept hK (fun i e => by have := HBZ.out.size; simp; omega)) (fun e => by rw [e] at hlt; simp at hlt)
   have hcell : wr.cell? ⟨gl, j, none⟩ = some (.int .i64 L[j]) := (hrow.cell (by rw [List.length_map]; exact hlt)).trans (by simp [hlt])
   have HST := hi (rbestG_take G hlt)
   obtain ⟨x, hx⟩ : ∃ x, L[j] = x := ⟨_, rfl⟩
   rw [hx] at hcell HST
   have HG := hi (HGT.out wr HBW.out x)
   have hgx := HGV.out x
   obtain ⟨⟨y, er⟩, hy⟩ : ∃ y, getV D k x = y := ⟨_, rfl⟩
   rw [hy] at HG hgx
   dsimp only at HG hgx
   rw [← hgx] at HST
   obtain ⟨⟨e, l, hh, ac⟩, en, gr, p⟩ := y
   dsimp only [Ln.v] at HG
   obtain ⟨Cc, hCc⟩ : ∃ Cc, rbestG G (L.take j) = Cc := ⟨_, rfl⟩
   rw [hCc] at hcb HST HH
   have HX := hi (And.intro hj (And.intro hK hcb))
   have HLT := hi hlt
   obtain ⟨ci, cp, cg, cis⟩ := Cc
   unfold stepG at HST
   dsimp only at HST
   clear hj hK hcb HH hx hgx hy hCc hrow HGV HGT
   cases cis
   ·simp only [Bool.not_false, Bool.true_or, if_true] at HST
    go_wp2_with (first
     | (go_at_call 57; ((with_reducible refine HG.out.mono ?_); rintro e' w2 ⟨rfl, hb⟩; have HB3 := hi (hb.alloc hb.size (.cells #[.bool e, .bool l, .bool hh, .bool ac, .bool en, .int .i64 gr, .int .i64 p] 58)); have hsz := hb.size; have hcc := HX.out.2.2.below HB3.out; obtain ⟨k0, k1, k2, k3⟩ := cd_cells hcc; dsimp only at k0 k1 k2 k3; have hf := hcc.frozen; have hlt1 := HX.out.2.2.lt; clear hb hcc)))
    go_roundw
    case rel =>
     refine ⟨j + 1, by go_num, hi ⟨HLT.out, ?_, ?_⟩⟩
     ·exact (((((HX.out.2.1.trans (Kept.of HB3.out)).set _ _ rfl).set _ _ rfl).set _ _ rfl).set _ _ rfl)
     ·rw [HST.out]
      exact (HX.out.2.2.below HB3.out).putC ⟨x, p, gr, true⟩
    case measure => have := HLT.out; simp only [intOf]; omega
   ·simp only [Bool.not_true, Bool.false_or] at HST
    have HBF := hi (fun W => refBefore_any p x cp ci W)
    obtain ⟨r, hr⟩ : ∃ r, beforeB p x cp ci = r := ⟨_, rfl⟩
    rw [hr] at HBF HST
    clear hr
    cases r
    ·simp only [Bool.false_eq_true, if_false] at HST
     go_wp2_with (first
      | (go_at_call 57; ((with_reducible refine HG.out.mono ?_); rintro e' w2 ⟨rfl, hb⟩; have HB3 := hi (hb.alloc hb.size (.cells #[.bool e, .bool l, .bool hh, .bool ac, .bool en, .int .i64 gr, .int .i64 p] 58)); have hsz := hb.size; have hcc := HX.out.2.2.below HB3.out; obtain ⟨k0, k1, k2, k3⟩ := cd_cells hcc; dsimp only at k0 k1 k2 k3; have hf := hcc.frozen; have hlt1 := HX.out.2.2.lt; clear hb hcc))
      | (go_at_call 98; ((with_reducible refine (HBF.out _).mono ?_); rintro e' w3 ⟨rfl, rfl⟩)))
     go_roundw
     case rel =>
      refine ⟨j + 1, by go_num, hi ⟨HLT.out, HX.out.2.1.trans (Kept.of HB3.out), ?_⟩⟩
      rw [HST.out]
      exact HX.out.2.2.below HB3.out
     case measure => have := HLT.out; simp only [intOf]; omega
    ·simp only [if_true] at HST
     go_wp2_with (first
      | (go_at_call 57; ((with_reducible refine HG.out.mono ?_); rintro e' w2 ⟨rfl, hb⟩; have HB3 := hi (hb.alloc hb.size (.cells #[.bool e, .bool l, .bool hh, .bool ac, .bool en, .int .i64 gr, .int .i64 p] 58)); have hsz := hb.size; have hcc := HX.out.2.2.below HB3.out; obtain ⟨k0, k1, k2, k3⟩ := cd_cells hcc; dsimp only at k0 k1 k2 k3; have hf := hcc.frozen; have hlt1 := HX.out.2.2.lt; clear hb hcc))
      | (go_at_call 98; ((with_reducible refine (HBF.out _).mono ?_); rintro e' w3 ⟨rfl, rfl⟩)))
     go_roundw
     case rel =>
      refine ⟨j + 1, by go_num, hi ⟨HLT.out, ?_, ?_⟩⟩
      ·exact (((((HX.out.2.1.trans (Kept.of HB3.out)).set _ _ rfl).set _ _ rfl).set _ _ rfl).set _ _ rfl)
      ·rw [HST.out]
       exact (HX.out.2.2.below HB3.out).putC ⟨x, p, gr, true⟩
     case measure => have := HLT.out; simp only [intOf]; omega
  ·obtain rfl : j = L.length := by omega
   rw [List.take_length] at hcb
   have HX := hi (And.intro hK hcb)
   obtain ⟨Cc, hCc⟩ : ∃ Cc, rbestG G L = Cc := ⟨_, rfl⟩
   rw [hCc] at hcb HX
   have HRC := hi hCc
   have hc0 : CB wr w.heap.size 55 #[.int .i64 0, .int .i64 0, .int .i64 0, .bool false] := HC0.out.heap (hK.block _ HC0.out.lt (by omega))
   obtain ⟨k0, k1, k2, k3⟩ := cd_cells hcb
   have z0 := hc0.cell 0
   have z1 := hc0.cell 1
   have z2 := hc0.cell 2
   have z3 := hc0.cell 3
   have hf := hc0.frozen
   have HCR := hi (CB.putC (y := ⟨0, 0, 0, false⟩) hc0 Cc)
   have HBR := hi (below_setC HBW.out (Nat.le_refl _) Cc)
   obtain ⟨ci, cp, cg, cis⟩ := Cc
   dsimp only at k0 k1 k2 k3
   clear hcb hc0 hK hj HH hCc
   go_wp2
   exact bodyPost_ret (results_cand rfl _ _ w.heap.size ⟨ci, cp, cg, cis⟩ rfl HCR.out) rfl ⟨by rw [HRC.out], HBR.out⟩
end
end Go.Proofs.YtieedhdmpabfkaaGreat
