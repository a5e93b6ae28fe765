import Derived.Test.YtggeakkofcaklaaGreatMg17
import Derived.Test.YtggeakkofcaklaaGreatMg27
import Derived.Test.YtggeakkofcaklaaGreatMg05
import Derived.Test.YtggeakkofcaklaaGreatMg02
import Derived.Sort.QuietTacIn
import Derived.OrdersIn
import Derived.Test.YtggeakkofcaklaaGreatMg03
namespace Go.Proofs.YtggeakkofcaklaaGreat
open Go.ChangeShapes Go.WideShapes Go.ChangeAt Go.RowKit Go.Shelf
set_option linter.unusedVariables false
attribute [local go_sem] Oper.semAt_some
def stepC (c : Cd) (x : It) : Cd := if !c.is || befC (candV x.1 x.2.ln) c then candV x.1 x.2.ln else c
def bestC (xs : List It) : Cd := xs.foldl stepC Cd.zero
theorem bestC_snoc (xs : List It) (x : It) : bestC (xs ++ [x]) = stepC (bestC xs) x := by simp [bestC]
abbrev setC (W : World) (B : Nat) (x : Cd) : World := (((W.setCell ⟨B, 0, none⟩ (.int .i64 x.id)).setCell ⟨B, 1, none⟩ (.int .i64 x.p)).setCell ⟨B, 2, none⟩ (.int .i64 x.g)).setCell ⟨B, 3, none⟩ (.bool x.is)
theorem CB.put4 {W : World} {B : Nat} {t : TypeId} {a0 a1 a2 a3 : Value} (h : CB W B t #[a0, a1, a2, a3]) (v0 v1 v2 v3 : Value) :
    CB ((((W.setCell ⟨B, 0, none⟩ v0).setCell ⟨B, 1, none⟩ v1).setCell ⟨B, 2, none⟩ v2).setCell ⟨B, 3, none⟩ v3) B t #[v0, v1, v2, v3] := by
  have := ((((h.set 0 v0).set 1 v1).set 2 v2).set 3 v3)
  simpa only [List.setIfInBounds_toArray, List.set_cons_zero, List.set_cons_succ] using this
theorem CB.putC {W : World} {B : Nat} {t : TypeId} {y : Cd} (h : CB W B t y.cs) (x : Cd) : CB (setC W B x) B t x.cs := h.put4 _ _ _ _
theorem CB.otherC {W : World} {B b : Nat} {t : TypeId} {cs : Array Value} (h : CB W B t cs) (hne : B ≠ b) (x : Cd) : CB (setC W b x) B t cs := (((h.other _ _ _ hne).other _ _ _ hne).other _ _ _ hne).other _ _ _ hne
theorem below_setC {n : Nat} {w W : World} (h : Below n w W) {b : Nat} (hb : n ≤ b) (x : Cd) : Below n w (setC W b x) := below_set (below_set (below_set (below_set h hb _) hb _) hb _) hb _
theorem heap_setC {W : World} {b i : Nat} (hne : i ≠ b) (x : Cd) : (setC W b x).heap[i]? = W.heap[i]? :=
  (Below.heap_setCell _ ⟨b, 3, none⟩ _ i hne).trans ((Below.heap_setCell _ ⟨b, 2, none⟩ _ i hne).trans ((Below.heap_setCell _ ⟨b, 1, none⟩ _ i hne).trans (Below.heap_setCell _ ⟨b, 0, none⟩ _ i hne)))
structure BB (w : World) (c : Cd) (V : World) : Prop where
  res : CB V w.heap.size 55 Cd.zero.cs
  best : CB V (w.heap.size + 1) 55 c.cs
  below : Below w.heap.size w V
theorem BB.later {w V V' : World} {c : Cd} (h : BB w c V) (k : Below V.heap.size V V') : BB w c V' := ⟨h.res.below k, h.best.below k, h.below.trans (k.mono h.below.size)⟩
theorem BB.put {w V : World} {c : Cd} (h : BB w c V) (x : Cd) : BB w x (setC V (w.heap.size + 1) x) := ⟨h.res.otherC (by omega) x, h.best.putC x, below_setC h.below (by omega) x⟩
theorem BB.cells {w V : World} {c : Cd} (h : BB w c V) : V.cell? ⟨w.heap.size + 1, 0, none⟩ = some (.int .i64 c.id) ∧ V.cell? ⟨w.heap.size + 1, 1, none⟩ = some (.int .i64 c.p) ∧ V.cell? ⟨w.heap.size + 1, 2, none⟩ = some (.int .i64 c.g) ∧ V.cell? ⟨w.heap.size + 1, 3, none⟩ = some (.bool c.is) := ⟨h.best.cell 0, h.best.cell 1, h.best.cell 2, h.best.cell 3⟩
end Go.Proofs.YtggeakkofcaklaaGreat
namespace Go.Proofs.YtggeakkofcaklaaGreat
open Go.ChangeShapes Go.WideShapes Go.ChangeAt Go.RowKit Go.Shelf
set_option linter.unusedVariables false
attribute [local go_sem] Oper.semAt_some
def stepG (c : Cd) (id : Int) (l : Ln) : Cd := if !c.is || beforeB l.p id c.p c.id then ⟨id, l.p, l.g, true⟩ else c
def rbestG (G : Int → Ln) (L : List Int) : Cd := L.foldl (fun c id => stepG c id (G id)) Cd.zero
theorem rbestG_take (G : Int → Ln) {L : List Int} {j : Nat} (h : j < L.length) : rbestG G (L.take (j + 1)) = stepG (rbestG G (L.take j)) L[j] (G L[j]) := by
  rw [← List.take_append_getElem h, rbestG, List.foldl_append]
  rfl
def rbestV (D : Ds) (k : Int) : Cd := rbestG (fun id => (getV D k id).1) (rreadyV D k)
theorem rreadyV_len {D : Ds} (ok : D.Ok) (k : Int) : (rreadyV D k).length ≤ 96 := by
  unfold rreadyV
  split
  · exact Nat.zero_le _
  · exact Nat.le_trans (List.length_filter_le _ _) (rseenV_len ok k)
theorem cd_cells {W : World} {B : Nat} {t : TypeId} {x : Cd} (h : CB W B t x.cs) : W.cell? ⟨B, 0, none⟩ = some (.int .i64 x.id) ∧ W.cell? ⟨B, 1, none⟩ = some (.int .i64 x.p) ∧ W.cell? ⟨B, 2, none⟩ = some (.int .i64 x.g) ∧ W.cell? ⟨B, 3, none⟩ = some (.bool x.is) := ⟨h.cell 0, h.cell 1, h.cell 2, h.cell 3⟩
section
variable {w : World} {lo hi' : Nat} {b c : Nat → Nat} {D : Ds}
set_option maxRecDepth 100000 in
set_option maxHeartbeats 8000000 in
theorem rbest_dist (h : RdAt w lo hi' b c D) (ok : D.Ok) (k : Int) :
    Calls Tryz.prog 54 #[.pointer (some ⟨b 0, 0, none⟩), .int .i64 k] w fun e W => e = .returned (rbestV D k).v ∧ Below w.heap.size w W := by
  have HRD := hi (fun W (q : Below w.heap.size w W) => rready_dist (h.below q) ok k)
  have HGT := hi (fun W (q : Below w.heap.size w W) (id : Int) => rget_dist (h.below q) ok k id)
  have HL96 := hi (rreadyV_len ok k)
  unfold rbestV
  obtain ⟨G, hG⟩ : ∃ G, (fun id => (getV D k id).1) = G := ⟨_, rfl⟩
  have HGV := hi (fun id => congrFun hG id)
  obtain ⟨L, hL⟩ : ∃ L, rreadyV D k = L := ⟨_, rfl⟩
  rw [hG, hL]
  rw [hL] at HRD HL96
  clear h ok hG hL
  have HBZ := hi (bal_two w (.cells #[.int .i64 0, .int .i64 0, .int .i64 0, .bool false] 55) (.cells #[.int .i64 0, .int .i64 0, .int .i64 0, .bool false] 55))
  have HCB := hi ((CB.new w 55 #[.int .i64 0, .int .i64 0, .int .i64 0, .bool false]).alloc (.cells #[.int .i64 0, .int .i64 0, .int .i64 0, .bool false] 55))
  have HCC := hi (show CB ((w.alloc (.cells #[.int .i64 0, .int .i64 0, .int .i64 0, .bool false] 55)).alloc (.cells #[.int .i64 0, .int .i64 0, .int .i64 0, .bool false] 55)) (w.heap.size + 1) 55 #[.int .i64 0, .int .i64 0, .int .i64 0, .bool false] from cb_second)
  go_enter Tryz.func54, Tryz.ntmps54
  go_wp2_with (first
    | (go_at_call 56; ((with_reducible refine (HRD.out _ HBZ.out).mono ?_); rintro e w1 ⟨o, rfl, hC⟩; obtain ⟨a, cap, rfl, hnw⟩ := hC.new; have HB1 := hi (HBZ.out.trans (hC.below.mono HBZ.out.size)); have HNW := hi hnw; have HC0 := hi (HCB.out.below hC.below); have HC1 := hi (HCC.out.below hC.below); clear hC hnw)))
  clear HRD HCB HCC
  go_loopw [14] (fun i wr => ∃ j : Nat, i = .int .i64 j ∧ Hi (j ≤ L.length ∧ Kept (fun i => i = w.heap.size + 1) w1 wr ∧ CB wr (w.heap.size + 1) 55 (rbestG G (L.take j)).cs)) (fun i _ => L.length - (intOf i).toNat)
  case atStart => exact ⟨0, rfl, hi ⟨Nat.zero_le _, Kept.refl _ _, HC1.out⟩⟩
  case round =>
    obtain ⟨j, rfl, HH⟩ := hrel
    obtain ⟨hj, hK, hcb⟩ := HH.out
    have hw0 := HB1.out.size
    have HBW := hi (show Below w.heap.size w wr from HB1.out.trans (hK.toBelow hw0 (fun i e => by omega)))
    by_cases hlt : j < L.length
    · have hj96 : j < 96 := by have := HL96.out; omega
      obtain ⟨gl, rfl, hgl, hrow⟩ := (HNW.out.kept hK (fun i e => by have := HBZ.out.size; simp; omega)) (fun e => by rw [e] at hlt; simp at hlt)
      have hcell : wr.cell? ⟨gl, j, none⟩ = some (.int .i64 L[j]) := (hrow.cell (by rw [List.length_map]; exact hlt)).trans (by simp [hlt])
      have HST := hi (rbestG_take G hlt)
      obtain ⟨x, hx⟩ : ∃ x, L[j] = x := ⟨_, rfl⟩
      rw [hx] at hcell HST
      have HG := hi (HGT.out wr HBW.out x)
      have hgx := HGV.out x
      obtain ⟨⟨y, er⟩, hy⟩ : ∃ y, getV D k x = y := ⟨_, rfl⟩
      rw [hy] at HG hgx
      dsimp only at HG hgx
      rw [← hgx] at HST
      obtain ⟨⟨e, l, hh, ac⟩, en, gr, p⟩ := y
      dsimp only [Ln.v] at HG
      obtain ⟨Cc, hCc⟩ : ∃ Cc, rbestG G (L.take j) = Cc := ⟨_, rfl⟩
      rw [hCc] at hcb HST HH
      have HX := hi (And.intro hj (And.intro hK hcb))
      have HLT := hi hlt
      obtain ⟨ci, cp, cg, cis⟩ := Cc
      unfold stepG at HST
      dsimp only at HST
      clear hj hK hcb HH hx hgx hy hCc hrow HGV HGT
      cases cis
      · simp only [Bool.not_false, Bool.true_or, if_true] at HST
        go_wp2_with (first
          | (go_at_call 57; ((with_reducible refine HG.out.mono ?_); rintro e' w2 ⟨rfl, hb⟩; have HB3 := hi (hb.alloc hb.size (.cells #[.bool e, .bool l, .bool hh, .bool ac, .bool en, .int .i64 gr, .int .i64 p] 58)); have hsz := hb.size; have hcc := HX.out.2.2.below HB3.out; obtain ⟨k0, k1, k2, k3⟩ := cd_cells hcc; dsimp only at k0 k1 k2 k3; have hf := hcc.frozen; have hlt1 := HX.out.2.2.lt; clear hb hcc)))
        go_roundw
        case rel =>
          refine ⟨j + 1, by go_num, hi ⟨HLT.out, ?_, ?_⟩⟩
          · exact (((((HX.out.2.1.trans (Kept.of HB3.out)).set _ _ rfl).set _ _ rfl).set _ _ rfl).set _ _ rfl)
          · rw [HST.out]
            exact (HX.out.2.2.below HB3.out).putC ⟨x, p, gr, true⟩
        case measure => have := HLT.out; simp only [intOf]; omega
      · simp only [Bool.not_true, Bool.false_or] at HST
        have HBF := hi (fun W => refBefore_any p x cp ci W)
        obtain ⟨r, hr⟩ : ∃ r, beforeB p x cp ci = r := ⟨_, rfl⟩
        rw [hr] at HBF HST
        clear hr
        cases r
        · simp only [Bool.false_eq_true, if_false] at HST
          go_wp2_with (first
            | (go_at_call 57; ((with_reducible refine HG.out.mono ?_); rintro e' w2 ⟨rfl, hb⟩; have HB3 := hi (hb.alloc hb.size (.cells #[.bool e, .bool l, .bool hh, .bool ac, .bool en, .int .i64 gr, .int .i64 p] 58)); have hsz := hb.size; have hcc := HX.out.2.2.below HB3.out; obtain ⟨k0, k1, k2, k3⟩ := cd_cells hcc; dsimp only at k0 k1 k2 k3; have hf := hcc.frozen; have hlt1 := HX.out.2.2.lt; clear hb hcc))
            | (go_at_call 98; ((with_reducible refine (HBF.out _).mono ?_); rintro e' w3 ⟨rfl, rfl⟩)))
          go_roundw
          case rel =>
            refine ⟨j + 1, by go_num, hi ⟨HLT.out, HX.out.2.1.trans (Kept.of HB3.out), ?_⟩⟩
            rw [HST.out]
            exact HX.out.2.2.below HB3.out
          case measure => have := HLT.out; simp only [intOf]; omega
        · simp only [if_true] at HST
          go_wp2_with (first
            | (go_at_call 57; ((with_reducible refine HG.out.mono ?_); rintro e' w2 ⟨rfl, hb⟩; have HB3 := hi (hb.alloc hb.size (.cells #[.bool e, .bool l, .bool hh, .bool ac, .bool en, .int .i64 gr, .int .i64 p] 58)); have hsz := hb.size; have hcc := HX.out.2.2.below HB3.out; obtain ⟨k0, k1, k2, k3⟩ := cd_cells hcc; dsimp only at k0 k1 k2 k3; have hf := hcc.frozen; have hlt1 := HX.out.2.2.lt; clear hb hcc))
            | (go_at_call 98; ((with_reducible refine (HBF.out _).mono ?_); rintro e' w3 ⟨rfl, rfl⟩)))
          go_roundw
          case rel =>
            refine ⟨j + 1, by go_num, hi ⟨HLT.out, ?_, ?_⟩⟩
            · exact (((((HX.out.2.1.trans (Kept.of HB3.out)).set _ _ rfl).set _ _ rfl).set _ _ rfl).set _ _ rfl)
            · rw [HST.out]
              exact (HX.out.2.2.below HB3.out).putC ⟨x, p, gr, true⟩
          case measure => have := HLT.out; simp only [intOf]; omega
    · obtain rfl : j = L.length := by omega
      rw [List.take_length] at hcb
      have HX := hi (And.intro hK hcb)
      obtain ⟨Cc, hCc⟩ : ∃ Cc, rbestG G L = Cc := ⟨_, rfl⟩
      rw [hCc] at hcb HX
      have HRC := hi hCc
      have hc0 : CB wr w.heap.size 55 #[.int .i64 0, .int .i64 0, .int .i64 0, .bool false] := HC0.out.heap (hK.block _ HC0.out.lt (by omega))
      obtain ⟨k0, k1, k2, k3⟩ := cd_cells hcb
      have z0 := hc0.cell 0
      have z1 := hc0.cell 1
      have z2 := hc0.cell 2
      have z3 := hc0.cell 3
      have hf := hc0.frozen
      have HCR := hi (CB.putC (y := ⟨0, 0, 0, false⟩) hc0 Cc)
      have HBR := hi (below_setC HBW.out (Nat.le_refl _) Cc)
      obtain ⟨ci, cp, cg, cis⟩ := Cc
      dsimp only at k0 k1 k2 k3
      clear hcb hc0 hK hj HH hCc
      go_wp2
      exact bodyPost_ret (results_cand rfl _ _ w.heap.size ⟨ci, cp, cg, cis⟩ rfl HCR.out) rfl ⟨by rw [HRC.out], HBR.out⟩
end
end Go.Proofs.YtggeakkofcaklaaGreat
namespace Go.Proofs.YtggeakkofcaklaaGreat
open Go.ChangeShapes Go.WideShapes Go.ChangeAt Go.RowKit
set_option linter.unusedVariables false
structure KF (F R : Nat → Prop) (W W' : World) : Prop where
  size : W.heap.size ≤ W'.heap.size
  same : ∀ i, F i ∨ R i → W'.heap[i]? = W.heap[i]?
theorem KF.refl (F R : Nat → Prop) (W : World) : KF F R W W := ⟨Nat.le_refl _, fun _ _ => rfl⟩
theorem KF.trans {F R : Nat → Prop} {A B C : World} (h : KF F R A B) (k : KF F R B C) : KF F R A C := ⟨Nat.le_trans h.size k.size, fun i q => (k.same i q).trans (h.same i q)⟩
theorem KF.of_below {F R : Nat → Prop} {W W' : World} (h : Below W.heap.size W W') (hl : ∀ i, F i ∨ R i → i < W.heap.size) : KF F R W W' := ⟨h.size, fun i q => h.block i (hl i q)⟩
theorem KF.of_kept {F R bs : Nat → Prop} {W W' : World} (h : Kept bs W W') (hl : ∀ i, F i ∨ R i → i < W.heap.size) (hn : ∀ i, bs i → ¬ (F i ∨ R i)) : KF F R W W' := ⟨h.size, fun i q => h.block i (hl i q) (fun x => hn i x q)⟩
theorem KF.put {F R : Nat → Prop} {W : World} {l : Nat} {o : Obj} (h : ¬ (F l ∨ R l)) : KF F R W (W.putObj l o) := ⟨by simp, fun i q => World.putObj_heap_other (fun e => h (e ▸ q))⟩
theorem KF.mono {F R F' R' : Nat → Prop} {W W' : World} (h : KF F R W W') (hs : ∀ i, F' i ∨ R' i → F i ∨ R i) : KF F' R' W W' := ⟨h.size, fun i q => h.same i (hs i q)⟩
structure FrOk {β : Type} (J : β → (Nat → Prop) → World → Prop) : Prop where
  st : ∀ s F A A', J s F A → Kept F A A' → J s F A'
  sub : ∀ s F G A, J s F A → (∀ i, G i → F i ∨ A.heap.size ≤ i) → J s G A
theorem FrOk.and {β : Type} {I J : β → (Nat → Prop) → World → Prop} (h : FrOk I) (k : FrOk J) : FrOk (fun s F W => I s F W ∧ J s F W) :=
  ⟨fun s F A A' q w => ⟨h.st s F A A' q.1 w, k.st s F A A' q.2 w⟩, fun s F G A q w => ⟨h.sub s F G A q.1 w, k.sub s F G A q.2 w⟩⟩
theorem FrOk.pure {β : Type} (p : β → Prop) : FrOk (fun s (_ : Nat → Prop) (_ : World) => p s) := ⟨fun _ _ _ _ h _ => h, fun _ _ _ _ h _ => h⟩
theorem FrOk.map {β γ : Type} {J : β → (Nat → Prop) → World → Prop} (h : FrOk J) (f : γ → β) : FrOk (fun s F W => J (f s) F W) := ⟨fun s => h.st (f s), fun s => h.sub (f s)⟩
def OwnB {β : Type} (b : Nat) (t : TypeId) (f : β → Array Value) (s : β) (F : Nat → Prop) (W : World) : Prop := ¬ F b ∧ CB W b t (f s)
theorem FrOk.ownB {β : Type} (b : Nat) (t : TypeId) (f : β → Array Value) : FrOk (OwnB b t f) :=
  ⟨fun s F A A' q w => ⟨q.1, q.2.heap (w.block b q.2.lt q.1)⟩, fun s F G A q w => ⟨fun g => by rcases w b g with x | x; exact q.1 x; have := q.2.lt; omega, q.2⟩⟩
theorem FrOk.reads {β : Type} (R : Nat → Prop) (p : β → World → Prop) (hl : ∀ s A, p s A → ∀ i, R i → i < A.heap.size) (hp : ∀ s A A', p s A → A.heap.size ≤ A'.heap.size → (∀ i, R i → A'.heap[i]? = A.heap[i]?) → p s A') :
    FrOk (fun s F W => (∀ i, R i → ¬ F i) ∧ p s W) :=
  ⟨fun s F A A' q w => ⟨q.1, hp s A A' q.2 w.size (fun i r => w.block i (hl s A q.2 i r) (q.1 i r))⟩, fun s F G A q w => ⟨fun i r g => by rcases w i g with x | x; exact q.1 i r x; have := hl s A q.2 i r; omega, q.2⟩⟩
theorem FrOk.with_ {β : Type} {J : β → (Nat → Prop) → World → Prop} (h : FrOk J) (X : Nat → Prop) : FrOk (fun s F W => J s (fun i => F i ∨ X i) W) :=
  ⟨fun s F A A' q w => h.st s _ A A' q (w.mono (fun i x => .inl x)), fun s F G A q w => h.sub s _ _ A q (fun i x => by rcases x with x | x; (rcases w i x with y | y; exact .inl (.inl y); exact .inr y); exact .inl (.inr x))⟩
theorem FrOk.since {β : Type} (n : Nat) (w0 : World) (hn : n ≤ w0.heap.size) : FrOk (fun (_ : β) F W => (∀ i, F i → n ≤ i) ∧ Below n w0 W) :=
  ⟨fun s F A A' q w => ⟨q.1, q.2.trans (w.toBelow (Nat.le_trans hn q.2.size) q.1)⟩, fun s F G A q w => ⟨fun i g => by rcases w i g with x | x; exact q.1 i x; have := q.2.size; omega, q.2⟩⟩
def SeqS {α : Type} (P : Program) (g : Nat) (lb : Array Value) (encs : α → Array Value) (R : Nat → Prop) (S Sp : List α → Prop) (N : List α → α → Prop) (w : World) : Prop :=
  ∀ (l : Nat) (J Jx : List α → (Nat → Prop) → World → Prop) (F : Nat → Prop) (W : World), Below w.heap.size w W → FrOk J → FrOk Jx → (∀ i, F i → i < W.heap.size ∧ ¬ R i) →
    (∀ pre x (G : Nat → Prop) W1, J pre G W1 → N pre x → (∀ i, F i → G i) → (∀ i, G i → i < W1.heap.size ∧ ¬ R i) → W.heap.size ≤ W1.heap.size → ∀ m, YieldAt Fence.wide m P l (encs x) W1 fun e W' =>
      (e = .returned (.bool true) ∧ J (pre ++ [x]) G W' ∧ KF G R W1 W') ∨ (e = .returned (.bool false) ∧ Jx (pre ++ [x]) G W' ∧ KF G R W1 W')) →
    J [] F W →
    Calls P g (#[.func (.yield l) #[] #[]] ++ lb) W fun e W' => (∃ v, e = .returned v) ∧ ((∃ xs, S xs ∧ ∃ G, (∀ i, F i → G i) ∧ J xs G W') ∨ (∃ pre, Sp pre ∧ ∃ G, (∀ i, F i → G i) ∧ Jx pre G W'))
def ownPostF {α : Type} (F R : Nat → Prop) (I : List α → (Nat → Prop) → World → Prop) (Ix : Code → List α → (Nat → Prop) → World → Prop) (xs : List α) (W : World) : Exit → Act → World → Prop
  | .normal, _, W' => KF F R W W' ∧ I xs F W'
  | .ret, _, W' => KF F R W W' ∧ Ix .ret xs F W'
  | .exit id, _, W' => KF F R W W' ∧ Ix (.exit id) xs F W'
  | .goto t, _, W' => KF F R W W' ∧ Ix (.goto t) xs F W'
  | .panic _, _, _ => False
  | .outgrown, _, _ => False
variable {n : Nat} {P : Program} {w : World}
theorem range_fr {α : Type} {g : Operand} {ps : Array Tmp} {assign body : Code} {Q : Exit → Act → World → Prop} {a : Act}
    (h1 : 1 ≤ n) {gf : Nat} {lb : Array Value} (hg : a.eval g = .func (.func gf) #[] lb) (eg : ∀ args w, (callFunc gf args).run P w = .ok (.enter gf args) w)
    {encs : α → Array Value} {R : Nat → Prop} {S Sp : List α → Prop} {N : List α → α → Prop} {w0 : World} (hseq : SeqS P gf lb encs R S Sp N w0)
    (hb0 : Below w0.heap.size w0 w) (hps : ∀ x, (encs x).size = ps.size) (hR : ∀ i, R i → i < w.heap.size)
    (Fr : Nat → Prop) (hFr : ∀ i, Fr i → i < w.heap.size ∧ ¬ R i)
    (I : List α → (Nat → Prop) → World → Prop) (Ix : Code → List α → (Nat → Prop) → World → Prop) (hI : FrOk I) (hIx : ∀ c, FrOk (Ix c)) (h0 : I [] Fr w)
    (Ax : α → Act → (Nat → Prop) → World → Prop) (hAx : ∀ x a', FrOk (fun (_ : Unit) F W => Ax x a' F W))
    (hassign : ∀ (l : Nat) (pre : List α) (x : α) (F : Nat → Prop) (W : World) (K : Act → World → Prop), I pre F W → (∀ i, Fr i → F i) → (∀ i, F i → i < W.heap.size ∧ ¬ R i) → w.heap.size + 2 ≤ W.heap.size → (∀ a' W', KF F R W W' → I pre F W' → Ax x a' F W' → K a' W') →
      assign.wpIn (Fence.wide.inRound l) (n - 1 - 1) P (Exit.then K (fun _ _ _ => False)) { tmps := (ps.zip (encs x)).foldl (fun t (p, v) => t.setIfInBounds p v) a.tmps, defers := [] } W)
    (hbody : ∀ (l : Nat) (pre : List α) (x : α) (a' : Act) (F : Nat → Prop) (W : World), (∀ i, Fr i → F i) → (∀ i, F i → i < W.heap.size ∧ ¬ R i) → w.heap.size + 2 ≤ W.heap.size → I pre F W → Ax x a' F W → N pre x → body.wpIn (Fence.wide.inRound l) (n - 1 - 1) P (ownPostF F R I Ix (pre ++ [x]) W) a' W)
    (hdone : ∀ (xs : List α) (F : Nat → Prop) (W : World), S xs → (∀ i, Fr i → F i) → I xs F W → W.heap[w.heap.size]? = some (.deferred (some [])) → w.heap.size + 2 ≤ W.heap.size → Q .normal { a with defers := { target := .collected w.heap.size, args := #[] } :: a.defers } W)
    (hstop : ∀ (c : Code) (pre : List α) (F : Nat → Prop) (W : World), Sp pre → (∀ i, Fr i → F i) → Ix c pre F W → W.heap[w.heap.size]? = some (.deferred (some [])) → w.heap.size + 2 ≤ W.heap.size → c.wpIn Fence.wide n P Q { a with defers := { target := .collected w.heap.size, args := #[] } :: a.defers } W) :
    (Code.rangeFunc g ps assign body).wpIn Fence.wide n P Q a w := by
  refine wpIn_rangeFunc ?_
  intro fn hfn
  rw [show Fence.wide.round = none from rfl]
  obtain ⟨rec, hrec⟩ : ∃ rec : LoopState → Option Code → Loop, rec = fun st pe => { state := st, pending := pe, fn, tmps := a.tmps, params := ps, assign, body, defers := w.heap.size } := ⟨_, rfl⟩
  obtain ⟨W1, hW1⟩ : ∃ W1, (w.alloc (.deferred (some []))).alloc (.loop (rec .ready none)) = W1 := ⟨_, rfl⟩
  have hL1 : W1.heap[w.heap.size + 1]? = some (.loop (rec .ready none)) := by
    rw [← hW1]; have := World.alloc_heap_new (w.alloc (.deferred (some []))) (.loop (rec .ready none)); rwa [World.size_alloc] at this
  have hK1 : W1.heap[w.heap.size]? = some (.deferred (some [])) := by
    rw [← hW1]; exact (Below.heap_alloc _ _ _ (by simp)).trans (World.alloc_heap_new w _)
  have hbw : Below w.heap.size w W1 := by
    rw [← hW1]; exact ((Below.refl _ w).alloc (Nat.le_refl _) _).alloc (by simp) _
  obtain ⟨Y, hY⟩ : ∃ Y : (Nat → Prop) → (Nat → Prop), Y = fun G i => G i ∨ i = w.heap.size ∨ i = w.heap.size + 1 := ⟨_, rfl⟩
  have Yl : ∀ {G : Nat → Prop} {i : Nat}, G i → Y G i := fun h => by rw [hY]; exact .inl h
  have Y0 : ∀ {G : Nat → Prop}, Y G w.heap.size := by intro G; rw [hY]; exact .inr (.inl rfl)
  have Y1 : ∀ {G : Nat → Prop}, Y G (w.heap.size + 1) := by intro G; rw [hY]; exact .inr (.inr rfl)
  have Yc : ∀ {G : Nat → Prop} {i : Nat}, Y G i → G i ∨ i = w.heap.size ∨ i = w.heap.size + 1 := fun h => by rw [hY] at h; exact h
  have hI1 : I [] (Y Fr) W1 := hI.st _ _ _ _ (hI.sub _ _ _ _ h0 (fun i q => by rcases Yc q with q | q | q; exact .inl q; exact .inr (by omega); exact .inr (by omega))) (Kept.of hbw)
  have hs1 : W1.heap.size = w.heap.size + 2 := by rw [← hW1]; simp
  have hb1 : Below w0.heap.size w0 W1 := hb0.trans (hbw.mono hb0.size)
  clear hY
  refine ⟨w.heap.size + 1, [{ target := .collected w.heap.size, args := #[] }], W1, { target := .fn (.func gf) lb, args := #[.func (.yield (w.heap.size + 1)) #[] #[]] }, W1, gf,
    #[.func (.yield (w.heap.size + 1)) #[] #[]] ++ lb, W1, ?_, ?_, ?_, ?_, fun _ => h1, ?_⟩
  · rw [← hW1, hrec]; exact run_enterLoop_outer _ _ _ _ _
  · simp only [resolve, hg]
    simp [go_sem]
  · intro f' hf'; trivial
  · simp [invoke, go_sem, eg]
  · have keepPut : ∀ (G : Nat → Prop) (W : World) (o : Obj), Kept (Y G) W (W.putObj (w.heap.size + 1) o) := fun G W o => ⟨rfl, rfl, rfl, by simp, fun i _ hn => World.putObj_heap_other (fun e => hn (by rw [e]; exact Y1))⟩
    have ok : ∀ (X : List α → (Nat → Prop) → World → Prop) (ob : Obj), FrOk X → FrOk (fun pre (G : Nat → Prop) W => X pre (Y G) W ∧ (W.heap[w.heap.size + 1]? = some ob ∧ W.heap[w.heap.size]? = some (.deferred (some []))) ∧ ¬ G w.heap.size ∧ ¬ G (w.heap.size + 1)) := fun X ob hX =>
      ⟨fun s G A A' q k => ⟨hX.st _ _ _ _ q.1 (k.mono (fun i x => Yl x)), ⟨(k.block _ (Array.getElem?_eq_some_iff.1 q.2.1.1).1 q.2.2.2).trans q.2.1.1, (k.block _ (Array.getElem?_eq_some_iff.1 q.2.1.2).1 q.2.2.1).trans q.2.1.2⟩, q.2.2⟩,
       fun s F G A q k => ⟨hX.sub _ _ _ _ q.1 (fun i x => by rcases Yc x with x | x | x; (rcases k i x with y | y; exact .inl (Yl y); exact .inr y); exact .inl (by rw [x]; exact Y0); exact .inl (by rw [x]; exact Y1)), q.2.1,
         fun x => by rcases k _ x with y | y; exact q.2.2.1 y; have := (Array.getElem?_eq_some_iff.1 q.2.1.2).1; omega,
         fun x => by rcases k _ x with y | y; exact q.2.2.2 y; have := (Array.getElem?_eq_some_iff.1 q.2.1.1).1; omega⟩⟩
    refine (callsIn_wide.2 (hseq (w.heap.size + 1)
      (fun pre G W => I pre (Y G) W ∧ (W.heap[w.heap.size + 1]? = some (.loop (rec .ready none)) ∧ W.heap[w.heap.size]? = some (.deferred (some []))) ∧ ¬ G w.heap.size ∧ ¬ G (w.heap.size + 1))
      (fun pre G W => ∃ c, Ix c pre (Y G) W ∧ (W.heap[w.heap.size + 1]? = some (.loop (rec .done (some c))) ∧ W.heap[w.heap.size]? = some (.deferred (some []))) ∧ ¬ G w.heap.size ∧ ¬ G (w.heap.size + 1))
      Fr W1 hb1 (ok I _ hI)
      ⟨fun s G A A' q k => by obtain ⟨c, q⟩ := q; exact ⟨c, (ok (Ix c) _ (hIx c)).st s G A A' q k⟩, fun s F G A q k => by obtain ⟨c, q⟩ := q; exact ⟨c, (ok (Ix c) _ (hIx c)).sub s F G A q k⟩⟩
      (fun i q => ⟨by have := (hFr i q).1; omega, (hFr i q).2⟩)
      ?_ ⟨hI1, ⟨hL1, hK1⟩, fun q => by have := (hFr _ q).1; omega, fun q => by have := (hFr _ q).1; omega⟩)).mono ?_
    · 
      rintro pre x G W ⟨hi, ⟨hl, hk⟩, hn0, hn1⟩ hlen hFG hGs hsz m
      refine yieldAny rfl (m := n - 1 - 1) m ?_
      rw [hs1] at hsz
      have hlt : w.heap.size + 1 < W.heap.size := (Array.getElem?_eq_some_iff.1 hl).1
      have hy := run_yield (P := P) (args := encs x) hl (by rw [hrec]; exact hps x)
      rw [hrec] at hy
      have hYs : ∀ W' : World, W.heap.size ≤ W'.heap.size → ∀ i, Y G i → i < W'.heap.size ∧ ¬ R i := fun W' hs i q => by
        rcases Yc q with q | q | q
        · exact ⟨Nat.lt_of_lt_of_le (hGs i q).1 hs, (hGs i q).2⟩
        · exact ⟨by omega, fun r => by have := hR i r; omega⟩
        · exact ⟨by omega, fun r => by have := hR i r; omega⟩
      refine ⟨fn, _, assign, body, hy, roundIn_of_wpIn hfn (hassign _ pre x (Y G) W _ hi (fun i q => Yl (hFG i q)) (hYs W (Nat.le_refl _)) hsz ?_)⟩
      clear hy
      intro a' Wa hka hia hax
      have hla := (hka.same _ (.inl Y1)).trans hl
      have hka0 := (hka.same _ (.inl Y0)).trans hk
      have hlta : w.heap.size + 1 < Wa.heap.size := (Array.getElem?_eq_some_iff.1 hla).1
      refine ⟨_, run_beginRound hla (by rw [hrec]), ?_⟩
      obtain ⟨Wb, hWb⟩ : ∃ Wb, Wa.putObj (w.heap.size + 1) (.loop { rec .ready none with state := .busy }) = Wb := ⟨_, rfl⟩
      have hlb : Wb.heap[w.heap.size + 1]? = some (.loop { rec .ready none with state := .busy }) := by rw [← hWb]; exact World.putObj_heap_same hlta
      have hkb : Wb.heap[w.heap.size]? = some (.deferred (some [])) := by rw [← hWb]; exact (World.putObj_heap_other (by omega)).trans hka0
      have hib : I pre (Y G) Wb := by rw [← hWb]; exact hI.st _ _ _ _ hia (keepPut G Wa _)
      have hxb : Ax x a' (Y G) Wb := by rw [← hWb]; exact (hAx x a').st () _ _ _ hax (keepPut G Wa _)
      have hsb : Wa.heap.size = Wb.heap.size := by rw [← hWb]; simp
      have hnk : ∀ (V : World) (o : Obj), KF G R V (V.putObj (w.heap.size + 1) o) := fun V o => KF.put (fun q => by rcases q with q | q; exact hn1 q; have := hR _ q; omega)
      have hkw : KF G R W Wb := (hka.mono (fun i q => by rcases q with q | q; exact .inl (Yl q); exact .inr q)).trans (by rw [← hWb]; exact hnk Wa _)
      rw [hWb]
      refine wpIn_mono (hbody _ pre x a' (Y G) _ (fun i q => Yl (hFG i q)) (hYs _ (by have := hka.size; omega)) (by have := hka.size; omega) hib hxb hlen) ?_
      have fin : ∀ (jump : Option Code) (W3 : World), KF (Y G) R Wb W3 →
          (Instr.endRound (w.heap.size + 1) jump).run P W3 = .ok (.bool jump.isNone) (W3.putObj (w.heap.size + 1) (.loop (rec (if jump.isNone then .ready else .done) jump))) ∧
          (W3.putObj (w.heap.size + 1) (.loop (rec (if jump.isNone then .ready else .done) jump))).heap[w.heap.size + 1]? = some (.loop (rec (if jump.isNone then .ready else .done) jump)) ∧
          (W3.putObj (w.heap.size + 1) (.loop (rec (if jump.isNone then .ready else .done) jump))).heap[w.heap.size]? = some (.deferred (some [])) ∧
          KF G R W (W3.putObj (w.heap.size + 1) (.loop (rec (if jump.isNone then .ready else .done) jump))) := fun jump W3 hk3 => by
        have hl3 := (hk3.same _ (.inl Y1)).trans hlb
        have := run_endRound (P := P) jump hl3
        rw [hrec] at this ⊢
        exact ⟨this, World.putObj_heap_same (Array.getElem?_eq_some_iff.1 hl3).1, (World.putObj_heap_other (by omega)).trans ((hk3.same _ (.inl Y0)).trans hkb), (hkw.trans (hk3.mono (fun i q => by rcases q with q | q; exact .inl (Yl q); exact .inr q))).trans (hnk W3 _)⟩
      rintro e a3 W3 hp
      cases e with
      | normal =>
        obtain ⟨hk3, hi3⟩ := hp
        obtain ⟨hr, hl4, hk4, hkf⟩ := fin none W3 hk3
        exact ⟨_, _, hr, .inl ⟨rfl, ⟨hI.st _ _ _ _ hi3 (keepPut G W3 _), ⟨hl4, hk4⟩, hn0, hn1⟩, hkf⟩⟩
      | ret =>
        obtain ⟨hk3, hi3⟩ := hp
        obtain ⟨hr, hl4, hk4, hkf⟩ := fin (some .ret) W3 hk3
        exact ⟨_, _, hr, .inr ⟨rfl, ⟨.ret, (hIx _).st _ _ _ _ hi3 (keepPut G W3 _), ⟨hl4, hk4⟩, hn0, hn1⟩, hkf⟩⟩
      | exit id =>
        obtain ⟨hk3, hi3⟩ := hp
        obtain ⟨hr, hl4, hk4, hkf⟩ := fin (some (.exit id)) W3 hk3
        exact ⟨_, _, hr, .inr ⟨rfl, ⟨.exit id, (hIx _).st _ _ _ _ hi3 (keepPut G W3 _), ⟨hl4, hk4⟩, hn0, hn1⟩, hkf⟩⟩
      | goto t =>
        obtain ⟨hk3, hi3⟩ := hp
        obtain ⟨hr, hl4, hk4, hkf⟩ := fin (some (.goto t)) W3 hk3
        exact ⟨_, _, hr, .inr ⟨rfl, ⟨.goto t, (hIx _).st _ _ _ _ hi3 (keepPut G W3 _), ⟨hl4, hk4⟩, hn0, hn1⟩, hkf⟩⟩
      | panic ch => exact hp.elim
      | outgrown => exact hp.elim
    · 
      rintro e W2 ⟨⟨v, rfl⟩, (⟨xs, hS, G, hFG, hi, ⟨hl, hk⟩, hn0, hn1⟩ | ⟨pre, hSp, G, hFG, c, hi, ⟨hl, hk⟩, hn0, hn1⟩)⟩
      · exact ⟨none, _, by have := run_endLoop (P := P) hl (by rw [hrec]; simp); rw [hrec] at this; exact this, hdone xs (Y G) _ hS (fun i q => Yl (hFG i q)) (hI.st _ _ _ _ hi (keepPut G W2 _)) ((World.putObj_heap_other (by omega)).trans hk) (by have := (Array.getElem?_eq_some_iff.1 hl).1; simp; omega)⟩
      · exact ⟨some c, _, by have := run_endLoop (P := P) hl (by rw [hrec]; simp); rw [hrec] at this; exact this, hstop c pre (Y G) _ hSp (fun i q => Yl (hFG i q)) ((hIx c).st _ _ _ _ hi (keepPut G W2 _)) ((World.putObj_heap_other (by omega)).trans hk) (by have := (Array.getElem?_eq_some_iff.1 hl).1; simp; omega)⟩
end Go.Proofs.YtggeakkofcaklaaGreat
namespace Go.Proofs.YtggeakkofcaklaaGreat
open Go.ChangeShapes Go.WideShapes Go.ChangeAt Go.RowKit
set_option linter.unusedVariables false
def noDefer (ops : Array Oper) : Bool := ops.all fun o => match o.op with | .defer _ => false | _ => true
theorem noDefer_at {ops : Array Oper} (h : noDefer ops = true) {i : Nat} {o : Oper} (ho : ops[i]? = some o) : ∀ c, o.op ≠ .defer c := fun c e => by
  obtain ⟨hi, rfl⟩ := Array.getElem?_eq_some_iff.1 ho
  have h1 := Array.all_eq_true.1 h i hi
  rw [e] at h1
  cases h1
section
variable {F : Fence} {n : Nat} {P : Program} {ops : Array Oper}
theorem wpOpIn_round {Q : Exit → Act → World → Prop} {i l : Nat} {K K' : Act → World → Prop} {a : Act} {w : World} (hro : F.round = none) (hd : noDefer ops = true) (hK : ∀ a w, K a w → K' a w) (h : wpOpIn F n P ops Q i K a w) : wpOpIn (F.inRound l) n P ops Q i K' a w := by
  have h' := wpOpIn_mono (fun a w => hK a w) h
  unfold wpOpIn at h' ⊢
  split
  · rename_i ho; simp only [ho] at h'; exact h'
  · rename_i o ho
    simp only [ho] at h'
    split
    · rename_i hw
      simp only [hw, if_true] at h'
      unfold Oper.wpIn at h' ⊢
      rw [hro, Oper.semAt_none] at h'
      rw [Fence.inRound_round, Oper.semAt_eq _ _ _ (noDefer_at hd ho)]
      exact h'
    · rename_i hw
      simp only [hw] at h'
      exact h'
theorem wpAnyIn_round {Q : Exit → Act → World → Prop} {l : Nat} {md : Region.Mode} (hro : F.round = none) (hd : noDefer ops = true) : ∀ (fuel : Nat) (listed : Array Bool) (a : Act) (w : World), wpAnyIn F n P md ops Q fuel listed a w → wpAnyIn (F.inRound l) n P md ops Q fuel listed a w
  | 0, _, _, _, h => h
  | fuel + 1, _, _, _, h => ⟨h.1, fun i hi => wpOpIn_round hro hd (fun a w => wpAnyIn_round hro hd fuel _ a w) (h.2 i hi)⟩
end
end Go.Proofs.YtggeakkofcaklaaGreat
namespace Go.Proofs.YtggeakkofcaklaaGreat
open Go.ChangeShapes Go.WideShapes Go.ChangeAt Go.RowKit
set_option linter.unusedVariables false
section
variable {F : Fence} {n : Nat} {P : Program} {ops : Array Oper} {Q : Exit → Act → World → Prop} {md : Region.Mode} {S : World → Prop}
theorem wpOpIn_keep {j : Nat} {oi oj : Oper} {v : Value} (Ψ : Act → Prop) (hΨ1 : ∀ a u, Ψ a → Ψ (a.put oj.dst u)) (hΨ2 : ∀ a d, Ψ a → Ψ { a with defers := d :: a.defers }) (hro : F.round = none) (hj : ops[j]? = some oj) (hap : oi.apart ops oj = true) (hsj : ∀ cs b, oj.op ≠ .select cs b)
    (hQ : ∀ c a w, Q (.panic c) (a.put oi.dst v) w → Q (.panic c) a w) {K : Act → World → Prop} {a : Act} {w : World} (hy : Ψ a) (h : wpOpIn F n P ops Q j K (a.put oi.dst v) w) :
    wpOpIn F n P ops Q j (fun a' w' => Ψ a' ∧ K (a'.put oi.dst v) w') a w := by
  obtain ⟨p1, p2, p3⟩ := Oper.apart_spec hap
  have both : ∀ u w', K ((a.put oi.dst v).put oj.dst u) w' → Ψ (a.put oj.dst u) ∧ K ((a.put oj.dst u).put oi.dst v) w' := fun u w' q => ⟨hΨ1 a u hy, by rw [← Act.put_comm a v u p2]; exact q⟩
  unfold wpOpIn at h ⊢
  simp only [hj] at h ⊢
  rw [wanted_put oj a oi.dst v p1, about_put oj w a oi.dst v p1] at h
  by_cases hw : Region.wanted oj (yielded ops a.tmps) = true
  · rw [if_pos hw] at h ⊢
    unfold Oper.wpIn at h ⊢
    rw [about_put oj w a oi.dst v p1, hro, Oper.semAt_none, execOp_put oj hsj a oi.dst v p1] at h
    rw [hro, Oper.semAt_none]
    refine ⟨h.1, ?_⟩
    have h2 := h.2
    clear h
    revert h2
    generalize (execOp a.eval oj).run P w = r
    intro h2
    rcases r with ⟨x, w'⟩ | ⟨x, w'⟩
    · cases x with
      | value u => exact both u w' h2
      | skip => exact both undef w' h2
      | defer d => exact ⟨hΨ1 _ _ (hΨ2 a d hy), by
          simp only [Oper.uponIn] at h2
          rw [← Act.put_comm _ v undef p2, ← Act.put_defers]
          exact h2⟩
      | enter f args => exact ⟨h2.1, CallsIn.mono h2.2 fun e w'' q => by
          cases e with
          | returned u => exact both u w'' q
          | panicked c => exact hQ _ _ _ q
          | outgrown => exact q⟩
      | row row args => exact ⟨h2.1, RowsIn.mono h2.2 fun u w'' q => both u w'' q⟩
      | round l f tmps assign body => exact ⟨h2.1, RoundIn.mono h2.2 fun e w'' q => by
          cases e with
          | returned u => exact both u w'' q
          | panicked c => exact hQ _ _ _ q
          | outgrown => exact q⟩
      | _ => exact h2
    · cases x with
      | panic u => exact hQ _ _ _ h2
      | _ => exact h2
  · rw [if_neg hw] at h ⊢
    exact ⟨h.1, both undef w h.2⟩
def YieldsG (P : Program) (ops : Array Oper) (S : World → Prop) (o : Oper) (v : Value) (a : Act) : Prop := YieldsIf P ops S o v a ∧ ∀ w, o.about P w a.eval = none
theorem YieldsG.opIn {i : Nat} {o : Oper} {v : Value} {a : Act} (hro : F.round = none) (hi : ops[i]? = some o) (hy : YieldsG P ops S o v a) {K : Act → World → Prop} {w : World} (hS : S w) (h : K (a.put o.dst v) w) : wpOpIn F n P ops Q i K a w := by
  unfold wpOpIn
  simp only [hi]
  have hab : ∀ f, o.about P w a.eval = some f → F.fn f := fun f hf => by rw [hy.2 w] at hf; cases hf
  rcases hy.1 with ⟨hw, hv⟩ | ⟨hw, rfl⟩
  · rw [if_pos hw]
    unfold Oper.wpIn
    rw [hro, Oper.semAt_none, hv w hS]
    exact ⟨hab, h⟩
  · rw [if_neg (by rw [hw]; simp)]
    exact ⟨hab, h⟩
def wpAnyG (F : Fence) (n : Nat) (P : Program) (md : Region.Mode) (ops : Array Oper) (Q : Exit → Act → World → Prop) (S : World → Prop) : Nat → Array Bool → Act → World → Prop
  | 0, listed, a, w => Region.ready md ops listed = [] ∧ Q .normal a w
  | fuel + 1, listed, a, w =>
    (Region.ready md ops listed = [] → Q .normal a w) ∧
    ∀ i ∈ Region.ready md ops listed, wpOpIn F n P ops Q i (fun a' w' => S w' ∧ wpAnyG F n P md ops Q S fuel (listed.setIfInBounds i true) a' w') a w
theorem wpAnyIn_of_G : ∀ (fuel : Nat) (listed : Array Bool) (a : Act) (w : World), wpAnyG F n P md ops Q S fuel listed a w → wpAnyIn F n P md ops Q fuel listed a w
  | 0, _, _, _, h => h
  | fuel + 1, _, _, _, h => ⟨h.1, fun i hi => wpOpIn_mono (fun a' w' h' => wpAnyIn_of_G fuel _ a' w' h'.2) (h.2 i hi)⟩
theorem wpAnyG_first {i : Nat} {oi : Oper} {v : Value} (hro : F.round = none) (hi : ops[i]? = some oi) (hsel : ∀ (j : Nat) (o : Oper) cs b, ops[j]? = some o → o.op ≠ .select cs b)
    (hQ : ∀ c a w, Q (.panic c) (a.put oi.dst v) w → Q (.panic c) a w) :
    ∀ (fuel : Nat) (listed : Array Bool) (a : Act) (w : World),
      (∀ j oj, ops[j]? = some oj → j ≠ i → listed.getD j true = false → (∀ e ∈ oj.after, Region.binds md e = true → e.on ≠ i) → oi.apart ops oj = true) →
      i ∈ Region.ready md ops listed → YieldsG P ops S oi v a → S w →
      wpAnyG F n P md ops Q S fuel (listed.setIfInBounds i true) (a.put oi.dst v) w → wpAnyG F n P md ops Q S (fuel + 1) listed a w := by
  intro fuel
  induction fuel with
  | zero =>
    intro listed a w _ hr hy hS H
    refine ⟨fun h => (by rw [h] at hr; cases hr), fun j hj => ?_⟩
    by_cases hji : j = i
    · subst hji; exact hy.opIn hro hi hS ⟨hS, H⟩
    · have := ready_mono hj hji
      rw [H.1] at this
      cases this
  | succ fuel ih =>
    intro listed a w hfree hr hy hS H
    refine ⟨fun h => (by rw [h] at hr; cases hr), fun j hj => ?_⟩
    by_cases hji : j = i
    · subst hji; exact hy.opIn hro hi hS ⟨hS, H⟩
    · have h1 := H.2 j (ready_mono hj hji)
      have hir := mem_ready.1 hr
      obtain ⟨hjun, oj, hoj, hall⟩ := mem_ready.1 hj
      have hnot : ∀ e ∈ oj.after, Region.binds md e = true → e.on ≠ i := fun e he hb heq => by
        have h1 := hall e he hb
        have h0 := hir.1
        rw [heq] at h1
        rcases Nat.lt_or_ge i listed.size with h' | h'
        · simp [h'] at h0 h1; rw [h0] at h1; cases h1
        · simp [Array.getElem?_eq_none h'] at h1
      have hap := hfree j oj hoj hji hjun hnot
      obtain ⟨q1, q2, q3⟩ := Oper.apart_spec hap
      have hst : ∀ a u, YieldsG P ops S oi v a → YieldsG P ops S oi v (a.put oj.dst u) := fun a u q => ⟨q.1.of_same (execOp_put oi (fun cs b => hsel i oi cs b hi) a oj.dst u q3) (wanted_put oi a oj.dst u q3), fun w => by rw [about_put oi w a oj.dst u q3]; exact q.2 w⟩
      have h2 := wpOpIn_keep (YieldsG P ops S oi v) hst (fun a d q => ⟨q.1.of_same rfl rfl, q.2⟩) hro hoj hap (fun cs b => hsel j oj cs b hoj) hQ hy h1
      have hfree' : ∀ k ok, ops[k]? = some ok → k ≠ i → (listed.setIfInBounds j true).getD k true = false →
          (∀ e ∈ ok.after, Region.binds md e = true → e.on ≠ i) → oi.apart ops ok = true := fun k ok hk hki hun hno => by
        refine hfree k ok hk hki ?_ hno
        by_cases hjk : j = k
        · subst hjk; exact hjun
        · rw [getD_set_ne true hjk] at hun; exact hun
      refine wpOpIn_mono (fun a' w' h3 => ⟨h3.2.1, ih (listed.setIfInBounds j true) a' w' hfree' (ready_mono hr (Ne.symm hji)) h3.1 h3.2.1 ?_⟩) h2
      rw [Array.setIfInBounds_comm _ _ hji]
      exact h3.2.2
theorem wpAnyG_take {i : Nat} {oi : Oper} {v : Value} {fuel : Nat} {listed : Array Bool} {a : Act} {w : World} (hro : F.round = none) (hi : ops[i]? = some oi)
    (hs : Region.noSelect ops = true) (hf : Region.free md ops listed i = true) (hr : (Region.ready md ops listed).contains i = true)
    (hQ : ∀ c a w, Q (.panic c) (a.put oi.dst v) w → Q (.panic c) a w) (hy : YieldsIf P ops S oi v a) (hab : ∀ w, oi.about P w a.eval = none) (hS : S w)
    (h : wpAnyG F n P md ops Q S fuel (listed.setIfInBounds i true) (a.put oi.dst v) w) : wpAnyG F n P md ops Q S (fuel + 1) listed a w :=
  wpAnyG_first hro hi (Region.noSelect_spec hs) hQ fuel listed a w (Region.free_spec hi hf) (by simpa using hr) ⟨hy, hab⟩ hS h
theorem wpAnyG_done {listed : Array Bool} {a : Act} {w : World} (hr : Region.ready md ops listed = []) (h : Q .normal a w) : ∀ fuel, wpAnyG F n P md ops Q S fuel listed a w
  | 0 => ⟨hr, h⟩
  | _ + 1 => ⟨fun _ => h, by rw [hr]; simp⟩
theorem wpAnyG_one {i : Nat} {o : Oper} {fuel : Nat} {listed : Array Bool} {a : Act} {w : World} (hr : Region.ready md ops listed = [i]) (ho : ops[i]? = some o)
    (h : ∀ K' : Act → World → Prop, Shut (∀ a w, S w → (S w → wpAnyG F n P md ops Q S fuel (listed.setIfInBounds i true) a w) → K' a w) → if Region.wanted o (yielded ops a.tmps) = true then Oper.wpIn F n P o a w K' Q else (∀ f, o.about P w a.eval = some f → F.fn f) ∧ K' (a.put o.dst undef) w) :
    wpAnyG F n P md ops Q S (fuel + 1) listed a w := by
  refine ⟨fun h0 => (by rw [h0] at hr; cases hr), ?_⟩
  rw [hr]
  intro j hj
  obtain rfl : j = i := by simpa using hj
  exact wpOpIn_step ho (fun K' hK => h K' (fun a w hS hW => hK a w ⟨hS, hW hS⟩))
theorem region_held_g {l id : Nat} {a : Act} {w : World} {os : List Oper} (hro : F.round = none) (hm : P.follows .mixedOrders = true) (hd : noDefer os.toArray = true) (hS : S w.drew)
    (h : S w.drew → wpAnyG F n P .any os.toArray Q S os.toArray.size (Array.replicate os.toArray.size false) a w.drew) : (Code.region id os.toArray true).wpIn (F.inRound l) n P Q a w :=
  wpIn_region_any hm (wpAnyIn_round hro hd _ _ _ _ (wpAnyIn_of_G _ _ _ _ (h hS)))
end
end Go.Proofs.YtggeakkofcaklaaGreat
