import Derived.Test.YtieedhdmpabfkaaGreatMg10
import Derived.Test.YtieedhdmpabfkaaGreatMg11
import Derived.Test.YtieedhdmpabfkaaGreatMg09
import Derived.Test.YtieedhdmpabfkaaGreatMg07
set_option linter.unusedSimpArgs false
namespace Go.Proofs.YtieedhdmpabfkaaGreat
open Go.ChangeShapes Go.WideShapes Go.ChangeAt Go.RowKit Go.Shelf
set_option linter.unusedVariables false
structure Co where
 es : List En
 sl : Bool
deriving DecidableEq, Inhabited
structure Ds where
 g0 : Bool
 g1 : Bool
 cs : List Co
 sh : List En
deriving DecidableEq, Inhabited
def Ds.nth (D : Ds) (k : Nat) : Co := D.cs[k]?.getD default
theorem Ds.at_ {D : Ds} {k : Nat} (h : k < D.cs.length) : D.cs[k]? = some (D.nth k) := by simp [Ds.nth, List.getElem?_eq_getElem h]
structure Ds.Ok (D : Ds) : Prop where
 n1 : 1 ≤ D.cs.length
 n8 : D.cs.length ≤ 8
 m : D.sh.length ≤ 64
 own : ∀ k, k < D.cs.length → (D.nth k).es.length = 32
 fine : ∀ k, k < D.cs.length → FineAll (D.nth k).es
 fsh : FineAll D.sh
 rt : ∀ k, k < D.sh.length → 0 ≤ (nthE D.sh k).s.c ∧ (nthE D.sh k).s.c ≤ 255
def Ds.setOwn (D : Ds) (k : Nat) (es : List En) : Ds := { D with cs := D.cs.set k ⟨es, (D.nth k).sl⟩ }
def Ds.setSl (D : Ds) (k : Nat) (b : Bool) : Ds := { D with cs := D.cs.set k ⟨(D.nth k).es, b⟩ }
def Ds.setSh (D : Ds) (es : List En) : Ds := { D with sh := es }
def Ds.setOn (D : Ds) (a b : Bool) : Ds := { D with g0 := a, g1 := b }
theorem Ds.nth_set {D : Ds} {k : Nat} (hk : k < D.cs.length) (c : Co) (j : Nat) : ({ D with cs := D.cs.set k c } : Ds).nth j = if j = k then c else D.nth j := by
 unfold Ds.nth
 by_cases h : j = k
 ·subst h
  simp [List.getElem?_set_self hk]
 ·rw [if_neg h, List.getElem?_set_ne (Ne.symm h)]
theorem Ds.own_same {D : Ds} {k : Nat} (hk : k < D.cs.length) (es : List En) : (D.setOwn k es).nth k = ⟨es, (D.nth k).sl⟩ := by rw [Ds.setOwn, Ds.nth_set hk, if_pos rfl]
theorem Ds.own_other {D : Ds} {k j : Nat} (hk : k < D.cs.length) (h : j ≠ k) (es : List En) : (D.setOwn k es).nth j = D.nth j := by rw [Ds.setOwn, Ds.nth_set hk, if_neg h]
theorem Ds.sl_same {D : Ds} {k : Nat} (hk : k < D.cs.length) (b : Bool) : (D.setSl k b).nth k = ⟨(D.nth k).es, b⟩ := by rw [Ds.setSl, Ds.nth_set hk, if_pos rfl]
theorem Ds.sl_other {D : Ds} {k j : Nat} (hk : k < D.cs.length) (h : j ≠ k) (b : Bool) : (D.setSl k b).nth j = D.nth j := by rw [Ds.setSl, Ds.nth_set hk, if_neg h]
theorem Ds.own_len (D : Ds) (k : Nat) (es : List En) : (D.setOwn k es).cs.length = D.cs.length := by simp [Ds.setOwn]
theorem Ds.sl_len (D : Ds) (k : Nat) (b : Bool) : (D.setSl k b).cs.length = D.cs.length := by simp [Ds.setSl]
theorem Ds.sl_es {D : Ds} {k : Nat} (hk : k < D.cs.length) (b : Bool) (j : Nat) : ((D.setSl k b).nth j).es = (D.nth j).es := by
 by_cases h : j = k
 ·subst h; rw [Ds.sl_same hk]
 ·rw [Ds.sl_other hk h]
theorem Ds.own_sl {D : Ds} {k : Nat} (hk : k < D.cs.length) (es : List En) (j : Nat) : ((D.setOwn k es).nth j).sl = (D.nth j).sl := by
 by_cases h : j = k
 ·subst h; rw [Ds.own_same hk]
 ·rw [Ds.own_other hk h]
theorem Ds.Ok.setOwn {D : Ds} (h : D.Ok) {k : Nat} (hk : k < D.cs.length) {es : List En} (hl : es.length = 32) (hf : FineAll es) : (D.setOwn k es).Ok := by
 refine ⟨by rw [Ds.own_len]; exact h.n1, by rw [Ds.own_len]; exact h.n8, h.m, fun j hj => ?_, fun j hj => ?_, h.fsh, h.rt⟩
 all_goals
  rw [Ds.own_len] at hj
  by_cases e : j = k
  ·subst e; rw [Ds.own_same hk]; assumption
  ·rw [Ds.own_other hk e]
   first | exact h.own j hj | exact h.fine j hj
theorem Ds.Ok.setSl {D : Ds} (h : D.Ok) {k : Nat} (hk : k < D.cs.length) (b : Bool) : (D.setSl k b).Ok := by
 refine ⟨by rw [Ds.sl_len]; exact h.n1, by rw [Ds.sl_len]; exact h.n8, h.m, fun j hj => ?_, fun j hj => ?_, h.fsh, h.rt⟩
 all_goals
  rw [Ds.sl_len] at hj
  rw [Ds.sl_es hk]
  first | exact h.own j hj | exact h.fine j hj
theorem Ds.Ok.setOn {D : Ds} (h : D.Ok) (a b : Bool) : (D.setOn a b).Ok := ⟨h.n1, h.n8, h.m, h.own, h.fine, h.fsh, h.rt⟩
theorem Ds.Ok.setSh {D : Ds} (h : D.Ok) {es : List En} (hl : es.length = D.sh.length) (hf : FineAll es) (hr : ∀ k, k < D.sh.length → 0 ≤ (nthE es k).s.c ∧ (nthE es k).s.c ≤ 255) : (D.setSh es).Ok :=
 ⟨h.n1, h.n8, by show es.length ≤ 64; rw [hl]; exact h.m, h.own, h.fine, hf, fun k hk => hr k (by have : k < es.length := hk; omega)⟩
theorem fit_own {es : List En} (h : es.length = 32) : Fit 0 es.length := by rw [h]; exact ⟨by decide, by decide, by decide⟩
theorem fit_sh {es : List En} (h : es.length ≤ 64) : Fit 32 es.length := ⟨by decide, by omega, by omega⟩
theorem Ds.Ok.fitO {D : Ds} (h : D.Ok) {k : Nat} (hk : k < D.cs.length) : Fit 0 (D.nth k).es.length := fit_own (h.own k hk)
theorem Ds.Ok.fitS {D : Ds} (h : D.Ok) : Fit 32 D.sh.length := fit_sh h.m
def getR (f : Int) (es : List En) (id : Int) : En × Int := if hasB f es.length id then (nthE es (id - f).toNat, 0) else (En.zero, 90)
theorem get_any {b g cap : Nat} {f : Int} {es : List En} {id : Int} {w : World} (h : BkAt w b g cap f es) (hf : Fit f es.length) (hi' : Int64 id) :
  Calls Tryz.prog 68 #[.pointer (some ⟨b, 0, none⟩), .int .i64 id] w fun e w' => e = .returned (.tuple #[(getR f es id).1.v, .int .i64 (getR f es id).2]) ∧ Below w.heap.size w w' := by
 unfold getR
 cases hb : hasB f es.length id
 ·exact get_no h hf hi' hb
 ·obtain ⟨k, rfl, hk, e1⟩ := has_at hb
  refine (get_yes h hf (nthE_at hk)).mono fun e w' ⟨h1, h2⟩ => ⟨?_, h2⟩
  rw [e1]
  exact h1
theorem doR_len (f : Int) (es : List En) (id a : Int) : (doR f es id a).1.length = es.length := by
 unfold doR
 split
 ·simp
 ·rfl
theorem doR_fine {f : Int} {es : List En} {id a : Int} (h : FineAll es) : FineAll (doR f es id a).1 := by
 unfold doR
 split
 ·rename_i h1
  obtain ⟨k, e, hk, e1⟩ := has_at h1
  refine fine_set h ?_
  rw [e1]
  have h2 : Fine (nthE es k).ln := h.nth hk
  exact ⟨h2.g, h2.p0, h2.p1, h2.real⟩
 ·exact h
theorem fresh_fine (n : Nat) (s : Rt) : FineAll (fresh n s) := fun x hx => by
 obtain rfl := (List.mem_replicate.1 hx).2
 exact fine_zero
theorem writeV_len (p : Pl) (c : Nat) (f0 : Int) (v : Nat) (es : List En) : (writeV p c f0 v es).1.length = es.length := wrL_len _ _ _ _ _
theorem writeV_fine {p : Pl} {c : Nat} {f0 : Int} {v : Nat} {es : List En} (h : FineAll es) : FineAll (writeV p c f0 v es).1 := wrL_fine h
theorem nthE_set (es : List En) (k : Nat) (y : En) (j : Nat) (hs : y.s = (nthE es k).s) : (nthE (es.set k y) j).s = (nthE es j).s := by
 unfold nthE at *
 by_cases h : k = j
 ·subst h
  by_cases hk : k < es.length
  ·rw [List.getElem?_set_self hk]; exact hs
  ·rw [List.getElem?_eq_none (by rw [List.length_set]; omega), List.getElem?_eq_none (by omega)]
 ·rw [List.getElem?_set_ne h]
theorem doR_rt (f : Int) (es : List En) (id a : Int) (j : Nat) : (nthE (doR f es id a).1 j).s = (nthE es j).s := by
 unfold doR
 split
 ·exact nthE_set es _ _ j rfl
 ·rfl
theorem wrK_rt (p : Pl) (f0 : Int) (v : Nat) (q : List En × Nat) (k j : Nat) : (nthE (wrK p f0 v q k).1 j).s = (nthE q.1 j).s := nthE_set _ _ _ j rfl
theorem writeV_rt (p : Pl) (c : Nat) (f0 : Int) (v : Nat) (es : List En) (j : Nat) : (nthE (writeV p c f0 v es).1 j).s = (nthE es j).s :=
 list_snoc (P := fun ks => (nthE (wrL p f0 v es ks).1 j).s = (nthE es j).s) rfl (fun r k ih => by rw [wrL_snoc, wrK_rt, ih]) _
abbrev encCo (p : Nat × Bool) : List Value := [.pointer (some ⟨p.1, 0, none⟩), .bool p.2]
theorem encCo_len (p : Nat × Bool) : (encCo p).length = 2 := rfl
def Ds.prs (D : Ds) (b : Nat → Nat) : List (Nat × Bool) := D.cs.mapIdx fun k c => (b (4 + 2 * k), c.sl)
theorem Ds.prs_len (D : Ds) (b : Nat → Nat) : (D.prs b).length = D.cs.length := by simp [Ds.prs]
theorem Ds.prs_at {D : Ds} {b : Nat → Nat} {k : Nat} (hk : k < D.cs.length) : (D.prs b)[k]? = some (b (4 + 2 * k), (D.nth k).sl) := by simp [Ds.prs, List.getElem?_mapIdx, D.at_ hk]
theorem BkAt.heap {W W' : World} {b g cap : Nat} {f : Int} {es : List En} (h : BkAt W b g cap f es) (e1 : W'.heap[b]? = W.heap[b]?) (e2 : W'.heap[g]? = W.heap[g]?) : BkAt W' b g cap f es := ⟨h.box.heap e1, h.row.heap e2, h.ne⟩
structure DiAt (W : World) (lo hi : Nat) (b c : Nat → Nat) (D : Ds) : Prop where
 box : CB W (b 0) 83 #[.bool D.g0, .bool D.g1, .slice (some ⟨b 1, 0, none⟩) D.cs.length (c 0), .pointer (some ⟨b 2, 0, none⟩)]
 row : Row W (b 1) 86 (flat encCo (D.prs b))
 shr : BkAt W (b 2) (b 3) (c 1) 32 D.sh
 own : ∀ k, k < D.cs.length → BkAt W (b (4 + 2 * k)) (b (5 + 2 * k)) (c (2 + k)) 0 (D.nth k).es
 inj : ∀ i j, i < 4 + 2 * D.cs.length → j < 4 + 2 * D.cs.length → i ≠ j → b i ≠ b j
 rng : ∀ i, i < 4 + 2 * D.cs.length → lo ≤ b i ∧ b i < hi
 le : hi ≤ W.heap.size
abbrev InR (lo hi : Nat) (i : Nat) : Prop := lo ≤ i ∧ i < hi
section
variable {W W' : World} {lo hi : Nat} {b c : Nat → Nat} {D : Ds}
theorem DiAt.same (h : DiAt W lo hi b c D) (hs : W.heap.size ≤ W'.heap.size) (hk : ∀ i, lo ≤ i → i < hi → W'.heap[i]? = W.heap[i]?) : DiAt W' lo hi b c D := by
 have K : ∀ i, i < 4 + 2 * D.cs.length → W'.heap[b i]? = W.heap[b i]? := fun i q => hk _ (h.rng i q).1 (h.rng i q).2
 exact ⟨h.box.heap (K 0 (by omega)), h.row.heap (K 1 (by omega)), h.shr.heap (K 2 (by omega)) (K 3 (by omega)), fun k q => (h.own k q).heap (K _ (by omega)) (K _ (by omega)), h.inj, h.rng, Nat.le_trans h.le hs⟩
theorem DiAt.below (h : DiAt W lo hi b c D) (k : Below W.heap.size W W') : DiAt W' lo hi b c D := h.same k.size (fun i _ q => k.block i (Nat.lt_of_lt_of_le q h.le))
theorem DiAt.kept (h : DiAt W lo hi b c D) {bs : Nat → Prop} (k : Kept bs W W') (hn : ∀ i, bs i → ¬ InR lo hi i) : DiAt W' lo hi b c D :=
 h.same k.size (fun i p q => k.block i (Nat.lt_of_lt_of_le q h.le) (fun x => hn i x ⟨p, q⟩))
theorem DiAt.drewN (h : DiAt W lo hi b c D) (m : Nat) : DiAt (W.drewN m) lo hi b c D := h.below (Below.drewN (Below.refl _ _))
theorem DiAt.drew (h : DiAt W lo hi b c D) : DiAt W.drew lo hi b c D := h.below (Below.drewN (m := 1) (Below.refl _ _))
theorem DiAt.ptr (h : DiAt W lo hi b c D) {k : Nat} (hk : k < D.cs.length) : W.cell? ⟨b 1, k * 2, none⟩ = some (.pointer (some ⟨b (4 + 2 * k), 0, none⟩)) := by
 have h1 := flat_get encCo_len (D.prs b) k 0 _ (by decide) (Ds.prs_at hk)
 rw [h.row.cell (by rw [flat_len encCo_len, Ds.prs_len]; omega)]
 exact h1
theorem DiAt.slp (h : DiAt W lo hi b c D) {k : Nat} (hk : k < D.cs.length) : W.cell? ⟨b 1, k * 2 + 1, none⟩ = some (.bool (D.nth k).sl) := by
 have h1 := flat_get encCo_len (D.prs b) k 1 _ (by decide) (Ds.prs_at hk)
 rw [h.row.cell (by rw [flat_len encCo_len, Ds.prs_len]; omega)]
 exact h1
theorem DiAt.setShr (h : DiAt W lo hi b c D) {es : List En} (A : After W (b 2) (b 3) (c 1) 32 es W') : DiAt W' lo hi b c (D.setSh es) ∧ Kept (InR lo hi) W W' := by
 have K : ∀ i, i < 4 + 2 * D.cs.length → i ≠ 3 → W'.heap[b i]? = W.heap[b i]? := fun i q hne => A.kept.block _ (Nat.lt_of_lt_of_le (h.rng i q).2 h.le) (h.inj i 3 q (by omega) hne)
 exact ⟨⟨h.box.heap (K 0 (by omega) (by omega)), h.row.heap (K 1 (by omega) (by omega)), A.bk, fun k q => (h.own k q).heap (K _ (by have : k < D.cs.length := q; omega) (by omega)) (K _ (by have : k < D.cs.length := q; omega) (by omega)), h.inj, h.rng, Nat.le_trans h.le A.kept.size⟩,
  A.kept.mono (fun i e => by subst e; exact h.rng 3 (by omega))⟩
theorem DiAt.setOwn (h : DiAt W lo hi b c D) {k : Nat} (hk : k < D.cs.length) {es : List En} (A : After W (b (4 + 2 * k)) (b (5 + 2 * k)) (c (2 + k)) 0 es W') : DiAt W' lo hi b c (D.setOwn k es) ∧ Kept (InR lo hi) W W' := by
 have K : ∀ i, i < 4 + 2 * D.cs.length → i ≠ 5 + 2 * k → W'.heap[b i]? = W.heap[b i]? := fun i q hne => A.kept.block _ (Nat.lt_of_lt_of_le (h.rng i q).2 h.le) (h.inj i _ q (by omega) hne)
 refine ⟨⟨?_, ?_, h.shr.heap (K 2 (by omega) (by omega)) (K 3 (by omega) (by omega)), fun j q => ?_, by rw [Ds.own_len]; exact h.inj, by rw [Ds.own_len]; exact h.rng, Nat.le_trans h.le A.kept.size⟩, A.kept.mono (fun i e => by subst e; exact h.rng _ (by omega))⟩
 ·rw [Ds.own_len]; exact h.box.heap (K 0 (by omega) (by omega))
 ·have e : (D.setOwn k es).prs b = D.prs b := by
   apply List.ext_getElem?
   intro i
   by_cases hi : i < D.cs.length
   ·rw [Ds.prs_at hi, Ds.prs_at (by rw [Ds.own_len]; exact hi), Ds.own_sl hk]
   ·rw [List.getElem?_eq_none (by rw [Ds.prs_len, Ds.own_len]; omega), List.getElem?_eq_none (by rw [Ds.prs_len]; omega)]
  rw [e]
  exact h.row.heap (K 1 (by omega) (by omega))
 ·rw [Ds.own_len] at q
  by_cases e : j = k
  ·subst e; rw [Ds.own_same hk]; exact A.bk
  ·rw [Ds.own_other hk e]; exact (h.own j q).heap (K _ (by omega) (by omega)) (K _ (by omega) (by omega))
theorem kept_cell {bs : Nat → Prop} (W : World) (p o : Nat) (v : Value) (hb : bs p) : Kept bs W (W.setCell ⟨p, o, none⟩ v) := (Kept.refl bs W).set ⟨p, o, none⟩ v hb
theorem DiAt.setSlp (h : DiAt W lo hi b c D) {k : Nat} (hk : k < D.cs.length) (v : Bool) : DiAt (W.setCell ⟨b 1, k * 2 + 1, none⟩ (.bool v)) lo hi b c (D.setSl k v) ∧ Kept (InR lo hi) W (W.setCell ⟨b 1, k * 2 + 1, none⟩ (.bool v)) := by
 have K : ∀ i, i < 4 + 2 * D.cs.length → i ≠ 1 → (W.setCell ⟨b 1, k * 2 + 1, none⟩ (.bool v)).heap[b i]? = W.heap[b i]? := fun i q hne => Below.heap_setCell W ⟨b 1, k * 2 + 1, none⟩ _ _ (h.inj i 1 q (by omega) hne)
 refine ⟨⟨?_, ?_, h.shr.heap (K 2 (by omega) (by omega)) (K 3 (by omega) (by omega)), fun j q => ?_, by rw [Ds.sl_len]; exact h.inj, by rw [Ds.sl_len]; exact h.rng, by simpa using h.le⟩, kept_cell _ _ _ _ (h.rng 1 (by omega))⟩
 ·rw [Ds.sl_len]; exact h.box.heap (K 0 (by omega) (by omega))
 ·have g1 := h.row.sets [.bool v] (k * 2 + 1) (by rw [flat_len encCo_len, Ds.prs_len]; simp; omega)
  have g2 := flat_set encCo_len (D.prs b) k 1 _ (b (4 + 2 * k), v) [.bool v] (Ds.prs_at hk) (by simp) rfl
  rw [g2] at g1
  have e : (D.setSl k v).prs b = (D.prs b).set k (b (4 + 2 * k), v) := by
   apply List.ext_getElem?
   intro i
   by_cases hi : i < D.cs.length
   ·rw [Ds.prs_at (by rw [Ds.sl_len]; exact hi)]
    by_cases e : k = i
    ·subst e; rw [Ds.sl_same hk, List.getElem?_set_self (by rw [Ds.prs_len]; exact hi)]
    ·rw [Ds.sl_other hk (Ne.symm e), List.getElem?_set_ne e, Ds.prs_at hi]
   ·rw [List.getElem?_eq_none (by rw [Ds.prs_len, Ds.sl_len]; omega), List.getElem?_eq_none (by rw [List.length_set, Ds.prs_len]; omega)]
  rw [e]
  exact g1
 ·rw [Ds.sl_len] at q
  rw [Ds.sl_es hk]
  exact (h.own j q).heap (K _ (by omega) (by omega)) (K _ (by omega) (by omega))
theorem DiAt.setG (h : DiAt W lo hi b c D) (x y : Bool) (o : Nat) (v : Value) (e : (#[.bool D.g0, .bool D.g1, .slice (some ⟨b 1, 0, none⟩) D.cs.length (c 0), .pointer (some ⟨b 2, 0, none⟩)] : Array Value).setIfInBounds o v = #[.bool x, .bool y, .slice (some ⟨b 1, 0, none⟩) D.cs.length (c 0), .pointer (some ⟨b 2, 0, none⟩)]) :
  DiAt (W.setCell ⟨b 0, o, none⟩ v) lo hi b c (D.setOn x y) ∧ Kept (InR lo hi) W (W.setCell ⟨b 0, o, none⟩ v) := by
 have K : ∀ i, i < 4 + 2 * D.cs.length → i ≠ 0 → (W.setCell ⟨b 0, o, none⟩ v).heap[b i]? = W.heap[b i]? := fun i q hne => Below.heap_setCell W ⟨b 0, o, none⟩ _ _ (h.inj i 0 q (by omega) hne)
 refine ⟨⟨?_, h.row.heap (K 1 (by omega) (by omega)), h.shr.heap (K 2 (by omega) (by omega)) (K 3 (by omega) (by omega)), fun k q => (h.own k q).heap (K _ (by have : k < D.cs.length := q; omega) (by omega)) (K _ (by have : k < D.cs.length := q; omega) (by omega)), h.inj, h.rng, by simpa using h.le⟩, kept_cell _ _ _ _ (h.rng 0 (by omega))⟩
 have := h.box.set o v
 rw [e] at this
 exact this
end
def RfB (W : World) (b lg xg : Nat) (f : Int) (es : List En) : Prop := ∃ la xa lc xc, RfAt W b lg xg la xa lc xc f es
theorem RfAt.heap {W W' : World} {b lg xg : Nat} {la xa : Option Addr} {lc xc : Nat} {f : Int} {es : List En} (h : RfAt W b lg xg la xa lc xc f es) (e1 : W'.heap[b]? = W.heap[b]?) (e2 : es.length ≠ 0 → W'.heap[lg]? = W.heap[lg]? ∧ W'.heap[xg]? = W.heap[xg]?) : RfAt W' b lg xg la xa lc xc f es :=
 ⟨h.box.heap e1, fun hne => by obtain ⟨h1, h2, h3, h4, h5⟩ := h.ne0 hne; have q := e2 (fun e => hne (List.length_eq_zero_iff.1 e)); exact ⟨h1, h2, h3.heap q.1, h4.heap q.2, h5⟩⟩
theorem RfB.heap {W W' : World} {b lg xg : Nat} {f : Int} {es : List En} (h : RfB W b lg xg f es) (e1 : W'.heap[b]? = W.heap[b]?) (e2 : es.length ≠ 0 → W'.heap[lg]? = W.heap[lg]? ∧ W'.heap[xg]? = W.heap[xg]?) : RfB W' b lg xg f es := by
 obtain ⟨la, xa, lc, xc, h⟩ := h
 exact ⟨la, xa, lc, xc, h.heap e1 e2⟩
structure RfAf (w : World) (b lg xg : Nat) (f : Int) (es : List En) (W : World) : Prop where
 rf : RfB W b lg xg f es
 kept : Kept (fun i => es.length ≠ 0 ∧ (i = lg ∨ i = xg)) w W
theorem RfAfter.af {w W : World} {b lg xg : Nat} {la xa : Option Addr} {lc xc : Nat} {f : Int} {es : List En} (h : RfAfter w b lg xg la xa lc xc f es W) : RfAf w b lg xg f es W :=
 ⟨⟨la, xa, lc, xc, h.rf⟩, h.kept.mono (fun i q => ⟨fun e => q.1 (List.length_eq_zero_iff.1 e), q.2⟩)⟩
theorem RfAt.rt {W : World} {b lg xg : Nat} {la xa : Option Addr} {lc xc : Nat} {f : Int} {es es' : List En} (h : RfAt W b lg xg la xa lc xc f es) (e : es'.map (·.ln) = es.map (·.ln)) : RfAt W b lg xg la xa lc xc f es' := by
 have el : es'.length = es.length := by have := congrArg List.length e; simpa using this
 have e1 : flL es' = flL es := by
  have k : ∀ xs : List En, flL xs = (xs.map (·.ln)).flatMap Ln.cs := fun xs => by simp [flL, flat, List.flatMap_map]
  rw [k, k, e]
 have e2 : flX es' = flX es := by
  have k : ∀ xs : List En, flX xs = List.replicate xs.length (.string ⟨#[]⟩) := fun xs => by
   induction xs with
   | nil => rfl
   | cons x r ih => rw [flX, flat_cons, ← flX, ih]; rfl
  rw [k, k, el]
 refine ⟨by rw [el]; exact h.box, fun hne => ?_⟩
 rw [e1, e2]
 exact h.ne0 (fun e0 => hne (List.length_eq_zero_iff.1 (by rw [el, e0]; rfl)))
def Real (n m i : Nat) : Prop := i < 8 + 3 * n ∧ (m = 0 → i ≠ 6 ∧ i ≠ 7)
structure RdAt (W : World) (lo hi : Nat) (b c : Nat → Nat) (D : Ds) : Prop where
 box : CB W (b 0) 105 #[.bool D.g0, .bool D.g1, .pointer (some ⟨b 5, 0, none⟩), .slice (some ⟨b 1, 0, none⟩) D.sh.length (c 0), .slice (some ⟨b 2, 0, none⟩) D.sh.length (c 1), .slice (some ⟨b 3, 0, none⟩) D.cs.length (c 2), .slice (some ⟨b 4, 0, none⟩) D.cs.length (c 3)]
 core : Row W (b 1) 3 (D.sh.map fun x => .int .i64 x.s.c)
 any : Row W (b 2) 4 (D.sh.map fun x => .bool x.s.y)
 ownr : Row W (b 3) 101 ((List.range D.cs.length).map fun k => .pointer (some ⟨b (8 + 3 * k), 0, none⟩))
 slp : Row W (b 4) 4 (D.cs.map fun x => .bool x.sl)
 shr : RfB W (b 5) (b 6) (b 7) 32 D.sh
 own : ∀ k, k < D.cs.length → RfB W (b (8 + 3 * k)) (b (9 + 3 * k)) (b (10 + 3 * k)) 0 (D.nth k).es
 inj : ∀ i j, Real D.cs.length D.sh.length i → Real D.cs.length D.sh.length j → i ≠ j → b i ≠ b j
 rng : ∀ i, Real D.cs.length D.sh.length i → lo ≤ b i ∧ b i < hi
 le : hi ≤ W.heap.size
theorem real_low {n m i : Nat} (h : i < 6) : Real n m i := ⟨by omega, fun _ => by omega⟩
theorem real_own {n m i : Nat} (h : i < 8 + 3 * n) (h8 : 8 ≤ i) : Real n m i := ⟨h, fun _ => by omega⟩
theorem real_sh {n m i : Nat} (h : i < 8) (hm : m ≠ 0) : Real n m i := ⟨by omega, fun e => (hm e).elim⟩
section
variable {W W' : World} {lo hi : Nat} {b c : Nat → Nat} {D : Ds}
theorem RdAt.same (h : RdAt W lo hi b c D) (hs : W.heap.size ≤ W'.heap.size) (hk : ∀ i, lo ≤ i → i < hi → W'.heap[i]? = W.heap[i]?) : RdAt W' lo hi b c D := by
 have K : ∀ i, Real D.cs.length D.sh.length i → W'.heap[b i]? = W.heap[b i]? := fun i q => hk _ (h.rng i q).1 (h.rng i q).2
 exact ⟨h.box.heap (K 0 (real_low (by omega))), h.core.heap (K 1 (real_low (by omega))), h.any.heap (K 2 (real_low (by omega))), h.ownr.heap (K 3 (real_low (by omega))), h.slp.heap (K 4 (real_low (by omega))),
  h.shr.heap (K 5 (real_low (by omega))) (fun hm => ⟨K 6 (real_sh (by omega) hm), K 7 (real_sh (by omega) hm)⟩),
  fun k q => (h.own k q).heap (K _ (real_own (by omega) (by omega))) (fun _ => ⟨K _ (real_own (by omega) (by omega)), K _ (real_own (by omega) (by omega))⟩), h.inj, h.rng, Nat.le_trans h.le hs⟩
theorem RdAt.below (h : RdAt W lo hi b c D) (k : Below W.heap.size W W') : RdAt W' lo hi b c D := h.same k.size (fun i _ q => k.block i (Nat.lt_of_lt_of_le q h.le))
theorem RdAt.kept (h : RdAt W lo hi b c D) {bs : Nat → Prop} (k : Kept bs W W') (hn : ∀ i, bs i → ¬ InR lo hi i) : RdAt W' lo hi b c D :=
 h.same k.size (fun i p q => k.block i (Nat.lt_of_lt_of_le q h.le) (fun x => hn i x ⟨p, q⟩))
theorem RdAt.drewN (h : RdAt W lo hi b c D) (m : Nat) : RdAt (W.drewN m) lo hi b c D := h.below (Below.drewN (Below.refl _ _))
theorem RdAt.drew (h : RdAt W lo hi b c D) : RdAt W.drew lo hi b c D := h.below (Below.drewN (m := 1) (Below.refl _ _))
theorem RdAt.ptr (h : RdAt W lo hi b c D) {k : Nat} (hk : k < D.cs.length) : W.cell? ⟨b 3, k, none⟩ = some (.pointer (some ⟨b (8 + 3 * k), 0, none⟩)) := by
 rw [h.ownr.cell (by simpa using hk)]
 simp [hk]
theorem RdAt.slpc (h : RdAt W lo hi b c D) {k : Nat} (hk : k < D.cs.length) : W.cell? ⟨b 4, k, none⟩ = some (.bool (D.nth k).sl) := by
 rw [h.slp.cell (by simpa using hk), List.getElem?_map, D.at_ hk]
 rfl
theorem RdAt.corec (h : RdAt W lo hi b c D) {k : Nat} (hk : k < D.sh.length) : W.cell? ⟨b 1, k, none⟩ = some (.int .i64 (nthE D.sh k).s.c) := by
 rw [h.core.cell (by simpa using hk), List.getElem?_map, nthE_at hk]
 rfl
theorem RdAt.anyc (h : RdAt W lo hi b c D) {k : Nat} (hk : k < D.sh.length) : W.cell? ⟨b 2, k, none⟩ = some (.bool (nthE D.sh k).s.y) := by
 rw [h.any.cell (by simpa using hk), List.getElem?_map, nthE_at hk]
 rfl
theorem map_rt {α : Type} {es es' : List En} (f : Rt → α) (hl : es'.length = es.length) (hr : ∀ j, (nthE es' j).s = (nthE es j).s) : es'.map (fun x => f x.s) = es.map (fun x => f x.s) := by
 apply List.ext_getElem?
 intro i
 rw [List.getElem?_map, List.getElem?_map]
 by_cases hi : i < es.length
 ·rw [nthE_at hi, nthE_at (by omega), Option.map_some, Option.map_some, hr]
 ·rw [List.getElem?_eq_none (by omega), List.getElem?_eq_none (by omega)]
theorem RdAt.setShr (h : RdAt W lo hi b c D) {es : List En} (A : RfAf W (b 5) (b 6) (b 7) 32 es W') (hl : es.length = D.sh.length) (hr : ∀ j, (nthE es j).s = (nthE D.sh j).s) : RdAt W' lo hi b c (D.setSh es) ∧ Kept (InR lo hi) W W' := by
 have K : ∀ i, Real D.cs.length D.sh.length i → i ≠ 6 → i ≠ 7 → W'.heap[b i]? = W.heap[b i]? := fun i q h6 h7 => A.kept.block _ (Nat.lt_of_lt_of_le (h.rng i q).2 h.le) (fun x => by
  have hm : D.sh.length ≠ 0 := by rw [← hl]; exact x.1
  rcases x.2 with e | e
  ·exact h.inj i 6 q (real_sh (by omega) hm) h6 e
  ·exact h.inj i 7 q (real_sh (by omega) hm) h7 e)
 have e1 : es.map (fun x => Value.int .i64 x.s.c) = D.sh.map (fun x => Value.int .i64 x.s.c) := map_rt (fun s => Value.int .i64 s.c) hl hr
 have e2 : es.map (fun x => Value.bool x.s.y) = D.sh.map (fun x => Value.bool x.s.y) := map_rt (fun s => Value.bool s.y) hl hr
 refine ⟨⟨?_, ?_, ?_, h.ownr.heap (K 3 (real_low (by omega)) (by omega) (by omega)), h.slp.heap (K 4 (real_low (by omega)) (by omega) (by omega)), A.rf, fun k q => (h.own k q).heap (K _ (real_own (by have : k < D.cs.length := q; omega) (by omega)) (by omega) (by omega)) (fun _ => ⟨K _ (real_own (by have : k < D.cs.length := q; omega) (by omega)) (by omega) (by omega), K _ (real_own (by have : k < D.cs.length := q; omega) (by omega)) (by omega) (by omega)⟩), ?_, ?_, Nat.le_trans h.le A.kept.size⟩, ?_⟩
 ·show CB W' (b 0) _ #[_, _, _, .slice _ es.length _, .slice _ es.length _, _, _]
  rw [hl]; exact h.box.heap (K 0 (real_low (by omega)) (by omega) (by omega))
 ·show Row W' (b 1) _ (es.map _)
  rw [e1]; exact h.core.heap (K 1 (real_low (by omega)) (by omega) (by omega))
 ·show Row W' (b 2) _ (es.map _)
  rw [e2]; exact h.any.heap (K 2 (real_low (by omega)) (by omega) (by omega))
 ·show ∀ i j, Real D.cs.length es.length i → Real D.cs.length es.length j → i ≠ j → b i ≠ b j
  rw [hl]; exact h.inj
 ·show ∀ i, Real D.cs.length es.length i → lo ≤ b i ∧ b i < hi
  rw [hl]; exact h.rng
 ·exact A.kept.mono (fun i x => by
   have hm : D.sh.length ≠ 0 := by rw [← hl]; exact x.1
   rcases x.2 with rfl | rfl
   ·exact h.rng 6 (real_sh (by omega) hm)
   ·exact h.rng 7 (real_sh (by omega) hm))
theorem RdAt.setOwn (h : RdAt W lo hi b c D) {k : Nat} (hk : k < D.cs.length) {es : List En} (A : RfAf W (b (8 + 3 * k)) (b (9 + 3 * k)) (b (10 + 3 * k)) 0 es W') : RdAt W' lo hi b c (D.setOwn k es) ∧ Kept (InR lo hi) W W' := by
 have K : ∀ i, Real D.cs.length D.sh.length i → i ≠ 9 + 3 * k → i ≠ 10 + 3 * k → W'.heap[b i]? = W.heap[b i]? := fun i q h6 h7 => A.kept.block _ (Nat.lt_of_lt_of_le (h.rng i q).2 h.le) (fun x => by
  rcases x.2 with e | e
  ·exact h.inj i _ q (real_own (by omega) (by omega)) h6 e
  ·exact h.inj i _ q (real_own (by omega) (by omega)) h7 e)
 have es1 : (D.setOwn k es).cs.map (fun x => Value.bool x.sl) = D.cs.map (fun x => Value.bool x.sl) := by
  apply List.ext_getElem?
  intro i
  rw [List.getElem?_map, List.getElem?_map]
  by_cases hi : i < D.cs.length
  ·rw [D.at_ hi, (D.setOwn k es).at_ (by rw [Ds.own_len]; exact hi), Option.map_some, Option.map_some, Ds.own_sl hk]
  ·rw [List.getElem?_eq_none (by rw [Ds.own_len]; omega), List.getElem?_eq_none (by omega)]
 refine ⟨⟨?_, h.core.heap (K 1 (real_low (by omega)) (by omega) (by omega)), h.any.heap (K 2 (real_low (by omega)) (by omega) (by omega)), ?_, ?_, h.shr.heap (K 5 (real_low (by omega)) (by omega) (by omega)) (fun hm => ⟨K 6 (real_sh (by omega) hm) (by omega) (by omega), K 7 (real_sh (by omega) hm) (by omega) (by omega)⟩), fun j q => ?_, ?_, ?_, Nat.le_trans h.le A.kept.size⟩, ?_⟩
 ·rw [Ds.own_len]; exact h.box.heap (K 0 (real_low (by omega)) (by omega) (by omega))
 ·rw [Ds.own_len]; exact h.ownr.heap (K 3 (real_low (by omega)) (by omega) (by omega))
 ·rw [es1]; exact h.slp.heap (K 4 (real_low (by omega)) (by omega) (by omega))
 ·rw [Ds.own_len] at q
  by_cases e : j = k
  ·subst e; rw [Ds.own_same hk]; exact A.rf
  ·rw [Ds.own_other hk e]
   exact (h.own j q).heap (K _ (real_own (by omega) (by omega)) (by omega) (by omega)) (fun _ => ⟨K _ (real_own (by omega) (by omega)) (by omega) (by omega), K _ (real_own (by omega) (by omega)) (by omega) (by omega)⟩)
 ·rw [Ds.own_len]; exact h.inj
 ·rw [Ds.own_len]; exact h.rng
 ·exact A.kept.mono (fun i x => by
   rcases x.2 with rfl | rfl
   ·exact h.rng _ (real_own (by omega) (by omega))
   ·exact h.rng _ (real_own (by omega) (by omega)))
theorem RdAt.setSlp (h : RdAt W lo hi b c D) {k : Nat} (hk : k < D.cs.length) (v : Bool) : RdAt (W.setCell ⟨b 4, k, none⟩ (.bool v)) lo hi b c (D.setSl k v) ∧ Kept (InR lo hi) W (W.setCell ⟨b 4, k, none⟩ (.bool v)) := by
 have K : ∀ i, Real D.cs.length D.sh.length i → i ≠ 4 → (W.setCell ⟨b 4, k, none⟩ (.bool v)).heap[b i]? = W.heap[b i]? := fun i q hne => Below.heap_setCell W ⟨b 4, k, none⟩ _ _ (h.inj i 4 q (real_low (by omega)) hne)
 refine ⟨⟨?_, h.core.heap (K 1 (real_low (by omega)) (by omega)), h.any.heap (K 2 (real_low (by omega)) (by omega)), ?_, ?_, h.shr.heap (K 5 (real_low (by omega)) (by omega)) (fun hm => ⟨K 6 (real_sh (by omega) hm) (by omega), K 7 (real_sh (by omega) hm) (by omega)⟩), fun j q => ?_, ?_, ?_, by simpa using h.le⟩, kept_cell _ _ _ _ (h.rng 4 (real_low (by omega)))⟩
 ·rw [Ds.sl_len]; exact h.box.heap (K 0 (real_low (by omega)) (by omega))
 ·rw [Ds.sl_len]; exact h.ownr.heap (K 3 (real_low (by omega)) (by omega))
 ·have g := h.slp.set (o := k) (.bool v) (by simpa using hk)
  have e : (D.setSl k v).cs.map (fun x => Value.bool x.sl) = (D.cs.map (fun x => Value.bool x.sl)).set k (.bool v) := by
   simp [Ds.setSl, List.map_set]
  rw [e]
  exact g
 ·rw [Ds.sl_len] at q
  rw [Ds.sl_es hk]
  exact (h.own j q).heap (K _ (real_own (by omega) (by omega)) (by omega)) (fun _ => ⟨K _ (real_own (by omega) (by omega)) (by omega), K _ (real_own (by omega) (by omega)) (by omega)⟩)
 ·rw [Ds.sl_len]; exact h.inj
 ·rw [Ds.sl_len]; exact h.rng
theorem RdAt.setG (h : RdAt W lo hi b c D) (x y : Bool) (o : Nat) (v : Value) (e : (#[.bool D.g0, .bool D.g1, .pointer (some ⟨b 5, 0, none⟩), .slice (some ⟨b 1, 0, none⟩) D.sh.length (c 0), .slice (some ⟨b 2, 0, none⟩) D.sh.length (c 1), .slice (some ⟨b 3, 0, none⟩) D.cs.length (c 2), .slice (some ⟨b 4, 0, none⟩) D.cs.length (c 3)] : Array Value).setIfInBounds o v = #[.bool x, .bool y, .pointer (some ⟨b 5, 0, none⟩), .slice (some ⟨b 1, 0, none⟩) D.sh.length (c 0), .slice (some ⟨b 2, 0, none⟩) D.sh.length (c 1), .slice (some ⟨b 3, 0, none⟩) D.cs.length (c 2), .slice (some ⟨b 4, 0, none⟩) D.cs.length (c 3)]) :
  RdAt (W.setCell ⟨b 0, o, none⟩ v) lo hi b c (D.setOn x y) ∧ Kept (InR lo hi) W (W.setCell ⟨b 0, o, none⟩ v) := by
 have K : ∀ i, Real D.cs.length D.sh.length i → i ≠ 0 → (W.setCell ⟨b 0, o, none⟩ v).heap[b i]? = W.heap[b i]? := fun i q hne => Below.heap_setCell W ⟨b 0, o, none⟩ _ _ (h.inj i 0 q (real_low (by omega)) hne)
 refine ⟨⟨?_, h.core.heap (K 1 (real_low (by omega)) (by omega)), h.any.heap (K 2 (real_low (by omega)) (by omega)), h.ownr.heap (K 3 (real_low (by omega)) (by omega)), h.slp.heap (K 4 (real_low (by omega)) (by omega)), h.shr.heap (K 5 (real_low (by omega)) (by omega)) (fun hm => ⟨K 6 (real_sh (by omega) hm) (by omega), K 7 (real_sh (by omega) hm) (by omega)⟩),
  fun k q => (h.own k q).heap (K _ (real_own (by have : k < D.cs.length := q; omega) (by omega)) (by omega)) (fun _ => ⟨K _ (real_own (by have : k < D.cs.length := q; omega) (by omega)) (by omega), K _ (real_own (by have : k < D.cs.length := q; omega) (by omega)) (by omega)⟩), h.inj, h.rng, by simpa using h.le⟩, kept_cell _ _ _ _ (h.rng 0 (real_low (by omega)))⟩
 have := h.box.set o v
 rw [e] at this
 exact this
def En.route (x : En) (s : Rt) : En := ⟨x.ln, s⟩
theorem RdAt.setRt (h : RdAt W lo hi b c D) {k : Nat} (hk : k < D.sh.length) (s : Rt) : RdAt ((W.setCell ⟨b 1, k, none⟩ (.int .i64 s.c)).setCell ⟨b 2, k, none⟩ (.bool s.y)) lo hi b c (D.setSh (D.sh.set k ((nthE D.sh k).route s))) ∧ Kept (InR lo hi) W ((W.setCell ⟨b 1, k, none⟩ (.int .i64 s.c)).setCell ⟨b 2, k, none⟩ (.bool s.y)) := by
 obtain ⟨W2, hW2⟩ : ∃ W2, (W.setCell ⟨b 1, k, none⟩ (.int .i64 s.c)).setCell ⟨b 2, k, none⟩ (.bool s.y) = W2 := ⟨_, rfl⟩
 have hs : W2.heap.size = W.heap.size := by rw [← hW2]; simp
 have K : ∀ i, Real D.cs.length D.sh.length i → i ≠ 1 → i ≠ 2 → W2.heap[b i]? = W.heap[b i]? := fun i q h1 h2 => by
  rw [← hW2]
  exact (Below.heap_setCell _ ⟨b 2, k, none⟩ _ _ (h.inj i 2 q (real_low (by omega)) h2)).trans (Below.heap_setCell W ⟨b 1, k, none⟩ _ _ (h.inj i 1 q (real_low (by omega)) h1))
 have n12 : b 1 ≠ b 2 := h.inj 1 2 (real_low (by omega)) (real_low (by omega)) (by omega)
 have hl : (D.sh.set k ((nthE D.sh k).route s)).length = D.sh.length := List.length_set
 have e0 : (D.sh.set k ((nthE D.sh k).route s)).map (·.ln) = D.sh.map (·.ln) := by
  apply List.ext_getElem?
  intro i
  rw [List.getElem?_map, List.getElem?_map]
  by_cases e : k = i
  ·subst e; rw [List.getElem?_set_self hk, nthE_at hk]; rfl
  ·rw [List.getElem?_set_ne e]
 have g1 := h.core.set (o := k) (.int .i64 s.c) (by simpa using hk)
 have g2 := (h.any.heap (Below.heap_setCell W ⟨b 1, k, none⟩ (.int .i64 s.c) (b 2) (Ne.symm n12))).set (o := k) (.bool s.y) (by simpa using hk)
 have g3 := g1.heap (Below.heap_setCell _ ⟨b 2, k, none⟩ (.bool s.y) (b 1) n12)
 rw [hW2] at g2 g3
 have hkk : Kept (InR lo hi) W W2 := by
  rw [← hW2]
  exact (kept_cell _ _ _ _ (h.rng 1 (real_low (by omega)))).trans (kept_cell _ _ _ _ (h.rng 2 (real_low (by omega))))
 rw [hW2]
 refine ⟨⟨?_, ?_, ?_, h.ownr.heap (K 3 (real_low (by omega)) (by omega) (by omega)), h.slp.heap (K 4 (real_low (by omega)) (by omega) (by omega)), ?_,
  fun k q => (h.own k q).heap (K _ (real_own (by have : k < D.cs.length := q; omega) (by omega)) (by omega) (by omega)) (fun _ => ⟨K _ (real_own (by have : k < D.cs.length := q; omega) (by omega)) (by omega) (by omega), K _ (real_own (by have : k < D.cs.length := q; omega) (by omega)) (by omega) (by omega)⟩), ?_, ?_, by rw [hs]; exact h.le⟩, hkk⟩
 ·show CB W2 (b 0) _ #[_, _, _, .slice _ (D.sh.set k _).length _, .slice _ (D.sh.set k _).length _, _, _]
  rw [hl]; exact h.box.heap (K 0 (real_low (by omega)) (by omega) (by omega))
 ·show Row W2 (b 1) _ ((D.sh.set k _).map _)
  rw [List.map_set]; exact g3
 ·show Row W2 (b 2) _ ((D.sh.set k _).map _)
  rw [List.map_set]; exact g2
 ·have hq : RfB W2 (b 5) (b 6) (b 7) 32 D.sh := h.shr.heap (K 5 (real_low (by omega)) (by omega) (by omega)) (fun hm => ⟨K 6 (real_sh (by omega) hm) (by omega) (by omega), K 7 (real_sh (by omega) hm) (by omega) (by omega)⟩)
  obtain ⟨la, xa, lc, xc, hq⟩ := hq
  exact ⟨la, xa, lc, xc, hq.rt e0⟩
 ·show ∀ i j, Real D.cs.length (D.sh.set k _).length i → Real D.cs.length (D.sh.set k _).length j → i ≠ j → b i ≠ b j
  rw [hl]; exact h.inj
 ·show ∀ i, Real D.cs.length (D.sh.set k _).length i → lo ≤ b i ∧ b i < hi
  rw [hl]; exact h.rng
end
end Go.Proofs.YtieedhdmpabfkaaGreat
namespace Go.Proofs.YtieedhdmpabfkaaGreat
open Go.ChangeShapes Go.WideShapes Go.ChangeAt Go.RowKit Go.Shelf
set_option linter.unusedVariables false
attribute [local go_sem] Oper.semAt_some
def hasN (n : Nat) (k : Int) : Bool := decide (0 ≤ k) && decide (k < n)
theorem hasN_at {n : Nat} {k : Int} (h : hasN n k = true) : ∃ j : Nat, k = j ∧ j < n := by
 simp [hasN] at h
 exact ⟨k.toNat, by omega, by omega⟩
theorem hasN_nat {n j : Nat} (h : j < n) : hasN n j = true := by simp [hasN, h]
theorem has_dist (b g n cap : Nat) (k : Int) (w : World) (c2 : w.cell? ⟨b, 2, none⟩ = some (.slice (some ⟨g, 0, none⟩) n cap)) :
  Calls Tryz.prog 71 #[.pointer (some ⟨b, 0, none⟩), .int .i64 k] w fun e w' => e = .returned (.bool (hasN n k)) ∧ w = w' := by
 by_cases h : 0 ≤ k
 ·have hr : hasN n k = decide (k < n) := by simp [hasN, h]
  rw [hr]
  clear hr
  go_enter Tryz.func71, Tryz.ntmps71
  go_wp2
  go_ret
  exact ⟨rfl, rfl⟩
 ·have hr : hasN n k = false := by simp [hasN, h]
  have hd : decide (0 ≤ k) = false := by simp; omega
  rw [hr]
  clear hr h
  go_enter Tryz.func71, Tryz.ntmps71
  go_wp2
  go_ret
  exact ⟨rfl, rfl⟩
section
variable {w : World} {lo hi' : Nat} {b c : Nat → Nat} {D : Ds}
theorem DiAt.has (h : DiAt w lo hi' b c D) (k : Int) : Calls Tryz.prog 71 #[.pointer (some ⟨b 0, 0, none⟩), .int .i64 k] w fun e w' => e = .returned (.bool (hasN D.cs.length k)) ∧ w = w' :=
 has_dist (b 0) (b 1) _ (c 0) k w (h.box.cell 2)
theorem DiAt.hasNat (h : DiAt w lo hi' b c D) {k : Nat} (hk : k < D.cs.length) : Calls Tryz.prog 71 #[.pointer (some ⟨b 0, 0, none⟩), .int .i64 k] w fun e w' => e = .returned (.bool true) ∧ w = w' := by
 have := h.has (k : Int)
 rwa [hasN_nat hk] at this
theorem cores_any (h : DiAt w lo hi' b c D) : Calls Tryz.prog 21 #[.pointer (some ⟨b 0, 0, none⟩)] w fun e w' => e = .returned (.int .i64 D.cs.length) ∧ w = w' := by
 have c2 := h.box.cell 2
 clear h
 go_enter Tryz.func21, Tryz.ntmps21
 go_wp2
 go_ret
 exact ⟨rfl, rfl⟩
theorem holder_no (h : DiAt w lo hi' b c D) {k : Int} (id : Int) (hk : hasN D.cs.length k = false) :
  Calls Tryz.prog 38 #[.pointer (some ⟨b 0, 0, none⟩), .int .i64 k, .int .i64 id] w fun e w' => e = .returned (.tuple #[.pointer none, .int .i64 130]) ∧ w = w' := by
 have HH := hi (h.has k)
 rw [hk] at HH
 clear h hk
 go_enter Tryz.func38, Tryz.ntmps38
 go_wp2_with (go_at_call 71; ((with_reducible refine HH.out.mono ?_); rintro e w1 ⟨rfl, rfl⟩))
 go_ret2
 exact ⟨rfl, rfl⟩
theorem holder_own (h : DiAt w lo hi' b c D) {k : Nat} {id : Int} (hk : k < D.cs.length) (hid : id < 32) :
  Calls Tryz.prog 38 #[.pointer (some ⟨b 0, 0, none⟩), .int .i64 k, .int .i64 id] w fun e w' => e = .returned (.tuple #[.pointer (some ⟨b (4 + 2 * k), 0, none⟩), .int .i64 0]) ∧ w = w' := by
 have HH := hi (h.hasNat hk)
 have c2 := h.box.cell 2
 have p := h.ptr hk
 have q := h.slp hk
 obtain ⟨n, hn⟩ : ∃ n, D.cs.length = n := ⟨_, rfl⟩
 rw [hn] at c2 hk
 obtain ⟨x, hx⟩ : ∃ x, b (4 + 2 * k) = x := ⟨_, rfl⟩
 rw [hx] at p ⊢
 clear h hn hx
 go_enter Tryz.func38, Tryz.ntmps38
 go_wp2_with (go_at_call 71; ((with_reducible refine HH.out.mono ?_); rintro e w1 ⟨rfl, rfl⟩))
 go_ret2
 exact ⟨rfl, rfl⟩
theorem holder_sh (h : DiAt w lo hi' b c D) {k : Nat} {id : Int} (hk : k < D.cs.length) (hid : ¬ id < 32) :
  Calls Tryz.prog 38 #[.pointer (some ⟨b 0, 0, none⟩), .int .i64 k, .int .i64 id] w fun e w' => e = .returned (.tuple #[.pointer (some ⟨b 2, 0, none⟩), .int .i64 0]) ∧ w = w' := by
 have HH := hi (h.hasNat hk)
 have c3 := h.box.cell 3
 have hd : decide (id < 32) = false := by simpa using hid
 clear h hid
 go_enter Tryz.func38, Tryz.ntmps38
 go_wp2_with (go_at_call 71; ((with_reducible refine HH.out.mono ?_); rintro e w1 ⟨rfl, rfl⟩))
 go_ret2
 exact ⟨rfl, rfl⟩
def doV (D : Ds) (k id a : Int) : Ds × Int :=
 if hasN D.cs.length k then (if id < 32 then (D.setOwn k.toNat (doR 0 (D.nth k.toNat).es id a).1, (doR 0 (D.nth k.toNat).es id a).2) else (D.setSh (doR 32 D.sh id a).1, (doR 32 D.sh id a).2)) else (D, 130)
structure DiAf (w : World) (lo hi' : Nat) (b c : Nat → Nat) (D : Ds) (W : World) : Prop where
 di : DiAt W lo hi' b c D
 kept : Kept (InR lo hi') w W
theorem DiAf.of (h : DiAt w lo hi' b c D) {W : World} (k : Below w.heap.size w W) : DiAf w lo hi' b c D W := ⟨h.below k, Kept.of k⟩
theorem DiAf.trans {W W' : World} {D' : Ds} (h : DiAf w lo hi' b c D W) (k : DiAf W lo hi' b c D' W') : DiAf w lo hi' b c D' W' := ⟨k.di, h.kept.trans k.kept⟩
theorem DiAf.later {W W' : World} (h : DiAf w lo hi' b c D W) (k : Below W.heap.size W W') : DiAf w lo hi' b c D W' := ⟨h.di.below k, h.kept.below k⟩
theorem do_go (h : DiAt w lo hi' b c D) {k : Nat} {id a : Int} (x f : Nat) (r : Int) (Q : World → Prop) (hk : k < D.cs.length)
  (HO : Calls Tryz.prog 38 #[.pointer (some ⟨b 0, 0, none⟩), .int .i64 k, .int .i64 id] w fun e w' => e = .returned (.tuple #[.pointer (some ⟨x, 0, none⟩), .int .i64 0]) ∧ w = w')
  (HD : Calls Tryz.prog 39 #[.pointer (some ⟨x, 0, none⟩), .int .i64 id, .int .i64 a] w fun e w' => e = .returned (.int .i64 r) ∧ Q w') :
  Calls Tryz.prog 13 #[.pointer (some ⟨b 0, 0, none⟩), .int .i64 k, .int .i64 id, .int .i64 a] w fun e w' => e = .returned (.int .i64 r) ∧ Q w' := by
 have HO := hi HO
 have HD := hi HD
 clear h hk
 go_enter Tryz.func13, Tryz.ntmps13
 go_wp2_with (first
  | (go_at_call 38; ((with_reducible refine HO.out.mono ?_); rintro e w1 ⟨rfl, rfl⟩))
  | (go_at_call 39; ((with_reducible refine HD.out.mono ?_); rintro e w2 ⟨rfl, hq⟩)))
 go_ret
 exact ⟨rfl, hq⟩
theorem do_dist (h : DiAt w lo hi' b c D) (ok : D.Ok) {k id : Int} (a : Int) (hid : Int64 id) :
  Calls Tryz.prog 13 #[.pointer (some ⟨b 0, 0, none⟩), .int .i64 k, .int .i64 id, .int .i64 a] w fun e w' => e = .returned (.int .i64 (doV D k id a).2) ∧ DiAf w lo hi' b c (doV D k id a).1 w' := by
 unfold doV
 cases hk : hasN D.cs.length k
 ·simp only [Bool.false_eq_true, if_false]
  have HO := hi (holder_no h id hk)
  have HF := hi (DiAf.of h (Below.refl _ _))
  clear h hk ok
  go_enter Tryz.func13, Tryz.ntmps13
  go_wp2_with (go_at_call 38; ((with_reducible refine HO.out.mono ?_); rintro e w1 ⟨rfl, rfl⟩))
  go_ret
  exact ⟨rfl, HF.out⟩
 ·obtain ⟨j, rfl, hj⟩ := hasN_at hk
  simp only [if_true, Int.toNat_natCast]
  by_cases h32 : id < 32
  ·rw [if_pos h32]
   refine do_go h _ 0 _ _ hj (holder_own h hj h32) ((do_any (h.own j hj) (ok.fitO hj) hid).mono ?_)
   rintro e w' ⟨rfl, hA⟩
   exact ⟨rfl, ⟨(h.setOwn hj hA).1, (h.setOwn hj hA).2⟩⟩
  ·rw [if_neg h32]
   refine do_go h _ 0 _ _ hj (holder_sh h hj h32) ((do_any h.shr ok.fitS hid).mono ?_)
   rintro e w' ⟨rfl, hA⟩
   exact ⟨rfl, ⟨(h.setShr hA).1, (h.setShr hA).2⟩⟩
theorem doV_ok (ok : D.Ok) (k id a : Int) : (doV D k id a).1.Ok := by
 unfold doV
 cases hk : hasN D.cs.length k
 ·simpa using ok
 ·obtain ⟨j, rfl, hj⟩ := hasN_at hk
  simp only [if_true, Int.toNat_natCast]
  split
  ·exact ok.setOwn hj (by rw [doR_len]; exact ok.own j hj) (doR_fine (ok.fine j hj))
  ·exact ok.setSh (doR_len _ _ _ _) (doR_fine ok.fsh) (fun i hi => by rw [doR_rt]; exact ok.rt i hi)
def wireV (D : Ds) (k id : Int) (high : Bool) : Ds × Int := if id < 16 then (D, 90) else doV D k id (if high then 1 else 2)
theorem wire_dist (h : DiAt w lo hi' b c D) (ok : D.Ok) {k id : Int} (high : Bool) (hid : Int64 id) :
  Calls Tryz.prog 35 #[.pointer (some ⟨b 0, 0, none⟩), .int .i64 k, .int .i64 id, .bool high] w fun e w' => e = .returned (.int .i64 (wireV D k id high).2) ∧ DiAf w lo hi' b c (wireV D k id high).1 w' := by
 unfold wireV
 by_cases h16 : id < 16
 ·simp only [if_pos h16]
  have HF := hi (DiAf.of h (Below.refl _ _))
  clear h ok
  go_enter Tryz.func35, Tryz.ntmps35
  go_wp2
  go_ret
  exact ⟨rfl, HF.out⟩
 ·simp only [if_neg h16]
  have hd : decide (id < 16) = false := by simpa using h16
  have HD := hi (fun a => do_dist h ok (k := k) a hid)
  clear h ok hid h16
  cases high
  ·simp only [Bool.false_eq_true, if_false]
   have HD := hi (HD.out 2)
   obtain ⟨R, hR⟩ : ∃ R, doV D k id 2 = R := ⟨_, rfl⟩
   rw [hR] at HD ⊢
   clear hR
   go_enter Tryz.func35, Tryz.ntmps35
   go_wp2_with (go_at_call 13; ((with_reducible refine HD.out.mono ?_); rintro e w1 ⟨rfl, hq⟩))
   go_ret
   exact ⟨rfl, hq⟩
  ·simp only [if_true]
   have HD := hi (HD.out 1)
   obtain ⟨R, hR⟩ : ∃ R, doV D k id 1 = R := ⟨_, rfl⟩
   rw [hR] at HD ⊢
   clear hR
   go_enter Tryz.func35, Tryz.ntmps35
   go_wp2_with (go_at_call 13; ((with_reducible refine HD.out.mono ?_); rintro e w1 ⟨rfl, hq⟩))
   go_ret
   exact ⟨rfl, hq⟩
theorem wireV_ok (ok : D.Ok) (k id : Int) (high : Bool) : (wireV D k id high).1.Ok := by
 unfold wireV
 split
 ·exact ok
 ·exact doV_ok ok _ _ _
def asleepV (D : Ds) (k : Int) : Bool := !hasN D.cs.length k || (D.nth k.toNat).sl
theorem asleep_dist (h : DiAt w lo hi' b c D) (k : Int) : Calls Tryz.prog 27 #[.pointer (some ⟨b 0, 0, none⟩), .int .i64 k] w fun e w' => e = .returned (.bool (asleepV D k)) ∧ w = w' := by
 unfold asleepV
 cases hk : hasN D.cs.length k
 ·have HH := hi (h.has k)
  rw [hk] at HH
  clear h hk
  go_enter Tryz.func27, Tryz.ntmps27
  go_wp2_with (go_at_call 71; ((with_reducible refine HH.out.mono ?_); rintro e w1 ⟨rfl, rfl⟩))
  go_ret
  exact ⟨rfl, rfl⟩
 ·obtain ⟨j, rfl, hj⟩ := hasN_at hk
  have HH := hi (h.hasNat hj)
  have c2 := h.box.cell 2
  have p := h.ptr hj
  have q := h.slp hj
  obtain ⟨n, hn⟩ : ∃ n, D.cs.length = n := ⟨_, rfl⟩
  rw [hn] at c2 hj
  simp only [Int.toNat_natCast, Bool.not_true, Bool.false_or]
  obtain ⟨s, hs⟩ : ∃ s, (D.nth j).sl = s := ⟨_, rfl⟩
  rw [hs] at q ⊢
  clear h hk hn hs
  go_enter Tryz.func27, Tryz.ntmps27
  go_wp2_with (go_at_call 71; ((with_reducible refine HH.out.mono ?_); rintro e w1 ⟨rfl, rfl⟩))
  go_ret
  exact ⟨rfl, rfl⟩
end
end Go.Proofs.YtieedhdmpabfkaaGreat
namespace Go.Proofs.YtieedhdmpabfkaaGreat
open Go.ChangeShapes Go.WideShapes Go.ChangeAt Go.RowKit Go.Shelf
set_option linter.unusedVariables false
attribute [local go_sem] Oper.semAt_some
theorem results_lnt {fn : Func} {c t : Tmp} (h : fn.results = #[.cell c 58, .tmp t]) (tmps : Array Value) (w : World) (b : Nat) (x : Ln) (v : Value) (hp : tmps.getD c undef = .pointer (some ⟨b, 0, none⟩)) (ht : tmps.getD t undef = v)
  (hb : CB w b 58 x.ca) : (results fn tmps).run Tryz.prog w = .ok (.tuple #[x.v, v]) w := by
 have hp' : tmps[c]?.getD undef = .pointer (some ⟨b, 0, none⟩) := by simpa using hp
 have ht' : tmps[t]?.getD undef = v := by simpa using ht
 have c0 := hb.cell 0
 have c1 := hb.cell 1
 have c2 := hb.cell 2
 have c3 := hb.cell 3
 have c4 := hb.cell 4
 have c5 := hb.cell 5
 have c6 := hb.cell 6
 simp at c0 c1 c2 c3 c4 c5 c6
 simp [results, h, go_sem, hp', ht', c0, c1, c2, c3, c4, c5, c6]
section
variable {w : World} {lo hi' : Nat} {b c : Nat → Nat} {D : Ds}
def getV (D : Ds) (k id : Int) : Ln × Int :=
 if hasN D.cs.length k then (if id < 32 then ((getR 0 (D.nth k.toNat).es id).1.ln, (getR 0 (D.nth k.toNat).es id).2) else ((getR 32 D.sh id).1.ln, (getR 32 D.sh id).2)) else (Ln.zero, 130)
set_option maxHeartbeats 1000000 in
theorem get_go (h : DiAt w lo hi' b c D) {k : Nat} {id : Int} (x : Nat) (y : En) (r : Int)
  (HO : ∀ W, Below w.heap.size w W → Calls Tryz.prog 38 #[.pointer (some ⟨b 0, 0, none⟩), .int .i64 k, .int .i64 id] W fun e w' => e = .returned (.tuple #[.pointer (some ⟨x, 0, none⟩), .int .i64 0]) ∧ W = w')
  (HD : ∀ W, Below w.heap.size w W → Calls Tryz.prog 68 #[.pointer (some ⟨x, 0, none⟩), .int .i64 id] W fun e w' => e = .returned (.tuple #[y.v, .int .i64 r]) ∧ Below W.heap.size W w') :
  Calls Tryz.prog 26 #[.pointer (some ⟨b 0, 0, none⟩), .int .i64 k, .int .i64 id] w fun e w' => e = .returned (.tuple #[y.ln.v, .int .i64 r]) ∧ Below w.heap.size w w' := by
 have HO := hi (HO _ (bal w (.cells #[.bool false, .bool false, .bool false, .bool false, .bool false, .int .i64 0, .int .i64 0] 58)))
 have HD := hi (HD _ (bal w (.cells #[.bool false, .bool false, .bool false, .bool false, .bool false, .int .i64 0, .int .i64 0] 58)))
 clear h
 obtain ⟨⟨⟨e, l, q, a⟩, en, gr, p⟩, s⟩ := y
 dsimp only [En.v] at HD
 dsimp only [Ln.v]
 go_enter Tryz.func26, Tryz.ntmps26
 go_wp2_with (first
  | (go_at_call 38; ((with_reducible refine HO.out.mono ?_); rintro e' w1 ⟨rfl, rfl⟩))
  | (go_at_call 68; ((with_reducible refine HD.out.mono ?_); rintro e' w2 ⟨rfl, hb⟩; have hL := (CB.new w 58 #[.bool false, .bool false, .bool false, .bool false, .bool false, .int .i64 0, .int .i64 0]).below hb; have fz := hL.frozen; obtain ⟨z0, z1, z2, z3, z4, z5, z6⟩ := CB.cells7 (l := Ln.zero) hL; have hlt := hL.lt; dsimp only [Ln.zero, St.zero] at z0 z1 z2 z3 z4 z5 z6; have HL := hi hL; have HB := hi ((bal w _).trans (hb.mono (bal w _).size)); clear hb hL)))
 exact bodyPost_ret (results_lnt rfl _ _ w.heap.size ⟨⟨e, l, q, a⟩, en, gr, p⟩ _ rfl rfl ((CB.putL (y := Ln.zero) HL.out ⟨⟨e, l, q, a⟩, en, gr, p⟩).alloc _)) rfl ⟨rfl, (below_putL (o := 0) HB.out (Nat.le_refl _) ⟨⟨e, l, q, a⟩, en, gr, p⟩).alloc (below_putL (o := 0) HB.out (Nat.le_refl _) ⟨⟨e, l, q, a⟩, en, gr, p⟩).size _⟩
set_option maxHeartbeats 1000000 in
theorem get_dist (h : DiAt w lo hi' b c D) (ok : D.Ok) {k id : Int} (hid : Int64 id) :
  Calls Tryz.prog 26 #[.pointer (some ⟨b 0, 0, none⟩), .int .i64 k, .int .i64 id] w fun e w' => e = .returned (.tuple #[(getV D k id).1.v, .int .i64 (getV D k id).2]) ∧ Below w.heap.size w w' := by
 unfold getV
 cases hk : hasN D.cs.length k
 ·simp only [Bool.false_eq_true, if_false]
  have HO := hi (holder_no (h.below (bal w (.cells #[.bool false, .bool false, .bool false, .bool false, .bool false, .int .i64 0, .int .i64 0] 58))) id hk)
  clear h hk ok
  go_enter Tryz.func26, Tryz.ntmps26
  go_wp2_with (go_at_call 38; ((with_reducible refine HO.out.mono ?_); rintro e w1 ⟨rfl, rfl⟩))
  exact bodyPost_ret (results_lnt rfl _ _ w.heap.size Ln.zero _ rfl rfl (CB.new _ _ _)) rfl ⟨rfl, bal w _⟩
 ·obtain ⟨j, rfl, hj⟩ := hasN_at hk
  simp only [if_true, Int.toNat_natCast]
  by_cases h32 : id < 32
  ·rw [if_pos h32]
   exact get_go h _ _ _ (fun W q => holder_own (h.below q) hj h32) (fun W q => get_any ((h.below q).own j hj) (ok.fitO hj) hid)
  ·rw [if_neg h32]
   exact get_go h _ _ _ (fun W q => holder_sh (h.below q) hj h32) (fun W q => get_any (h.below q).shr ok.fitS hid)
def putS (f : Int) (es : List En) (id : Int) (s : St) : List En × Int :=
 if hasB f es.length id then (es.set (id - f).toNat ⟨{ (nthE es (id - f).toNat).ln with st := s }, (nthE es (id - f).toNat).s⟩, 0) else (es, 90)
theorem putS_len (f : Int) (es : List En) (id : Int) (s : St) : (putS f es id s).1.length = es.length := by
 unfold putS
 split
 ·simp
 ·rfl
theorem putS_rt (f : Int) (es : List En) (id : Int) (s : St) (j : Nat) : (nthE (putS f es id s).1 j).s = (nthE es j).s := by
 unfold putS
 split
 ·exact nthE_set es _ _ j rfl
 ·rfl
theorem fine_st {l : Ln} (h : Fine l) (s : St) : Fine { l with st := s } := ⟨h.g, h.p0, h.p1, h.real⟩
theorem putS_fine {f : Int} {es : List En} {id : Int} {s : St} (h : FineAll es) : FineAll (putS f es id s).1 := by
 unfold putS
 split
 ·exact fine_set h (fine_st (fine_nth es h _) s)
 ·exact h
def putV (D : Ds) (k id : Int) (s : St) : Ds × Int :=
 if hasN D.cs.length k then (if id < 32 then (D.setOwn k.toNat (putS 0 (D.nth k.toNat).es id s).1, (putS 0 (D.nth k.toNat).es id s).2) else (D.setSh (putS 32 D.sh id s).1, (putS 32 D.sh id s).2)) else (D, 130)
theorem putV_ok (ok : D.Ok) (k id : Int) (s : St) : (putV D k id s).1.Ok := by
 unfold putV
 cases hk : hasN D.cs.length k
 ·simpa using ok
 ·obtain ⟨j, rfl, hj⟩ := hasN_at hk
  simp only [if_true, Int.toNat_natCast]
  split
  ·exact ok.setOwn hj (by rw [putS_len]; exact ok.own j hj) (putS_fine (ok.fine j hj))
  ·exact ok.setSh (putS_len _ _ _ _) (putS_fine ok.fsh) (fun i hi => by rw [putS_rt]; exact ok.rt i hi)
set_option maxHeartbeats 2000000 in
theorem put_go (h : DiAt w lo hi' b c D) {k : Nat} {id f : Int} (x g cap : Nat) (es : List En) (s : St) (hfit : Fit f es.length) (hfine : FineAll es) (hid : Int64 id)
  (HO : ∀ W, Below w.heap.size w W → Calls Tryz.prog 38 #[.pointer (some ⟨b 0, 0, none⟩), .int .i64 k, .int .i64 id] W fun e w' => e = .returned (.tuple #[.pointer (some ⟨x, 0, none⟩), .int .i64 0]) ∧ W = w')
  (hB : BkAt w x g cap f es) :
  Calls Tryz.prog 51 #[.pointer (some ⟨b 0, 0, none⟩), .int .i64 k, .int .i64 id, s.v] w fun e w' => e = .returned (.int .i64 (putS f es id s).2) ∧ After w x g cap f (putS f es id s).1 w' := by
 have hbal := bal w (.cells #[.bool s.e, .bool s.l, .bool s.h, .bool s.a] 31)
 have HO := hi (HO _ hbal)
 have HD := hi (get_any (id := id) (hB.below hbal) hfit hid)
 have HA := hi (After.of hB (Below.refl _ _))
 have HBK := hi hB
 clear h
 unfold putS
 cases hb : hasB f es.length id
 ·simp only [Bool.false_eq_true, if_false]
  rw [show getR f es id = (En.zero, 90) by simp [getR, hb]] at HD
  have HF := hi (fun W (q : Below w.heap.size w W) => After.of hB q)
  clear hb hB hbal
  obtain ⟨se, sl, sh, sa⟩ := s
  dsimp only [St.v] at HO HD ⊢
  go_enter Tryz.func51, Tryz.ntmps51
  go_wp2_with (first
   | (go_at_call 38; ((with_reducible refine HO.out.mono ?_); rintro e' w1 ⟨rfl, rfl⟩))
   | (go_at_call 68; ((with_reducible refine HD.out.mono ?_); rintro e' w2 ⟨rfl, hb⟩; have HB := hi ((bal w _).trans (hb.mono (bal w _).size)); clear hb)))
  go_ret
  exact ⟨rfl, HF.out _ (HB.out.alloc HB.out.size _)⟩
 ·simp only [if_true]
  obtain ⟨j, rfl, hj, e1⟩ := has_at hb
  rw [e1]
  rw [show getR f es (f + j) = (nthE es j, 0) by rw [getR, if_pos hb, e1]] at HD
  have hfn : Fine (nthE es j).ln := fine_nth es hfine j
  have HP := hi (fun W (q : Below w.heap.size w W) (y : En) => put_any (id := f + j) (x := y) (hB.below q) hfit hid)
  have HR := hi (show ∀ y : En, y = ⟨{ (nthE es j).ln with st := s }, (nthE es j).s⟩ → putR f es (f + j) y = (es.set j ⟨{ (nthE es j).ln with st := s }, (nthE es j).s⟩, 0) from fun y hy => by
   have h1 : Fine y.ln := by rw [hy]; exact fine_st hfn s
   rw [putR, if_pos hb, if_pos h1.ok, real_fine h1, e1, hy])
  clear hb hB hbal e1 hfn hj
  obtain ⟨se, sl, sh, sa⟩ := s
  obtain ⟨y, hy⟩ : ∃ y, nthE es j = y := ⟨_, rfl⟩
  rw [hy] at HD HR ⊢
  clear hy
  obtain ⟨⟨⟨e, l, q, a⟩, en, gr, p⟩, ss⟩ := y
  dsimp only at HR ⊢
  dsimp only [En.v] at HD
  have HPP := hi (show ∀ W, Below w.heap.size w W → Calls Tryz.prog 85 #[.pointer (some ⟨x, 0, none⟩), .int .i64 (f + j), (⟨⟨⟨se, sl, sh, sa⟩, en, gr, p⟩, ss⟩ : En).v] W (fun e w' => e = .returned (.int .i64 0) ∧ After W x g cap f (es.set j ⟨⟨⟨se, sl, sh, sa⟩, en, gr, p⟩, ss⟩) w') from fun W q => by have h1 := HP.out W q ⟨⟨⟨se, sl, sh, sa⟩, en, gr, p⟩, ss⟩; rwa [HR.out _ rfl] at h1)
  clear HP HR
  dsimp only [En.v] at HPP
  dsimp only [St.v] at HO HD ⊢
  go_enter Tryz.func51, Tryz.ntmps51
  go_wp2_with (first
   | (go_at_call 38; ((with_reducible refine HO.out.mono ?_); rintro e' w1 ⟨rfl, rfl⟩))
   | (go_at_call 68; ((with_reducible refine HD.out.mono ?_); rintro e' w2 ⟨rfl, hb⟩; have hS := (CB.new w 31 #[.bool se, .bool sl, .bool sh, .bool sa]).below hb; have hslt := hS.lt; obtain ⟨s0, s1, s2, s3⟩ := CB.cells (x := ⟨se, sl, sh, sa⟩) hS; dsimp only at s0 s1 s2 s3; have HB := hi ((bal w (.cells #[.bool se, .bool sl, .bool sh, .bool sa] 31)).trans (hb.mono (bal w _).size)); clear hb hS))
   | (go_at_call 85; ((with_reducible refine (HPP.out _ (HB.out.alloc HB.out.size _)).mono ?_); rintro e' w3 ⟨rfl, hA⟩; have HA3 := hi hA; clear hA)))
  go_ret
  exact ⟨rfl, (After.of HBK.out (HB.out.alloc HB.out.size _)).trans HA3.out⟩
theorem put_dist (h : DiAt w lo hi' b c D) (ok : D.Ok) {k id : Int} (s : St) (hid : Int64 id) :
  Calls Tryz.prog 51 #[.pointer (some ⟨b 0, 0, none⟩), .int .i64 k, .int .i64 id, s.v] w fun e w' => e = .returned (.int .i64 (putV D k id s).2) ∧ DiAf w lo hi' b c (putV D k id s).1 w' := by
 unfold putV
 cases hk : hasN D.cs.length k
 ·simp only [Bool.false_eq_true, if_false]
  have HO := hi (holder_no (h.below (bal w (.cells #[.bool s.e, .bool s.l, .bool s.h, .bool s.a] 31))) id hk)
  have HF := hi (DiAf.of h (bal w (.cells #[.bool s.e, .bool s.l, .bool s.h, .bool s.a] 31)))
  clear h hk ok
  obtain ⟨se, sl, sh, sa⟩ := s
  dsimp only [St.v] at HO HF ⊢
  go_enter Tryz.func51, Tryz.ntmps51
  go_wp2_with (go_at_call 38; ((with_reducible refine HO.out.mono ?_); rintro e w1 ⟨rfl, rfl⟩))
  go_ret
  exact ⟨rfl, HF.out⟩
 ·obtain ⟨j, rfl, hj⟩ := hasN_at hk
  simp only [if_true, Int.toNat_natCast]
  by_cases h32 : id < 32
  ·rw [if_pos h32]
   refine (put_go h _ _ _ _ s (ok.fitO hj) (ok.fine j hj) hid (fun W q => holder_own (h.below q) hj h32) (h.own j hj)).mono ?_
   rintro e w' ⟨rfl, hA⟩
   exact ⟨rfl, ⟨(h.setOwn hj hA).1, (h.setOwn hj hA).2⟩⟩
  ·rw [if_neg h32]
   refine (put_go h _ _ _ _ s ok.fitS ok.fsh hid (fun W q => holder_sh (h.below q) hj h32) h.shr).mono ?_
   rintro e w' ⟨rfl, hA⟩
   exact ⟨rfl, ⟨(h.setShr hA).1, (h.setShr hA).2⟩⟩
end
end Go.Proofs.YtieedhdmpabfkaaGreat
namespace Go.Proofs.YtieedhdmpabfkaaGreat
open Go.ChangeShapes Go.WideShapes Go.ChangeAt Go.RowKit
set_option linter.unusedVariables false
theorem before_any (p a q b : Int) (w : World) : Calls Tryz.prog 136 #[.int .i64 p, .int .i64 a, .int .i64 q, .int .i64 b] w fun e w' => e = .returned (.bool (beforeB p a q b)) ∧ w = w' := by
 go_enter Tryz.func136, Tryz.ntmps136
 go_wp2
 all_goals
  go_ret
  refine ⟨ret_bool ?_, rfl⟩
  unfold beforeB
  simp [*]
theorem refBefore_any (p a q b : Int) (w : World) : Calls Tryz.prog 98 #[.int .i64 p, .int .i64 a, .int .i64 q, .int .i64 b] w fun e w' => e = .returned (.bool (beforeB p a q b)) ∧ w = w' := by
 by_cases h : p = q
 ·have hb : beforeB p a q b = decide (a < b) := by simp [beforeB, h]
  have hq : (p != q) = false := by simp [h]
  rw [hb]
  clear hb h
  go_enter Tryz.func98, Tryz.ntmps98
  go_wp2
  go_ret
  exact ⟨rfl, rfl⟩
 ·have hb : beforeB p a q b = decide (p < q) := by simp [beforeB, h]
  have hq : (p != q) = true := by simp [h]
  rw [hb]
  clear hb h
  go_enter Tryz.func98, Tryz.ntmps98
  go_wp2
  go_ret
  exact ⟨rfl, rfl⟩
theorem results_cand {fn : Func} {c : Tmp} (h : fn.results = #[.cell c 55]) (tmps : Array Value) (w : World) (b : Nat) (x : Cd) (hp : tmps.getD c undef = .pointer (some ⟨b, 0, none⟩)) (hb : CB w b 55 x.cs) :
  (results fn tmps).run Tryz.prog w = .ok x.v w := by
 have hp' : tmps[c]?.getD undef = .pointer (some ⟨b, 0, none⟩) := by simpa using hp
 have c0 := hb.cell 0
 have c1 := hb.cell 1
 have c2 := hb.cell 2
 have c3 := hb.cell 3
 simp [Cd.cs] at c0 c1 c2 c3
 simp [results, h, go_sem, hp', c0, c1, c2, c3]
set_option maxHeartbeats 1000000 in
theorem cand_any (id : Int) (x : Ln) (w : World) : Calls Tryz.prog 109 #[.int .i64 id, x.v] w fun e w' => e = .returned (candV id x).v ∧ Below w.heap.size w w' := by
 obtain ⟨⟨e, l, h, a⟩, en, g, p⟩ := x
 dsimp only [Ln.v]
 go_enter Tryz.func109, Tryz.ntmps109
 go_wp2
 exact bodyPost_ret (results_cand rfl _ _ (w.heap.size + 1) ⟨_, _, _, _⟩ rfl cb_second) rfl ⟨rfl, bal_two _ _ _⟩
theorem bef_any (x y : Cd) (w : World) : Calls Tryz.prog 110 #[x.v, y.v] w fun e w' => e = .returned (.bool (befC x y)) ∧ w' = (w.alloc (.cells x.cs 55)).alloc (.cells y.cs 55) := by
 obtain ⟨i, p, g, b⟩ := x
 obtain ⟨i2, p2, g2, b2⟩ := y
 have HC := hi (fun W => before_any p i p2 i2 W)
 have HR := hi (show beforeB p i p2 i2 = befC ⟨i, p, g, b⟩ ⟨i2, p2, g2, b2⟩ from rfl)
 obtain ⟨r, hr⟩ : ∃ r, beforeB p i p2 i2 = r := ⟨_, rfl⟩
 rw [hr] at HC HR
 rw [← HR.out]
 clear hr HR
 dsimp only [Cd.v, Cd.cs]
 go_enter Tryz.func110, Tryz.ntmps110
 go_wp2_with (go_at_call 136; ((with_reducible refine (HC.out _).mono ?_); rintro e w1 ⟨rfl, rfl⟩))
 go_ret
 exact ⟨rfl, rfl⟩
end Go.Proofs.YtieedhdmpabfkaaGreat
