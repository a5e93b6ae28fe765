import Derived.Test.YtieedhdmpabfkaaGreatRows
import Derived.WalkKit
import Derived.ProofKit
import Derived.BigQuiet
import Derived.BigRegion
import Derived.Deep.QuietTactic
import Derived.Laws.CopyOwn
import Derived.Laws.IdiomCopy
import Derived.OwnWalk
import Derived.Lib.SliceRun
import Derived.Sort.Row
import Derived.RangeFuncRecord
import Derived.OwnWalkIn
import Derived.Deep.RegionHeld3
import Derived.RangeFuncCalls
set_option linter.unusedSimpArgs false
namespace Go.Proofs.YtieedhdmpabfkaaGreat
structure Hi (p : Prop) : Prop where
 out : p
theorem hi {p : Prop} (h : p) : Hi p := ⟨h⟩
end Go.Proofs.YtieedhdmpabfkaaGreat
namespace Go.Proofs.YtieedhdmpabfkaaGreat
open Go.ChangeShapes Go.WideShapes Go.ChangeAt Go.RowKit
set_option linter.unusedVariables false
theorem Below.grew {W W' : World} (h : Below W.heap.size W W') : W.grownBy W' none := ⟨h.os, h.tape, h.output, h.size, fun k hk _ => h.block k hk⟩
structure Kept (bs : Nat → Prop) (A W : World) : Prop where
 os : W.os = A.os
 tape : W.tape = A.tape
 output : W.output = A.output
 size : A.heap.size ≤ W.heap.size
 block : ∀ k, k < A.heap.size → ¬ bs k → W.heap[k]? = A.heap[k]?
theorem Kept.refl (bs : Nat → Prop) (A : World) : Kept bs A A := ⟨rfl, rfl, rfl, Nat.le_refl _, fun _ _ _ => rfl⟩
theorem Kept.trans {bs : Nat → Prop} {A B C : World} (h : Kept bs A B) (k : Kept bs B C) : Kept bs A C :=
 ⟨k.os.trans h.os, k.tape.trans h.tape, k.output.trans h.output, Nat.le_trans h.size k.size, fun i hi hn => (k.block i (Nat.lt_of_lt_of_le hi h.size) hn).trans (h.block i hi hn)⟩
theorem Kept.mono {bs cs : Nat → Prop} {A B : World} (h : Kept bs A B) (hs : ∀ k, bs k → cs k) : Kept cs A B :=
 ⟨h.os, h.tape, h.output, h.size, fun i hi hn => h.block i hi (fun x => hn (hs i x))⟩
theorem Kept.mono' {bs cs : Nat → Prop} {A B : World} (h : Kept bs A B) (hs : ∀ k, k < A.heap.size → bs k → cs k) : Kept cs A B :=
 ⟨h.os, h.tape, h.output, h.size, fun i hi hn => h.block i hi (fun x => hn (hs i hi x))⟩
theorem Kept.of {bs : Nat → Prop} {A B : World} (k : Below A.heap.size A B) : Kept bs A B := ⟨k.os, k.tape, k.output, k.size, fun i hi _ => k.block i hi⟩
theorem Kept.below {bs : Nat → Prop} {A B C : World} (h : Kept bs A B) (k : Below B.heap.size B C) : Kept bs A C := h.trans (Kept.of k)
theorem Kept.toBelow {bs : Nat → Prop} {A B : World} (h : Kept bs A B) {n : Nat} (hn : n ≤ A.heap.size) (hb : ∀ k, bs k → n ≤ k) : Below n A B :=
 ⟨h.os, h.tape, h.output, h.size, fun k hk => h.block k (by omega) (fun x => by have := hb k x; omega)⟩
theorem Kept.none {A B : World} (h : Kept (fun _ => False) A B) : Below A.heap.size A B := h.toBelow (Nat.le_refl _) (fun _ x => x.elim)
theorem bal (w : World) (o : Obj) : Below w.heap.size w (w.alloc o) := (Below.refl _ _).alloc (Nat.le_refl _) o
theorem Below.drewN {n m : Nat} {A B : World} (h : Below n A B) : Below n A (B.drewN m) := ⟨h.os, h.tape, h.output, h.size, h.block⟩
structure St where
 e : Bool
 l : Bool
 h : Bool
 a : Bool
deriving DecidableEq, Inhabited
abbrev St.v (x : St) : Value := .agg #[.bool x.e, .bool x.l, .bool x.h, .bool x.a]
abbrev St.cs (x : St) : Array Value := #[.bool x.e, .bool x.l, .bool x.h, .bool x.a]
def St.zero : St := ⟨false, false, false, false⟩
def St.pend (x : St) : Bool := x.h || (!x.e && x.l)
def St.ready (x : St) : Bool := x.pend && !x.a
def St.step (x : St) (k : Int) : St :=
 if k = 1 then ⟨x.e, true, x.h || (x.e && !x.l), x.a⟩
 else if k = 2 then ⟨x.e, false, x.h, x.a⟩
 else if k = 3 then ⟨x.e, x.l, true, x.a⟩
 else if k = 4 then ⟨x.e, x.l, false, x.a⟩
 else if k = 5 then (if x.ready then ⟨x.e, x.l, false, true⟩ else x)
 else if k = 6 then ⟨x.e, x.l, x.h, false⟩
 else if k = 7 then ⟨x.e, x.l, x.h, true⟩
 else if k = 8 then ⟨true, x.l, x.h, x.a⟩
 else if k = 9 then ⟨false, x.l, x.h, x.a⟩
 else x
def St.run (x : St) (ks : List Int) : St := ks.foldl St.step x
theorem act_cases (k : Int) : k = 1 ∨ k = 2 ∨ k = 3 ∨ k = 4 ∨ k = 5 ∨ k = 6 ∨ k = 7 ∨ k = 8 ∨ k = 9 ∨ (k ≠ 1 ∧ k ≠ 2 ∧ k ≠ 3 ∧ k ≠ 4 ∧ k ≠ 5 ∧ k ≠ 6 ∧ k ≠ 7 ∧ k ≠ 8 ∧ k ≠ 9) := by omega
theorem step_odd {x : St} {k : Int} (h : k ≠ 1 ∧ k ≠ 2 ∧ k ≠ 3 ∧ k ≠ 4 ∧ k ≠ 5 ∧ k ≠ 6 ∧ k ≠ 7 ∧ k ≠ 8 ∧ k ≠ 9) : x.step k = x := by
 obtain ⟨h1, h2, h3, h4, h5, h6, h7, h8, h9⟩ := h
 simp [St.step, h1, h2, h3, h4, h5, h6, h7, h8, h9]
def CB (W : World) (B : Nat) (t : TypeId) (cs : Array Value) : Prop := W.heap[B]? = some (.cells cs t (0, 0))
theorem CB.lt {W : World} {B : Nat} {t : TypeId} {cs : Array Value} (h : CB W B t cs) : B < W.heap.size := (Array.getElem?_eq_some_iff.1 h).1
theorem CB.cell {W : World} {B : Nat} {t : TypeId} {cs : Array Value} (h : CB W B t cs) (j : Nat) : W.cell? ⟨B, j, none⟩ = cs[j]? := by simp [World.cell?, show W.heap[B]? = _ from h]
theorem CB.frozen {W : World} {B : Nat} {t : TypeId} {cs : Array Value} (h : CB W B t cs) (o : Nat) : W.frozen? ⟨B, o, none⟩ = false := by simp [World.frozen?, show W.heap[B]? = _ from h]
theorem CB.new (W : World) (t : TypeId) (cs : Array Value) : CB (W.alloc (.cells cs t)) W.heap.size t cs := World.alloc_heap_new W _
theorem CB.below {W W' : World} {B : Nat} {t : TypeId} {cs : Array Value} (h : CB W B t cs) (k : Below W.heap.size W W') : CB W' B t cs := (k.block B h.lt).trans h
theorem CB.alloc {W : World} {B : Nat} {t : TypeId} {cs : Array Value} (h : CB W B t cs) (o : Obj) : CB (W.alloc o) B t cs := h.below (bal W o)
theorem CB.set {W : World} {B : Nat} {t : TypeId} {cs : Array Value} (h : CB W B t cs) (o : Nat) (v : Value) : CB (W.setCell ⟨B, o, none⟩ v) B t (cs.setIfInBounds o v) := by
 rw [Go.Sort.setCell_eq]
 show (W.heap.modify B _)[B]? = _
 rw [Array.getElem?_modify, if_pos rfl, show W.heap[B]? = _ from h]
 rfl
theorem CB.other {W : World} {B : Nat} {t : TypeId} {cs : Array Value} (h : CB W B t cs) (b o : Nat) (v : Value) (hne : B ≠ b) : CB (W.setCell ⟨b, o, none⟩ v) B t cs := (Below.heap_setCell W ⟨b, o, none⟩ v B hne).trans h
theorem CB.kept {W W' : World} {B : Nat} {t : TypeId} {cs : Array Value} {row : Option Nat} (h : CB W B t cs) (hg : W.grownBy W' row) (hne : some B ≠ row) : CB W' B t cs := (hg.block B h.lt hne).trans h
theorem CB.drew {W : World} {B : Nat} {t : TypeId} {cs : Array Value} (h : CB W B t cs) : CB W.drew B t cs := h
theorem box_call {w w1 : World} {cs : Array Value} {t : TypeId} (hb : Below (w.alloc (.cells cs t)).heap.size (w.alloc (.cells cs t)) w1) : CB w1 w.heap.size t cs ∧ Below w.heap.size w w1 :=
 ⟨(CB.new w t cs).below hb, (bal w _).trans (hb.mono (by simp))⟩
theorem CB.cells {W : World} {B : Nat} {t : TypeId} {x : St} (h : CB W B t x.cs) : W.cell? ⟨B, 0, none⟩ = some (.bool x.e) ∧ W.cell? ⟨B, 1, none⟩ = some (.bool x.l) ∧ W.cell? ⟨B, 2, none⟩ = some (.bool x.h) ∧ W.cell? ⟨B, 3, none⟩ = some (.bool x.a) :=
 ⟨h.cell 0, h.cell 1, h.cell 2, h.cell 3⟩
end Go.Proofs.YtieedhdmpabfkaaGreat
namespace Go.Proofs.YtieedhdmpabfkaaGreat
open Go.ChangeShapes Go.WideShapes Go.ChangeAt Go.RowKit
set_option linter.unusedVariables false
def plainOp (o : Oper) : Bool := match o.op with
 | .defer _ => false
 | _ => true
theorem plainOp_out {o : Oper} (h : plainOp o = true) : ∀ c, o.op ≠ .defer c := fun c e => by simp [plainOp, e] at h
section
variable {F : Fence} {n : Nat} {P : Program} {ops : Array Oper} {md : Region.Mode} {C : World → Prop}
def NormQ (R : Act → World → Prop) : Exit → Act → World → Prop
 | .normal, a, w => R a w
 | _, _, _ => False
theorem normQ_in {Q : Exit → Act → World → Prop} {a : Act} {w : World} (h : Q .normal a w) : NormQ (fun a w => Q .normal a w) .normal a w := h
theorem normQ_out {R : Act → World → Prop} : ¬ LetsOut (NormQ R) := fun ⟨_, _, h⟩ => h
theorem rows_r (l : Nat) {row : String} {args : Array Value} {w : World} {R : Value → World → Prop} (h : Rows P row args w R) : RowsIn (Fence.wide.inRound l) n P row args w R := fun c cs _ => let ⟨v, w', r, s⟩ := h c cs; ⟨v, w', r, stepsIn_wide.2 s⟩
theorem wpOpIn_of_op {l : Nat} {Q : Exit → Act → World → Prop} {R : Act → World → Prop} (hnd : ∀ (j : Nat) (o : Oper), ops[j]? = some o → plainOp o = true) {i : Nat} {a : Act} {w : World} {K K' : Act → World → Prop} (hK : ∀ a w, K a w → K' a w)
  (h : wpOp P ops (NormQ R) i K a w) : wpOpIn (Fence.wide.inRound l) n P ops Q i K' a w := by
 unfold wpOp at h
 unfold wpOpIn
 split
 ·rename_i ho; simp only [ho] at h; exact hK _ _ h
 ·rename_i o ho
  simp only [ho] at h
  split
  ·rename_i hw
   simp only [hw, if_true] at h
   rcases h with h | h
   ·unfold Oper.wp at h
    unfold Oper.wpIn
    refine ⟨fun _ _ => trivial, ?_⟩
    rw [Oper.semAt_plain _ _ _ (plainOp_out (hnd i o ho))]
    generalize (execOp a.eval o).run P w = r at *
    cases r with
    | ok x w' =>
     cases x <;> simp only [Oper.upon] at h <;> simp only [Oper.uponIn]
     case value u => exact hK _ _ h
     case skip => exact hK _ _ h
     case defer d => exact hK _ _ h
     case enter f args => exact ⟨fun hd => by simp [Fence.inRound, Fence.wide] at hd, CallsIn.inRound l (callsIn_wide.2 (h.mono fun e w'' he => by
      cases e with
      | returned v => exact hK _ _ he
      | panicked c => exact he.elim
      | outgrown => exact (normQ_out he).elim))⟩
     case row row args => exact ⟨fun hd => by simp [Fence.inRound, Fence.wide] at hd, rows_r l (h.mono fun _ _ he => hK _ _ he)⟩
    | halt x w' => cases x <;> simp only [Oper.upon] at h <;> exact h.elim
   ·exact (normQ_out h.2).elim
  ·rename_i hw
   simp only [hw] at h
   exact ⟨fun _ _ => trivial, hK _ _ h⟩
theorem wpAnyIn_of_any {l : Nat} {Q : Exit → Act → World → Prop} {R : Act → World → Prop} (hnd : ∀ (j : Nat) (o : Oper), ops[j]? = some o → plainOp o = true) (hR : ∀ a w, R a w → Q .normal a w) : ∀ (fuel : Nat) (listed : Array Bool) (a : Act) (w : World),
  wpAny P md ops (NormQ R) fuel listed a w → wpAnyIn (Fence.wide.inRound l) n P md ops Q fuel listed a w
 | 0, _, _, _, h => ⟨h.1, hR _ _ h.2⟩
 | fuel + 1, _, _, _, h => ⟨fun h0 => hR _ _ (h.1 h0), fun i hi => wpOpIn_of_op hnd (fun a' w' => wpAnyIn_of_any hnd hR fuel _ a' w') (h.2 i hi)⟩
end
end Go.Proofs.YtieedhdmpabfkaaGreat
namespace Go.Proofs.YtieedhdmpabfkaaGreat
open Go.ChangeShapes Go.WideShapes Go.ChangeAt Go.RowKit
set_option linter.unusedVariables false
def lateB (md : Region.Mode) (ops : Array Oper) (late : List Nat) : Bool :=
 late.all fun f => match ops[f]? with
  | none => true
  | some o => (List.range ops.size).all fun j => late.contains j || o.after.any fun e => e.on == j && Region.binds md e
section
variable {P : Program} {ops : Array Oper} {Q : Exit → Act → World → Prop} {md : Region.Mode} {S : World → Prop} {late : List Nat}
theorem late_at (h : lateB md ops late = true) {listed : Array Bool} {f i : Nat} (hf : late.contains f = true) (hr : f ∈ Region.ready md ops listed) (hi : i < ops.size) (hn : late.contains i = false) : listed.getD i false = true := by
 obtain ⟨_, o, ho, hall⟩ := mem_ready.1 hr
 have h1 := List.all_eq_true.1 h f (by simpa using hf)
 simp only [ho] at h1
 have h2 := List.all_eq_true.1 h1 i (by simpa using hi)
 rw [hn, Bool.false_or] at h2
 rw [Array.any_eq_true'] at h2
 obtain ⟨e, he, h3⟩ := h2
 rw [Bool.and_eq_true, beq_iff_eq] at h3
 rw [← h3.1]
 exact hall e he h3.2
def wpAnyF (P : Program) (md : Region.Mode) (ops : Array Oper) (Q : Exit → Act → World → Prop) (S : World → Prop) (late : List Nat) : Nat → Array Bool → Act → World → Prop
 | 0, listed, a, w => Region.ready md ops listed = [] ∧ Q .normal a w
 | fuel + 1, listed, a, w =>
  (Region.ready md ops listed = [] → Q .normal a w) ∧
  ∀ i ∈ Region.ready md ops listed, wpOp P ops Q i (fun a' w' => (late.contains i = false → S w') ∧ wpAnyF P md ops Q S late fuel (listed.setIfInBounds i true) a' w') a w
theorem wpAny_of_last : ∀ (fuel : Nat) (listed : Array Bool) (a : Act) (w : World), wpAnyF P md ops Q S late fuel listed a w → wpAny P md ops Q fuel listed a w
 | 0, _, _, _, h => h
 | fuel + 1, _, _, _, h => ⟨h.1, fun i hi => wpOp_mono (fun a' w' h' => wpAny_of_last fuel _ a' w' h'.2) (h.2 i hi)⟩
theorem wpAnyF_first {i : Nat} {oi : Oper} {v : Value} (hlate : lateB md ops late = true) (hil : late.contains i = false) (hi : ops[i]? = some oi) (hsel : ∀ (j : Nat) (o : Oper) cs b, ops[j]? = some o → o.op ≠ .select cs b)
  (hQ : ∀ c a w, Q (.panic c) (a.put oi.dst v) w → Q (.panic c) a w) :
  ∀ (fuel : Nat) (listed : Array Bool) (a : Act) (w : World),
   (∀ j oj, ops[j]? = some oj → j ≠ i → listed.getD j true = false → (∀ e ∈ oj.after, Region.binds md e = true → e.on ≠ i) → oi.apart ops oj = true) →
   i ∈ Region.ready md ops listed → YieldsIf P ops S oi v a → S w →
   wpAnyF P md ops Q S late fuel (listed.setIfInBounds i true) (a.put oi.dst v) w → wpAnyF P md ops Q S late (fuel + 1) listed a w := by
 intro fuel
 induction fuel with
 | zero =>
  intro listed a w _ hr hy hS H
  refine ⟨fun h => (by rw [h] at hr; cases hr), fun j hj => ?_⟩
  by_cases hji : j = i
  ·subst hji; exact hy.wpOp hi hS ⟨fun _ => hS, H⟩
  ·have := ready_mono hj hji
   rw [H.1] at this
   cases this
 | succ fuel ih =>
  intro listed a w hfree hr hy hS H
  refine ⟨fun h => (by rw [h] at hr; cases hr), fun j hj => ?_⟩
  by_cases hji : j = i
  ·subst hji; exact hy.wpOp hi hS ⟨fun _ => hS, H⟩
  ·have h1 := H.2 j (ready_mono hj hji)
   have hir := mem_ready.1 hr
   have hisz : i < ops.size := (Array.getElem?_eq_some_iff.1 hi).1
   have hjl : late.contains j = false := by
    cases hc : late.contains j
    ·rfl
    ·have h9 := late_at hlate hc hj hisz hil
     have h0 := hir.1
     rcases Nat.lt_or_ge i listed.size with h' | h'
     ·simp [h'] at h0 h9; rw [h0] at h9; cases h9
     ·simp [Array.getElem?_eq_none h'] at h9
   obtain ⟨hjun, oj, hoj, hall⟩ := mem_ready.1 hj
   have hnot : ∀ e ∈ oj.after, Region.binds md e = true → e.on ≠ i := fun e he hb heq => by
    have h1 := hall e he hb
    have h0 := hir.1
    rw [heq] at h1
    rcases Nat.lt_or_ge i listed.size with h' | h'
    ·simp [h'] at h0 h1; rw [h0] at h1; cases h1
    ·simp [Array.getElem?_eq_none h'] at h1
   have h2 := wpOp_putIf hoj (hfree j oj hoj hji hjun hnot) (fun cs b => hsel i oi cs b hi) (fun cs b => hsel j oj cs b hoj) hQ hy h1
   have hfree' : ∀ k ok, ops[k]? = some ok → k ≠ i → (listed.setIfInBounds j true).getD k true = false →
     (∀ e ∈ ok.after, Region.binds md e = true → e.on ≠ i) → oi.apart ops ok = true := fun k ok hk hki hun hno => by
    refine hfree k ok hk hki ?_ hno
    by_cases hjk : j = k
    ·subst hjk; exact hjun
    ·rw [getD_set_ne true hjk] at hun; exact hun
   refine wpOp_mono (fun a' w' h3 => ⟨h3.2.1, ih (listed.setIfInBounds j true) a' w' hfree' (ready_mono hr (Ne.symm hji)) h3.1 (h3.2.1 hjl) ?_⟩) h2
   rw [Array.setIfInBounds_comm _ _ hji]
   exact h3.2.2
theorem wpAnyF_take {i : Nat} {oi : Oper} {v : Value} {fuel : Nat} {listed : Array Bool} {a : Act} {w : World} (hlate : lateB md ops late = true) (hil : late.contains i = false) (hi : ops[i]? = some oi)
  (hs : Region.noSelect ops = true) (hf : Region.free md ops listed i = true) (hr : (Region.ready md ops listed).contains i = true)
  (hQ : ∀ c a w, Q (.panic c) (a.put oi.dst v) w → Q (.panic c) a w) (hy : YieldsIf P ops S oi v a) (hS : S w)
  (h : wpAnyF P md ops Q S late fuel (listed.setIfInBounds i true) (a.put oi.dst v) w) : wpAnyF P md ops Q S late (fuel + 1) listed a w :=
 wpAnyF_first hlate hil hi (Region.noSelect_spec hs) hQ fuel listed a w (Region.free_spec hi hf) (by simpa using hr) hy hS h
theorem wpAnyF_done {listed : Array Bool} {a : Act} {w : World} (hr : Region.ready md ops listed = []) (h : Q .normal a w) : ∀ fuel, wpAnyF P md ops Q S late fuel listed a w
 | 0 => ⟨hr, h⟩
 | _ + 1 => ⟨fun _ => h, by rw [hr]; simp⟩
def AllReadyF (P : Program) (md : Region.Mode) (ops : Array Oper) (Q : Exit → Act → World → Prop) (S : World → Prop) (late : List Nat) (fuel : Nat) (listed : Array Bool) (a : Act) (w : World) (rs : List Nat) : Prop :=
 ∀ i ∈ rs, wpOp P ops Q i (fun a' w' => (late.contains i = false → S w') ∧ wpAnyF P md ops Q S late fuel (listed.setIfInBounds i true) a' w') a w
theorem AllReadyF.nil {fuel : Nat} {listed : Array Bool} {a : Act} {w : World} : AllReadyF P md ops Q S late fuel listed a w [] := fun _ h => by cases h
theorem AllReadyF.cons {fuel : Nat} {listed : Array Bool} {a : Act} {w : World} {i : Nat} {o : Oper} {rs : List Nat} (ho : ops[i]? = some o)
  (h : ∀ K' : Act → World → Prop, Shut (∀ a w, S w → (S w → wpAnyF P md ops Q S late fuel (listed.setIfInBounds i true) a w) → K' a w) → if Region.wanted o (yielded ops a.tmps) = true then Oper.wp P o a w K' Q else K' (a.put o.dst undef) w)
  (hs : AllReadyF P md ops Q S late fuel listed a w rs) : AllReadyF P md ops Q S late fuel listed a w (i :: rs) := fun j hj => by
 rcases List.mem_cons.1 hj with rfl | hj
 ·exact wpOp_step ho (fun K' hK => h K' (fun a w hS hW => hK a w ⟨fun _ => hS, hW hS⟩))
 ·exact hs j hj
theorem AllReadyF.last {fuel : Nat} {listed : Array Bool} {a : Act} {w : World} {i : Nat} {o : Oper} {rs : List Nat} (hl : late.contains i = true) (ho : ops[i]? = some o)
  (h : ∀ K' : Act → World → Prop, Shut (∀ a w, wpAnyF P md ops Q S late fuel (listed.setIfInBounds i true) a w → K' a w) → if Region.wanted o (yielded ops a.tmps) = true then Oper.wp P o a w K' Q else K' (a.put o.dst undef) w)
  (hs : AllReadyF P md ops Q S late fuel listed a w rs) : AllReadyF P md ops Q S late fuel listed a w (i :: rs) := fun j hj => by
 rcases List.mem_cons.1 hj with rfl | hj
 ·exact wpOp_step ho (fun K' hK => h K' (fun a w hW => hK a w ⟨fun e => (by rw [hl] at e; cases e), hW⟩))
 ·exact hs j hj
theorem wpAnyF_ready {rs : List Nat} {fuel : Nat} {listed : Array Bool} {a : Act} {w : World} (hr : Region.ready md ops listed = rs) (hne : rs ≠ []) (h : AllReadyF P md ops Q S late fuel listed a w rs) : wpAnyF P md ops Q S late (fuel + 1) listed a w :=
 ⟨fun h0 => absurd (hr ▸ h0) hne, hr ▸ h⟩
theorem wp_region_last_drew {id : Nat} {a : Act} {w : World} (late : List Nat) (hm : P.follows .mixedOrders = true) (hS : S w.drew) (h : S w.drew → wpAnyF P .any ops Q S late ops.size (Array.replicate ops.size false) a w.drew) : (Code.region id ops true).wp P Q a w :=
 wp_region_any hm (wpAny_of_last _ _ _ _ (h hS))
end
theorem region_last_r {n : Nat} {P : Program} {l : Nat} {id : Nat} {Q : Exit → Act → World → Prop} {S : World → Prop} {a : Act} {w : World} {os : List Oper} (late : List Nat) (hm : P.follows .mixedOrders = true) (hnd : os.all plainOp = true) (hS : S w.drew)
  (h : S w.drew → wpAnyF P .any os.toArray (NormQ fun a w => Q .normal a w) S late os.toArray.size (Array.replicate os.toArray.size false) a w.drew) : (Code.region id os.toArray true).wpIn (Fence.wide.inRound l) n P Q a w :=
 wpIn_region_any hm (wpAnyIn_of_any (fun j o ho => List.all_eq_true.1 hnd o (List.mem_of_getElem? (by simpa using ho))) (fun _ _ h => h) _ _ _ _ (wpAny_of_last _ _ _ _ (h hS)))
end Go.Proofs.YtieedhdmpabfkaaGreat
