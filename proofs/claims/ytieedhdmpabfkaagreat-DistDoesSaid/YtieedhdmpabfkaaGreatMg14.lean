import Derived.Test.YtieedhdmpabfkaaGreatMg13
import Derived.Test.YtieedhdmpabfkaaGreatMg06
import Derived.Shelf.Abstract
import Derived.OwnWalkIn
import Derived.TacticsInMore
import Derived.LoopNIn
import Derived.LoopIn
import Derived.Maps.AppendAt
import Derived.Test.YtieedhdmpabfkaaGreatRows
import Derived.WalkKit
import Derived.ProofKit
import Derived.Lib.Hide
import Derived.BigQuiet
import Derived.Deep.QuietTactic
set_option linter.unusedSimpArgs false
namespace Go.Proofs.YtieedhdmpabfkaaGreat
open Go.ChangeShapes Go.WideShapes Go.ChangeAt Go.RowKit Go.Shelf
set_option linter.unusedVariables false
attribute [local go_sem] Oper.semAt_some
abbrev encS (i : Nat) : Array Value := #[.int .i64 i]
structure Stays (lo hi : Nat) (W W' : World) : Prop where
 size : W.heap.size ≤ W'.heap.size
 same : ∀ k, lo ≤ k → k < hi → W'.heap[k]? = W.heap[k]?
theorem Stays.trans {lo hi : Nat} {A B C : World} (h : Stays lo hi A B) (k : Stays lo hi B C) : Stays lo hi A C := ⟨Nat.le_trans h.size k.size, fun i h1 h2 => (k.same i h1 h2).trans (h.same i h1 h2)⟩
theorem Stays.below {lo hi : Nat} {W W' : World} (h : Below W.heap.size W W') (hh : hi ≤ W.heap.size) : Stays lo hi W W' := ⟨h.size, fun i _ h2 => h.block i (by omega)⟩
theorem stays_put {lo hi : Nat} {W : World} {l : Nat} {o' : Obj} (hl : hi ≤ l) : Stays lo hi W (W.putObj l o') := ⟨by simp, fun k _ hk => World.putObj_heap_other (by omega)⟩
theorem stays_set {lo hi : Nat} {W : World} {b o : Nat} {v : Value} (hl : b < lo ∨ hi ≤ b) : Stays lo hi W (W.setCell ⟨b, o, none⟩ v) := ⟨by simp, fun k h1 h2 => Below.heap_setCell W ⟨b, o, none⟩ v k (by show k ≠ b; omega)⟩
theorem Stays.refl (lo hi : Nat) (W : World) : Stays lo hi W W := ⟨Nat.le_refl _, fun _ _ _ => rfl⟩
theorem CB.stays {W W' : World} {lo hi b : Nat} {t : TypeId} {cs : Array Value} (h : CB W b t cs) (k : Stays lo hi W W') (h1 : lo ≤ b) (h2 : b < hi) : CB W' b t cs := (k.same b h1 h2).trans h
theorem ToAt.stays {b : Nat} {c : Cl} {fr cores : Int} {W W' : World} (h : ToAt b c fr cores W) (k : Stays b (b + 3) W W') : ToAt b c fr cores W' := ⟨h.c.stays k (by omega) (by omega), h.f.stays k (by omega) (by omega), h.n.stays k (by omega) (by omega)⟩
theorem ToAt.below {b : Nat} {c : Cl} {fr cores : Int} {W W' : World} (h : ToAt b c fr cores W) (k : Below W.heap.size W W') : ToAt b c fr cores W' := ⟨h.c.below k, h.f.below k, h.n.below k⟩
set_option maxRecDepth 100000 in
set_option maxHeartbeats 2000000 in
theorem to1_any (l b : Nat) (c : Cl) (fr cores : Int) (J Jx : List Nat → World → Prop) (W : World) (hJ : AbW W.heap.size 0 J)
  (hY : ∀ (pre : List Nat) (x : Nat) (W1 : World), J pre W1 → pre ++ [x] <+: toL c fr cores → W.heap.size + 0 ≤ W1.heap.size → ∀ m, YieldAt Fence.wide m Tryz.prog l (encS x) W1 fun e W' =>
   (e = .returned (.bool true) ∧ J (pre ++ [x]) W' ∧ Stays b (b + 3) W1 W') ∨ (e = .returned (.bool false) ∧ Jx (pre ++ [x]) W' ∧ Stays b (b + 3) W1 W'))
  (hb : ToAt b c fr cores W) (h0 : J [] W) :
  Calls Tryz.prog 111 #[.func (.yield l) #[] #[], .pointer (some ⟨b + 2, 0, none⟩), .pointer (some ⟨b, 0, none⟩), .pointer (some ⟨b + 1, 0, none⟩)] W fun e W' => (∃ v, e = .returned v) ∧
   ((∃ ys, ys = toL c fr cores ∧ J ys W') ∨ (∃ pre, pre <+: toL c fr cores ∧ Jx pre W')) := by
 have HYY := hi hY
 have HJ := hi hJ
 have HF := hi (fun (k : Nat) (hk : k < 8) (V : World) => reaches_any c fr k hk V)
 have n0 := hb.n.cell 0
 have hb3 : b + 3 ≤ W.heap.size := hb.n.lt
 have hcap : capN cores = (min cores 8).toNat := rfl
 have hc8 := capN_le cores
 obtain ⟨f, hf⟩ : ∃ f, callV c fr = f := ⟨_, rfl⟩
 obtain ⟨id, all, tg, odd⟩ := c
 have H0 := hi (show Below W.heap.size W W ∧ ToAt b ⟨id, all, tg, odd⟩ fr cores W ∧ J (upto f 0) W from ⟨Below.refl _ _, hb, h0⟩)
 unfold toL at HYY ⊢
 rw [hf] at HYY HF ⊢
 clear hY hJ hb h0 hf
 refine (callsIn_wide (n := 3)).1 ?_
 refine callsIn_of_wp Tryz.func111 rfl trivial ?_ rfl
 simp only [Tryz.ntmps111, List.size_toArray, List.length_cons, List.length_nil, Nat.reduceAdd, Nat.reduceSub, Array.replicate_succ, Array.replicate_zero, List.push_toArray, List.append_toArray, List.nil_append, List.cons_append]
 gi_wp2
 all_goals
  gi_loopw [8] (fun i wr => ∃ k : Nat, k ≤ capN cores ∧ i = .int .i64 k ∧ Hi (W.heap.size ≤ wr.heap.size ∧ ToAt b ⟨id, all, tg, odd⟩ fr cores wr ∧ J (upto f k) wr))
   (fun i _ => 8 - (intOf i).toNat)
  case atStart => exact ⟨0, Nat.zero_le _, rfl, hi ⟨Nat.le_refl _, H0.out.2⟩⟩
  case round =>
   obtain ⟨k, hk, rfl, HP⟩ := hrel
   by_cases hlt : k < capN cores
   ·have x1 : (k : Int) < 8 := by omega
    have x2 : (k : Int) < cores := by omega
    have HF1 := hi (HF.out k (by omega))
    have c0 := HP.out.2.1.c.cell 0
    have c1 := HP.out.2.1.c.cell 1
    have c2 := HP.out.2.1.c.cell 2
    have c3 := HP.out.2.1.c.cell 3
    have f0 := HP.out.2.1.f.cell 0
    cases hfk : f k
    ·have HE := hi (upto_neg hfk)
     rw [hfk] at HF1
     clear hfk
     gi_wp2_with (first
      | (refine ⟨trivial, ?_⟩; gi_at_call 112; ((with_reducible refine (callsIn_wide.2 (HF1.out _)).mono ?_); rintro e w1 ⟨rfl, hb1⟩))
      | gi_in)
     refine ⟨noFn, ?_⟩
     gi_wp2
     go_roundw
     case rel => exact ⟨k + 1, by omega, by go_num, hi ⟨Nat.le_trans HP.out.1 hb1.size, HP.out.2.1.below hb1, by rw [HE.out]; exact HJ.out.grow HP.out.2.2 (Below.grew hb1)⟩⟩
     case measure => simp only [intOf]; omega
    ·have HE := hi (upto_pos hfk)
     have HX := hi (show upto f k ++ [k] <+: upto f (capN cores) by rw [← upto_pos hfk]; exact upto_pre f _ _ (by omega))
     rw [hfk] at HF1
     clear hfk
     gi_wp2_with (first
      | (refine ⟨trivial, ?_⟩; gi_at_call 112; ((with_reducible refine (callsIn_wide.2 (HF1.out _)).mono ?_); rintro e w1 ⟨rfl, hb1⟩; obtain ⟨fn, tmps, assign, body, hy, hRd⟩ := HYY.out _ _ w1 (HJ.out.grow HP.out.2.2 (Below.grew hb1)) HX.out (Nat.le_trans HP.out.1 hb1.size) (3 - 1)))
      | gi_in)
     refine hRd.mono ?_
     rintro e W3 (⟨rfl, hJ3, hk3⟩ | ⟨rfl, hJx3, _⟩)
     ·gi_wp2
      go_roundw
      case rel => exact ⟨k + 1, by omega, by go_num, hi ⟨Nat.le_trans HP.out.1 (Nat.le_trans hb1.size hk3.size), (HP.out.2.1.below hb1).stays hk3, by rw [HE.out]; exact hJ3⟩⟩
      case measure => simp only [intOf]; omega
     ·gi_wp2
      refine bodyPost_ret (results_none rfl _ _ _) rfl ?_
      exact ⟨⟨_, rfl⟩, .inr ⟨_, HX.out, hJx3⟩⟩
   ·have hx : (cores ≤ 8 → ¬ (k : Int) < cores) ∧ (8 < cores → ¬ (k : Int) < 8) := by omega
    have hy : k = capN cores := by omega
    have HY := hi hy
    first
     | replace hx := hx.1 (by assumption)
     | replace hx := hx.2 (by assumption)
    clear hy hk hlt hcap
    gi_wp2
    go_end0
    exact ⟨⟨_, rfl⟩, .inl (by rw [← HY.out]; exact HP.out.2.2)⟩
theorem to_stops (b : Nat) (c : Cl) (fr cores : Int) (w : World) (hb : ToAt b c fr cores w) :
  SeqW 0 Tryz.prog 111 #[.pointer (some ⟨b + 2, 0, none⟩), .pointer (some ⟨b, 0, none⟩), .pointer (some ⟨b + 1, 0, none⟩)] encS (fun _ => Stays b (b + 3)) (fun ys => ys = toL c fr cores) (fun pre => pre <+: toL c fr cores) (fun pre x => pre ++ [x] <+: toL c fr cores) w := fun l J Jx W hW hJ hJx hY h0 =>
 to1_any l b c fr cores J Jx W hJ hY (hb.below hW) h0
end Go.Proofs.YtieedhdmpabfkaaGreat
namespace Go.Proofs.YtieedhdmpabfkaaGreat
open Go.ChangeShapes Go.WideShapes Go.ChangeAt Go.RowKit
set_option linter.unusedVariables false
def IntsAt (W : World) (v : Value) (xs : List Int) : Prop :=
 ∃ (a : Option Addr) (cap : Nat), v = .slice a xs.length cap ∧ (xs.length ≤ cap ∧ cap ≤ maxLen) ∧ (xs ≠ [] → ∃ b off : Nat, a = some ⟨b, off, none⟩ ∧ ∀ j, j < xs.length → W.cell? ⟨b, off + j, none⟩ = some (.int .i64 (xs[j]?.getD 0)))
theorem intsAt_row {W : World} {base : Nat} {v : Value} {xs : List Int} (h : W.ownsRow base 3 1 v xs.length (xs.map (Value.int .i64))) : IntsAt W v xs := by
 rcases h.2 with ⟨rfl, h0⟩ | ⟨g, cap, cur, rfl, hb, hg, h1, h2, h3, h4⟩
 ·exact ⟨none, 0, by rw [h0], ⟨by omega, by unfold maxLen; omega⟩, fun hx => absurd (List.length_eq_zero_iff.1 h0) hx⟩
 ·refine ⟨some ⟨g, 0, none⟩, cap, rfl, ⟨h1, h2⟩, fun _ => ⟨g, 0, rfl, fun j hj => ?_⟩⟩
  have hc : cur.toList[j]? = some (.int .i64 (xs[j]?.getD 0)) := by
   have h5 : (cur.toList.take (xs.length * 1))[j]? = (xs.map (Value.int .i64))[j]? := by rw [h4]
   rw [List.getElem?_take_of_lt (by omega)] at h5
   rw [h5]
   simp [hj]
  simp only [World.cell?, hg]
  simpa using hc
theorem list_ne {xs ys : List Int} (hl : xs.length = ys.length) (hne : xs ≠ ys) : ¬ ∀ j, j < xs.length → xs[j]?.getD 0 = ys[j]?.getD 0 := fun h => hne (by
 apply List.ext_getElem hl
 intro i h1 h2
 have := h i h1
 simpa [h1, h2] using this)
def Upto (xs ys : List Int) (k : Nat) : Prop := ∀ j, j < k → xs[j]?.getD 0 = ys[j]?.getD 0
theorem Upto.zero (xs ys : List Int) : Upto xs ys 0 := fun j h => by omega
theorem Upto.succ {xs ys : List Int} {k : Nat} (h : Upto xs ys k) (e : xs[k]?.getD 0 = ys[k]?.getD 0) : Upto xs ys (k + 1) := fun j hj => by
 by_cases x : j = k
 ·subst x; exact e
 ·exact h j (by omega)
def sameB (xs ys : List Int) : Bool := decide (xs = ys)
theorem sameB_upto {xs ys : List Int} (hl : xs.length = ys.length) (h : Upto xs ys xs.length) : sameB xs ys = true := by
 by_cases e : xs = ys
 ·simp [sameB, e]
 ·exact absurd h (list_ne hl e)
theorem sameB_at {xs ys : List Int} {k : Nat} (h : xs[k]?.getD 0 ≠ ys[k]?.getD 0) : sameB xs ys = false := by
 have : xs ≠ ys := fun e => h (by rw [e])
 simp [sameB, this]
theorem sameB_len {xs ys : List Int} (h : xs.length ≠ ys.length) : sameB xs ys = false := by
 have : xs ≠ ys := fun e => h (by rw [e])
 simp [sameB, this]
end Go.Proofs.YtieedhdmpabfkaaGreat
