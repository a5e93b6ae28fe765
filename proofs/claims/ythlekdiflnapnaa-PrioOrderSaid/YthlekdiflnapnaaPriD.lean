/-
  Package prio: the levels that a mask tells apart, as a list; the iterator of Levels, for every loop body: the levels in their order, or a first part of them where the body stops.
-/
import Derived.Test.YthlekdiflnapnaaPriC
import Derived.RangeFuncBox
import Derived.RangeFuncLeaves
import Derived.RangeFuncCalls
import Derived.RangeFuncNested
import Derived.Shelf.Abstract
import Derived.OwnWalkIn
import Derived.TacticsInMore
import Derived.LoopNIn
import Derived.LoopIn
import Derived.Maps.AppendAt
namespace Go.Proofs.Ythlekdiflnapnaa
open Go.ChangeShapes Go.WideShapes Go.ChangeAt Go.RowKit Go.Shelf
set_option linter.unusedVariables false
attribute [local go_sem] Oper.semAt_some

theorem Below.grew {W W' : World} (h : Below W.heap.size W W') : W.grownBy W' none := ⟨h.os, h.tape, h.output, h.size, fun k hk _ => h.block k hk⟩

/-- The blocks from lo on, below hi, lie as they lay. -/
def Stays (lo hi : Nat) (W W' : World) : Prop := ∀ k, lo ≤ k → k < hi → W'.heap[k]? = W.heap[k]?
theorem Stays.refl (lo hi : Nat) (W : World) : Stays lo hi W W := fun _ _ _ => rfl
theorem Stays.trans {lo hi : Nat} {A B C : World} (h : Stays lo hi A B) (k : Stays lo hi B C) : Stays lo hi A C := fun i h1 h2 => (k i h1 h2).trans (h i h1 h2)
theorem Stays.below {lo hi : Nat} {W W' : World} (h : Below W.heap.size W W') (hh : hi ≤ W.heap.size) : Stays lo hi W W' := fun i _ h2 => h.block i (by omega)
theorem stays_b {lo hi : Nat} {w : World} (hn : hi ≤ w.heap.size) (W : World) (l : Nat) (o o' : Obj) (hl : w.heap.size ≤ l) (h : W.heap[l]? = some o) (_ : o.isCells = false) (_ : o.isWalk = false) : Stays lo hi W (W.putObj l o') :=
  fun k _ hk => World.putObj_heap_other (by omega)

/-- The level of the k-th priority; the one ahead of it; all those that stand behind k priorities. -/
def lvl (m : Int) (k : Nat) : Int := ((low8 m &&& (8 * k) : Nat) : Int)
def lastL (m : Int) : Nat → Int
  | 0 => -1
  | k + 1 => lvl m k
def lvUp (m : Int) : Nat → List Int
  | 0 => []
  | k + 1 => if lvl m k = lastL m k then lvUp m k else lvUp m k ++ [lvl m k]
def lvs (m : Int) : List Int := lvUp m 32

theorem lvl_and (m : Int) (k : Nat) (hk : k < 32) : bits .and .i64 (8 * (k : Int)) m = lvl m k := by
  rw [show (8 : Int) * (k : Int) = ((8 * k : Nat) : Int) by omega, and_low_left _ (by omega)]; rfl
theorem lvl_bd (m : Int) (k : Nat) : 0 ≤ lvl m k ∧ lvl m k ≤ 255 := by
  have : low8 m &&& (8 * k) ≤ low8 m := Nat.and_le_left
  have := low8_lt m
  unfold lvl; omega
theorem lvUp_eq {m : Int} {k : Nat} (h : lvl m k = lastL m k) : lvUp m (k + 1) = lvUp m k := by rw [lvUp, if_pos h]
theorem lvUp_ne {m : Int} {k : Nat} (h : lvl m k ≠ lastL m k) : lvUp m (k + 1) = lvUp m k ++ [lvl m k] := by rw [lvUp, if_neg h]
theorem lvUp_pre (m : Int) : ∀ (n k : Nat), k ≤ n → lvUp m k <+: lvUp m n
  | 0, k, h => by obtain rfl : k = 0 := by omega
                  exact List.prefix_rfl
  | n + 1, k, h => by
    by_cases e : k = n + 1
    · rw [e]; exact List.prefix_rfl
    · have ih := lvUp_pre m n k (by omega)
      rw [lvUp]
      split
      · exact ih
      · exact ih.trans (List.prefix_append _ _)
theorem lvUp_len (m : Int) : ∀ k : Nat, (lvUp m k).length ≤ k
  | 0 => by simp [lvUp]
  | k + 1 => by
    have := lvUp_len m k
    rw [lvUp]
    split
    · omega
    · simp; omega
theorem lvUp_last (m : Int) : ∀ k : Nat, 0 < k → (lvUp m k).getLast? = some (lastL m k)
  | k + 1, _ => by
    rw [lvUp]
    split
    · rename_i h
      match k, h with
      | 0, h => have := lvl_bd m 0; rw [h] at this; simp [lastL] at this
      | k + 1, h =>
        rw [lvUp_last m (k + 1) (by omega), ← h]
        rfl
    · simp [lastL]
theorem lvUp_lt {m : Int} {k : Nat} (hk : k < 32) (h : lvl m k ≠ lastL m k) : (lvUp m k).length < (lvs m).length := by
  have := (lvUp_pre m 32 (k + 1) (by omega)).length_le
  rw [lvUp_ne h] at this
  simp at this
  exact this

theorem cell_of_box {W : World} {B : Nat} {cs : Array Value} {t : TypeId} (h : W.heap[B]? = some (.cells cs t (0, 0))) (j : Nat) : W.cell? ⟨B, j, none⟩ = cs[j]? := by
  simp [World.cell?, h]

/-- What the iterator has captured: the mask, in a box. -/
def Box1 (W : World) (b : Nat) (m : Int) : Prop := W.heap[b]? = some (.cells #[.int .i64 m] 3 (0, 0))
theorem Box1.stays {W W' : World} {b : Nat} {m : Int} (h : Box1 W b m) (k : Stays b (b + 1) W W') : Box1 W' b m := (k b (by omega) (by omega)).trans h
theorem Box1.lt {W : World} {b : Nat} {m : Int} (h : Box1 W b m) : b + 1 ≤ W.heap.size := (Array.getElem?_eq_some_iff.1 h).1
theorem Box1.below {W W' : World} {b : Nat} {m : Int} (h : Box1 W b m) (k : Below W.heap.size W W') : Box1 W' b m := h.stays (Stays.below k h.lt)
theorem Box1.cell {W : World} {b : Nat} {m : Int} (h : Box1 W b m) : W.cell? ⟨b, 0, none⟩ = some (.int .i64 m) := cell_of_box h 0

theorem lv_slot {m : Int} {k : Nat} : Value.int .i64 (lastL m (k + 1)) = .int .i64 (lvl m k) := rfl

theorem noFn : ∀ (f : FuncId), none = some f → Fence.wide.fn f := fun _ h => by cases h

set_option maxRecDepth 100000 in
set_option maxHeartbeats 1000000 in
theorem levels1_in (n : Nat) (hn : 1 ≤ n) (l b : Nat) (m : Int) (J Jx : List Int → World → Prop) (W : World) (hJ : AbidesFrom W.heap.size J)
    (hY : ∀ pre x W1, J pre W1 → pre.length < (lvs m).length → YieldAt Fence.wide (n - 1) Try.prog l #[.int .i64 x] W1 fun e W' =>
      (e = .returned (.bool true) ∧ J (pre ++ [x]) W' ∧ Stays b (b + 1) W1 W') ∨ (e = .returned (.bool false) ∧ Jx (pre ++ [x]) W'))
    (hB : Box1 W b m) (h0 : J [] W) :
    CallsIn Fence.wide n Try.prog 30 #[.func (.yield l) #[] #[], .pointer (some ⟨b, 0, none⟩)] W fun e W' => (∃ v, e = .returned v) ∧
      ((∃ ys, ys = lvs m ∧ J ys W') ∨ (∃ pre, pre <+: lvs m ∧ Jx pre W')) := by
  refine callsIn_of_wp Try.func30 rfl trivial ?_ rfl
  simp only [Try.ntmps30, List.size_toArray, List.length_cons, List.length_nil, Nat.reduceAdd, Nat.reduceSub, Array.replicate_succ, Array.replicate_zero, List.push_toArray, List.append_toArray, List.nil_append, List.cons_append]
  gi_wp2
  gi_loopw [3, 4] (fun last p wr => ∃ k : Nat, k ≤ 32 ∧ p = .int .i64 (8 * (k : Int)) ∧ last = .int .i64 (lastL m k) ∧ J (lvUp m k) wr ∧ Box1 wr b m)
    (fun _ p _ => 256 - (intOf p).toNat)
  case atStart => exact ⟨0, Nat.zero_le _, rfl, rfl, h0, hB⟩
  case round =>
    obtain ⟨k, hk, rfl, rfl, hJs, hBr⟩ := hrel
    have hc := hBr.cell
    by_cases hlt : k < 32
    · have hla := Lib.hid (lvl_and m k hlt)
      by_cases he : lvl m k = lastL m k
      · have HE := Lib.hid he
        have HT : (lvl m k != lastL m k) = false := by simp [he]
        clear he
        gi_wp2_with (first
          | (refine ⟨trivial, ?_⟩; gi_at_call 15; ((with_reducible refine (callsIn_wide.2 (level_any _ m _)).mono ?_); rintro e w1 ⟨rfl, rfl⟩; rw [hla.out]))
          | gi_in)
        refine ⟨noFn, ?_⟩
        gi_wp2
        go_roundw
        case rel => exact ⟨k + 1, by omega, by go_num, lv_slot, by rw [lvUp_eq HE.out]; exact hJs, hBr⟩
        case measure => simp only [intOf]; omega
      · have HE := Lib.hid he
        have HT : (lvl m k != lastL m k) = true := by simp [he]
        obtain ⟨fn, tmps, assign, body, hy, hR⟩ := hY _ (lvl m k) wr hJs (lvUp_lt hlt he)
        clear he
        gi_wp2_with (first
          | (refine ⟨trivial, ?_⟩; gi_at_call 15; ((with_reducible refine (callsIn_wide.2 (level_any _ m _)).mono ?_); rintro e w1 ⟨rfl, rfl⟩; rw [hla.out]))
          | gi_in)
        refine hR.mono ?_
        rintro e W3 (⟨rfl, hJ3, hk3⟩ | ⟨rfl, hJx3⟩)
        · gi_wp2
          go_roundw
          case rel => exact ⟨k + 1, by omega, by go_num, lv_slot, by rw [lvUp_ne HE.out]; exact hJ3, hBr.stays hk3⟩
          case measure => simp only [intOf]; omega
        · gi_wp2
          refine bodyPost_ret (results_none rfl _ _ _) rfl ?_
          exact ⟨⟨_, rfl⟩, .inr ⟨_, lvUp_ne HE.out ▸ lvUp_pre m 32 (k + 1) (by omega), hJx3⟩⟩
    · obtain rfl : k = 32 := by omega
      gi_wp2
      go_end0
      exact ⟨⟨_, rfl⟩, .inl ⟨_, rfl, hJs⟩⟩

theorem levels_stops (n : Nat) (hn : 1 ≤ n) (b : Nat) (m : Int) (w : World) (hB : Box1 w b m) :
    SeqStopsK Fence.wide n Try.prog 30 #[.pointer (some ⟨b, 0, none⟩)] (fun x : Int => #[Value.int .i64 x]) (Stays b (b + 1)) (fun ys => ys = lvs m) (fun pre => pre <+: lvs m) (lvs m).length w := fun l J Jx W hW hJ hJx hY h0 =>
  levels1_in n hn l b m J Jx W hJ hY (hB.below hW) h0

theorem levels_in (n : Nat) (m : Int) (w : World) :
    CallsIn Fence.wide n Try.prog 28 #[.int .i64 m] w fun e w' => e = .returned (.func (.func 30) #[] #[.pointer (some ⟨w.heap.size, 0, none⟩)]) ∧ w' = w.alloc (.cells #[.int .i64 m] 3) := by
  refine callsIn_of_wp Try.func28 rfl trivial ?_ rfl
  simp only [Try.ntmps28, List.size_toArray, List.length_cons, List.length_nil, Nat.reduceAdd, Nat.reduceSub, Array.replicate_succ, Array.replicate_zero, List.push_toArray, List.append_toArray, List.nil_append, List.cons_append]
  gi_wp2
  go_ret
  exact ⟨rfl, rfl⟩

end Go.Proofs.Ythlekdiflnapnaa
