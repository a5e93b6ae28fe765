/-
  Calls compared with themselves; boxes in a list (AtG); awake: the document's examples.
-/
import Derived.Test.YtkfnelhafflimaaSgiW
import Derived.Test.YtkfnelhafflimaaSgiE
import Derived.Laws.StructEq
import Derived.Deep.RegionHeld3
import Derived.BigRegion
import Derived.IntWalk
import Derived.Deep.RegionWith
namespace Go.Proofs.Ytkfnelhafflimaa
open Go.ChangeShapes Go.WideShapes Go.ChangeAt Go.RowKit
set_option linter.unusedVariables false

theorem equalC (i t : Int) (a o : Bool) (w : World) : (Op.equalIn 10000 24 (.agg #[.int .i64 i, .bool a, .int .i64 t, .bool o]) (.agg #[.int .i64 i, .bool a, .int .i64 t, .bool o])).run Try.prog w = .ok true w := by
  have u3 := Try.underlying4
  have a3 := Try.isAgg4
  have z3 := Try.sizeOf4
  have u4 := Try.underlying3
  have a4 := Try.isAgg3
  have z4 := Try.sizeOf3
  have hS : Try.prog.underlying 24 = some (.struct (Try.prog.fieldsOf 24)) := by kernel_rfl
  have hp : Try.prog.stoodInHeld 24 = false := by kernel_rfl
  rw [show (10000 : Nat) = 9999 + 1 from rfl, run_equalIn_agg w 9999 _ _ _ hS hp]
  simp only [Program.fieldsOf, Try.underlying24]
  go_simp
theorem eqlC (i t : Int) (a o : Bool) (w : World) : (binOp .eql 24 (.agg #[.int .i64 i, .bool a, .int .i64 t, .bool o]) (.agg #[.int .i64 i, .bool a, .int .i64 t, .bool o])).run Try.prog w = .ok (.bool true) w := by
  rw [run_eql_struct, equalC]; rfl
theorem neqC (i t : Int) (a o : Bool) (w : World) : (binOp .neq 24 (.agg #[.int .i64 i, .bool a, .int .i64 t, .bool o]) (.agg #[.int .i64 i, .bool a, .int .i64 t, .bool o])).run Try.prog w = .ok (.bool false) w := by
  rw [run_neq_struct, equalC]; rfl
theorem guardC (op : BinOp) (x y : Operand) (xs ys : Array Value) (w : World) : (eqGuard op 24 x y (.agg xs) (.agg ys)).run Try.prog w = .ok () w := run_eqGuard_agg w op _ _ _ _ _ (by kernel_rfl)
attribute [local go_sem high] eqlC neqC guardC

/-- Some blocks of cells, above a world that lies below them as it lay. -/
structure AtG (w : World) (L : List (Nat × TypeId × Array Value)) (W : World) : Prop where
  box : ∀ p ∈ L, CB W p.1 p.2.1 p.2.2
  below : Below w.heap.size w W
theorem AtG.later {w W W' : World} {L : List (Nat × TypeId × Array Value)} (h : AtG w L W) (k : Below W.heap.size W W') : AtG w L W' := ⟨fun p hp => (h.box p hp).below k, h.below.trans (k.mono h.below.size)⟩
theorem AtG.alloc {w W : World} {L : List (Nat × TypeId × Array Value)} (h : AtG w L W) (o : Obj) : AtG w L (W.alloc o) := h.later (bal W o)
theorem AtG.new {w W : World} {L : List (Nat × TypeId × Array Value)} (h : AtG w L W) (t : TypeId) (cs : Array Value) : AtG w ((W.heap.size, t, cs) :: L) (W.alloc (.cells cs t)) :=
  ⟨fun p hp => by
    rcases List.mem_cons.1 hp with rfl | hq
    · exact CB.new _ _ _
    · exact (h.alloc _).box p hq, (h.alloc (.cells cs t)).below⟩
theorem AtG.nil (w : World) : AtG w [] w := ⟨fun p hp => (by cases hp), Below.refl _ _⟩
theorem AtG.b0 {w W : World} {L : List (Nat × TypeId × Array Value)} {b : Nat} {t : TypeId} {cs : Array Value} (h : AtG w ((b, t, cs) :: L) W) : CB W b t cs := h.box (b, t, cs) (by simp)
theorem AtG.tl {w W : World} {L : List (Nat × TypeId × Array Value)} {p : Nat × TypeId × Array Value} (h : AtG w (p :: L) W) : AtG w L W := ⟨fun q hq => h.box q (List.mem_cons_of_mem _ hq), h.below⟩
theorem CB.four {W : World} {b : Nat} {t : TypeId} {p q r s : Value} (h : CB W b t #[p, q, r, s]) : W.cell? ⟨b, 0, none⟩ = some p ∧ W.cell? ⟨b, 1, none⟩ = some q ∧ W.cell? ⟨b, 2, none⟩ = some r ∧ W.cell? ⟨b, 3, none⟩ = some s := ⟨h.cell 0, h.cell 1, h.cell 2, h.cell 3⟩

theorem intsAt_two (W : World) (t : TypeId) (a b : Int) : IntsAt (W.alloc (.cells #[.int .i64 a, .int .i64 b] t)) (.slice (some ⟨W.heap.size, 0, none⟩) 2 2) [a, b] := by
  refine ⟨_, 2, rfl, ⟨by simp, by unfold maxLen; omega⟩, fun _ => ⟨W.heap.size, 0, rfl, fun j hj => ?_⟩⟩
  rw [(CB.new W t _).cell]
  match j, hj with
  | 0, _ => rfl
  | 1, _ => rfl
theorem intsAt_three (W : World) (t : TypeId) (a b c : Int) : IntsAt (W.alloc (.cells #[.int .i64 a, .int .i64 b, .int .i64 c] t)) (.slice (some ⟨W.heap.size, 0, none⟩) 3 3) [a, b, c] := by
  refine ⟨_, 3, rfl, ⟨by simp, by unfold maxLen; omega⟩, fun _ => ⟨W.heap.size, 0, rfl, fun j hj => ?_⟩⟩
  rw [(CB.new W t _).cell]
  match j, hj with
  | 0, _ => rfl
  | 1, _ => rfl
  | 2, _ => rfl

theorem aw1 (W : World) : Calls Try.prog 9 #[.int .u64 83886083] W fun e w' => e = .returned (.agg #[.int .i64 5, .bool false, .int .i64 3, .bool false]) ∧ Below W.heap.size W w' := by
  have h := decode_any 83886083 (by decide) W
  rw [show decV 83886083 = ⟨5, false, 3, false⟩ by decide] at h
  exact h
theorem aw2 (W : World) : Calls Try.prog 9 #[.int .u64 1099511627776] W fun e w' => e = .returned (.agg #[.int .i64 0, .bool true, .int .i64 0, .bool false]) ∧ Below W.heap.size W w' := by
  have h := decode_any 1099511627776 (by decide) W
  rw [show decV 1099511627776 = ⟨0, true, 0, false⟩ by decide] at h
  exact h
theorem aw3 (W : World) : Calls Try.prog 9 #[.int .u64 65537] W fun e w' => e = .returned (.agg #[.int .i64 0, .bool false, .int .i64 1, .bool true]) ∧ Below W.heap.size W w' := by
  have h := decode_any 65537 (by decide) W
  rw [show decV 65537 = ⟨0, false, 1, true⟩ by decide] at h
  exact h
theorem aw4 (W : World) (B : Nat) (t : TypeId) (hB : W.heap.size = B) : Calls Try.prog 18 #[.int .i64 3, .slice (some ⟨B, 0, none⟩) 2 2] (W.alloc (.cells #[.int .i64 1, .int .i64 4] t)) fun e w' => e = .returned (.tuple #[.agg #[.int .i64 3, .bool false, .int .i64 18, .bool false], .int .i64 0]) ∧ Below W.heap.size W w' := by
  subst hB
  have h := whom_any 3 [1, 4] _ _ (intsAt_two W t 1 4) (by decide)
  rw [show whomC 3 [1, 4] = ⟨3, false, 18, false⟩ by decide, show whomE 3 [1, 4] = 0 by decide] at h
  exact h.mono fun e w' ⟨h1, h2⟩ => ⟨h1, (bal W _).trans (h2.mono (by simp))⟩
theorem aw5 (W : World) : Calls Try.prog 15 #[.agg #[.int .i64 5, .bool false, .int .i64 3, .bool false], .int .i64 0, .int .i64 4] W fun e w' => ∃ a cap, e = .returned (.slice a 2 cap) ∧ IntsAt w' (.slice a 2 cap) [0, 1] ∧ Below W.heap.size W w' := by
  have h := lawTo_any ⟨5, false, 3, false⟩ 0 4 W
  rw [show nums (toL ⟨5, false, 3, false⟩ 0 4) = [0, 1] by decide] at h
  exact h
theorem aw6 (W : World) : Calls Try.prog 15 #[.agg #[.int .i64 0, .bool true, .int .i64 0, .bool false], .int .i64 2, .int .i64 4] W fun e w' => ∃ a cap, e = .returned (.slice a 3 cap) ∧ IntsAt w' (.slice a 3 cap) [0, 1, 3] ∧ Below W.heap.size W w' := by
  have h := lawTo_any ⟨0, true, 0, false⟩ 2 4 W
  rw [show nums (toL ⟨0, true, 0, false⟩ 2 4) = [0, 1, 3] by decide] at h
  exact h
theorem aw7 (W : World) : Calls Try.prog 16 #[.agg #[.int .i64 0, .bool false, .int .i64 1, .bool true], .int .i64 0, .int .i64 4] W fun e w' => e = .returned (.int .i64 0) ∧ Below W.heap.size W w' := by
  have h := many_any ⟨0, false, 1, true⟩ 0 4 W
  rw [show toL ⟨0, false, 1, true⟩ 0 4 = [] by decide] at h
  exact h
theorem aw8 (W : World) (t : TypeId) (v : Value) (h : IntsAt W v [0, 1]) : Calls Try.prog 14 #[v, .slice (some ⟨W.heap.size, 0, none⟩) 2 2] (W.alloc (.cells #[.int .i64 0, .int .i64 1] t)) fun e w' => e = .returned (.bool true) ∧ Below W.heap.size W w' :=
  (same_any [0, 1] [0, 1] v _ _ (intsAt_grew h (bal W _)) (intsAt_two W t 0 1) (by decide) (by decide)).mono fun e w' ⟨h1, m, h2⟩ => ⟨by rw [h1]; rfl, by rw [h2]; exact Below.drewN (bal W _)⟩
theorem aw9 (W : World) (t : TypeId) (v : Value) (h : IntsAt W v [0, 1, 3]) : Calls Try.prog 14 #[v, .slice (some ⟨W.heap.size, 0, none⟩) 3 3] (W.alloc (.cells #[.int .i64 0, .int .i64 1, .int .i64 3] t)) fun e w' => e = .returned (.bool true) ∧ Below W.heap.size W w' :=
  (same_any [0, 1, 3] [0, 1, 3] v _ _ (intsAt_grew h (bal W _)) (intsAt_three W t 0 1 3) (by decide) (by decide)).mono fun e w' ⟨h1, m, h2⟩ => ⟨by rw [h1]; rfl, by rw [h2]; exact Below.drewN (bal W _)⟩

set_option maxRecDepth 100000 in
set_option maxHeartbeats 4000000 in
theorem awake_any (w : World) : Calls Try.prog 10 #[] w fun e w' => e = .returned (.bool true) ∧ Below w.heap.size w w' := by
  go_enter Try.func10, Try.ntmps10
  go_wp2_with (first
    | (go_at_call 9; ((with_reducible refine (aw1 _).mono ?_); rintro e w1 ⟨rfl, hb⟩; have H1 := hi (((AtG.nil w).later hb).new 24 #[.int .i64 5, .bool false, .int .i64 3, .bool false]); clear hb))
    | (go_at_call 18; ((with_reducible refine (aw4 _ _ _ (by simp)).mono ?_); rintro e w2 ⟨rfl, hb⟩; have H2 := hi ((H1.out.later hb).new 24 #[.int .i64 3, .bool false, .int .i64 18, .bool false]); obtain ⟨s0, s1, s2, s3⟩ := H2.out.tl.b0.four; clear hb))
    | (go_at_call 15; ((with_reducible refine (aw5 _).mono ?_); rintro e w3 ⟨sa, sc, rfl, hI, hb⟩; have H3 := hi (H2.out.later hb); have HI := hi hI; clear hb hI s0 s1 s2 s3))
    | (go_at_call 14; ((with_reducible refine (aw8 _ _ _ HI.out).mono ?_); rintro e w4 ⟨rfl, hb⟩; have H4 := hi (H3.out.later hb); clear hb))
    | (go_at_call 9; ((with_reducible refine (aw2 _).mono ?_); rintro e w5 ⟨rfl, hb⟩; have H5 := hi (H4.out.later hb); clear hb))
    | (go_at_call 15; ((with_reducible refine (aw6 _).mono ?_); rintro e w6 ⟨sa2, sc2, rfl, hI, hb⟩; have H6 := hi (H5.out.later hb); have HI2 := hi hI; clear hb hI))
    | (go_at_call 14; ((with_reducible refine (aw9 _ _ _ HI2.out).mono ?_); rintro e w7 ⟨rfl, hb⟩; have H7 := hi (H6.out.later hb); clear hb))
    | (go_at_call 9; ((with_reducible refine (aw3 _).mono ?_); rintro e w8 ⟨rfl, hb⟩; have H8 := hi (H7.out.later hb); clear hb))
    | (go_at_call 16; ((with_reducible refine (aw7 _).mono ?_); rintro e w9 ⟨rfl, hb⟩; have H9 := hi (H8.out.later hb); obtain ⟨s0, s1, s2, s3⟩ := H9.out.b0.four; clear hb)))
  go_ret
  exact ⟨rfl, H9.out.below⟩

end Go.Proofs.Ytkfnelhafflimaa
