/-
  With, where the new bus may be: at its value.
-/
import Derived.Test.YtcdfkdlddmkhmaaBusU
import Derived.Test.YtcdfkdlddmkhmaaBusP
import Derived.Deep.RegionWith
namespace Go.Proofs.Ytcdfkdlddmkhmaa
open Go.ChangeShapes Go.WideShapes Go.ChangeAt Go.RowKit
set_option linter.unusedVariables false

theorem Below.drew1 {n : Nat} {A B : World} (h : Below n A B) : Below n A B.drew := ⟨h.os, h.tape, h.output, h.size, h.block⟩
/-- What AppendSeq wants to find. -/
structure AP (w : World) (Bs ar : Nat) (sv : Value) (s : Sp) (lo : Nat) (xs : List Sp) (W : World) : Prop where
  lt : Bs < W.heap.size
  cell : W.cell? ⟨Bs, 0, none⟩ = some sv
  own : W.ownsRow w.heap.size 33 4 (.slice (some ⟨ar, 0, none⟩) 1 1) 1 s.cs
  sp : SpIn lo w.heap.size W sv xs
  below : Below w.heap.size w W
theorem own_new (w W : World) (s : Sp) (h : w.heap.size ≤ W.heap.size) : (W.alloc (.cells #[.int .i64 s.b, .int .i64 s.s, .int .i64 s.k, .int .i64 s.i] 33)).ownsRow w.heap.size 33 4 (.slice (some ⟨W.heap.size, 0, none⟩) 1 1) 1 s.cs :=
  ⟨rfl, .inr ⟨W.heap.size, 1, _, rfl, h, World.alloc_heap_new W _, Nat.le_refl _, by unfold maxLen; omega, rfl, rfl⟩⟩
theorem AP.drew {w : World} {Bs ar : Nat} {sv : Value} {s : Sp} {lo : Nat} {xs : List Sp} {W : World} (h : AP w Bs ar sv s lo xs W) : AP w Bs ar sv s lo xs W.drew :=
  ⟨h.lt, h.cell, h.own, h.sp, Below.drew1 h.below⟩
theorem ap1 {w W : World} {sv : Value} {s : Sp} {lo : Nat} {xs : List Sp} (hb : Below w.heap.size w W) (hsp : SpIn lo w.heap.size W sv xs) :
    AP w (W.heap.size + 1) W.heap.size sv s lo xs ((W.alloc (.cells #[.int .i64 s.b, .int .i64 s.s, .int .i64 s.k, .int .i64 s.i] 33)).alloc (.cells #[sv] 22)) := by
  have z : (W.alloc (.cells #[.int .i64 s.b, .int .i64 s.s, .int .i64 s.k, .int .i64 s.i] 33)).heap.size = W.heap.size + 1 := by simp
  have k1 : Below W.heap.size W (W.alloc (.cells #[.int .i64 s.b, .int .i64 s.s, .int .i64 s.k, .int .i64 s.i] 33)) := bal W _
  have k2 := k1.trans ((bal (W.alloc (.cells #[.int .i64 s.b, .int .i64 s.s, .int .i64 s.k, .int .i64 s.i] 33)) (.cells #[sv] 22)).mono (by rw [z]; omega))
  have hc := (Boxed.new (W.alloc (.cells #[.int .i64 s.b, .int .i64 s.s, .int .i64 s.k, .int .i64 s.i] 33)) 22 sv).cell
  rw [z] at hc
  exact ⟨by rw [World.size_alloc, z]; omega, hc, own_later (own_new w W s hb.size) (bal _ _), hsp.below k2 hb.size, hb.trans (k2.mono hb.size)⟩
theorem ap2 {w W : World} {sv : Value} {s : Sp} {lo : Nat} {xs : List Sp} (hb : Below w.heap.size w W) (hsp : SpIn lo w.heap.size W sv xs) :
    AP w W.heap.size (W.heap.size + 1) sv s lo xs ((W.alloc (.cells #[sv] 22)).alloc (.cells #[.int .i64 s.b, .int .i64 s.s, .int .i64 s.k, .int .i64 s.i] 33)) := by
  have z : (W.alloc (.cells #[sv] 22)).heap.size = W.heap.size + 1 := by simp
  have k1 : Below W.heap.size W (W.alloc (.cells #[sv] 22)) := bal W _
  have k2 := k1.trans ((bal (W.alloc (.cells #[sv] 22)) (.cells #[.int .i64 s.b, .int .i64 s.s, .int .i64 s.k, .int .i64 s.i] 33)).mono (by rw [z]; omega))
  have hc := ((Boxed.new W 22 sv).alloc (.cells #[.int .i64 s.b, .int .i64 s.s, .int .i64 s.k, .int .i64 s.i] 33)).cell
  have ho := own_new w (W.alloc (.cells #[sv] 22)) s (by rw [z]; have := hb.size; omega)
  rw [z] at ho
  exact ⟨by rw [World.size_alloc, z]; omega, hc, ho, hsp.below k2 hb.size, hb.trans (k2.mono hb.size)⟩

/-- What AppendSeq leaves: a slice of the spans. -/
def ApPost (w : World) (s : Sp) (xs : List Sp) (e : Ending) (w' : World) : Prop := ∃ v, e = .returned v ∧ SpIn w.heap.size w'.heap.size w' v (s :: xs) ∧ Below w.heap.size w w'
theorem ap_call {w : World} {Bs ar : Nat} {sv : Value} {s : Sp} {lo : Nat} {xs : List Sp} {W : World} (h : AP w Bs ar sv s lo xs W) (hs : s.Fair) (hl : xs.length ≤ 64) :
    Calls Try.prog 34 #[.slice (some ⟨ar, 0, none⟩) 1 1, .func (.func 38) #[] #[.pointer (some ⟨Bs, 0, none⟩)]] W (ApPost w s xs) := by
  refine (appendSeq_any Bs lo w.heap.size w.heap.size 1 sv _ s.cs xs W h.lt h.cell h.sp (Nat.le_refl _) h.below.size h.own (by omega)).mono ?_
  rintro e w' ⟨v, rfl, hr, hb⟩
  refine ⟨v, rfl, spIn_of_own (xs := s :: xs) (by rw [List.length_cons, Nat.add_comm]; exact hr) (by simp; omega) (fun x hx => ?_), h.below.trans hb⟩
  rcases List.mem_cons.1 hx with rfl | h1
  · exact hs
  · exact h.sp.fair x h1

set_option maxRecDepth 100000 in
set_option maxHeartbeats 1000000 in
theorem with_yes (lo n₀ p : Nat) (sv : Value) (xs : List Sp) (s : Sp) (w : World) (hb : BusAt lo n₀ w p sv xs) (hn : n₀ ≤ w.heap.size) (hl : xs.length ≤ 64) (hs : s.Fair) (he : newE (s :: xs) = 0) :
    Calls Try.prog 21 #[.pointer (some ⟨p, 0, none⟩), s.v] w fun e w' => ∃ q tv, e = .returned (.tuple #[.pointer (some ⟨q, 0, none⟩), .int .i64 0]) ∧ BusAt w.heap.size w'.heap.size w' q tv (sortB (s :: xs)) ∧ Below w.heap.size w w' := by
  have hmx := mixed
  have HE := hi he
  obtain ⟨w1, hw1⟩ : ∃ w1, w.alloc (.cells #[.int .i64 s.b, .int .i64 s.s, .int .i64 s.k, .int .i64 s.i] 33) = w1 := ⟨_, rfl⟩
  have hB1 : Below w.heap.size w w1 := by rw [← hw1]; exact bal w _
  have hx1 : SpBox w1 w.heap.size s := by rw [← hw1]; exact SpBox.new w s
  have hz1 : w1.heap.size = w.heap.size + 1 := by rw [← hw1]; simp
  have hb1 := (hb.mono (Nat.le_refl _) hn).below hB1 (Nat.le_refl _)
  obtain ⟨z0, z1, z2, z3⟩ := hx1.cells
  have HS := hi (fun W (k : Below w1.heap.size w1 W) => spans_any lo w.heap.size p sv xs W (hb1.below k (by omega)))
  have P1 := ap1 (s := s) hB1 hb1.sp
  have P2 := ap2 (s := s) hB1 hb1.sp
  rw [hz1] at P1 P2
  have C1 := hi (ap_call P1.drew hs hl)
  have C2 := hi (ap_call P2.drew hs hl)
  clear hb he P1 P2 hx1
  go_enter Try.func21, Try.ntmps21
  go_wp2
  go_region_with (first
    | (go_at_call 30; ((with_reducible refine (HS.out _ (Below.drew1 (bal _ _))).mono ?_); rintro e w2 ⟨rfl, rfl⟩))
    | (go_at_call 30; ((with_reducible refine (HS.out _ (Below.drew1 (Below.refl _ _))).mono ?_); rintro e w2 ⟨rfl, rfl⟩))
    | (go_at_call 34; ((with_reducible refine C1.out.mono ?_); rintro e w3 ⟨v3, rfl, hi3, hb3⟩; have HI3 := hi hi3; have HB3 := hi hb3; clear hi3 hb3))
    | (go_at_call 34; ((with_reducible refine C2.out.mono ?_); rintro e w3 ⟨v3, rfl, hi3, hb3⟩; have HI3 := hi hi3; have HB3 := hi hb3; clear hi3 hb3))
    | (go_at_call 10; ((with_reducible refine (new_yes2 _ _ _ (s :: xs) _ HI3.out (Nat.le_refl _) HE.out).mono ?_); rintro e w4 ⟨q, tv, rfl, hb4, hk4⟩; replace hb4 := hi (hb4.mono HB3.out.size (Nat.le_refl _)); replace hk4 := hi (HB3.out.trans (hk4.mono HB3.out.size)))))
  all_goals
    go_wp2
    go_ret2
    exact ⟨q, tv, rfl, hb4.out, hk4.out⟩

end Go.Proofs.Ytcdfkdlddmkhmaa
