import Derived.Test.YtieedhdmpabfkaaGreatMg35
import Derived.Test.YtieedhdmpabfkaaGreatMg36
import Derived.Test.YtieedhdmpabfkaaGreatMg29
set_option linter.unusedSimpArgs false
namespace Go.Proofs.YtieedhdmpabfkaaGreat
open Go.ChangeShapes Go.WideShapes Go.ChangeAt Go.RowKit Go.Shelf
set_option linter.unusedVariables false
attribute [local go_sem] Oper.semAt_some
structure DiW (w : World) (p q : Nat) (b c : Nat → Nat) (D : Ds) (W : World) : Prop where
 di : DiAt W p q b c D
 ok : D.Ok
 lo : w.heap.size ≤ p
 below : Below w.heap.size w W
section
variable {w W W' : World} {p q : Nat} {b c : Nat → Nat} {D D' : Ds}
theorem DiW.later (h : DiW w p q b c D W) (k : Below W.heap.size W W') : DiW w p q b c D W' := ⟨h.di.below k, h.ok, h.lo, h.below.trans (k.mono h.below.size)⟩
theorem DiW.act (h : DiW w p q b c D W) (k : DiAf W p q b c D' W') (ok : D'.Ok) : DiW w p q b c D' W' :=
 ⟨k.di, ok, h.lo, h.below.trans (k.kept.toBelow h.below.size (fun i z => Nat.le_trans h.lo z.1))⟩
end
theorem self_cand (i p g : Int) (b : Bool) (w : World) : (Op.equalIn 10000 55 (.agg #[.int .i64 i, .int .i64 p, .int .i64 g, .bool b]) (.agg #[.int .i64 i, .int .i64 p, .int .i64 g, .bool b])).run Tryz.prog w = .ok true w := by
 have u3 := Tryz.underlying4
 have a3 := Tryz.isAgg4
 have z3 := Tryz.sizeOf4
 have u4 := Tryz.underlying3
 have a4 := Tryz.isAgg3
 have z4 := Tryz.sizeOf3
 have hS : Tryz.prog.underlying 55 = some (.struct (Tryz.prog.fieldsOf 55)) := by kernel_rfl
 have hp : Tryz.prog.stoodInHeld 55 = false := by kernel_rfl
 rw [show (10000 : Nat) = 9999 + 1 from rfl, run_equalIn_agg w 9999 _ _ _ hS hp]
 simp only [Program.fieldsOf, Tryz.underlying55]
 go_simp
theorem neqC (i p g : Int) (b : Bool) (w : World) : (binOp .neq 55 (.agg #[.int .i64 i, .int .i64 p, .int .i64 g, .bool b]) (.agg #[.int .i64 i, .int .i64 p, .int .i64 g, .bool b])).run Tryz.prog w = .ok (.bool false) w := by
 rw [run_neq_struct, self_cand]; rfl
theorem eqlC (i p g : Int) (b : Bool) (w : World) : (binOp .eql 55 (.agg #[.int .i64 i, .int .i64 p, .int .i64 g, .bool b]) (.agg #[.int .i64 i, .int .i64 p, .int .i64 g, .bool b])).run Tryz.prog w = .ok (.bool true) w := by
 rw [run_eql_struct, self_cand]; rfl
theorem guardC (op : BinOp) (x y : Operand) (xs ys : Array Value) (w : World) : (eqGuard op 55 x y (.agg xs) (.agg ys)).run Tryz.prog w = .ok () w := run_eqGuard_agg w op _ _ _ _ _ (by kernel_rfl)
theorem candIs (i p g : Int) (b : Bool) (w : World) : (Instr.field 55 (.agg #[.int .i64 i, .int .i64 p, .int .i64 g, .bool b]) 3).run Tryz.prog w = .ok (.bool b) w := by kernel_rfl
theorem candId (i p g : Int) (b : Bool) (w : World) : (Instr.field 55 (.agg #[.int .i64 i, .int .i64 p, .int .i64 g, .bool b]) 0).run Tryz.prog w = .ok (.int .i64 i) w := by kernel_rfl
def dw0 : Ds := Ds.new 2 40
def dw1 : Ds := (writeDV dw0 0 4 2).1
def dw2 : Ds := (wireV dw1 0 40 true).1
def dw3 : Ds := (writeDV dw2 132 4 256).1
def dw4 : Ds := (writeDV dw3 260 4 256).1
def dw5 : Ds := (writeDV dw4 24896 8 1).1
def dw6 : Ds := (callDV dw5 0 0 50331650).1.1
theorem dw_ok : dw0.Ok ∧ dw1.Ok ∧ dw2.Ok ∧ dw3.Ok ∧ dw4.Ok ∧ dw5.Ok ∧ dw6.Ok := by
 have h0 : dw0.Ok := Ds.new_ok (by decide) (by decide) (by decide)
 have h1 : dw1.Ok := writeDV_ok h0 _ _ _
 have h2 : dw2.Ok := wireV_ok h1 _ _ _
 have h3 : dw3.Ok := writeDV_ok h2 _ _ _
 have h4 : dw4.Ok := writeDV_ok h3 _ _ _
 have h5 : dw5.Ok := writeDV_ok h4 _ _ _
 exact ⟨h0, h1, h2, h3, h4, h5, callDV_ok h5 _ _ _⟩
theorem dw_r0 : readDV dw0 0 4 = (80, 0) := by decide +kernel
theorem dw_r1 : readDV dw0 4 4 = (131106, 0) := by decide +kernel
theorem dw_w1 : (writeDV dw0 0 4 2).2 = 0 := by decide +kernel
theorem dw_w2 : (wireV dw1 0 40 true).2 = 0 := by decide +kernel
theorem dw_w3 : (writeDV dw2 132 4 256).2 = 0 := by decide +kernel
theorem dw_w4 : (writeDV dw3 260 4 256).2 = 0 := by decide +kernel
theorem dw_b4 : bestC (readyL dw4 0) = ⟨40, 0, 1, true⟩ := by decide +kernel
theorem dw_w5 : (writeDV dw4 24896 8 1).2 = 0 := by decide +kernel
theorem dw_c6 : (callDV dw5 0 0 50331650).1.2 = 1 ∧ (callDV dw5 0 0 50331650).2 = 0 := by decide +kernel
theorem dw_b6 : bestC (readyL dw6 0) = ⟨0, 0, 0, false⟩ := by decide +kernel
theorem dw_b7 : bestC (readyL dw6 1) = ⟨40, 0, 1, true⟩ := by decide +kernel
theorem i64_few {x : Int} (h1 : 0 ≤ x) (h2 : x ≤ 100000) : Int64 x := by constructor <;> omega
section
variable {w W : World} {p q : Nat} {b c : Nat → Nat}
theorem awN (w : World) : Calls Tryz.prog 18 #[.int .i64 2, .int .i64 40] w fun e W => ∃ b c q, e = .returned (.tuple #[.pointer (some ⟨b 0, 0, none⟩), .int .i64 0]) ∧ DiW w w.heap.size q b c dw0 W :=
 (new_dist 2 40 w (by decide) (by decide) (by decide)).mono fun e W ⟨b, c, h1, h2, h3⟩ => ⟨b, c, _, h1, h2, dw_ok.1, Nat.le_refl _, h3⟩
theorem awR0 (h : DiW w p q b c dw0 W) : Calls Tryz.prog 34 #[.pointer (some ⟨b 0, 0, none⟩), .int .i64 0, .int .i64 4] W fun e w' => e = .returned (.tuple #[.int .u64 80, .int .i64 0]) ∧ DiW w p q b c dw0 w' :=
 (read_dist h.di h.ok (wd := 4) (i64_few (x := 0) (by decide) (by decide))).mono fun e w' ⟨h1, h2⟩ => ⟨by rw [h1, dw_r0]; rfl, h.later h2⟩
theorem awR1 (h : DiW w p q b c dw0 W) : Calls Tryz.prog 34 #[.pointer (some ⟨b 0, 0, none⟩), .int .i64 4, .int .i64 4] W fun e w' => e = .returned (.tuple #[.int .u64 131106, .int .i64 0]) ∧ DiW w p q b c dw0 w' :=
 (read_dist h.di h.ok (wd := 4) (i64_few (x := 4) (by decide) (by decide))).mono fun e w' ⟨h1, h2⟩ => ⟨by rw [h1, dw_r1]; rfl, h.later h2⟩
theorem awW1 (h : DiW w p q b c dw0 W) : Calls Tryz.prog 14 #[.pointer (some ⟨b 0, 0, none⟩), .int .i64 0, .int .i64 4, .int .u64 2] W fun e w' => e = .returned (.int .i64 0) ∧ DiW w p q b c dw1 w' :=
 (write_dist h.di h.ok (wd := 4) (i64_few (x := 0) (by decide) (by decide)) 2 (by decide)).mono fun e w' ⟨h1, h2⟩ => ⟨by rw [h1, dw_w1], h.act h2 dw_ok.2.1⟩
theorem awW2 (h : DiW w p q b c dw1 W) : Calls Tryz.prog 35 #[.pointer (some ⟨b 0, 0, none⟩), .int .i64 0, .int .i64 40, .bool true] W fun e w' => e = .returned (.int .i64 0) ∧ DiW w p q b c dw2 w' :=
 (wire_dist h.di h.ok (k := 0) true (i64_few (x := 40) (by decide) (by decide))).mono fun e w' ⟨h1, h2⟩ => ⟨by rw [h1, dw_w2], h.act h2 dw_ok.2.2.1⟩
theorem awW3 (h : DiW w p q b c dw2 W) : Calls Tryz.prog 14 #[.pointer (some ⟨b 0, 0, none⟩), .int .i64 132, .int .i64 4, .int .u64 256] W fun e w' => e = .returned (.int .i64 0) ∧ DiW w p q b c dw3 w' :=
 (write_dist h.di h.ok (wd := 4) (i64_few (x := 132) (by decide) (by decide)) 256 (by decide)).mono fun e w' ⟨h1, h2⟩ => ⟨by rw [h1, dw_w3], h.act h2 dw_ok.2.2.2.1⟩
theorem awW4 (h : DiW w p q b c dw3 W) : Calls Tryz.prog 14 #[.pointer (some ⟨b 0, 0, none⟩), .int .i64 260, .int .i64 4, .int .u64 256] W fun e w' => e = .returned (.int .i64 0) ∧ DiW w p q b c dw4 w' :=
 (write_dist h.di h.ok (wd := 4) (i64_few (x := 260) (by decide) (by decide)) 256 (by decide)).mono fun e w' ⟨h1, h2⟩ => ⟨by rw [h1, dw_w4], h.act h2 dw_ok.2.2.2.2.1⟩
theorem awB4 (h : DiW w p q b c dw4 W) : Calls Tryz.prog 25 #[.pointer (some ⟨b 0, 0, none⟩), .int .i64 0] W fun e w' => e = .returned (.agg #[.int .i64 40, .int .i64 0, .int .i64 1, .bool true]) ∧ DiW w p q b c dw4 w' :=
 (best_dist h.di h.ok 0).mono fun e w' ⟨h1, h2⟩ => ⟨by rw [h1, dw_b4], h.later h2⟩
structure DiX (w : World) (p q : Nat) (b c : Nat → Nat) (D : Ds) (B : Nat) (W : World) : Prop where
 di : DiW w p q b c D W
 bx : CB W B 55 #[.int .i64 40, .int .i64 0, .int .i64 1, .bool true]
 hB : q ≤ B
theorem DiX.later {D : Ds} {B : Nat} {W' : World} (h : DiX w p q b c D B W) (k : Below W.heap.size W W') : DiX w p q b c D B W' := ⟨h.di.later k, h.bx.below k, h.hB⟩
theorem DiX.act {D D' : Ds} {B : Nat} {W' : World} (h : DiX w p q b c D B W) (k : DiAf W p q b c D' W') (ok : D'.Ok) : DiX w p q b c D' B W' :=
 ⟨h.di.act k ok, h.bx.keptB k.kept (fun z => by have := z.2; have := h.hB; omega), h.hB⟩
theorem awX (h : DiW w p q b c dw4 W) : DiX w p q b c dw4 W.heap.size (W.alloc (.cells #[.int .i64 40, .int .i64 0, .int .i64 1, .bool true] 55)) := ⟨h.later (bal _ _), CB.new _ _ _, h.di.le⟩
theorem awW5 {B : Nat} (h : DiX w p q b c dw4 B W) : Calls Tryz.prog 14 #[.pointer (some ⟨b 0, 0, none⟩), .int .i64 24896, .int .i64 8, .int .u64 1] W fun e w' => e = .returned (.int .i64 0) ∧ DiX w p q b c dw5 B w' :=
 (write_dist h.di.di h.di.ok (wd := 8) (i64_few (x := 24896) (by decide) (by decide)) 1 (by decide)).mono fun e w' ⟨h1, h2⟩ => ⟨by rw [h1, dw_w5], h.act h2 dw_ok.2.2.2.2.2.1⟩
theorem awC6 {B : Nat} (h : DiX w p q b c dw5 B W) : Calls Tryz.prog 28 #[.pointer (some ⟨b 0, 0, none⟩), .int .i64 0, .int .i64 0, .int .u64 50331650] W fun e w' => e = .returned (.tuple #[.int .i64 1, .int .i64 0]) ∧ DiX w p q b c dw6 B w' :=
 (call_dist h.di.di h.di.ok 0 0 50331650 (by decide)).mono fun e w' ⟨h1, h2⟩ => ⟨by rw [h1, dw_c6.1, dw_c6.2]; rfl, h.act h2 dw_ok.2.2.2.2.2.2⟩
theorem awB6 {B : Nat} (h : DiX w p q b c dw6 B W) : Calls Tryz.prog 25 #[.pointer (some ⟨b 0, 0, none⟩), .int .i64 0] W fun e w' => e = .returned (.agg #[.int .i64 0, .int .i64 0, .int .i64 0, .bool false]) ∧ DiX w p q b c dw6 B w' :=
 (best_dist h.di.di h.di.ok 0).mono fun e w' ⟨h1, h2⟩ => ⟨by rw [h1, dw_b6], h.later h2⟩
theorem awB7 {B : Nat} (h : DiX w p q b c dw6 B W) : Calls Tryz.prog 25 #[.pointer (some ⟨b 0, 0, none⟩), .int .i64 1] W fun e w' => e = .returned (.agg #[.int .i64 40, .int .i64 0, .int .i64 1, .bool true]) ∧ DiX w p q b c dw6 B w' :=
 (best_dist h.di.di h.di.ok 1).mono fun e w' ⟨h1, h2⟩ => ⟨by rw [h1, dw_b7], h.later h2⟩
end
set_option maxRecDepth 100000 in
set_option maxHeartbeats 8000000 in
theorem awake_any (w : World) : Calls Tryz.prog 10 #[] w fun e w' => e = .returned (.bool true) ∧ Below w.heap.size w w' := by
 have hq := fun W => eqlC 40 0 1 true W
 have hg := fun op x y xs ys W => guardC op x y xs ys W
 have hf3 := fun W => candIs 0 0 0 false W
 have hf0 := fun W => candId 40 0 1 true W
 go_enter Tryz.func10, Tryz.ntmps10
 go_wp2_with (first
  | (go_at_call 18; ((with_reducible refine (awN _).mono ?_); rintro e w1 ⟨b, c, q, rfl, hd⟩; have H1 := hi hd; clear hd))
  | (go_at_call 34; ((with_reducible refine (awR0 H1.out).mono ?_); rintro e w2 ⟨rfl, hd⟩; have H2 := hi hd; clear hd))
  | (go_at_call 34; ((with_reducible refine (awR1 H2.out).mono ?_); rintro e w3 ⟨rfl, hd⟩; have H3 := hi hd; clear hd))
  | (go_at_call 14; ((with_reducible refine (awW1 H3.out).mono ?_); rintro e w4 ⟨rfl, hd⟩; have H4 := hi hd; clear hd))
  | (go_at_call 35; ((with_reducible refine (awW2 H4.out).mono ?_); rintro e w5 ⟨rfl, hd⟩; have H5 := hi hd; clear hd))
  | (go_at_call 14; ((with_reducible refine (awW3 H5.out).mono ?_); rintro e w6 ⟨rfl, hd⟩; have H6 := hi hd; clear hd))
  | (go_at_call 14; ((with_reducible refine (awW4 H6.out).mono ?_); rintro e w7 ⟨rfl, hd⟩; have H7 := hi hd; clear hd))
  | (go_at_call 25; ((with_reducible refine (awB4 H7.out).mono ?_); rintro e w8 ⟨rfl, hd⟩; have H8 := hi (awX hd); clear hd))
  | (go_at_call 14; ((with_reducible refine (awW5 H8.out).mono ?_); rintro e w9 ⟨rfl, hd⟩; have H9 := hi hd; clear hd))
  | (go_at_call 28; ((with_reducible refine (awC6 H9.out).mono ?_); rintro e w10 ⟨rfl, hd⟩; have H10 := hi hd; have x0 := hd.bx.cell 0; have x1 := hd.bx.cell 1; have x2 := hd.bx.cell 2; have x3 := hd.bx.cell 3; clear hd))
  | (go_at_call 25; ((with_reducible refine (awB6 H10.out).mono ?_); rintro e w11 ⟨rfl, hd⟩; have H11 := hi hd; clear hd))
  | (go_at_call 25; ((with_reducible refine (awB7 H11.out).mono ?_); rintro e w12 ⟨rfl, hd⟩; have H12 := hi hd; clear hd)))
 go_ret
 exact ⟨rfl, H12.out.di.below⟩
end Go.Proofs.YtieedhdmpabfkaaGreat
