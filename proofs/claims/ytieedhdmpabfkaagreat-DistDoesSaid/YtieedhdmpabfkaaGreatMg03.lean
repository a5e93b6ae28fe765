import Derived.Test.YtieedhdmpabfkaaGreatRows
import Derived.Test.YtieedhdmpabfkaaGreatMg02
import Derived.WalkKit
import Derived.ProofKit
import Derived.Lib.Hide
set_option linter.unusedSimpArgs false
namespace Go.Proofs.YtieedhdmpabfkaaGreat
open Go.ChangeShapes Go.WideShapes Go.ChangeAt Go.RowKit
set_option linter.unusedVariables false
def realV (p : Int) : Int := ((low8 p &&& 248 : Nat) : Int)
def beforeB (p a q b : Int) : Bool := decide (p < q) || (decide (p = q) && decide (a < b))
theorem real_any (p : Int) (w : World) : Calls Tryz.prog 121 #[.int .i64 p] w fun e w' => e = .returned (.int .i64 (realV p)) ∧ w = w' := by
 go_enter Tryz.func121, Tryz.ntmps121
 go_wp2
 go_ret
 exact ⟨ret_int (and_low p 248 (by decide)), rfl⟩
theorem bit_any (p : Int) (k : Nat) (w : World) (hk : k ≤ 63) : Calls Tryz.prog 146 #[.int .i64 p, .int .i64 k] w fun e w' => e = .returned (.bool (bt p k)) ∧ w = w' := by
 go_enter Tryz.func146, Tryz.ntmps146
 go_wp2
 go_ret
 refine ⟨ret_bool ?_, rfl⟩
 have e : bits .and .i64 (p / 2 ^ k) 1 = p / 2 ^ k % 2 := by
  rw [show (1 : Int) = ((1 : Nat) : Int) from rfl, and_low _ 1 (by decide), show (1 : Nat) = 2 ^ 1 - 1 from rfl, Nat.and_two_pow_sub_one_eq_mod]
  unfold low8; omega
 rw [e]
 unfold bt
 by_cases h : p / 2 ^ k % 2 = 1 <;> simp [h]
def part (f : Nat → Bool) (a n : Nat) : Nat := sumB (fun i => decide (a ≤ i) && f i) n
theorem part_at (f : Nat → Bool) (a : Nat) : part f a a = 0 := by
 unfold part
 rw [sumB_congr (g := fun _ => false) a (fun i hi => by simp; omega)]
 exact sumB_eq (x := 0) (fun i _ => by simp) (Nat.pow_pos (by decide))
theorem part_succ (f : Nat → Bool) (a n : Nat) (h : a ≤ n) : part f a (n + 1) = part f a n + if f n then 2 ^ n else 0 := by
 unfold part
 rw [sumB]
 simp [h]
theorem part_lt (f : Nat → Bool) (a n : Nat) : part f a n < 2 ^ n := sumB_lt _ _
theorem real_part (p : Int) : realV p = ((part (bt p) 3 8 : Nat) : Int) := by
 unfold realV part
 rw [sumB_eq (x := low8 p &&& 248)]
 ·intro i hi
  rw [Nat.testBit_and, bt_low8 p i hi]
  have : (248 : Nat).testBit i = decide (3 ≤ i) := by
   match i, hi with
   | 0, _ => rfl
   | 1, _ => rfl
   | 2, _ => rfl
   | 3, _ => rfl
   | 4, _ => rfl
   | 5, _ => rfl
   | 6, _ => rfl
   | 7, _ => rfl
   | i + 8, hi => omega
  rw [this, Bool.and_comm]
 ·exact Nat.and_lt_two_pow (n := 8) _ (by decide)
theorem pow_i {k : Nat} (h : k ≤ 7) : (0 : Int) ≤ 2 ^ k ∧ (2 : Int) ^ k ≤ 128 := by
 have hk : k = 0 ∨ k = 1 ∨ k = 2 ∨ k = 3 ∨ k = 4 ∨ k = 5 ∨ k = 6 ∨ k = 7 := by omega
 rcases hk with rfl | rfl | rfl | rfl | rfl | rfl | rfl | rfl <;> decide
theorem part_int {f : Nat → Bool} {a n : Nat} (hs : part f a (n + 1) = part f a n + if f n then 2 ^ n else 0) (h : f n = true) : Value.int .i64 (((part f a n : Nat) : Int) + 2 ^ n) = .int .i64 ((part f a (n + 1) : Nat) : Int) := by
 rw [hs, h]; simp
theorem part_int0 {f : Nat → Bool} {a n : Nat} (hs : part f a (n + 1) = part f a n + if f n then 2 ^ n else 0) (h : f n = false) : Value.int .i64 ((part f a n : Nat) : Int) = .int .i64 ((part f a (n + 1) : Nat) : Int) := by
 rw [hs, h]; simp
set_option maxHeartbeats 1000000 in
theorem refReal_any (p : Int) (w : World) : Calls Tryz.prog 141 #[.int .i64 p] w fun e w' => e = .returned (.int .i64 (realV p)) ∧ w = w' := by
 have hr := Lib.hid (real_part p)
 go_enter Tryz.func141, Tryz.ntmps141
 go_wp2
 go_loop [3, 4] (fun n i => ∃ k : Nat, 3 ≤ k ∧ k ≤ 8 ∧ i = .int .i64 k ∧ n = .int .i64 ((part (bt p) 3 k : Nat) : Int)) (fun _ i => 8 - (intOf i).toNat)
 case atStart => exact ⟨3, by omega, by omega, rfl, by rw [part_at]; rfl⟩
 case round =>
  obtain ⟨k, h3, h8, rfl, rfl⟩ := hrel
  by_cases hlt : k ≤ 7
  ·have hs := Lib.hid (part_succ (bt p) 3 k h3)
   have hl : part (bt p) 3 k < 256 := Nat.lt_of_lt_of_le (part_lt _ _ _) (Nat.le_trans (Nat.pow_le_pow_right (n := 2) (by decide) hlt) (by decide))
   obtain ⟨hp0, hp1⟩ := pow_i hlt
   cases hb : bt p k
   ·have HB := Lib.hid hb
    clear hb
    go_wp2_with (go_at_call 146; ((with_reducible refine (bit_any p k _ (by omega)).mono ?_); rintro e w1 ⟨rfl, rfl⟩; rw [HB.out]))
    go_round
    case rel => exact ⟨k + 1, by omega, by omega, by go_num, part_int0 hs.out HB.out⟩
    case measure => simp [intOf]; omega
   ·have HB := Lib.hid hb
    clear hb
    go_wp2_with (go_at_call 146; ((with_reducible refine (bit_any p k _ (by omega)).mono ?_); rintro e w1 ⟨rfl, rfl⟩; rw [HB.out]))
    go_round
    case rel => exact ⟨k + 1, by omega, by omega, by go_num, part_int hs.out HB.out⟩
    case measure => simp [intOf]; omega
  ·have : k = 8 := by omega
   subst this
   go_wp2
   go_ret
   exact ⟨ret_int hr.out.symm, rfl⟩
end Go.Proofs.YtieedhdmpabfkaaGreat
namespace Go.Proofs.YtieedhdmpabfkaaGreat
open Go.ChangeShapes Go.WideShapes Go.ChangeAt Go.RowKit
set_option linter.unusedVariables false
theorem results_irq {fn : Func} {c : Tmp} (h : fn.results = #[.cell c 31]) (tmps : Array Value) (w : World) (b : Nat) (x : St) (hp : tmps.getD c undef = .pointer (some ⟨b, 0, none⟩)) (hb : CB w b 31 x.cs) :
  (results fn tmps).run Tryz.prog w = .ok x.v w := by
 have hp' : tmps[c]?.getD undef = .pointer (some ⟨b, 0, none⟩) := by simpa using hp
 obtain ⟨c0, c1, c2, c3⟩ := hb.cells
 simp [results, h, go_sem, hp', c0, c1, c2, c3]
theorem cb_second {w : World} {o : Obj} {cs : Array Value} {t : TypeId} : CB ((w.alloc o).alloc (.cells cs t)) (w.heap.size + 1) t cs := by
 have := CB.new (w.alloc o) t cs
 rwa [World.size_alloc] at this
theorem bal_two (w : World) (o o' : Obj) : Below w.heap.size w ((w.alloc o).alloc o') := (bal w o).alloc (by simp) o'
theorem ret_st {x y : St} (h : x = y) : Ending.returned x.v = .returned y.v := by rw [h]
theorem box_call2 {w w1 : World} {cs ds : Array Value} {t u : TypeId} (hb : Below ((w.alloc (.cells cs t)).alloc (.cells ds u)).heap.size ((w.alloc (.cells cs t)).alloc (.cells ds u)) w1) :
  CB w1 w.heap.size t cs ∧ CB w1 (w.heap.size + 1) u ds ∧ Below w.heap.size w w1 :=
 ⟨((CB.new w t cs).alloc _).below hb, cb_second.below hb, (bal_two w _ _).trans (hb.mono (by simp; omega))⟩
theorem below_set {n : Nat} {w W : World} (h : Below n w W) {b o : Nat} (hb : n ≤ b) (v : Value) : Below n w (W.setCell ⟨b, o, none⟩ v) := h.setCell (p := ⟨b, o, none⟩) hb v
theorem CB.set4 {W : World} {B : Nat} {t : TypeId} {z : St} (h : CB W B t z.cs) (x : St) : CB ((((W.setCell ⟨B, 0, none⟩ (.bool x.e)).setCell ⟨B, 1, none⟩ (.bool x.l)).setCell ⟨B, 2, none⟩ (.bool x.h)).setCell ⟨B, 3, none⟩ (.bool x.a)) B t x.cs :=
 (((h.set 0 _).set 1 _).set 2 _).set 3 _
theorem below_set4 {n : Nat} {w W : World} (h : Below n w W) {b : Nat} (hb : n ≤ b) (x : St) : Below n w ((((W.setCell ⟨b, 0, none⟩ (.bool x.e)).setCell ⟨b, 1, none⟩ (.bool x.l)).setCell ⟨b, 2, none⟩ (.bool x.h)).setCell ⟨b, 3, none⟩ (.bool x.a)) :=
 below_set (below_set (below_set (below_set h hb _) hb _) hb _) hb _
set_option maxHeartbeats 2000000 in
theorem step_five (x : St) (w : World) : Calls Tryz.prog 82 #[x.v, .int .i64 5] w fun e w' => e = .returned (x.step 5).v ∧ Below w.heap.size w w' := by
 have HP := hi (ready_any x)
 obtain ⟨p, hp⟩ : ∃ p, x.ready = p := ⟨_, rfl⟩
 have hr : x.step 5 = if p then ⟨x.e, x.l, false, true⟩ else x := by rw [← hp]; rfl
 rw [hr]
 rw [hp] at HP
 obtain ⟨e, l, q, a⟩ := x
 clear hr hp
 dsimp only [St.v] at HP ⊢
 cases p
 all_goals
  go_enter Tryz.func82, Tryz.ntmps82
  go_wp2_with (go_at_call 106; ((with_reducible refine (HP.out _).mono ?_); rintro e' w1 ⟨rfl, hb1⟩; obtain ⟨hB, hB2, hK⟩ := box_call2 hb1; obtain ⟨c0, c1, c2, c3⟩ := CB.cells (x := ⟨e, l, q, a⟩) hB; obtain ⟨d0, d1, d2, d3⟩ := CB.cells (x := St.zero) hB2; have f := hB.frozen; have g := hB2.frozen; have HB := hi hB; have HB2 := hi hB2; have HK := hi hK; clear hb1 hB hB2 hK))
 ·exact bodyPost_ret (results_irq rfl _ _ (w.heap.size + 1) ⟨_, _, _, _⟩ rfl (CB.set4 (z := St.zero) HB2.out ⟨e, l, q, a⟩)) rfl ⟨rfl, below_set4 HK.out (by omega) ⟨e, l, q, a⟩⟩
 ·exact bodyPost_ret (results_irq rfl _ _ (w.heap.size + 1) ⟨_, _, _, _⟩ rfl (CB.set4 (z := St.zero) ((HB2.out.other _ _ _ (by omega)).other _ _ _ (by omega)) ⟨e, l, false, true⟩)) rfl ⟨rfl, below_set4 (below_set (below_set HK.out (by omega) _) (by omega) _) (by omega) ⟨e, l, false, true⟩⟩
set_option maxHeartbeats 2000000 in
theorem step_any (x : St) (k : Int) (w : World) : Calls Tryz.prog 82 #[x.v, .int .i64 k] w fun e w' => e = .returned (x.step k).v ∧ Below w.heap.size w w' := by
 rcases act_cases k with rfl | rfl | rfl | rfl | rfl | rfl | rfl | rfl | rfl | hk
 case inr.inr.inr.inr.inl => exact step_five x w
 case inl =>
  obtain ⟨e, l, q, a⟩ := x
  cases e <;> cases q
  all_goals
   go_enter Tryz.func82, Tryz.ntmps82
   go_wp2
   refine bodyPost_ret (results_irq rfl _ _ (w.heap.size + 1) ⟨_, _, _, _⟩ rfl cb_second) rfl ⟨ret_st (by cases l <;> rfl), bal_two _ _ _⟩
 case inr.inr.inr.inr.inr.inr.inr.inr.inr =>
  rw [step_odd hk]
  obtain ⟨h1, h2, h3, h4, h5, h6, h7, h8, h9⟩ := hk
  obtain ⟨e, l, q, a⟩ := x
  have q1 : (k == 1) = false := by simpa using h1
  have q2 : (k == 2) = false := by simpa using h2
  have q3 : (k == 3) = false := by simpa using h3
  have q4 : (k == 4) = false := by simpa using h4
  have q5 : (k == 5) = false := by simpa using h5
  have q6 : (k == 6) = false := by simpa using h6
  have q7 : (k == 7) = false := by simpa using h7
  have q8 : (k == 8) = false := by simpa using h8
  have q9 : (k == 9) = false := by simpa using h9
  clear h1 h2 h3 h4 h5 h6 h7 h8 h9
  go_enter Tryz.func82, Tryz.ntmps82
  go_wp2
  refine bodyPost_ret (results_irq rfl _ _ (w.heap.size + 1) ⟨_, _, _, _⟩ rfl cb_second) rfl ⟨rfl, bal_two _ _ _⟩
 all_goals
  obtain ⟨e, l, q, a⟩ := x
  go_enter Tryz.func82, Tryz.ntmps82
  go_wp2
  refine bodyPost_ret (results_irq rfl _ _ (w.heap.size + 1) ⟨_, _, _, _⟩ rfl cb_second) rfl ⟨rfl, bal_two _ _ _⟩
end Go.Proofs.YtieedhdmpabfkaaGreat
namespace Go.Proofs.YtieedhdmpabfkaaGreat
open Go.ChangeShapes Go.WideShapes Go.ChangeAt Go.RowKit
set_option linter.unusedVariables false
theorem bal_three (w : World) (o o' o'' : Obj) : Below w.heap.size w (((w.alloc o).alloc o').alloc o'') := (bal_two w o o').alloc (by simp; omega) o''
theorem cb_mid {w : World} {o o'' : Obj} {cs : Array Value} {t : TypeId} : CB (((w.alloc o).alloc (.cells cs t)).alloc o'') (w.heap.size + 1) t cs := cb_second.alloc _
theorem box_call3 {w w1 : World} {cs ds es : Array Value} {t u v : TypeId} (hb : Below (((w.alloc (.cells cs t)).alloc (.cells ds u)).alloc (.cells es v)).heap.size (((w.alloc (.cells cs t)).alloc (.cells ds u)).alloc (.cells es v)) w1) :
  CB w1 (w.heap.size + 1) u ds ∧ CB w1 (w.heap.size + 1 + 1) v es ∧ Below w.heap.size w w1 := by
 have h3 := CB.new ((w.alloc (.cells cs t)).alloc (.cells ds u)) v es
 rw [show ((w.alloc (.cells cs t)).alloc (.cells ds u)).heap.size = w.heap.size + 1 + 1 by simp] at h3
 exact ⟨cb_mid.below hb, h3.below hb, (bal_three w _ _ _).trans (hb.mono (by simp; omega))⟩
set_option maxHeartbeats 2000000 in
theorem rstep_five (x : St) (w : World) : Calls Tryz.prog 103 #[x.v, .int .i64 5] w fun e w' => e = .returned (x.step 5).v ∧ Below w.heap.size w w' := by
 have HP := hi (rready_any x)
 obtain ⟨p, hp⟩ : ∃ p, x.ready = p := ⟨_, rfl⟩
 have hr : x.step 5 = if p then ⟨x.e, x.l, false, true⟩ else x := by rw [← hp]; rfl
 rw [hr]
 rw [hp] at HP
 obtain ⟨e, l, q, a⟩ := x
 clear hr hp
 dsimp only [St.v] at HP ⊢
 cases p
 all_goals
  go_enter Tryz.func103, Tryz.ntmps103
  go_wp2_with (go_at_call 99; ((with_reducible refine (HP.out _).mono ?_); rintro e' w1 ⟨rfl, hb1⟩; obtain ⟨hB, hB2, hK⟩ := box_call3 hb1; obtain ⟨c0, c1, c2, c3⟩ := CB.cells (x := ⟨e, l, q, a⟩) hB2; obtain ⟨d0, d1, d2, d3⟩ := CB.cells (x := St.zero) hB; have f := hB.frozen; have g := hB2.frozen; have HB := hi hB; have HB2 := hi hB2; have HK := hi hK; clear hb1 hB hB2 hK))
 ·exact bodyPost_ret (results_irq rfl _ _ (w.heap.size + 1) ⟨_, _, _, _⟩ rfl (CB.set4 (z := St.zero) HB.out ⟨e, l, q, a⟩)) rfl ⟨rfl, below_set4 HK.out (by omega) ⟨e, l, q, a⟩⟩
 ·exact bodyPost_ret (results_irq rfl _ _ (w.heap.size + 1) ⟨_, _, _, _⟩ rfl (CB.set4 (z := St.zero) ((HB.out.other _ _ _ (by omega)).other _ _ _ (by omega)) ⟨e, l, false, true⟩)) rfl ⟨rfl, below_set4 (below_set (below_set HK.out (by omega) _) (by omega) _) (by omega) ⟨e, l, false, true⟩⟩
set_option maxHeartbeats 2000000 in
theorem rstep_any (x : St) (k : Int) (w : World) : Calls Tryz.prog 103 #[x.v, .int .i64 k] w fun e w' => e = .returned (x.step k).v ∧ Below w.heap.size w w' := by
 rcases act_cases k with rfl | rfl | rfl | rfl | rfl | rfl | rfl | rfl | rfl | hk
 case inr.inr.inr.inr.inl => exact rstep_five x w
 case inl =>
  obtain ⟨e, l, q, a⟩ := x
  cases e <;> cases l
  all_goals
   go_enter Tryz.func103, Tryz.ntmps103
   go_wp2
   refine bodyPost_ret (results_irq rfl _ _ (w.heap.size + 1) ⟨_, _, _, _⟩ rfl cb_mid) rfl ⟨ret_st (by cases q <;> rfl), bal_three _ _ _ _⟩
 case inr.inr.inr.inr.inr.inr.inr.inr.inr =>
  rw [step_odd hk]
  obtain ⟨h1, h2, h3, h4, h5, h6, h7, h8, h9⟩ := hk
  obtain ⟨e, l, q, a⟩ := x
  have q1 : (k == 1) = false := by simpa using h1
  have q2 : (k == 2) = false := by simpa using h2
  have q3 : (k == 3) = false := by simpa using h3
  have q4 : (k == 4) = false := by simpa using h4
  have q5 : (k == 5) = false := by simpa using h5
  have q6 : (k == 6) = false := by simpa using h6
  have q7 : (k == 7) = false := by simpa using h7
  have q8 : (k == 8) = false := by simpa using h8
  have q9 : (k == 9) = false := by simpa using h9
  clear h1 h2 h3 h4 h5 h6 h7 h8 h9
  go_enter Tryz.func103, Tryz.ntmps103
  go_wp2
  refine bodyPost_ret (results_irq rfl _ _ (w.heap.size + 1) ⟨_, _, _, _⟩ rfl cb_mid) rfl ⟨rfl, bal_three _ _ _ _⟩
 all_goals
  obtain ⟨e, l, q, a⟩ := x
  go_enter Tryz.func103, Tryz.ntmps103
  go_wp2
  refine bodyPost_ret (results_irq rfl _ _ (w.heap.size + 1) ⟨_, _, _, _⟩ rfl cb_mid) rfl ⟨rfl, bal_three _ _ _ _⟩
end Go.Proofs.YtieedhdmpabfkaaGreat
namespace Go.Proofs.YtieedhdmpabfkaaGreat
open Go.ChangeShapes Go.WideShapes Go.ChangeAt Go.RowKit
set_option linter.unusedVariables false
structure Ln where
 st : St
 en : Bool
 g : Int
 p : Int
deriving DecidableEq, Inhabited
abbrev Ln.v (x : Ln) : Value := .agg #[.bool x.st.e, .bool x.st.l, .bool x.st.h, .bool x.st.a, .bool x.en, .int .i64 x.g, .int .i64 x.p]
def Ln.cs (x : Ln) : List Value := [.bool x.st.e, .bool x.st.l, .bool x.st.h, .bool x.st.a, .bool x.en, .int .i64 x.g, .int .i64 x.p]
def Ln.zero : Ln := ⟨St.zero, false, 0, 0⟩
def Ln.Right (x : Ln) : Prop := x.g = 0 ∨ x.g = 1
def Ln.okB (x : Ln) : Bool := (decide (x.g = 0) || decide (x.g = 1)) && decide (0 ≤ x.p) && decide (x.p ≤ 255)
structure Rt where
 c : Int
 y : Bool
deriving DecidableEq, Inhabited
abbrev Rt.v (x : Rt) : Value := .agg #[.int .i64 x.c, .bool x.y]
def Rt.zero : Rt := ⟨0, false⟩
structure En where
 ln : Ln
 s : Rt
deriving DecidableEq, Inhabited
abbrev En.v (x : En) : Value := .agg #[.bool x.ln.st.e, .bool x.ln.st.l, .bool x.ln.st.h, .bool x.ln.st.a, .bool x.ln.en, .int .i64 x.ln.g, .int .i64 x.ln.p, .int .i64 x.s.c, .bool x.s.y]
def En.cs (x : En) : List Value := [.bool x.ln.st.e, .bool x.ln.st.l, .bool x.ln.st.h, .bool x.ln.st.a, .bool x.ln.en, .int .i64 x.ln.g, .int .i64 x.ln.p, .int .i64 x.s.c, .bool x.s.y]
structure Cd where
 id : Int
 p : Int
 g : Int
 is : Bool
deriving DecidableEq, Inhabited
abbrev Cd.v (x : Cd) : Value := .agg #[.int .i64 x.id, .int .i64 x.p, .int .i64 x.g, .bool x.is]
abbrev Cd.cs (x : Cd) : Array Value := #[.int .i64 x.id, .int .i64 x.p, .int .i64 x.g, .bool x.is]
def Cd.zero : Cd := ⟨0, 0, 0, false⟩
def candV (id : Int) (x : Ln) : Cd := ⟨id, x.p, x.g, true⟩
def befC (x y : Cd) : Bool := beforeB x.p x.id y.p y.id
set_option maxHeartbeats 1000000 in
theorem valid_any (x : Ln) (w : World) : Calls Tryz.prog 120 #[x.v] w fun e w' => e = .returned (.bool x.okB) ∧ Below w.heap.size w w' := by
 obtain ⟨⟨e, l, h, a⟩, en, g, p⟩ := x
 dsimp only [Ln.v]
 by_cases h1 : g = 0
 ·subst h1
  by_cases h2 : 0 ≤ p
  ·go_enter Tryz.func120, Tryz.ntmps120
   go_wp2
   go_ret
   exact ⟨ret_bool (by simp [Ln.okB, h2]), bal w _⟩
  ·go_enter Tryz.func120, Tryz.ntmps120
   go_wp2
   go_ret
   exact ⟨ret_bool (by simp [Ln.okB]; omega), bal w _⟩
 ·have q1 : (g == 0) = false := by simpa using h1
  by_cases h3 : g = 1
  ·subst h3
   by_cases h2 : 0 ≤ p
   ·go_enter Tryz.func120, Tryz.ntmps120
    go_wp2
    go_ret
    exact ⟨ret_bool (by simp [Ln.okB, h2]), bal w _⟩
   ·go_enter Tryz.func120, Tryz.ntmps120
    go_wp2
    go_ret
    exact ⟨ret_bool (by simp [Ln.okB]; omega), bal w _⟩
  ·have q3 : (g == 1) = false := by simpa using h3
   go_enter Tryz.func120, Tryz.ntmps120
   go_wp2
   go_ret
   exact ⟨ret_bool (by simp [Ln.okB, h1, h3]), bal w _⟩
end Go.Proofs.YtieedhdmpabfkaaGreat
