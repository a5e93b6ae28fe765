/-
  The document's examples hold (awake): for every call.
  awake, at every call.
  Queues compared; the law of new queues.
-/
import Derived.Test.YtfnokpajendlmaaQuG
import Derived.Test.YtfnokpajendlmaaMjC
import Derived.BigQuiet
import Derived.Deep.QuietTactic
namespace Go.Proofs.Ytfnokpajendlmaa
open Go.ChangeShapes Go.WideShapes Go.ChangeAt Go.RowKit
set_option linter.unusedVariables false
set_option linter.unusedSimpArgs false
attribute [local go_sem high] eql_cm neq_cm guard_cm

/-- A queue's box and its memory, both made since. -/
structure LQ (w : World) (p g cap b : Nat) (bs : List Nat) (q : Qu) (W : World) : Prop where
  m : MemAt 73 W p g cap bs
  q : CB W b 25 (Qu.cs q)
  below : Below w.heap.size w W
  lp : w.heap.size ≤ p
  lg : w.heap.size ≤ g
  lb : w.heap.size ≤ b
theorem LQ.later {w : World} {p g cap b : Nat} {bs : List Nat} {q : Qu} {W W' : World} (h : LQ w p g cap b bs q W) (k : Below W.heap.size W W') : LQ w p g cap b bs q W' := ⟨h.m.below k, h.q.below k, h.below.trans (k.mono h.below.size), h.lp, h.lg, h.lb⟩
theorem LQ.qm {w : World} {p g cap b : Nat} {bs bs' : List Nat} {q q' : Qu} {W W' : World} (h : LQ w p g cap b bs q W) (k : QM W p g cap b bs' q' W') : LQ w p g cap b bs' q' W' :=
  ⟨k.m, k.q, h.below.trans (k.kept.toBelow h.below.size (fun x e => by have := h.lg; have := h.lb; omega)), h.lp, h.lg, h.lb⟩
theorem LQ.qk {w : World} {p g cap b : Nat} {bs : List Nat} {q q' : Qu} {W W' : World} (h : LQ w p g cap b bs q W) (k : QK W b q' W') : LQ w p g cap b bs q' W' := by
  obtain ⟨h1, h2⟩ := mem_apart h.m h.q (by decide) (by decide)
  exact ⟨h.m.kept k.kept (fun e => h1 e.symm) (fun e => h2 e.symm), k.q, h.below.trans (k.kept.toBelow h.below.size (fun x e => by have := h.lb; omega)), h.lp, h.lg, h.lb⟩
theorem LQ.put {w : World} {p g cap b : Nat} {bs : List Nat} {q q' : Qu} {W : World} (h : LQ w p g cap b bs q W) (j : Nat) (u : Value) (hq : (Qu.cs q).setIfInBounds j u = Qu.cs q') : LQ w p g cap b bs q' (W.setCell ⟨b, j, none⟩ u) := h.qk ((QK.refl h.q).put j u hq)
theorem LQ.four {w : World} {p g cap b : Nat} {bs : List Nat} {a s r v : Int} {W : World} (h : LQ w p g cap b bs ⟨a, s, r, v⟩ W) : W.cell? ⟨b, 0, none⟩ = some (.int .i64 a) ∧ W.cell? ⟨b, 1, none⟩ = some (.int .i64 s) ∧ W.cell? ⟨b, 2, none⟩ = some (.int .i64 r) ∧ W.cell? ⟨b, 3, none⟩ = some (.int .i64 v) := CB.four h.q

def aS : Cm := ⟨5, 0, 0, 0, 0, 0, 0, 0, false⟩
def a0L : List Nat := List.replicate 200 0
def aT : Nat × Int × Qu × List Nat := fillS [aS, aS, aS] a0L ⟨8, 96, 0, 0⟩
theorem aS_fair : aS.Fair := by constructor <;> (unfold i64B; decide)
theorem ex_new : newOk 8 96 = true ∧ newQ 8 96 = ⟨8, 96, 0, 0⟩ := by decide
theorem ex_room : rooN ⟨8, 96, 0, 0⟩ = 2 := by decide
theorem ex_fill : aT.1 = 2 ∧ aT.2.1 = 2 ∧ aT.2.2.1 = ⟨8, 96, 0, 64⟩ := by decide +kernel
theorem ex_head : headV aT.2.2.2 ⟨8, 96, 0, 64⟩ = aS ∧ headE aT.2.2.2 ⟨8, 96, 0, 64⟩ = 0 := by decide +kernel
theorem ex_pass : passE ⟨8, 96, 0, 64⟩ = 0 ∧ passQ ⟨8, 96, 0, 64⟩ = ⟨8, 96, 32, 64⟩ := by decide
theorem ex_left : lefN ⟨8, 96, 32, 64⟩ = 1 ∧ rooN ⟨8, 96, 32, 64⟩ = 1 ∧ lefN ⟨8, 96, 32, 0⟩ = 2 := by decide
theorem ex_set : setE ⟨8, 96, 32, 64⟩ 33 = 1 ∧ setQ ⟨8, 96, 32, 64⟩ 33 = ⟨8, 96, 32, 64⟩ ∧ setE ⟨8, 96, 32, 64⟩ 0 = 0 ∧ setQ ⟨8, 96, 32, 64⟩ 0 = ⟨8, 96, 32, 0⟩ := by decide
theorem ex_wrong : wrongN (eachL aT.2.2.2 ⟨8, 96, 32, 0⟩) = 1 := by decide +kernel
theorem q_fair (a s r v : Int) (ha : i64B a) (hs : i64B s) (hr : i64B r) (hv : i64B v) : (⟨a, s, r, v⟩ : Qu).Fair := ⟨ha, hs, hr, hv⟩
theorem ex_fair : (⟨8, 96, 0, 0⟩ : Qu).Fair ∧ (⟨8, 96, 0, 64⟩ : Qu).Fair ∧ (⟨8, 96, 32, 64⟩ : Qu).Fair ∧ (⟨8, 96, 32, 0⟩ : Qu).Fair := by
  refine ⟨?_, ?_, ?_, ?_⟩ <;> (constructor <;> (unfold i64B; decide))

end Go.Proofs.Ytfnokpajendlmaa

namespace Go.Proofs.Ytfnokpajendlmaa
open Go.ChangeShapes Go.WideShapes Go.ChangeAt Go.RowKit
set_option linter.unusedVariables false
set_option linter.unusedSimpArgs false
attribute [local go_sem high] eql_cm neq_cm guard_cm

structure AwS (w : World) (p g b S : Nat) (bs : List Nat) (q : Qu) (W : World) : Prop where
  l : LQ w p g 200 b bs q W
  s : CB W S 36 #[.int .i64 5, .int .i64 0, .int .i64 0, .int .i64 0, .int .i64 0, .int .i64 0, .int .i64 0, .int .i64 0, .bool false]
  ne : S ≠ g ∧ S ≠ b
theorem AwS.later {w : World} {p g b S : Nat} {bs : List Nat} {q : Qu} {W W' : World} (h : AwS w p g b S bs q W) (k : Below W.heap.size W W') : AwS w p g b S bs q W' := ⟨h.l.later k, h.s.below k, h.ne⟩
theorem AwS.qm {w : World} {p g b S : Nat} {bs bs' : List Nat} {q q' : Qu} {W W' : World} (h : AwS w p g b S bs q W) (k : QM W p g 200 b bs' q' W') : AwS w p g b S bs' q' W' := ⟨h.l.qm k, h.s.keptB k.kept (fun e => by have := h.ne; omega), h.ne⟩
theorem AwS.qk {w : World} {p g b S : Nat} {bs : List Nat} {q q' : Qu} {W W' : World} (h : AwS w p g b S bs q W) (k : QK W b q' W') : AwS w p g b S bs q' W' := ⟨h.l.qk k, h.s.keptB k.kept (fun e => h.ne.2 e), h.ne⟩
theorem cmds3 (W : World) : CmdsAt (W.alloc (.cells #[.int .i64 5, .int .i64 0, .int .i64 0, .int .i64 0, .int .i64 0, .int .i64 0, .int .i64 0, .int .i64 0, .bool false, .int .i64 5, .int .i64 0, .int .i64 0, .int .i64 0, .int .i64 0, .int .i64 0, .int .i64 0, .int .i64 0, .bool false, .int .i64 5, .int .i64 0, .int .i64 0, .int .i64 0, .int .i64 0, .int .i64 0, .int .i64 0, .int .i64 0, .bool false] 36)) (some ⟨W.heap.size, 0, none⟩) W.heap.size 0 [aS, aS, aS] := by
  have h := CB.new W 36 #[.int .i64 5, .int .i64 0, .int .i64 0, .int .i64 0, .int .i64 0, .int .i64 0, .int .i64 0, .int .i64 0, .bool false, .int .i64 5, .int .i64 0, .int .i64 0, .int .i64 0, .int .i64 0, .int .i64 0, .int .i64 0, .int .i64 0, .bool false, .int .i64 5, .int .i64 0, .int .i64 0, .int .i64 0, .int .i64 0, .int .i64 0, .int .i64 0, .int .i64 0, .bool false]
  refine ⟨by decide, fun c hc => by simp at hc; rw [hc]; exact aS_fair, fun _ => h.lt, fun _ => rfl, fun j c hc => ?_⟩
  match j, hc with
  | 0, hc => obtain rfl : aS = c := by simpa using hc
             exact ⟨h.cell 0, h.cell 1, h.cell 2, h.cell 3, h.cell 4, h.cell 5, h.cell 6, h.cell 7, h.cell 8⟩
  | 1, hc => obtain rfl : aS = c := by simpa using hc
             exact ⟨h.cell 9, h.cell 10, h.cell 11, h.cell 12, h.cell 13, h.cell 14, h.cell 15, h.cell 16, h.cell 17⟩
  | 2, hc => obtain rfl : aS = c := by simpa using hc
             exact ⟨h.cell 18, h.cell 19, h.cell 20, h.cell 21, h.cell 22, h.cell 23, h.cell 24, h.cell 25, h.cell 26⟩
  | j + 3, hc => simp at hc

set_option maxRecDepth 100000 in
set_option maxHeartbeats 8000000 in
theorem awake_any (w : World) : Calls Try.prog 4 #[] w fun e w' => e = .returned (.bool true) ∧ Below w.heap.size w w' := by
  obtain ⟨f1, f2, f3, f4⟩ := ex_fair
  have HN := hi (show ∀ W, Calls Try.prog 9 #[.int .i64 200] W (fun e w' => ∃ p g, e = .returned (.tuple #[.pointer (some ⟨p, 0, none⟩), .int .i64 0]) ∧ MemAt 73 w' p g 200 a0L ∧ W.heap.size ≤ p ∧ W.heap.size ≤ g ∧ Below W.heap.size W w') from fun W => new_yes 200 W (by omega))
  have HQN := hi (fun W => newQ_any 8 96 (by decide) W)
  rw [ex_new.1, ex_new.2] at HQN
  have HRM := hi (fun W => room_q ⟨8, 96, 0, 0⟩ (by decide) W)
  rw [ex_room] at HRM
  have HFL := hi (fun p g b a B off W (hM : MemAt 73 W p g 200 a0L) hQ hC hap => fill_any p g 200 a0L b ⟨8, 96, 0, 0⟩ a B off 3 [aS, aS, aS] W hM hQ f1 hC hap)
  obtain ⟨t1, t2, t3⟩ := ex_fill
  unfold aT at t1 t2 t3
  rw [t1, t2, t3] at HFL
  have t4 := ex_head
  have t5 := ex_wrong
  unfold aT at t4 t5
  obtain ⟨bs, hbs⟩ : ∃ l, (fillS [aS, aS, aS] a0L ⟨8, 96, 0, 0⟩).2.2.2 = l := ⟨_, rfl⟩
  rw [hbs] at HFL t4 t5
  have HHD := hi (fun p g W hM => head_any p g 200 bs ⟨8, 96, 0, 64⟩ W hM f2)
  rw [t4.1, t4.2] at HHD
  have HPS := hi (fun b W hQ => pass_any b ⟨8, 96, 0, 64⟩ W hQ f2)
  rw [ex_pass.1, ex_pass.2] at HPS
  have HL1 := hi (fun W => left_q ⟨8, 96, 32, 64⟩ (by decide) W)
  have HR1 := hi (fun W => room_q ⟨8, 96, 32, 64⟩ (by decide) W)
  have HL2 := hi (fun W => left_q ⟨8, 96, 32, 0⟩ (by decide) W)
  rw [ex_left.1] at HL1
  rw [ex_left.2.1] at HR1
  rw [ex_left.2.2] at HL2
  have HS1 := hi (fun b W hQ => set_any b ⟨8, 96, 32, 64⟩ 33 W hQ f3)
  have HS2 := hi (fun b W hQ => set_any b ⟨8, 96, 32, 64⟩ 0 W hQ f3)
  rw [ex_set.1, ex_set.2.1] at HS1
  rw [ex_set.2.2.1, ex_set.2.2.2] at HS2
  have HWR := hi (fun p g W hM => wrong_any p g 200 bs ⟨8, 96, 32, 0⟩ W hM f4)
  rw [t5] at HWR
  have qc : eqCm ⟨5, 0, 0, 0, 0, 0, 0, 0, false⟩ ⟨5, 0, 0, 0, 0, 0, 0, 0, false⟩ = true := by decide
  clear t1 t2 t3 t4 t5 hbs f1 f2 f3 f4
  unfold aS at HHD
  dsimp only [Cm.v] at HHD
  simp only [if_true] at HQN
  dsimp only [List.length] at HFL
  go_enter Try.func4, Try.ntmps4
  go_wp2_with (first
    | (go_at_call 9; ((with_reducible refine (HN.out _).mono ?_); rintro e w1 ⟨p, g, rfl, hm1, hp1, hg1, hb1⟩; have H1 := hi (And.intro hm1 (And.intro hp1 (And.intro hg1 hb1))); clear hm1 hp1 hg1 hb1))
    | (go_at_call 10; ((with_reducible refine (HQN.out _).mono ?_); rintro e w2 ⟨rfl, hb2⟩; have hk2 := hb2.alloc hb2.size (.cells #[.int .i64 8, .int .i64 96, .int .i64 0, .int .i64 0] 25); have H2 := hi (show LQ w p g 200 w2.heap.size a0L ⟨8, 96, 0, 0⟩ _ from ⟨H1.out.1.below hk2, CB.new w2 25 #[.int .i64 8, .int .i64 96, .int .i64 0, .int .i64 0], H1.out.2.2.2.trans (hk2.mono H1.out.2.2.2.size), H1.out.2.1, H1.out.2.2.1, Nat.le_trans H1.out.2.2.2.size hb2.size⟩); clear hb2 hk2; obtain ⟨a0, a1, a2, a3⟩ := H2.out.four))
    | (go_at_call 11; ((with_reducible refine (HRM.out _).mono ?_); rintro e w3 ⟨rfl, hb3⟩; have H3 := hi (H2.out.later hb3); clear hb3 a0 a1 a2 a3))
    | (go_at_call 12; (have hg3 := H3.out.m.bytes.lt; have hq3 := H3.out.q.lt; have H4 := hi (show AwS w p g w2.heap.size w3.heap.size a0L ⟨8, 96, 0, 0⟩ (w3.alloc (.cells #[.int .i64 5, .int .i64 0, .int .i64 0, .int .i64 0, .int .i64 0, .int .i64 0, .int .i64 0, .int .i64 0, .bool false] 36)) from ⟨H3.out.later (bal _ _), CB.new _ _ _, by omega, by omega⟩); have hc := cmds3 (w3.alloc (.cells #[.int .i64 5, .int .i64 0, .int .i64 0, .int .i64 0, .int .i64 0, .int .i64 0, .int .i64 0, .int .i64 0, .bool false] 36)); simp only [World.size_alloc] at hc; have H5 := hi (H4.out.later (bal _ (.cells #[.int .i64 5, .int .i64 0, .int .i64 0, .int .i64 0, .int .i64 0, .int .i64 0, .int .i64 0, .int .i64 0, .bool false, .int .i64 5, .int .i64 0, .int .i64 0, .int .i64 0, .int .i64 0, .int .i64 0, .int .i64 0, .int .i64 0, .bool false, .int .i64 5, .int .i64 0, .int .i64 0, .int .i64 0, .int .i64 0, .int .i64 0, .int .i64 0, .int .i64 0, .bool false] 36))); (with_reducible refine (HFL.out p g w2.heap.size _ _ _ _ H5.out.l.m H5.out.l.q hc (fun _ => ⟨by omega, by omega⟩)).mono ?_); rintro e w6 ⟨rfl, hq6⟩; have H6 := hi (H5.out.qm hq6); clear hq6 hc hg3 hq3; obtain ⟨a0, a1, a2, a3⟩ := H6.out.l.four))
    | (go_at_call 13; ((with_reducible refine (HHD.out p g _ H6.out.l.m).mono ?_); rintro e w7 ⟨rfl, hb7⟩; have hk7 := hb7.alloc hb7.size (.cells #[.int .i64 5, .int .i64 0, .int .i64 0, .int .i64 0, .int .i64 0, .int .i64 0, .int .i64 0, .int .i64 0, .bool false] 36); have H7 := hi (And.intro (H6.out.later hk7) (CB.new w7 36 #[.int .i64 5, .int .i64 0, .int .i64 0, .int .i64 0, .int .i64 0, .int .i64 0, .int .i64 0, .int .i64 0, .bool false])); have hz7 := And.intro (Nat.lt_of_lt_of_le H6.out.l.m.bytes.lt hb7.size) (Nat.lt_of_lt_of_le H6.out.l.q.lt hb7.size); clear hb7 hk7 a0 a1 a2 a3))
    | (go_at_call 14; ((with_reducible refine (HPS.out _ _ H7.out.1.l.q).mono ?_); rintro e w8 ⟨rfl, hq8⟩; have H8 := hi (And.intro (H7.out.1.qk hq8) (H7.out.2.keptB hq8.kept (fun e => by have := hz7.2; omega))); clear hq8; obtain ⟨s0, s1, s2, s3, s4, s5, s6, s7, s8⟩ := CB.nine H8.out.1.s; obtain ⟨c0, c1, c2, c3, c4, c5, c6, c7, c8⟩ := CB.nine H8.out.2; obtain ⟨a0, a1, a2, a3⟩ := H8.out.1.l.four))
    | (go_at_call 15; ((with_reducible refine (HL1.out _).mono ?_); rintro e w9 ⟨rfl, hb9⟩; have H9 := hi (H8.out.1.later hb9); clear hb9 a0 a1 a2 a3 s0 s1 s2 s3 s4 s5 s6 s7 s8 c0 c1 c2 c3 c4 c5 c6 c7 c8; obtain ⟨a0, a1, a2, a3⟩ := H9.out.l.four))
    | (go_at_call 11; ((with_reducible refine (HR1.out _).mono ?_); rintro e wA ⟨rfl, hbA⟩; have HA := hi (H9.out.later hbA); clear hbA a0 a1 a2 a3))
    | (go_at_call 16; ((with_reducible refine (HS1.out _ _ HA.out.l.q).mono ?_); rintro e wB ⟨rfl, hqB⟩; have HB := hi (HA.out.qk hqB); clear hqB))
    | (go_at_call 16; ((with_reducible refine (HS2.out _ _ HB.out.l.q).mono ?_); rintro e wC ⟨rfl, hqC⟩; have HC := hi (HB.out.qk hqC); clear hqC; obtain ⟨a0, a1, a2, a3⟩ := HC.out.l.four))
    | (go_at_call 15; ((with_reducible refine (HL2.out _).mono ?_); rintro e wD ⟨rfl, hbD⟩; have HD := hi (HC.out.later hbD); clear hbD a0 a1 a2 a3; obtain ⟨a0, a1, a2, a3⟩ := HD.out.l.four))
    | (go_at_call 17; ((with_reducible refine (HWR.out p g _ HD.out.l.m).mono ?_); rintro e wE ⟨rfl, hbE⟩; have HE := hi (HD.out.later hbE); clear hbE a0 a1 a2 a3)))
  go_ret
  exact ⟨rfl, HE.out.l.below⟩

end Go.Proofs.Ytfnokpajendlmaa

namespace Go.Proofs.Ytfnokpajendlmaa
open Go.ChangeShapes Go.WideShapes Go.ChangeAt Go.RowKit
set_option linter.unusedVariables false
set_option linter.unusedSimpArgs false

def eqWn (a s a' s' : Int) : Bool := a == a' && s == s'
theorem equal_wn (d : Nat) (a s a' s' : Int) (w : World) : (Op.equalIn (d + 2) 23 (.agg #[.int .i64 a, .int .i64 s]) (.agg #[.int .i64 a', .int .i64 s'])).run Try.prog w = .ok (eqWn a s a' s') w := by
  have u4 := Try.underlying3
  have a4 := Try.isAgg3
  have z4 := Try.sizeOf3
  have hS : Try.prog.underlying 23 = some (.struct (Try.prog.fieldsOf 23)) := by kernel_rfl
  have hp : Try.prog.stoodInHeld 23 = false := by kernel_rfl
  rw [show d + 2 = (d + 1) + 1 from rfl, run_equalIn_agg w (d + 1) _ _ _ hS hp]
  simp only [Program.fieldsOf, Try.underlying23]
  go_simp
  unfold eqWn
  by_cases h1 : a = a' <;> by_cases h2 : s = s' <;> simp [h1, h2]
def eqQu (x y : Qu) : Bool := eqWn x.at_ x.size y.at_ y.size && (x.read == y.read && x.write == y.write)
theorem eqQu_iff (x y : Qu) : eqQu x y = decide (x = y) := by
  obtain ⟨a, b, c, e⟩ := x
  obtain ⟨a', b', c', e'⟩ := y
  rw [Bool.eq_iff_iff]
  simp [eqQu, eqWn, and_assoc]
theorem equal_qu (d : Nat) (a b c e a' b' c' e' : Int) (w : World) : (Op.equalIn (d + 3) 25 (.agg #[.int .i64 a, .int .i64 b, .int .i64 c, .int .i64 e]) (.agg #[.int .i64 a', .int .i64 b', .int .i64 c', .int .i64 e'])).run Try.prog w = .ok (eqQu ⟨a, b, c, e⟩ ⟨a', b', c', e'⟩) w := by
  have hI := fun W => equal_wn d a b a' b' W
  have u4 := Try.underlying3
  have a4 := Try.isAgg3
  have z4 := Try.sizeOf3
  have a5 := Try.isAgg23
  have z5 := Try.sizeOf23
  have hS : Try.prog.underlying 25 = some (.struct (Try.prog.fieldsOf 25)) := by kernel_rfl
  have hp : Try.prog.stoodInHeld 25 = false := by kernel_rfl
  rw [show d + 3 = (d + 2) + 1 from rfl, run_equalIn_agg w (d + 2) _ _ _ hS hp]
  simp only [Program.fieldsOf, Try.underlying25]
  go_simp
  have e0 : eqQu ⟨a, b, c, e⟩ ⟨a', b', c', e'⟩ = (eqWn a b a' b' && (c == c' && e == e')) := rfl
  rw [e0]
  cases eqWn a b a' b' <;> by_cases h1 : c = c' <;> by_cases h2 : e = e' <;> simp [h1, h2]
theorem eql_qu (a b c e a' b' c' e' : Int) (w : World) : (binOp .eql 25 (.agg #[.int .i64 a, .int .i64 b, .int .i64 c, .int .i64 e]) (.agg #[.int .i64 a', .int .i64 b', .int .i64 c', .int .i64 e'])).run Try.prog w = .ok (.bool (eqQu ⟨a, b, c, e⟩ ⟨a', b', c', e'⟩)) w := by
  rw [run_eql_struct, equal_qu 9997]; rfl
theorem neq_qu (a b c e a' b' c' e' : Int) (w : World) : (binOp .neq 25 (.agg #[.int .i64 a, .int .i64 b, .int .i64 c, .int .i64 e]) (.agg #[.int .i64 a', .int .i64 b', .int .i64 c', .int .i64 e'])).run Try.prog w = .ok (.bool (!eqQu ⟨a, b, c, e⟩ ⟨a', b', c', e'⟩)) w := by
  rw [run_neq_struct, equal_qu 9997]; rfl
theorem guard_qu (op : BinOp) (x y : Operand) (xs ys : Array Value) (w : World) : (eqGuard op 25 x y (.agg xs) (.agg ys)).run Try.prog w = .ok () w := run_eqGuard_agg w op _ _ _ _ _ (by kernel_rfl)

end Go.Proofs.Ytfnokpajendlmaa
