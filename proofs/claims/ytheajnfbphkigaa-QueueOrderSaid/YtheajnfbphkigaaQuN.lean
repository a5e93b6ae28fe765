/-
  A queue in a memory, fresh.
-/
import Derived.Test.YtheajnfbphkigaaQuL
namespace Go.Proofs.Ytheajnfbphkigaa
open Go.ChangeShapes Go.WideShapes Go.ChangeAt Go.RowKit
set_option linter.unusedVariables false
set_option linter.unusedSimpArgs false

def frS (e : Nat) : Int := 32 * (1 + (e % 20 : Nat))
def frQ (e : Nat) : Qu := ⟨16, frS e, 0, 0⟩
theorem frS_bd (e : Nat) : 32 ≤ frS e ∧ frS e ≤ 640 ∧ frS e % 32 = 0 := by unfold frS; omega
theorem frQ_right (e : Nat) : rightB (frS e) 32 = true := by have := frS_bd e; simp [rightB]; omega
theorem frQ_new (e : Nat) : newOk 16 (frS e) = true ∧ newQ 16 (frS e) = frQ e := by
  have : newOk 16 (frS e) = true := by simp [newOk, frQ_right]
  exact ⟨this, by rw [newQ, if_pos this]; rfl⟩
theorem frQ_fair (e : Nat) : (frQ e).Fair := by
  have := frS_bd e
  refine ⟨?_, ?_, ?_, ?_⟩ <;> simp only [frQ, i64B] <;> omega
theorem frQ_lies (e : Nat) : Lies (List.replicate 700 0) (frQ e) ∧ eachL (List.replicate 700 0) (frQ e) = [] ∧ lefN (frQ e) = 0 ∧ rooN (frQ e) = frS e / 32 - 1 :=
  Lies.fresh (by rw [List.length_replicate]; omega) (by decide) (frQ_right e) (by have := frS_bd e; rw [List.length_replicate]; omega)
/-- A memory and a queue's box, made since w. -/
structure FrI (w : World) (p g b : Nat) (bs : List Nat) (q : Qu) (W : World) : Prop where
  m : Since w p g 700 bs W
  q : CB W b 25 (Qu.cs q)
theorem FrI.later {w : World} {p g b : Nat} {bs : List Nat} {q : Qu} {W W' : World} (s : FrI w p g b bs q W) (k : Below W.heap.size W W') : FrI w p g b bs q W' := ⟨s.m.later k, s.q.below k⟩
theorem FrI.qk {w : World} {p g b : Nat} {bs : List Nat} {q q' : Qu} {W W' : World} (s : FrI w p g b bs q W) (k : QK W b q' W') (hb : w.heap.size ≤ b) : FrI w p g b bs q' W' := by
  obtain ⟨h1, h2⟩ := mem_apart s.m.mem s.q (by decide) (by decide)
  exact ⟨⟨s.m.mem.kept k.kept (fun e => h1 e.symm) (fun e => h2 e.symm), s.m.p, s.m.g, s.m.below.trans (k.kept.toBelow s.m.below.size (fun y e => by omega))⟩, k.q⟩
set_option maxRecDepth 100000 in
set_option maxHeartbeats 4000000 in
theorem fresh_any (e : Nat) (he : e < 256) (w : World) : Calls Try.prog 17 #[.int .u8 e] w fun r w' => ∃ p g, r = .returned (.tuple #[(frQ e).v, .pointer (some ⟨p, 0, none⟩)]) ∧ Since w p g 700 (List.replicate 700 0) w' := by
  have HN := hi (show ∀ W, Calls Try.prog 10 #[.int .i64 700] W fun e w' => ∃ p g q h, e = .returned (.tuple #[.pointer (some ⟨p, 0, none⟩), .pointer (some ⟨q, 0, none⟩)]) ∧ Since W p g 700 (List.replicate 700 0) w' from fun W => (lawNew_any 700 W).mono fun e w' ⟨p, g, q, h, h1, h2⟩ => ⟨p, g, q, h, h1, h2.mem⟩)
  have HQ := hi (fun W => newQ_any 16 (frS e) (by have := frS_bd e; omega) W)
  rw [(frQ_new e).1, (frQ_new e).2] at HQ
  simp only [if_true] at HQ
  have hS : frS e = 32 * (1 + (e : Int) % 20) := by simp [frS]
  have hbd := frS_bd e
  unfold frQ at HQ ⊢
  dsimp only [Qu.v] at HQ ⊢
  rw [hS] at HQ hbd ⊢
  clear hS
  have H0 := hi (And.intro (CB.new w 25 #[.int .i64 0, .int .i64 0, .int .i64 0, .int .i64 0]) (bal w (.cells #[.int .i64 0, .int .i64 0, .int .i64 0, .int .i64 0] 25)))
  go_enter Try.func17, Try.ntmps17
  go_wp2_with (first
    | (go_at_call 10; ((with_reducible refine (HN.out _).mono ?_); rintro e' w1 ⟨p, g, q', h, rfl, hs1⟩; have H1 := hi (show FrI w p g w.heap.size (List.replicate 700 0) ⟨0, 0, 0, 0⟩ w1 from ⟨⟨hs1.mem, Nat.le_trans H0.out.2.size hs1.p, Nat.le_trans H0.out.2.size hs1.g, H0.out.2.trans (hs1.below.mono H0.out.2.size)⟩, H0.out.1.below hs1.below⟩); clear hs1))
    | (go_at_call 14; ((with_reducible refine (HQ.out _).mono ?_); rintro e' w2 ⟨rfl, hb2⟩; have H2 := hi (And.intro ((H1.out.later hb2).later (bal w2 (.cells #[.int .i64 16, .int .i64 (32 * (1 + (e : Int) % 20)), .int .i64 0, .int .i64 0] 25))) (CB.new w2 25 #[.int .i64 16, .int .i64 (32 * (1 + (e : Int) % 20)), .int .i64 0, .int .i64 0])); clear hb2; obtain ⟨a0, a1, a2, a3⟩ := CB.four H2.out.2; obtain ⟨b0, b1, b2, b3⟩ := CB.four H2.out.1.q; have bf := H2.out.1.q.frozen; have bz := H2.out.1.q.lt; have qf := (CB.new w2 25 #[.int .i64 0, .int .i64 0, .int .i64 0, .int .i64 0]).frozen)))
  exact bodyPost_ret (results_q rfl _ _ w.heap.size _ _ _ _ _ rfl rfl (H2.out.1.q.set4 _ _ _ _)) rfl ⟨p, g, rfl, (H2.out.1.qk (((((QK.refl H2.out.1.q).put (q' := ⟨16, 0, 0, 0⟩) 0 (.int .i64 16) rfl).put (q' := ⟨16, 32 * (1 + (e : Int) % 20), 0, 0⟩) 1 (.int .i64 (32 * (1 + (e : Int) % 20))) rfl).put (q' := ⟨16, 32 * (1 + (e : Int) % 20), 0, 0⟩) 2 (.int .i64 0) rfl).put (q' := ⟨16, 32 * (1 + (e : Int) % 20), 0, 0⟩) 3 (.int .i64 0) rfl) (Nat.le_refl _)).m⟩

end Go.Proofs.Ytheajnfbphkigaa
