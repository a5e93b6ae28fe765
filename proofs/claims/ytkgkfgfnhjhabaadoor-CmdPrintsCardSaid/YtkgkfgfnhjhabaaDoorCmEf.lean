/-
  CmdPrints: a command's text is what the document says; a text is a command's just if it is printed as it.
-/
import Derived.Test.YtkgkfgfnhjhabaaDoorCmEd
import Derived.Test.YtkgkfgfnhjhabaaDoorCmK
import Derived.Test.YtkgkfgfnhjhabaaDoorCmT
namespace Go.Proofs.YtkgkfgfnhjhabaaDoor
open Go.ChangeShapes Go.WideShapes Go.ChangeAt Go.RowKit
set_option linter.unusedVariables false
set_option linter.unusedSimpArgs false
attribute [local go_sem high] eql_cm neq_cm guard_cm

theorem valid_fair {c : Cm} (h : validC c = true) : c.Fair := by
  have hk := validC_known h
  have hf := validC_fits h
  have hj := validC_join h
  have hl := fieldsL_lt c.op
  have b : ∀ x, 0 ≤ ownF (numC c) (fieldsL c.op) x ∧ ownF (numC c) (fieldsL c.op) x ≤ 1099511627776 := fun x => by
    unfold ownF; split
    · rename_i hx
      have h1 := fits_iff.1 (hf x hx)
      have h2 : pr x ≤ 1099511627776 := by unfold pr; split <;> omega
      omega
    · omega
  have e0 := congrArg Cm.dev hj
  have e1 := congrArg Cm.ev hj
  have e2 := congrArg Cm.num hj
  have e4 := congrArg Cm.coll hj
  have e5 := congrArg Cm.tgt hj
  have e6 := congrArg Cm.bit hj
  have e7 := congrArg Cm.addr hj
  simp only [joinC] at e0 e1 e2 e4 e5 e6 e7
  have b0 := b 0
  have b1 := b 1
  have b4 := b 4
  have b5 := b 5
  have b6 := b 6
  have wr : ∀ n, -9223372036854775808 ≤ RowKit.wrap64 n ∧ RowKit.wrap64 n ≤ 9223372036854775807 := fun n => by unfold RowKit.wrap64; omega
  have hop : 0 ≤ c.op ∧ c.op ≤ 15 := by rcases known_cases hk with e | e | e | e | e | e | e | e | e | e | e | e <;> omega
  refine ⟨⟨by omega, by omega⟩, ⟨by omega, by omega⟩, ⟨by omega, by omega⟩, ?_, ⟨by omega, by omega⟩, ⟨by omega, by omega⟩, ⟨by omega, by omega⟩, ?_⟩
  · rw [← e2]; exact wr _
  · rw [← e7]; exact wr _
theorem zero_fair : Cm.zero.Fair := by constructor <;> (unfold i64B; decide)
theorem parR_fair (t : List UInt8) : (parR t).Fair := by
  unfold parR
  split
  · rename_i h
    exact valid_fair (by unfold parOk at h; simp at h; exact h.1)
  · exact zero_fair
/-- What is read of a text is printed as it; or nothing is. -/
theorem parse_txt (s : ByteArray) : (parOk s.data.toList = true ∧ validC (parR s.data.toList) = true ∧ txB (parR s.data.toList) = s) ∨ (parOk s.data.toList = false ∧ parR s.data.toList = Cm.zero) := by
  cases h : parOk s.data.toList
  · right
    exact ⟨rfl, by rw [parR, if_neg (by rw [h]; decide)]⟩
  · left
    have h2 := h
    unfold parOk at h2
    simp only [Bool.and_eq_true, decide_eq_true_eq] at h2
    have e : parR s.data.toList = parC s.data.toList := by rw [parR, if_pos h]
    refine ⟨rfl, by rw [e]; exact h2.1, ?_⟩
    rw [e, txB, if_pos h2.1, h2.2]

/-- The boxes of CmdPrints. -/
structure P1 (w : World) (c : Cm) (W : World) : Prop where
  c : CB W w.heap.size 24 c.cs
  tab : TabW W
  below : Below w.heap.size w W
theorem P1.later {w : World} {c : Cm} {W W' : World} (h : P1 w c W) (k : Below W.heap.size W W') : P1 w c W' := ⟨h.c.below k, h.tab.below k, h.below.trans (k.mono h.below.size)⟩

set_option maxRecDepth 100000 in
set_option maxHeartbeats 4000000 in
theorem prints_law (c : Cm) (hF : c.Fair) (s : ByteArray) (hs : s.size ≤ 281474976710656) (w : World) (hT : TabW w) (hE : ErrW w) : Calls Tryd.prog 5 #[c.v, .string s] w fun e w' => e = .returned (.bool true) ∧ Below w.heap.size w w' := by
  have HA := hi (fun W hW => awake_any W hW)
  have HP := hi (fun W hW => print_any c hF.addr W hW)
  have HR := hi (fun W hW => rprint_any c hF W hW)
  have HPA := hi (fun W hW hE => parse_any s hs W hW hE)
  have HRD := hi (fun W hW => rprint_any (parR s.data.toList) (parR_fair _) W hW)
  have HTO := hi (fun (e : Int) (ok : Bool) W => told_any e ok W)
  have HH := hi (show P1 w c (w.alloc (.cells c.cs 24)) from ⟨CB.new w _ _, hT.below (bal w _), bal w _⟩)
  have HEW := hi hE
  obtain ⟨tc, htc⟩ : ∃ v, txB c = v := ⟨_, rfl⟩
  obtain ⟨vc, hvc⟩ : ∃ v, validC c = v := ⟨_, rfl⟩
  rw [htc, hvc] at HP HR
  have hTC : (tc.toList == tc.toList) = true := by simp
  have hTS : (s.toList == s.toList) = true := by simp
  have hX := parse_txt s
  obtain ⟨d, hd⟩ : ∃ d, parR s.data.toList = d := ⟨_, rfl⟩
  obtain ⟨ok, hok⟩ : ∃ ok, parOk s.data.toList = ok := ⟨_, rfl⟩
  rw [hd, hok] at HPA
  rw [hd] at HRD
  rw [hd, hok] at hX
  obtain ⟨td, htd⟩ : ∃ v, txB d = v := ⟨_, rfl⟩
  obtain ⟨vd, hvd⟩ : ∃ v, validC d = v := ⟨_, rfl⟩
  rw [htd, hvd] at HRD
  have HX := hi (show (ok = true ∧ vd = true ∧ td = s) ∨ (ok = false ∧ d = Cm.zero) by rw [← htd, ← hvd]; exact hX)
  clear hF hT hE htc hvc hX hd hok htd hvd
  obtain ⟨c1, c2, c3, c4, c5, c6, c7, c8, c9⟩ := c
  obtain ⟨q1, q2, q3, q4, q5, q6, q7, q8, q9⟩ := CB.nine HH.out.c
  obtain ⟨d1, d2, d3, d4, d5, d6, d7, d8, d9⟩ := d
  dsimp only [Cm.v, Cm.cs] at HP HR HPA HRD HH q1 q2 q3 q4 q5 q6 q7 q8 q9 ⊢
  clear q1 q2 q3 q4 q5 q6 q7 q8 q9
  have en1 : errN true = 0 := rfl
  have en2 : errN false = 160 := rfl
  rcases HX.out with ⟨rfl, rfl, rfl⟩ | ⟨rfl, hz⟩
  · cases vc <;> (
      go_enter Tryd.func5, Tryd.ntmps5
      go_wp2_with (first
        | (go_at_call 14; ((with_reducible refine (HA.out _ HH.out.tab).mono ?_); rintro e w1 ⟨rfl, hb1⟩; have H1 := hi (HH.out.later hb1); obtain ⟨q1, q2, q3, q4, q5, q6, q7, q8, q9⟩ := CB.nine H1.out.c; clear hb1))
        | (go_at_call 26; ((with_reducible refine (HP.out _ H1.out.tab).mono ?_); rintro e w2 ⟨rfl, hb2⟩; have H2 := hi (H1.out.later hb2); clear q1 q2 q3 q4 q5 q6 q7 q8 q9; obtain ⟨q1, q2, q3, q4, q5, q6, q7, q8, q9⟩ := CB.nine H2.out.c; clear hb2))
        | (go_at_call 27; ((with_reducible refine (HR.out _ H2.out.tab).mono ?_); rintro e w3 ⟨rfl, hb3⟩; have H3 := hi (H2.out.later hb3); clear hb3 q1 q2 q3 q4 q5 q6 q7 q8 q9))
        | (go_at_call 15; ((with_reducible refine (HTO.out _ _ _).mono ?_); rintro e w4 ⟨rfl, rfl⟩))
        | (go_at_call 28; ((with_reducible refine (HPA.out _ H3.out.tab (HEW.out.below H3.out.below)).mono ?_); rintro e w5 ⟨rfl, hb5⟩; have H5 := hi ((H3.out.later hb5).later (bal _ (.cells #[.int .i64 d1, .int .i64 d2, .int .i64 d3, .int .i64 d4, .int .i64 d5, .int .i64 d6, .int .i64 d7, .int .i64 d8, .bool d9] 24))); have HN := hi (CB.new w5 24 #[.int .i64 d1, .int .i64 d2, .int .i64 d3, .int .i64 d4, .int .i64 d5, .int .i64 d6, .int .i64 d7, .int .i64 d8, .bool d9]); clear hb5))
        | (go_at_call 27; ((with_reducible refine (HRD.out _ H5.out.tab).mono ?_); rintro e w6 ⟨rfl, hb6⟩; have H6 := hi (H5.out.later hb6); clear hb6)))
      all_goals (go_ret; exact ⟨rfl, H6.out.below⟩))
  · simp only [Cm.zero, Cm.mk.injEq] at hz
    obtain ⟨rfl, rfl, rfl, rfl, rfl, rfl, rfl, rfl, rfl⟩ := hz
    cases vc <;> (
      go_enter Tryd.func5, Tryd.ntmps5
      go_wp2_with (first
        | (go_at_call 14; ((with_reducible refine (HA.out _ HH.out.tab).mono ?_); rintro e w1 ⟨rfl, hb1⟩; have H1 := hi (HH.out.later hb1); obtain ⟨q1, q2, q3, q4, q5, q6, q7, q8, q9⟩ := CB.nine H1.out.c; clear hb1))
        | (go_at_call 26; ((with_reducible refine (HP.out _ H1.out.tab).mono ?_); rintro e w2 ⟨rfl, hb2⟩; have H2 := hi (H1.out.later hb2); clear q1 q2 q3 q4 q5 q6 q7 q8 q9; obtain ⟨q1, q2, q3, q4, q5, q6, q7, q8, q9⟩ := CB.nine H2.out.c; clear hb2))
        | (go_at_call 27; ((with_reducible refine (HR.out _ H2.out.tab).mono ?_); rintro e w3 ⟨rfl, hb3⟩; have H3 := hi (H2.out.later hb3); clear hb3 q1 q2 q3 q4 q5 q6 q7 q8 q9))
        | (go_at_call 15; ((with_reducible refine (HTO.out _ _ _).mono ?_); rintro e w4 ⟨rfl, rfl⟩))
        | (go_at_call 28; ((with_reducible refine (HPA.out _ H3.out.tab (HEW.out.below H3.out.below)).mono ?_); rintro e w5 ⟨rfl, hb5⟩; have H5 := hi ((H3.out.later hb5).later (bal _ (.cells #[.int .i64 0, .int .i64 0, .int .i64 0, .int .i64 0, .int .i64 0, .int .i64 0, .int .i64 0, .int .i64 0, .bool false] 24))); have HN := hi (CB.new w5 24 #[.int .i64 0, .int .i64 0, .int .i64 0, .int .i64 0, .int .i64 0, .int .i64 0, .int .i64 0, .int .i64 0, .bool false]); clear hb5))
        | (go_at_call 27; ((with_reducible refine (HRD.out _ H5.out.tab).mono ?_); rintro e w6 ⟨rfl, hb6⟩; have H6 := hi (H5.out.later hb6); obtain ⟨z1, z2, z3, z4, z5, z6, z7, z8, z9⟩ := CB.nine (HN.out.below hb6); clear hb6)))
      all_goals (go_ret; exact ⟨rfl, H6.out.below⟩))

end Go.Proofs.YtkgkfgfnhjhabaaDoor
