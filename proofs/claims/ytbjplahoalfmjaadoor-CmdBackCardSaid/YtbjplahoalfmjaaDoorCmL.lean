/-
  CmdOne: two unlike commands that are right have unlike words and unlike texts.
-/
import Derived.Test.YtbjplahoalfmjaaDoorCmK
import Derived.BigQuiet
import Derived.Deep.QuietTactic
namespace Go.Proofs.YtbjplahoalfmjaaDoor
open Go.ChangeShapes Go.WideShapes Go.ChangeAt Go.RowKit
set_option linter.unusedVariables false
set_option linter.unusedSimpArgs false
attribute [local go_sem high] eql_w neq_w guard_w eql_cm neq_cm guard_cm

theorem decC_same {a b : Ws} (h : sameW a b = true) : decC a = decC b := by
  simp only [sameW, Bool.and_eq_true, decide_eq_true_eq] at h
  obtain ⟨⟨⟨h0, h1⟩, h2⟩, h3⟩ := h
  have hp : ∀ f, a (pw f) = b (pw f) := fun f => by
    have := pw_lt f
    have : pw f = 0 ∨ pw f = 1 ∨ pw f = 2 ∨ pw f = 3 := by omega
    rcases this with e | e | e | e <;> rw [e] <;> assumption
  have ho : opW a = opW b := by rw [opW, opW, h0]
  have hd : decN a = decN b := by funext f; rw [decN, decN, hp f]
  rw [decC, decC, ho, hd]
theorem one_words {c d : Cm} (hc : validC c = true) (hd : validC d = true) : eqW (encW c 0) (encW c 1) (encW c 2) (encW c 3) (encW d 0) (encW d 1) (encW d 2) (encW d 3) = eqCm c d := by
  rw [eqW_iff, eqCm_iff, encW, encW, if_pos hc, if_pos hd]
  by_cases h : c = d
  · subst h; simp [sameW_refl]
  · cases hs : sameW (wordsC c) (wordsC d)
    · simp [h]
    · exact absurd (by rw [← dec_words hc, ← dec_words hd]; exact decC_same hs) h
theorem one_texts {c d : Cm} (hc : validC c = true) (hd : validC d = true) : ((txB c).toList == (txB d).toList) = eqCm c d := by
  rw [eqCm_iff, ByteArray.toList_eq, ByteArray.toList_eq, txB, txB, if_pos hc, if_pos hd]
  by_cases h : c = d
  · subst h; simp
  · have : textC c ≠ textC d := fun e => h (by rw [← par_text hc, ← par_text hd, e])
    simp [h, this]

/-- The two commands' boxes. -/
structure B2 (w : World) (c d : Cm) (W : World) : Prop where
  c : CB W w.heap.size 24 c.cs
  d : CB W (w.heap.size + 1) 24 d.cs
  tab : TabW W
  below : Below w.heap.size w W
theorem B2.later {w : World} {c d : Cm} {W W' : World} (h : B2 w c d W) (k : Below W.heap.size W W') : B2 w c d W' := ⟨h.c.below k, h.d.below k, h.tab.below k, h.below.trans (k.mono h.below.size)⟩

set_option maxRecDepth 100000 in
set_option maxHeartbeats 8000000 in
theorem one_law (c d : Cm) (hc : i64B c.addr) (hd : i64B d.addr) (w : World) (hT : TabW w) : Calls Tryd.prog 7 #[c.v, d.v] w fun e w' => e = .returned (.bool true) ∧ Below w.heap.size w w' := by
  have HA := hi (fun W hW => awake_any W hW)
  have HEc := hi (fun W => encode_any c hc W)
  have HEd := hi (fun W => encode_any d hd W)
  have HPc := hi (fun W hW => print_any c hc W hW)
  have HPd := hi (fun W hW => print_any d hd W hW)
  have HW := hi (fun (h1 : validC c = true) (h2 : validC d = true) => And.intro (one_words h1 h2) (one_texts h1 h2))
  have H0 : B2 w c d ((w.alloc (.cells c.cs 24)).alloc (.cells d.cs 24)) := ⟨(CB.new w _ _).alloc _, cb_second, hT.below (bal_two w _ _), bal_two w _ _⟩
  have HH := hi H0
  obtain ⟨vc, hvc⟩ : ∃ v, validC c = v := ⟨_, rfl⟩
  obtain ⟨vd, hvd⟩ : ∃ v, validC d = v := ⟨_, rfl⟩
  obtain ⟨ec, hec⟩ : ∃ v, encW c = v := ⟨_, rfl⟩
  obtain ⟨ed, hed⟩ : ∃ v, encW d = v := ⟨_, rfl⟩
  obtain ⟨tc, htc⟩ : ∃ v, txB c = v := ⟨_, rfl⟩
  obtain ⟨td, htd⟩ : ∃ v, txB d = v := ⟨_, rfl⟩
  rw [hvc, hec] at HEc
  rw [hvd, hed] at HEd
  rw [hvc, htc] at HPc
  rw [hvd, htd] at HPd
  rw [hvc, hvd, hec, hed, htc, htd] at HW
  clear hvc hvd hec hed htc htd H0 hT hc hd
  obtain ⟨c1, c2, c3, c4, c5, c6, c7, c8, c9⟩ := c
  obtain ⟨d1, d2, d3, d4, d5, d6, d7, d8, d9⟩ := d
  dsimp only [Cm.v, Cm.cs] at HEc HEd HPc HPd HH ⊢
  cases vc
  · rw [show errN false = 160 from rfl] at HEc HPc
    cases vd
    · rw [show errN false = 160 from rfl] at HEd HPd
      clear HW
      go_enter Tryd.func7, Tryd.ntmps7
      go_wp2_with (first
        | (go_at_call 14; ((with_reducible refine (HA.out _ HH.out.tab).mono ?_); rintro e w1 ⟨rfl, hb1⟩; have H1 := HH.out.later hb1; clear hb1; obtain ⟨p0, p1, p2, p3, p4, p5, p6, p7, p8⟩ := CB.nine H1.c; have hzc : w.heap.size < w1.heap.size := H1.c.lt; have HH1 := hi H1; clear H1))
        | (go_at_call 10; ((with_reducible refine (HEc.out _).mono ?_); rintro e w2 ⟨rfl, hb2⟩; have H2 := HH1.out.later hb2; clear hb2; clear p0 p1 p2 p3 p4 p5 p6 p7 p8 hzc; obtain ⟨p0, p1, p2, p3, p4, p5, p6, p7, p8⟩ := CB.nine H2.d; have hzd : w.heap.size + 1 < w2.heap.size := H2.d.lt; have hzc := Nat.lt_of_succ_lt hzd; have HH2 := hi H2; clear H2))
        | (go_at_call 10; ((with_reducible refine (HEd.out _).mono ?_); rintro e w3 ⟨rfl, hb3⟩; have H3 := (HH2.out.later (bal w2 _)).later hb3; have HC3 := hi ((CB.new w2 26 (Ws.cs ec)).below hb3); clear hb3; clear p0 p1 p2 p3 p4 p5 p6 p7 p8 hzc hzd; obtain ⟨p0, p1, p2, p3, p4, p5, p6, p7, p8⟩ := CB.nine H3.c; have hzc : w.heap.size < w3.heap.size := H3.c.lt; have HH3 := hi H3; clear H3))
        | (go_at_call 26; ((with_reducible refine (HPc.out _ (HH3.out.tab.below (bal w3 _))).mono ?_); rintro e w4 ⟨rfl, hb4⟩; have H4 := (HH3.out.later (bal w3 _)).later hb4; have HC4 := hi ((HC3.out.alloc _).below hb4); have HD4 := hi ((CB.new w3 26 (Ws.cs ed)).below hb4); clear hb4; clear p0 p1 p2 p3 p4 p5 p6 p7 p8 hzc; obtain ⟨p0, p1, p2, p3, p4, p5, p6, p7, p8⟩ := CB.nine H4.d; have hzd : w.heap.size + 1 < w4.heap.size := H4.d.lt; have hzc := Nat.lt_of_succ_lt hzd; have HH4 := hi H4; clear H4))
        | (go_at_call 26; ((with_reducible refine (HPd.out _ HH4.out.tab).mono ?_); rintro e w5 ⟨rfl, hb5⟩; have H5 := HH4.out.later hb5; obtain ⟨a0, a1, a2, a3⟩ := CB.four (HC4.out.below hb5); obtain ⟨b0, b1, b2, b3⟩ := CB.four (HD4.out.below hb5); clear hb5; clear p0 p1 p2 p3 p4 p5 p6 p7 p8 hzc hzd; obtain ⟨p0, p1, p2, p3, p4, p5, p6, p7, p8⟩ := CB.nine H5.c; obtain ⟨q0, q1, q2, q3, q4, q5, q6, q7, q8⟩ := CB.nine H5.d; have HH5 := hi H5.below; clear H5)))
      go_quiet (fail)
      go_wp2
      go_ret
      exact ⟨by simp, ⟨HH5.out.os, HH5.out.tape, HH5.out.output, HH5.out.size, HH5.out.block⟩⟩
    · rw [show errN true = 0 from rfl] at HEd HPd
      clear HW
      go_enter Tryd.func7, Tryd.ntmps7
      go_wp2_with (first
        | (go_at_call 14; ((with_reducible refine (HA.out _ HH.out.tab).mono ?_); rintro e w1 ⟨rfl, hb1⟩; have H1 := HH.out.later hb1; clear hb1; obtain ⟨p0, p1, p2, p3, p4, p5, p6, p7, p8⟩ := CB.nine H1.c; have hzc : w.heap.size < w1.heap.size := H1.c.lt; have HH1 := hi H1; clear H1))
        | (go_at_call 10; ((with_reducible refine (HEc.out _).mono ?_); rintro e w2 ⟨rfl, hb2⟩; have H2 := HH1.out.later hb2; clear hb2; clear p0 p1 p2 p3 p4 p5 p6 p7 p8 hzc; obtain ⟨p0, p1, p2, p3, p4, p5, p6, p7, p8⟩ := CB.nine H2.d; have hzd : w.heap.size + 1 < w2.heap.size := H2.d.lt; have hzc := Nat.lt_of_succ_lt hzd; have HH2 := hi H2; clear H2))
        | (go_at_call 10; ((with_reducible refine (HEd.out _).mono ?_); rintro e w3 ⟨rfl, hb3⟩; have H3 := (HH2.out.later (bal w2 _)).later hb3; have HC3 := hi ((CB.new w2 26 (Ws.cs ec)).below hb3); clear hb3; clear p0 p1 p2 p3 p4 p5 p6 p7 p8 hzc hzd; obtain ⟨p0, p1, p2, p3, p4, p5, p6, p7, p8⟩ := CB.nine H3.c; have hzc : w.heap.size < w3.heap.size := H3.c.lt; have HH3 := hi H3; clear H3))
        | (go_at_call 26; ((with_reducible refine (HPc.out _ (HH3.out.tab.below (bal w3 _))).mono ?_); rintro e w4 ⟨rfl, hb4⟩; have H4 := (HH3.out.later (bal w3 _)).later hb4; have HC4 := hi ((HC3.out.alloc _).below hb4); have HD4 := hi ((CB.new w3 26 (Ws.cs ed)).below hb4); clear hb4; clear p0 p1 p2 p3 p4 p5 p6 p7 p8 hzc; obtain ⟨p0, p1, p2, p3, p4, p5, p6, p7, p8⟩ := CB.nine H4.d; have hzd : w.heap.size + 1 < w4.heap.size := H4.d.lt; have hzc := Nat.lt_of_succ_lt hzd; have HH4 := hi H4; clear H4))
        | (go_at_call 26; ((with_reducible refine (HPd.out _ HH4.out.tab).mono ?_); rintro e w5 ⟨rfl, hb5⟩; have H5 := HH4.out.later hb5; obtain ⟨a0, a1, a2, a3⟩ := CB.four (HC4.out.below hb5); obtain ⟨b0, b1, b2, b3⟩ := CB.four (HD4.out.below hb5); clear hb5; clear p0 p1 p2 p3 p4 p5 p6 p7 p8 hzc hzd; obtain ⟨p0, p1, p2, p3, p4, p5, p6, p7, p8⟩ := CB.nine H5.c; obtain ⟨q0, q1, q2, q3, q4, q5, q6, q7, q8⟩ := CB.nine H5.d; have HH5 := hi H5.below; clear H5)))
      go_quiet (fail)
      go_wp2
      go_ret
      exact ⟨by simp, ⟨HH5.out.os, HH5.out.tape, HH5.out.output, HH5.out.size, HH5.out.block⟩⟩
  · rw [show errN true = 0 from rfl] at HEc HPc
    cases vd
    · rw [show errN false = 160 from rfl] at HEd HPd
      clear HW
      go_enter Tryd.func7, Tryd.ntmps7
      go_wp2_with (first
        | (go_at_call 14; ((with_reducible refine (HA.out _ HH.out.tab).mono ?_); rintro e w1 ⟨rfl, hb1⟩; have H1 := HH.out.later hb1; clear hb1; obtain ⟨p0, p1, p2, p3, p4, p5, p6, p7, p8⟩ := CB.nine H1.c; have hzc : w.heap.size < w1.heap.size := H1.c.lt; have HH1 := hi H1; clear H1))
        | (go_at_call 10; ((with_reducible refine (HEc.out _).mono ?_); rintro e w2 ⟨rfl, hb2⟩; have H2 := HH1.out.later hb2; clear hb2; clear p0 p1 p2 p3 p4 p5 p6 p7 p8 hzc; obtain ⟨p0, p1, p2, p3, p4, p5, p6, p7, p8⟩ := CB.nine H2.d; have hzd : w.heap.size + 1 < w2.heap.size := H2.d.lt; have hzc := Nat.lt_of_succ_lt hzd; have HH2 := hi H2; clear H2))
        | (go_at_call 10; ((with_reducible refine (HEd.out _).mono ?_); rintro e w3 ⟨rfl, hb3⟩; have H3 := (HH2.out.later (bal w2 _)).later hb3; have HC3 := hi ((CB.new w2 26 (Ws.cs ec)).below hb3); clear hb3; clear p0 p1 p2 p3 p4 p5 p6 p7 p8 hzc hzd; obtain ⟨p0, p1, p2, p3, p4, p5, p6, p7, p8⟩ := CB.nine H3.c; have hzc : w.heap.size < w3.heap.size := H3.c.lt; have HH3 := hi H3; clear H3))
        | (go_at_call 26; ((with_reducible refine (HPc.out _ (HH3.out.tab.below (bal w3 _))).mono ?_); rintro e w4 ⟨rfl, hb4⟩; have H4 := (HH3.out.later (bal w3 _)).later hb4; have HC4 := hi ((HC3.out.alloc _).below hb4); have HD4 := hi ((CB.new w3 26 (Ws.cs ed)).below hb4); clear hb4; clear p0 p1 p2 p3 p4 p5 p6 p7 p8 hzc; obtain ⟨p0, p1, p2, p3, p4, p5, p6, p7, p8⟩ := CB.nine H4.d; have hzd : w.heap.size + 1 < w4.heap.size := H4.d.lt; have hzc := Nat.lt_of_succ_lt hzd; have HH4 := hi H4; clear H4))
        | (go_at_call 26; ((with_reducible refine (HPd.out _ HH4.out.tab).mono ?_); rintro e w5 ⟨rfl, hb5⟩; have H5 := HH4.out.later hb5; obtain ⟨a0, a1, a2, a3⟩ := CB.four (HC4.out.below hb5); obtain ⟨b0, b1, b2, b3⟩ := CB.four (HD4.out.below hb5); clear hb5; clear p0 p1 p2 p3 p4 p5 p6 p7 p8 hzc hzd; obtain ⟨p0, p1, p2, p3, p4, p5, p6, p7, p8⟩ := CB.nine H5.c; obtain ⟨q0, q1, q2, q3, q4, q5, q6, q7, q8⟩ := CB.nine H5.d; have HH5 := hi H5.below; clear H5)))
      go_quiet (fail)
      go_wp2
      go_ret
      exact ⟨by simp, ⟨HH5.out.os, HH5.out.tape, HH5.out.output, HH5.out.size, HH5.out.block⟩⟩
    · rw [show errN true = 0 from rfl] at HEd HPd
      obtain ⟨hw1, hw2⟩ := HW.out rfl rfl
      clear HW
      obtain ⟨q, hq⟩ : ∃ q, eqCm ⟨c1, c2, c3, c4, c5, c6, c7, c8, c9⟩ ⟨d1, d2, d3, d4, d5, d6, d7, d8, d9⟩ = q := ⟨_, rfl⟩
      rw [hq] at hw1 hw2
      cases q
      · go_enter Tryd.func7, Tryd.ntmps7
        go_wp2_with (first
          | (go_at_call 14; ((with_reducible refine (HA.out _ HH.out.tab).mono ?_); rintro e w1 ⟨rfl, hb1⟩; have H1 := HH.out.later hb1; clear hb1; obtain ⟨p0, p1, p2, p3, p4, p5, p6, p7, p8⟩ := CB.nine H1.c; have hzc : w.heap.size < w1.heap.size := H1.c.lt; have HH1 := hi H1; clear H1))
          | (go_at_call 10; ((with_reducible refine (HEc.out _).mono ?_); rintro e w2 ⟨rfl, hb2⟩; have H2 := HH1.out.later hb2; clear hb2; clear p0 p1 p2 p3 p4 p5 p6 p7 p8 hzc; obtain ⟨p0, p1, p2, p3, p4, p5, p6, p7, p8⟩ := CB.nine H2.d; have hzd : w.heap.size + 1 < w2.heap.size := H2.d.lt; have hzc := Nat.lt_of_succ_lt hzd; have HH2 := hi H2; clear H2))
          | (go_at_call 10; ((with_reducible refine (HEd.out _).mono ?_); rintro e w3 ⟨rfl, hb3⟩; have H3 := (HH2.out.later (bal w2 _)).later hb3; have HC3 := hi ((CB.new w2 26 (Ws.cs ec)).below hb3); clear hb3; clear p0 p1 p2 p3 p4 p5 p6 p7 p8 hzc hzd; obtain ⟨p0, p1, p2, p3, p4, p5, p6, p7, p8⟩ := CB.nine H3.c; have hzc : w.heap.size < w3.heap.size := H3.c.lt; have HH3 := hi H3; clear H3))
          | (go_at_call 26; ((with_reducible refine (HPc.out _ (HH3.out.tab.below (bal w3 _))).mono ?_); rintro e w4 ⟨rfl, hb4⟩; have H4 := (HH3.out.later (bal w3 _)).later hb4; have HC4 := hi ((HC3.out.alloc _).below hb4); have HD4 := hi ((CB.new w3 26 (Ws.cs ed)).below hb4); clear hb4; clear p0 p1 p2 p3 p4 p5 p6 p7 p8 hzc; obtain ⟨p0, p1, p2, p3, p4, p5, p6, p7, p8⟩ := CB.nine H4.d; have hzd : w.heap.size + 1 < w4.heap.size := H4.d.lt; have hzc := Nat.lt_of_succ_lt hzd; have HH4 := hi H4; clear H4))
          | (go_at_call 26; ((with_reducible refine (HPd.out _ HH4.out.tab).mono ?_); rintro e w5 ⟨rfl, hb5⟩; have H5 := HH4.out.later hb5; obtain ⟨a0, a1, a2, a3⟩ := CB.four (HC4.out.below hb5); obtain ⟨b0, b1, b2, b3⟩ := CB.four (HD4.out.below hb5); clear hb5; clear p0 p1 p2 p3 p4 p5 p6 p7 p8 hzc hzd; obtain ⟨p0, p1, p2, p3, p4, p5, p6, p7, p8⟩ := CB.nine H5.c; obtain ⟨q0, q1, q2, q3, q4, q5, q6, q7, q8⟩ := CB.nine H5.d; have HH5 := hi H5.below; clear H5)))
        go_quiet (fail)
        go_wp2
        go_ret
        exact ⟨by simp, ⟨HH5.out.os, HH5.out.tape, HH5.out.output, HH5.out.size, HH5.out.block⟩⟩
      · go_enter Tryd.func7, Tryd.ntmps7
        go_wp2_with (first
          | (go_at_call 14; ((with_reducible refine (HA.out _ HH.out.tab).mono ?_); rintro e w1 ⟨rfl, hb1⟩; have H1 := HH.out.later hb1; clear hb1; obtain ⟨p0, p1, p2, p3, p4, p5, p6, p7, p8⟩ := CB.nine H1.c; have hzc : w.heap.size < w1.heap.size := H1.c.lt; have HH1 := hi H1; clear H1))
          | (go_at_call 10; ((with_reducible refine (HEc.out _).mono ?_); rintro e w2 ⟨rfl, hb2⟩; have H2 := HH1.out.later hb2; clear hb2; clear p0 p1 p2 p3 p4 p5 p6 p7 p8 hzc; obtain ⟨p0, p1, p2, p3, p4, p5, p6, p7, p8⟩ := CB.nine H2.d; have hzd : w.heap.size + 1 < w2.heap.size := H2.d.lt; have hzc := Nat.lt_of_succ_lt hzd; have HH2 := hi H2; clear H2))
          | (go_at_call 10; ((with_reducible refine (HEd.out _).mono ?_); rintro e w3 ⟨rfl, hb3⟩; have H3 := (HH2.out.later (bal w2 _)).later hb3; have HC3 := hi ((CB.new w2 26 (Ws.cs ec)).below hb3); clear hb3; clear p0 p1 p2 p3 p4 p5 p6 p7 p8 hzc hzd; obtain ⟨p0, p1, p2, p3, p4, p5, p6, p7, p8⟩ := CB.nine H3.c; have hzc : w.heap.size < w3.heap.size := H3.c.lt; have HH3 := hi H3; clear H3))
          | (go_at_call 26; ((with_reducible refine (HPc.out _ (HH3.out.tab.below (bal w3 _))).mono ?_); rintro e w4 ⟨rfl, hb4⟩; have H4 := (HH3.out.later (bal w3 _)).later hb4; have HC4 := hi ((HC3.out.alloc _).below hb4); have HD4 := hi ((CB.new w3 26 (Ws.cs ed)).below hb4); clear hb4; clear p0 p1 p2 p3 p4 p5 p6 p7 p8 hzc; obtain ⟨p0, p1, p2, p3, p4, p5, p6, p7, p8⟩ := CB.nine H4.d; have hzd : w.heap.size + 1 < w4.heap.size := H4.d.lt; have hzc := Nat.lt_of_succ_lt hzd; have HH4 := hi H4; clear H4))
          | (go_at_call 26; ((with_reducible refine (HPd.out _ HH4.out.tab).mono ?_); rintro e w5 ⟨rfl, hb5⟩; have H5 := HH4.out.later hb5; obtain ⟨a0, a1, a2, a3⟩ := CB.four (HC4.out.below hb5); obtain ⟨b0, b1, b2, b3⟩ := CB.four (HD4.out.below hb5); clear hb5; clear p0 p1 p2 p3 p4 p5 p6 p7 p8 hzc hzd; obtain ⟨p0, p1, p2, p3, p4, p5, p6, p7, p8⟩ := CB.nine H5.c; obtain ⟨q0, q1, q2, q3, q4, q5, q6, q7, q8⟩ := CB.nine H5.d; have HH5 := hi H5.below; clear H5)))
        go_quiet (fail)
        go_wp2
        go_ret
        exact ⟨by simp, ⟨HH5.out.os, HH5.out.tape, HH5.out.output, HH5.out.size, HH5.out.block⟩⟩

end Go.Proofs.YtbjplahoalfmjaaDoor
