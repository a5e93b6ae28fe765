/-
  QueueFills.
-/
import Derived.Test.YtheajnfbphkigaaQuN
import Derived.Test.YtheajnfbphkigaaCmEd
namespace Go.Proofs.Ytheajnfbphkigaa
open Go.ChangeShapes Go.WideShapes Go.ChangeAt Go.RowKit
set_option linter.unusedVariables false
set_option linter.unusedSimpArgs false

theorem Since.from {w w1 : World} {p g cap : Nat} {bs : List Nat} {W : World} (h : Since w1 p g cap bs W) (k : Below w.heap.size w w1) : Since w p g cap bs W :=
  ⟨h.mem, Nat.le_trans k.size h.p, Nat.le_trans k.size h.g, k.trans (h.below.mono k.size)⟩
theorem FrI.qm {w : World} {p g b : Nat} {bs bs' : List Nat} {q q' : Qu} {W W' : World} (s : FrI w p g b bs q W) (k : QM W p g 700 b bs' q' W') (hb : w.heap.size ≤ b) : FrI w p g b bs' q' W' :=
  ⟨⟨k.m, s.m.p, s.m.g, s.m.below.trans (k.kept.toBelow s.m.below.size (fun y e => by have := s.m.g; omega))⟩, k.q⟩
set_option maxRecDepth 100000 in
set_option maxHeartbeats 8000000 in
theorem fills_law (e : Nat) (he : e < 256) (a : Option Addr) (B off cp : Nat) (cs : List Cm) (w : World) (hC : CmdsAt w a B off cs) : Calls Try.prog 6 #[.int .u8 e, .slice a cs.length cp] w fun e w' => e = .returned (.bool true) ∧ Below w.heap.size w w' := by
  have HA := hi (fun W => awake_any W)
  have HFR := hi (fun W => fresh_any e he W)
  have HC := hi hC
  have HRM := hi (fun W => room_q (frQ e) (frQ_fair e).s.2 W)
  have HFL := hi (fun p g b W hM hQ hc hap => fill_any p g 700 (List.replicate 700 0) b (frQ e) a B off cp cs W hM hQ (frQ_fair e) hc hap)
  have hF := Lies.fill cs (frQ_lies e).1
  obtain ⟨T, hT⟩ : ∃ T, fillS cs (List.replicate 700 0) (frQ e) = T := ⟨_, rfl⟩
  rw [hT] at HFL hF
  clear hT
  obtain ⟨n, x, qn, ln⟩ := T
  dsimp only at HFL hF
  have hsz : qn.size ≤ 9223372036854775807 := by
    have h1 := hF.lies.fit
    have h2 := hF.len
    have h3 := hF.lies.a0
    simp at h2
    omega
  have HLF := hi (fun W => left_q qn hsz W)
  have HR2 := hi (fun W => room_q qn hsz W)
  have hl : lefN qn = n := by
    have h1 := each_len ln qn
    rw [hF.each, (frQ_lies e).2.1] at h1
    have h2 := hF.le
    simp at h1
    omega
  have hr := hF.room
  have hnn := rooN_bd qn
  rw [hl] at HLF
  obtain ⟨R, hR⟩ : ∃ R, rooN (frQ e) = R := ⟨_, rfl⟩
  have hR0 : R ≤ 1024 := by rw [← hR, (frQ_lies e).2.2.2]; have := frS_bd e; omega
  rw [hR] at HRM hr
  rw [hr] at HR2 hnn
  have hle := hF.le
  have hall := hF.all
  have hfull := hF.full
  have hbad := hF.bad
  rw [hr] at hfull
  have hlen := hC.len
  unfold frQ at HFR HRM HFL
  dsimp only [Qu.v] at HFR HRM HFL
  obtain ⟨S, hS⟩ : ∃ S, frS e = S := ⟨_, rfl⟩
  rw [hS] at HFR HRM HFL
  clear hS hR hF hsz hl hr hC
  obtain ⟨q1, q2, q3, q4⟩ := qn
  (try dsimp only at HLF)
  (try dsimp only at HR2)
  by_cases hx0 : x = 0
  · subst hx0
    have hn := hall rfl
    clear hall hfull hbad
    go_enter Try.func6, Try.ntmps6
    go_wp2_with (first
      | (go_at_call 9; ((with_reducible refine (HA.out _).mono ?_); rintro e' w1 ⟨rfl, hb1⟩; have H1 := hi hb1; clear hb1))
      | (go_at_call 17; ((with_reducible refine (HFR.out _).mono ?_); rintro e' w2 ⟨p, g, rfl, hs2⟩; have H2 := hi (show FrI w p g w2.heap.size (List.replicate 700 0) ⟨16, S, 0, 0⟩ (w2.alloc (.cells #[.int .i64 16, .int .i64 S, .int .i64 0, .int .i64 0] 25)) from ⟨(hs2.from H1.out).later (bal _ _), CB.new w2 _ _⟩); have z2 := And.intro (hs2.from H1.out).below.size (And.intro (hs2.from H1.out).p (hs2.from H1.out).g); clear hs2; obtain ⟨a0, a1, a2, a3⟩ := CB.four H2.out.q; have qf := (CB.new w2 25 #[.int .i64 0, .int .i64 0, .int .i64 0, .int .i64 0]).frozen))
      | (go_at_call 16; ((with_reducible refine (HRM.out _).mono ?_); rintro e' w3 ⟨rfl, hb3⟩; have H3 := hi (H2.out.later hb3); clear hb3 a0 a1 a2 a3))
      | (go_at_call 22; ((with_reducible refine (HFL.out p g _ _ H3.out.m.mem H3.out.q (HC.out.below H3.out.m.below) (fun hne => by have := HC.out.lt hne; omega)).mono ?_); rintro e' w4 ⟨rfl, hq4⟩; have H4 := hi (And.intro (H3.out.qm hq4 z2.1) ((HC.out.below H3.out.m.below).kept hq4.kept (fun hne => by have := HC.out.lt hne; omega))); clear hq4; obtain ⟨a0, a1, a2, a3⟩ := CB.four H4.out.1.q))
      | (go_at_call 15; ((with_reducible refine (HLF.out _).mono ?_); rintro e' w5 ⟨rfl, hb5⟩; have H5 := hi (And.intro (H4.out.1.later hb5) (H4.out.2.below hb5)); clear hb5 a0 a1 a2 a3; obtain ⟨a0, a1, a2, a3⟩ := CB.four H5.out.1.q))
      | (go_at_call 16; ((with_reducible refine (HR2.out _).mono ?_); rintro e' w6 ⟨rfl, hb6⟩; have H6 := hi (And.intro (H5.out.1.later hb6) (H5.out.2.below hb6)); clear hb6 a0 a1 a2 a3)))
    all_goals first | (go_ret; exact ⟨by simp [hn], H6.out.1.m.below⟩) | (exfalso; simp at *; omega)
  · by_cases hx2 : x = 2
    · subst hx2
      obtain ⟨hn, hlt⟩ := hfull rfl
      clear hall hfull hbad
      go_enter Try.func6, Try.ntmps6
      go_wp2_with (first
        | (go_at_call 9; ((with_reducible refine (HA.out _).mono ?_); rintro e' w1 ⟨rfl, hb1⟩; have H1 := hi hb1; clear hb1))
        | (go_at_call 17; ((with_reducible refine (HFR.out _).mono ?_); rintro e' w2 ⟨p, g, rfl, hs2⟩; have H2 := hi (show FrI w p g w2.heap.size (List.replicate 700 0) ⟨16, S, 0, 0⟩ (w2.alloc (.cells #[.int .i64 16, .int .i64 S, .int .i64 0, .int .i64 0] 25)) from ⟨(hs2.from H1.out).later (bal _ _), CB.new w2 _ _⟩); have z2 := And.intro (hs2.from H1.out).below.size (And.intro (hs2.from H1.out).p (hs2.from H1.out).g); clear hs2; obtain ⟨a0, a1, a2, a3⟩ := CB.four H2.out.q; have qf := (CB.new w2 25 #[.int .i64 0, .int .i64 0, .int .i64 0, .int .i64 0]).frozen))
        | (go_at_call 16; ((with_reducible refine (HRM.out _).mono ?_); rintro e' w3 ⟨rfl, hb3⟩; have H3 := hi (H2.out.later hb3); clear hb3 a0 a1 a2 a3))
        | (go_at_call 22; ((with_reducible refine (HFL.out p g _ _ H3.out.m.mem H3.out.q (HC.out.below H3.out.m.below) (fun hne => by have := HC.out.lt hne; omega)).mono ?_); rintro e' w4 ⟨rfl, hq4⟩; have H4 := hi (And.intro (H3.out.qm hq4 z2.1) ((HC.out.below H3.out.m.below).kept hq4.kept (fun hne => by have := HC.out.lt hne; omega))); clear hq4; obtain ⟨a0, a1, a2, a3⟩ := CB.four H4.out.1.q))
        | (go_at_call 15; ((with_reducible refine (HLF.out _).mono ?_); rintro e' w5 ⟨rfl, hb5⟩; have H5 := hi (And.intro (H4.out.1.later hb5) (H4.out.2.below hb5)); clear hb5 a0 a1 a2 a3; obtain ⟨a0, a1, a2, a3⟩ := CB.four H5.out.1.q))
        | (go_at_call 16; ((with_reducible refine (HR2.out _).mono ?_); rintro e' w6 ⟨rfl, hb6⟩; have H6 := hi (And.intro (H5.out.1.later hb6) (H5.out.2.below hb6)); clear hb6 a0 a1 a2 a3)))
      all_goals first | (go_ret; exact ⟨by simp [hn] <;> omega, H6.out.1.m.below⟩) | (exfalso; simp at *; omega)
    · obtain ⟨rfl, c, hc, hv⟩ := hbad hx0 hx2
      have hlt : n < cs.length := (List.getElem?_eq_some_iff.1 hc).1
      have hne : cs ≠ [] := fun e => by rw [e] at hc; simp at hc
      have hcf := HC.out.fair c (List.mem_of_getElem? hc)
      have HEN := hi (fun W => renc_any c hcf W)
      rw [hv] at HEN
      obtain rfl := HC.out.at_ hne
      obtain ⟨y, hy⟩ : ∃ y, encW c = y := ⟨_, rfl⟩
      rw [hy] at HEN
      have HCC := hi hc
      obtain ⟨c1, c2, c3, c4, c5, c6, c7, c8, c9⟩ := c
      dsimp only [Cm.v] at HEN
      clear hall hfull hbad hx0 hx2 hcf hv hy hc
      go_enter Try.func6, Try.ntmps6
      go_wp2_with (first
        | (go_at_call 9; ((with_reducible refine (HA.out _).mono ?_); rintro e' w1 ⟨rfl, hb1⟩; have H1 := hi hb1; clear hb1))
        | (go_at_call 17; ((with_reducible refine (HFR.out _).mono ?_); rintro e' w2 ⟨p, g, rfl, hs2⟩; have H2 := hi (show FrI w p g w2.heap.size (List.replicate 700 0) ⟨16, S, 0, 0⟩ (w2.alloc (.cells #[.int .i64 16, .int .i64 S, .int .i64 0, .int .i64 0] 25)) from ⟨(hs2.from H1.out).later (bal _ _), CB.new w2 _ _⟩); have z2 := And.intro (hs2.from H1.out).below.size (And.intro (hs2.from H1.out).p (hs2.from H1.out).g); clear hs2; obtain ⟨a0, a1, a2, a3⟩ := CB.four H2.out.q; have qf := (CB.new w2 25 #[.int .i64 0, .int .i64 0, .int .i64 0, .int .i64 0]).frozen))
        | (go_at_call 16; ((with_reducible refine (HRM.out _).mono ?_); rintro e' w3 ⟨rfl, hb3⟩; have H3 := hi (H2.out.later hb3); clear hb3 a0 a1 a2 a3))
        | (go_at_call 22; ((with_reducible refine (HFL.out p g _ _ H3.out.m.mem H3.out.q (HC.out.below H3.out.m.below) (fun hne => by have := HC.out.lt hne; omega)).mono ?_); rintro e' w4 ⟨rfl, hq4⟩; have H4 := hi (And.intro (H3.out.qm hq4 z2.1) ((HC.out.below H3.out.m.below).kept hq4.kept (fun hne => by have := HC.out.lt hne; omega))); clear hq4; obtain ⟨a0, a1, a2, a3⟩ := CB.four H4.out.1.q))
        | (go_at_call 15; ((with_reducible refine (HLF.out _).mono ?_); rintro e' w5 ⟨rfl, hb5⟩; have H5 := hi (And.intro (H4.out.1.later hb5) (H4.out.2.below hb5)); clear hb5 a0 a1 a2 a3; obtain ⟨a0, a1, a2, a3⟩ := CB.four H5.out.1.q))
        | (go_at_call 16; ((with_reducible refine (HR2.out _).mono ?_); rintro e' w6 ⟨rfl, hb6⟩; have H6 := hi (And.intro (H5.out.1.later hb6) (H5.out.2.below hb6)); clear hb6 a0 a1 a2 a3; have hcm := H6.out.2.cells _ _ HCC.out; unfold cmdC at hcm; obtain ⟨m0, m1, m2, m3, m4, m5, m6, m7, m8⟩ := hcm; dsimp only at m0 m1 m2 m3 m4 m5 m6 m7 m8))
        | (go_at_call 23; ((with_reducible refine (HEN.out _).mono ?_); rintro e' w7 ⟨rfl, hb7⟩; have H7 := hi (H6.out.1.later hb7); clear hb7)))
      all_goals first | (go_ret; exact ⟨rfl, (H7.out.later (bal _ _)).m.below⟩) | (exfalso; simp at *; omega)

end Go.Proofs.Ytheajnfbphkigaa
