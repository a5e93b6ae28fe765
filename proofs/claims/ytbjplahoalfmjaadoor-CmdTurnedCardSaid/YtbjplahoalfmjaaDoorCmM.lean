/-
  CmdTurned: of a command's words with one bit turned there is another command, or none.
-/
import Derived.Test.YtbjplahoalfmjaaDoorCmK
import Derived.BigQuiet
import Derived.Deep.QuietTactic
namespace Go.Proofs.YtbjplahoalfmjaaDoor
open Go.ChangeShapes Go.WideShapes Go.ChangeAt Go.RowKit
set_option linter.unusedVariables false
set_option linter.unusedSimpArgs false
attribute [local go_sem high] eql_w neq_w guard_w eql_cm neq_cm guard_cm

theorem u64_xor_nat {a b : Nat} (ha : a < 18446744073709551616) (hb : b < 18446744073709551616) : bits .xor .u64 (a : Int) (b : Int) = ((a ^^^ b : Nat) : Int) := by
  show IntKind.u64.wrap ((BitVec.ofInt 64 (a : Int) ^^^ BitVec.ofInt 64 (b : Int)).toNat : Int) = _
  have e : (BitVec.ofInt 64 (a : Int) ^^^ BitVec.ofInt 64 (b : Int)).toNat = a ^^^ b := by
    rw [BitVec.toNat_xor, BitVec.ofInt_natCast, BitVec.ofInt_natCast, BitVec.toNat_ofNat, BitVec.toNat_ofNat, Nat.mod_eq_of_lt (show a < 2 ^ 64 by omega), Nat.mod_eq_of_lt (show b < 2 ^ 64 by omega)]
  have : a ^^^ b < 2 ^ 64 := Nat.xor_lt_two_pow (by omega) (by omega)
  rw [e, IntKind.wrap_u64]; omega
/-- The words with one bit turned. -/
def turnW (ws : Ws) (k b : Nat) : Ws := fun j => if j = k then ws j ^^^ 2 ^ b else ws j
theorem xor_ne (a b : Nat) : a ^^^ 2 ^ b ≠ a := fun h => by
  have h1 : (a ^^^ 2 ^ b).testBit b = a.testBit b := by rw [h]
  rw [Nat.testBit_xor, Nat.testBit_two_pow_self] at h1
  cases a.testBit b <;> simp at h1
theorem turned {c : Cm} (hc : validC c = true) {k b : Nat} (hk : k < 4) (h : decOk (turnW (wordsC c) k b) = true) : decR (turnW (wordsC c) k b) ≠ c := by
  intro e
  rw [decR, if_pos h] at e
  have h2 := h
  simp only [decOk, Bool.and_eq_true] at h2
  rw [e] at h2
  have h3 := h2.2
  simp only [sameW, Bool.and_eq_true, decide_eq_true_eq] at h3
  obtain ⟨⟨⟨h4, h5⟩, h6⟩, h7⟩ := h3
  have : k = 0 ∨ k = 1 ∨ k = 2 ∨ k = 3 := by omega
  have hx : wordsC c k = turnW (wordsC c) k b k := by rcases this with rfl | rfl | rfl | rfl <;> assumption
  rw [turnW, if_pos rfl] at hx
  exact xor_ne _ _ hx.symm

/-- The command's box. -/
structure B1 (w : World) (c : Cm) (W : World) : Prop where
  c : CB W w.heap.size 24 c.cs
  tab : TabW W
  below : Below w.heap.size w W
theorem B1.later {w : World} {c : Cm} {W W' : World} (h : B1 w c W) (k : Below W.heap.size W W') : B1 w c W' := ⟨h.c.below k, h.tab.below k, h.below.trans (k.mono h.below.size)⟩

set_option maxRecDepth 100000 in
set_option maxHeartbeats 8000000 in
theorem turned_law (c : Cm) (hc : i64B c.addr) (n p : Nat) (hn : n < 256) (hp : p < 256) (w : World) (hT : TabW w) : Calls Tryd.prog 8 #[c.v, .int .u8 n, .int .u8 p] w fun e w' => e = .returned (.bool true) ∧ Below w.heap.size w w' := by
  have HA := hi (fun W hW => awake_any W hW)
  have HEc := hi (fun W => encode_any c hc W)
  have H0 : B1 w c (w.alloc (.cells c.cs 24)) := ⟨CB.new w _ _, hT.below (bal w _), bal w _⟩
  have HH := hi H0
  obtain ⟨k, hk⟩ : ∃ k, n % 4 = k := ⟨_, rfl⟩
  obtain ⟨b, hb⟩ : ∃ b, p % 64 = b := ⟨_, rfl⟩
  have hk4 : k < 4 := by omega
  have hb64 : b < 64 := by omega
  cases hv : validC c
  · rw [hv, show errN false = 160 from rfl] at HEc
    have he : encW c = wz := by rw [encW, if_neg (by rw [hv]; decide)]
    rw [he] at HEc
    clear hv he H0 hT hc hk hb hk4 hb64
    obtain ⟨c1, c2, c3, c4, c5, c6, c7, c8, c9⟩ := c
    dsimp only [Cm.v, Cm.cs] at HEc HH ⊢
    go_enter Tryd.func8, Tryd.ntmps8
    go_wp2_with (first
      | (go_at_call 14; ((with_reducible refine (HA.out _ HH.out.tab).mono ?_); rintro e w1 ⟨rfl, hb1⟩; have H1 := HH.out.later hb1; clear hb1; obtain ⟨p0, p1, p2, p3, p4, p5, p6, p7, p8⟩ := CB.nine H1.c; have hzc : w.heap.size < w1.heap.size := H1.c.lt; have HH1 := hi H1; clear H1))
      | (go_at_call 10; ((with_reducible refine (HEc.out _).mono ?_); rintro e w2 ⟨rfl, hb2⟩; have HH2 := hi (HH1.out.later hb2).below; clear hb2)))
    go_ret
    exact ⟨rfl, HH2.out.alloc HH2.out.size _⟩
  · rw [hv, show errN true = 0 from rfl] at HEc
    have he : encW c = wordsC c := by rw [encW, if_pos hv]
    rw [he] at HEc
    have hwl := words_lt hv
    have hb2 : (2 : Nat) ^ b < 18446744073709551616 := Nat.pow_lt_pow_right (by decide) hb64
    have hlt : ∀ j, turnW (wordsC c) k b j < 18446744073709551616 := fun j => by
      unfold turnW
      split
      · exact Nat.xor_lt_two_pow (n := 64) (hwl j) hb2
      · exact hwl j
    have HDE := hi (fun W => decode_any (turnW (wordsC c) k b) hlt W)
    have HTN := hi (fun h => turned hv hk4 (b := b) h)
    obtain ⟨ws, hws⟩ : ∃ ws, wordsC c = ws := ⟨_, rfl⟩
    rw [hws] at HEc HDE HTN hwl
    have hx : bits .xor .u64 (ws k : Int) (IntKind.u64.wrap (2 ^ b)) = ((ws k ^^^ 2 ^ b : Nat) : Int) := by
      rw [← u64_xor_nat (hwl k) hb2]
      congr 1
      have e : ((2 : Int) ^ b) = ((2 ^ b : Nat) : Int) := by simp
      rw [e]
      obtain ⟨z, hz⟩ : ∃ z : Nat, 2 ^ b = z := ⟨_, rfl⟩
      rw [hz] at hb2 ⊢
      rw [IntKind.wrap_u64]; omega
    obtain ⟨y, hy⟩ : ∃ y, ws k ^^^ 2 ^ b = y := ⟨_, rfl⟩
    rw [hy] at hx
    have HY := hi hy
    clear he hws hwl hlt hy H0 hT hc
    obtain ⟨dk, hdk⟩ : ∃ dk, decOk (turnW ws k b) = dk := ⟨_, rfl⟩
    obtain ⟨D, hD⟩ : ∃ D, decR (turnW ws k b) = D := ⟨_, rfl⟩
    have hz : dk = false → D = Cm.zero := fun h => by rw [← hD, decR, if_neg (by rw [hdk, h]; decide)]
    rw [hdk, hD] at HDE HTN
    clear hdk hD hv
    have hk2 : (n : Int).tmod 4 = (k : Int) := by rw [Int.tmod_eq_emod_of_nonneg (by omega)]; omega
    have hb3 : (p : Int).tmod 64 = (b : Int) := by rw [Int.tmod_eq_emod_of_nonneg (by omega)]; omega
    have hk3 : (k : Int) < 4 := by omega
    -- CASES
    have hk5 : k = 0 ∨ k = 1 ∨ k = 2 ∨ k = 3 := by omega
    have hty : turnW ws k b k = y := by rw [turnW, if_pos rfl]; exact HY.out
    have htn : ∀ j, j ≠ k → turnW ws k b j = ws j := fun j h => by rw [turnW, if_neg h]
    unfold Wv at HDE
    obtain ⟨c1, c2, c3, c4, c5, c6, c7, c8, c9⟩ := c
    obtain ⟨d1, d2, d3, d4, d5, d6, d7, d8, d9⟩ := D
    dsimp only [Cm.v, Cm.cs] at HEc HH HDE ⊢
    have HZ := hi hz
    clear hz
    rcases hk5 with rfl | rfl | rfl | rfl
    · rw [hty, htn 1 (by decide), htn 2 (by decide), htn 3 (by decide)] at HDE
      clear hty htn
      cases dk
      · have hD := HZ.out rfl
        have hq2 : eqCm ⟨d1, d2, d3, d4, d5, d6, d7, d8, d9⟩ ⟨0, 0, 0, 0, 0, 0, 0, 0, false⟩ = true := by rw [hD]; decide
        rw [show errN false = 160 from rfl] at HDE
        clear HZ HTN hD
        go_enter Tryd.func8, Tryd.ntmps8
        go_wp2_with (first
          | (go_at_call 14; ((with_reducible refine (HA.out _ HH.out.tab).mono ?_); rintro e w1 ⟨rfl, hb1⟩; have H1 := HH.out.later hb1; clear hb1; obtain ⟨p0, p1, p2, p3, p4, p5, p6, p7, p8⟩ := CB.nine H1.c; have hzc : w.heap.size < w1.heap.size := H1.c.lt; have HH1 := hi H1; clear H1))
          | (go_at_call 10; ((with_reducible refine (HEc.out _).mono ?_); rintro e w2 ⟨rfl, hb2⟩; have HH2 := hi (HH1.out.later hb2); clear hb2; clear p0 p1 p2 p3 p4 p5 p6 p7 p8 hzc))
          | (go_at_call 12; ((with_reducible refine (HDE.out _).mono ?_); rintro e w3 ⟨rfl, hb3⟩; have H3 := (HH2.out.later (bal w2 _)).later hb3; clear hb3; obtain ⟨p0, p1, p2, p3, p4, p5, p6, p7, p8⟩ := CB.nine H3.c; have hzc : w.heap.size < w3.heap.size := H3.c.lt; have HH3 := hi H3.below; clear H3)))
        go_ret
        exact ⟨rfl, HH3.out.alloc HH3.out.size _⟩
      · have hD := HTN.out rfl
        have hq2 : eqCm ⟨d1, d2, d3, d4, d5, d6, d7, d8, d9⟩ ⟨c1, c2, c3, c4, c5, c6, c7, c8, c9⟩ = false := by rw [eqCm_iff]; simpa using hD
        rw [show errN true = 0 from rfl] at HDE
        clear HZ HTN hD
        go_enter Tryd.func8, Tryd.ntmps8
        go_wp2_with (first
          | (go_at_call 14; ((with_reducible refine (HA.out _ HH.out.tab).mono ?_); rintro e w1 ⟨rfl, hb1⟩; have H1 := HH.out.later hb1; clear hb1; obtain ⟨p0, p1, p2, p3, p4, p5, p6, p7, p8⟩ := CB.nine H1.c; have hzc : w.heap.size < w1.heap.size := H1.c.lt; have HH1 := hi H1; clear H1))
          | (go_at_call 10; ((with_reducible refine (HEc.out _).mono ?_); rintro e w2 ⟨rfl, hb2⟩; have HH2 := hi (HH1.out.later hb2); clear hb2; clear p0 p1 p2 p3 p4 p5 p6 p7 p8 hzc))
          | (go_at_call 12; ((with_reducible refine (HDE.out _).mono ?_); rintro e w3 ⟨rfl, hb3⟩; have H3 := (HH2.out.later (bal w2 _)).later hb3; clear hb3; obtain ⟨p0, p1, p2, p3, p4, p5, p6, p7, p8⟩ := CB.nine H3.c; have hzc : w.heap.size < w3.heap.size := H3.c.lt; have HH3 := hi H3.below; clear H3)))
        go_ret
        exact ⟨rfl, HH3.out.alloc HH3.out.size _⟩
    · rw [hty, htn 0 (by decide), htn 2 (by decide), htn 3 (by decide)] at HDE
      clear hty htn
      cases dk
      · have hD := HZ.out rfl
        have hq2 : eqCm ⟨d1, d2, d3, d4, d5, d6, d7, d8, d9⟩ ⟨0, 0, 0, 0, 0, 0, 0, 0, false⟩ = true := by rw [hD]; decide
        rw [show errN false = 160 from rfl] at HDE
        clear HZ HTN hD
        go_enter Tryd.func8, Tryd.ntmps8
        go_wp2_with (first
          | (go_at_call 14; ((with_reducible refine (HA.out _ HH.out.tab).mono ?_); rintro e w1 ⟨rfl, hb1⟩; have H1 := HH.out.later hb1; clear hb1; obtain ⟨p0, p1, p2, p3, p4, p5, p6, p7, p8⟩ := CB.nine H1.c; have hzc : w.heap.size < w1.heap.size := H1.c.lt; have HH1 := hi H1; clear H1))
          | (go_at_call 10; ((with_reducible refine (HEc.out _).mono ?_); rintro e w2 ⟨rfl, hb2⟩; have HH2 := hi (HH1.out.later hb2); clear hb2; clear p0 p1 p2 p3 p4 p5 p6 p7 p8 hzc))
          | (go_at_call 12; ((with_reducible refine (HDE.out _).mono ?_); rintro e w3 ⟨rfl, hb3⟩; have H3 := (HH2.out.later (bal w2 _)).later hb3; clear hb3; obtain ⟨p0, p1, p2, p3, p4, p5, p6, p7, p8⟩ := CB.nine H3.c; have hzc : w.heap.size < w3.heap.size := H3.c.lt; have HH3 := hi H3.below; clear H3)))
        go_ret
        exact ⟨rfl, HH3.out.alloc HH3.out.size _⟩
      · have hD := HTN.out rfl
        have hq2 : eqCm ⟨d1, d2, d3, d4, d5, d6, d7, d8, d9⟩ ⟨c1, c2, c3, c4, c5, c6, c7, c8, c9⟩ = false := by rw [eqCm_iff]; simpa using hD
        rw [show errN true = 0 from rfl] at HDE
        clear HZ HTN hD
        go_enter Tryd.func8, Tryd.ntmps8
        go_wp2_with (first
          | (go_at_call 14; ((with_reducible refine (HA.out _ HH.out.tab).mono ?_); rintro e w1 ⟨rfl, hb1⟩; have H1 := HH.out.later hb1; clear hb1; obtain ⟨p0, p1, p2, p3, p4, p5, p6, p7, p8⟩ := CB.nine H1.c; have hzc : w.heap.size < w1.heap.size := H1.c.lt; have HH1 := hi H1; clear H1))
          | (go_at_call 10; ((with_reducible refine (HEc.out _).mono ?_); rintro e w2 ⟨rfl, hb2⟩; have HH2 := hi (HH1.out.later hb2); clear hb2; clear p0 p1 p2 p3 p4 p5 p6 p7 p8 hzc))
          | (go_at_call 12; ((with_reducible refine (HDE.out _).mono ?_); rintro e w3 ⟨rfl, hb3⟩; have H3 := (HH2.out.later (bal w2 _)).later hb3; clear hb3; obtain ⟨p0, p1, p2, p3, p4, p5, p6, p7, p8⟩ := CB.nine H3.c; have hzc : w.heap.size < w3.heap.size := H3.c.lt; have HH3 := hi H3.below; clear H3)))
        go_ret
        exact ⟨rfl, HH3.out.alloc HH3.out.size _⟩
    · rw [hty, htn 0 (by decide), htn 1 (by decide), htn 3 (by decide)] at HDE
      clear hty htn
      cases dk
      · have hD := HZ.out rfl
        have hq2 : eqCm ⟨d1, d2, d3, d4, d5, d6, d7, d8, d9⟩ ⟨0, 0, 0, 0, 0, 0, 0, 0, false⟩ = true := by rw [hD]; decide
        rw [show errN false = 160 from rfl] at HDE
        clear HZ HTN hD
        go_enter Tryd.func8, Tryd.ntmps8
        go_wp2_with (first
          | (go_at_call 14; ((with_reducible refine (HA.out _ HH.out.tab).mono ?_); rintro e w1 ⟨rfl, hb1⟩; have H1 := HH.out.later hb1; clear hb1; obtain ⟨p0, p1, p2, p3, p4, p5, p6, p7, p8⟩ := CB.nine H1.c; have hzc : w.heap.size < w1.heap.size := H1.c.lt; have HH1 := hi H1; clear H1))
          | (go_at_call 10; ((with_reducible refine (HEc.out _).mono ?_); rintro e w2 ⟨rfl, hb2⟩; have HH2 := hi (HH1.out.later hb2); clear hb2; clear p0 p1 p2 p3 p4 p5 p6 p7 p8 hzc))
          | (go_at_call 12; ((with_reducible refine (HDE.out _).mono ?_); rintro e w3 ⟨rfl, hb3⟩; have H3 := (HH2.out.later (bal w2 _)).later hb3; clear hb3; obtain ⟨p0, p1, p2, p3, p4, p5, p6, p7, p8⟩ := CB.nine H3.c; have hzc : w.heap.size < w3.heap.size := H3.c.lt; have HH3 := hi H3.below; clear H3)))
        go_ret
        exact ⟨rfl, HH3.out.alloc HH3.out.size _⟩
      · have hD := HTN.out rfl
        have hq2 : eqCm ⟨d1, d2, d3, d4, d5, d6, d7, d8, d9⟩ ⟨c1, c2, c3, c4, c5, c6, c7, c8, c9⟩ = false := by rw [eqCm_iff]; simpa using hD
        rw [show errN true = 0 from rfl] at HDE
        clear HZ HTN hD
        go_enter Tryd.func8, Tryd.ntmps8
        go_wp2_with (first
          | (go_at_call 14; ((with_reducible refine (HA.out _ HH.out.tab).mono ?_); rintro e w1 ⟨rfl, hb1⟩; have H1 := HH.out.later hb1; clear hb1; obtain ⟨p0, p1, p2, p3, p4, p5, p6, p7, p8⟩ := CB.nine H1.c; have hzc : w.heap.size < w1.heap.size := H1.c.lt; have HH1 := hi H1; clear H1))
          | (go_at_call 10; ((with_reducible refine (HEc.out _).mono ?_); rintro e w2 ⟨rfl, hb2⟩; have HH2 := hi (HH1.out.later hb2); clear hb2; clear p0 p1 p2 p3 p4 p5 p6 p7 p8 hzc))
          | (go_at_call 12; ((with_reducible refine (HDE.out _).mono ?_); rintro e w3 ⟨rfl, hb3⟩; have H3 := (HH2.out.later (bal w2 _)).later hb3; clear hb3; obtain ⟨p0, p1, p2, p3, p4, p5, p6, p7, p8⟩ := CB.nine H3.c; have hzc : w.heap.size < w3.heap.size := H3.c.lt; have HH3 := hi H3.below; clear H3)))
        go_ret
        exact ⟨rfl, HH3.out.alloc HH3.out.size _⟩
    · rw [hty, htn 0 (by decide), htn 1 (by decide), htn 2 (by decide)] at HDE
      clear hty htn
      cases dk
      · have hD := HZ.out rfl
        have hq2 : eqCm ⟨d1, d2, d3, d4, d5, d6, d7, d8, d9⟩ ⟨0, 0, 0, 0, 0, 0, 0, 0, false⟩ = true := by rw [hD]; decide
        rw [show errN false = 160 from rfl] at HDE
        clear HZ HTN hD
        go_enter Tryd.func8, Tryd.ntmps8
        go_wp2_with (first
          | (go_at_call 14; ((with_reducible refine (HA.out _ HH.out.tab).mono ?_); rintro e w1 ⟨rfl, hb1⟩; have H1 := HH.out.later hb1; clear hb1; obtain ⟨p0, p1, p2, p3, p4, p5, p6, p7, p8⟩ := CB.nine H1.c; have hzc : w.heap.size < w1.heap.size := H1.c.lt; have HH1 := hi H1; clear H1))
          | (go_at_call 10; ((with_reducible refine (HEc.out _).mono ?_); rintro e w2 ⟨rfl, hb2⟩; have HH2 := hi (HH1.out.later hb2); clear hb2; clear p0 p1 p2 p3 p4 p5 p6 p7 p8 hzc))
          | (go_at_call 12; ((with_reducible refine (HDE.out _).mono ?_); rintro e w3 ⟨rfl, hb3⟩; have H3 := (HH2.out.later (bal w2 _)).later hb3; clear hb3; obtain ⟨p0, p1, p2, p3, p4, p5, p6, p7, p8⟩ := CB.nine H3.c; have hzc : w.heap.size < w3.heap.size := H3.c.lt; have HH3 := hi H3.below; clear H3)))
        go_ret
        exact ⟨rfl, HH3.out.alloc HH3.out.size _⟩
      · have hD := HTN.out rfl
        have hq2 : eqCm ⟨d1, d2, d3, d4, d5, d6, d7, d8, d9⟩ ⟨c1, c2, c3, c4, c5, c6, c7, c8, c9⟩ = false := by rw [eqCm_iff]; simpa using hD
        rw [show errN true = 0 from rfl] at HDE
        clear HZ HTN hD
        go_enter Tryd.func8, Tryd.ntmps8
        go_wp2_with (first
          | (go_at_call 14; ((with_reducible refine (HA.out _ HH.out.tab).mono ?_); rintro e w1 ⟨rfl, hb1⟩; have H1 := HH.out.later hb1; clear hb1; obtain ⟨p0, p1, p2, p3, p4, p5, p6, p7, p8⟩ := CB.nine H1.c; have hzc : w.heap.size < w1.heap.size := H1.c.lt; have HH1 := hi H1; clear H1))
          | (go_at_call 10; ((with_reducible refine (HEc.out _).mono ?_); rintro e w2 ⟨rfl, hb2⟩; have HH2 := hi (HH1.out.later hb2); clear hb2; clear p0 p1 p2 p3 p4 p5 p6 p7 p8 hzc))
          | (go_at_call 12; ((with_reducible refine (HDE.out _).mono ?_); rintro e w3 ⟨rfl, hb3⟩; have H3 := (HH2.out.later (bal w2 _)).later hb3; clear hb3; obtain ⟨p0, p1, p2, p3, p4, p5, p6, p7, p8⟩ := CB.nine H3.c; have hzc : w.heap.size < w3.heap.size := H3.c.lt; have HH3 := hi H3.below; clear H3)))
        go_ret
        exact ⟨rfl, HH3.out.alloc HH3.out.size _⟩

end Go.Proofs.YtbjplahoalfmjaaDoor
