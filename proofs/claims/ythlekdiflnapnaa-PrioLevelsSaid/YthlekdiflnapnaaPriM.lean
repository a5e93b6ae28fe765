/-
  Package prio, the law PrioLevels: it answers true at every input.
-/
import Derived.Test.YthlekdiflnapnaaPriL
namespace Go.Proofs.Ythlekdiflnapnaa
open Go.ChangeShapes Go.WideShapes Go.ChangeAt Go.RowKit Go.Shelf
set_option linter.unusedVariables false

theorem ownI_slice {W : World} {base : Nat} {v : Value} {n : Nat} {cs : List Value} (h : W.ownsRow base 3 1 v n cs) : ∃ a c, v = .slice a n c := by
  rcases h.2 with ⟨rfl, rfl⟩ | ⟨g, cap, cur, rfl, _⟩
  · exact ⟨_, _, rfl⟩
  · exact ⟨_, _, rfl⟩
/-- A slice that holds n numbers, these. -/
theorem refLevels_ints (m : Int) (w : World) : Calls Try.prog 22 #[.int .i64 m] w (SomeInts w (lvs m)) :=
  (refLevels_any m w).mono fun e W' ⟨o, he, ho, hb⟩ => by
    subst he
    obtain ⟨a, cap, rfl, hcap, hc⟩ := intsAt_row ho
    exact ⟨a, cap, rfl, ⟨a, cap, rfl, hcap, hc⟩, hb⟩

set_option maxRecDepth 100000 in
set_option maxHeartbeats 4000000 in
theorem lawLevels'_any (m g t : Int) (ps ids : List Int) (a b : Option Addr) (n1 n2 cap cap2 : Nat) (w : World) (ha : IntsAt w (.slice a n1 cap) ps) (hb : IntsAt w (.slice b n2 cap2) ids) (hx : n1 ≤ 9223372036854775806) (hy : n2 ≤ 9223372036854775806) :
    Calls Try.prog 4 #[.int .i64 m, .int .i64 g, .int .i64 t, .slice a n1 cap, .slice b n2 cap2] w fun e w' => e = .returned (.bool true) ∧ Below w.heap.size w w' := by
  have HA := hi ha
  have HB := hi hb
  clear ha hb
  obtain ⟨M, hM⟩ : ∃ M, maskV g t = M := ⟨_, rfl⟩
  obtain ⟨xs, hxs⟩ : ∃ xs, lvs m = xs := ⟨_, rfl⟩
  obtain ⟨ys, hys⟩ : ∃ ys, lvs M = ys := ⟨_, rfl⟩
  obtain ⟨fv, hfv⟩ : ∃ fv, firstV ps ids = fv := ⟨_, rfl⟩
  have hlx : xs.length ≤ 32 := hxs ▸ lvs_len m
  have hly : ys.length ≤ 32 := hys ▸ lvs_len M
  have c1 := hi fun W => hxs ▸ lawLevels_any m W
  have c2 := hi fun W => hxs ▸ refLevels_ints m W
  have hpv : pointsV g t = (ys.length : Int) := by rw [pointsV, hM, hys]
  have c3 := hi fun W => hpv ▸ points_any g t W
  have c4 := hi fun W => hM ▸ refMask_any g t W
  have c5 := hi fun W => hys ▸ refLevels_ints M W
  have c6 := hi fun (W : World) (ha : IntsAt W (.slice a n1 cap) ps) (hb : IntsAt W (.slice b n2 cap2) ids) => hfv ▸ first_any ps ids a b n1 n2 cap cap2 W ha hb hx hy
  have c7 := hi fun (W : World) (ha : IntsAt W (.slice a n1 cap) ps) (hb : IntsAt W (.slice b n2 cap2) ids) => hfv ▸ refFirst_any ps ids a b n1 n2 cap cap2 W ha hb hx hy
  have c8 : Hi (∀ (W : World) (va vb : Value), IntsAt W va xs → IntsAt W vb xs → Calls Try.prog 20 #[va, vb] W fun e w' => e = .returned (.bool true) ∧ ∃ q, w' = W.drewN q) := hi fun W va vb h1 h2 => by
    have := same_any xs xs va vb W h1 h2 (by omega) (by omega)
    rw [show sameB xs xs = true by simp [sameB]] at this
    exact this
  clear hM hxs hys hfv hpv
  go_enter Try.func4, Try.ntmps4
  go_wp2_with (first
    | (go_at_call 10; ((with_reducible refine (awake_any _).mono ?_); rintro e w1 ⟨rfl, hb1⟩; have hA1 := hi (intsAt_grew HA.out hb1); have hB1 := hi (intsAt_grew HB.out hb1); replace hb1 := hi hb1))
    | (go_at_call 21; ((with_reducible refine (c1.out _).mono ?_); rintro e w2 ⟨a2, k2, rfl, h2, hb2⟩; have hA2 := hi (intsAt_grew hA1.out hb2); have hB2 := hi (intsAt_grew hB1.out hb2); replace h2 := hi h2; replace hb2 := hi (hb1.out.trans (hb2.mono hb1.out.size))))
    | (go_at_call 22; ((with_reducible refine (c2.out _).mono ?_); rintro e w3 ⟨a3, k3, rfl, h3, hb3⟩; have hA3 := hi (intsAt_grew hA2.out hb3); have hB3 := hi (intsAt_grew hB2.out hb3); have h23 := hi (intsAt_grew h2.out hb3); replace h3 := hi h3; replace hb3 := hi (hb2.out.trans (hb3.mono hb2.out.size))))
    | (go_at_call 20; ((with_reducible refine (c8.out _ _ _ h23.out h3.out).mono ?_); rintro e w4 ⟨rfl, q4, rfl⟩))
    | (go_at_call 23; ((with_reducible refine (c3.out _).mono ?_); rintro e w5 ⟨rfl, hb5⟩; have hA5 := hi (intsAt_grew (intsAt_drewN hA3.out _) hb5); have hB5 := hi (intsAt_grew (intsAt_drewN hB3.out _) hb5); replace hb5 := hi ((Below.drewN hb3.out).trans (hb5.mono hb3.out.size))))
    | (go_at_call 14; ((with_reducible refine (c4.out _).mono ?_); rintro e w6 ⟨rfl, rfl⟩))
    | (go_at_call 22; ((with_reducible refine (c5.out _).mono ?_); rintro e w7 ⟨a7, k7, rfl, h7, hb7⟩; have hA7 := hi (intsAt_grew hA5.out hb7); have hB7 := hi (intsAt_grew hB5.out hb7); clear h7; replace hb7 := hi (hb5.out.trans (hb7.mono hb5.out.size))))
    | (go_at_call 24; ((with_reducible refine (c6.out _ hA7.out hB7.out).mono ?_); rintro e w8 ⟨rfl, q8, rfl⟩))
    | (go_at_call 25; ((with_reducible refine (c7.out _ (intsAt_drewN hA7.out _) (intsAt_drewN hB7.out _)).mono ?_); rintro e w9 ⟨rfl, q9, rfl⟩)))
  go_ret
  exact ⟨rfl, Below.drewN hb7.out⟩

end Go.Proofs.Ythlekdiflnapnaa
