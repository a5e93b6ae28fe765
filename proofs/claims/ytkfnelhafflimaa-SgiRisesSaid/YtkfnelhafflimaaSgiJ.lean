/-
  The law SgiCalls at every call.
-/
import Derived.Test.YtkfnelhafflimaaSgiI
namespace Go.Proofs.Ytkfnelhafflimaa
open Go.ChangeShapes Go.WideShapes Go.ChangeAt Go.RowKit
set_option linter.unusedVariables false

theorem same_self (xs : List Int) (va vb : Value) (w : World) (ha : IntsAt w va xs) (hb : IntsAt w vb xs) (hx : xs.length ≤ 9223372036854775806) : Calls Try.prog 14 #[va, vb] w fun e w' => e = .returned (.bool true) ∧ Below w.heap.size w w' :=
  (same_any xs xs va vb w ha hb hx hx).mono fun e w' ⟨h1, m, h2⟩ => ⟨by rw [h1, sameB]; simp, by rw [h2]; exact Below.drewN (Below.refl _ _)⟩

set_option maxRecDepth 100000 in
set_option maxHeartbeats 4000000 in
theorem sgiCalls_any (c : Cl) (fr cores : Int) (w : World) : Calls Try.prog 4 #[c.v, .int .i64 fr, .int .i64 cores] w fun e w' => e = .returned (.bool true) ∧ Below w.heap.size w w' := by
  obtain ⟨id, all, tg, odd⟩ := c
  have C1 := hi (fun W => refTo_any all odd tg fr cores W)
  have C2 := hi (fun W => lawTo_any ⟨id, all, tg, odd⟩ fr cores W)
  have C3 := hi (fun W => many_any ⟨id, all, tg, odd⟩ fr cores W)
  have hr : refL all odd tg fr cores = toL ⟨id, all, tg, odd⟩ fr cores := rfl
  have hl := toL_len ⟨id, all, tg, odd⟩ fr cores
  rw [hr] at C1
  rw [← nums_len] at C3
  rw [← nums_len] at hl
  clear hr
  obtain ⟨xs, hx⟩ : ∃ xs, nums (toL ⟨id, all, tg, odd⟩ fr cores) = xs := ⟨_, rfl⟩
  rw [hx] at C1 C2 C3 hl
  clear hx
  go_enter Try.func4, Try.ntmps4
  go_wp2_with (first
    | (go_at_call 13; ((with_reducible refine (C1.out _).mono ?_); rintro e w1 ⟨sa, sc, rfl, hI, hb⟩; have H1 := hi (((AtG.nil w).new 24 #[.int .i64 id, .bool all, .int .i64 tg, .bool odd]).later hb); have HI := hi hI; clear hb hI))
    | (go_at_call 10; ((with_reducible refine (awake_any _).mono ?_); rintro e w2 ⟨rfl, hb⟩; have H2 := hi (H1.out.later hb); have HI2 := hi (intsAt_grew HI.out hb); obtain ⟨s0, s1, s2, s3⟩ := H2.out.b0.four; clear hb))
    | (go_at_call 15; ((with_reducible refine (C2.out _).mono ?_); rintro e w3 ⟨sa2, sc2, rfl, hJ, hb⟩; have H3 := hi (H2.out.later hb); have HI3 := hi (intsAt_grew HI2.out hb); have HJ := hi hJ; clear hb hJ s0 s1 s2 s3))
    | (go_at_call 14; ((with_reducible refine (same_self xs _ _ _ HJ.out HI3.out (by omega)).mono ?_); rintro e w4 ⟨rfl, hb⟩; have H4 := hi (H3.out.later hb); obtain ⟨s0, s1, s2, s3⟩ := H4.out.b0.four; clear hb))
    | (go_at_call 16; ((with_reducible refine (C3.out _).mono ?_); rintro e w5 ⟨rfl, hb⟩; have H5 := hi (H4.out.later hb); clear hb)))
  go_ret
  exact ⟨rfl, H5.out.below⟩

end Go.Proofs.Ytkfnelhafflimaa
