/-
  The document's place, Has, Set.
-/
import Derived.Test.YtnnlimjbmfpalaaLadQ
import Derived.IntWalk
namespace Go.Proofs.Ytnnlimjbmfpalaa
open Go.ChangeShapes Go.WideShapes Go.ChangeAt Go.RowKit
set_option linter.unusedVariables false

/-- The lowest j bits of what counts of a priority. -/
def lowK (p : Int) (j : Nat) : Int := p / 8 % 2 ^ j
theorem lowK_bit {p : Int} {j : Nat} (hj : j < 5) : lowK p (j + 1) = lowK p j + p / 2 ^ (3 + j) % 2 * 2 ^ j := by
  rcases (show j = 0 ∨ j = 1 ∨ j = 2 ∨ j = 3 ∨ j = 4 by omega) with rfl | rfl | rfl | rfl | rfl <;> (unfold lowK; simp only [Nat.reduceAdd]; omega)
theorem lowK_bd (p : Int) {j : Nat} (hj : j ≤ 5) : 0 ≤ lowK p j ∧ lowK p j < 32 := by
  rcases (show j = 0 ∨ j = 1 ∨ j = 2 ∨ j = 3 ∨ j = 4 ∨ j = 5 by omega) with rfl | rfl | rfl | rfl | rfl | rfl <;> (unfold lowK; omega)

set_option maxHeartbeats 2000000 in
theorem rplace_any (g p : Int) (w : World) : Calls Try.prog 60 #[.int .i64 g, .int .i64 p] w fun e w' => e = .returned (.int .i64 (plc g p : Int)) ∧ w' = w := by
  have hg1 : bits .and .i64 g 1 = (gO g : Int) := by rw [i64_and1]; unfold gO; omega
  have hgl := gO_lt g
  have hkk : lowK p 5 = (kO p : Int) := by unfold lowK kO; omega
  have hpl : (plc g p : Int) = 2 * (kO p : Int) + (gO g : Int) := by unfold plc; omega
  have hkl := kO_lt p
  rw [hpl]
  obtain ⟨G, hG⟩ : ∃ G, gO g = G := ⟨_, rfl⟩
  obtain ⟨k, hk⟩ : ∃ k, kO p = k := ⟨_, rfl⟩
  rw [hG] at hg1 hgl ⊢
  rw [hk] at hkk hkl ⊢
  have HK := hi hkk
  clear hG hk hpl hkk
  go_enter Try.func60, Try.ntmps60
  go_wp2
  go_loopw [5, 6] (fun a i wr => ∃ j : Nat, j ≤ 5 ∧ a = .int .i64 (lowK p j) ∧ i = .int .i64 (3 + (j : Int)) ∧ wr = w) (fun _ i _ => 8 - (intOf i).toNat)
  case atStart => exact ⟨0, by omega, by unfold lowK; congr 1; omega, rfl, rfl⟩
  case round =>
    obtain ⟨j, hj, rfl, rfl, rfl⟩ := hrel
    by_cases hlt : j < 5
    · have hb1 := lowK_bd p (show j ≤ 5 by omega)
      have hb2 := lowK_bd p (show j + 1 ≤ 5 by omega)
      have hst := lowK_bit (p := p) hlt
      have hbit := i64_and1 (p / 2 ^ (3 + j))
      have hp2 : (2 : Int) ^ j ≤ 16 ∧ (0 : Int) < 2 ^ j := by
        rcases (show j = 0 ∨ j = 1 ∨ j = 2 ∨ j = 3 ∨ j = 4 by omega) with rfl | rfl | rfl | rfl | rfl <;> decide
      rcases (show p / 2 ^ (3 + j) % 2 = 0 ∨ p / 2 ^ (3 + j) % 2 = 1 by omega) with h0 | h0
      · rw [h0] at hbit hst
        have HS := hi (show lowK p (j + 1) = lowK p j by omega)
        go_wp2
        exact ⟨⟨j + 1, by omega, by rw [HS.out], congrArg (Value.int .i64) (by omega), trivial⟩, by simp only [intOf]; omega⟩
      · rw [h0] at hbit hst
        have HS := hi (show wrap64 (lowK p j + wrap64 (2 ^ j)) = lowK p (j + 1) by rw [IntWalk.wrap64_in (2 ^ j) (by omega), IntWalk.wrap64_in _ (by omega)]; omega)
        go_wp2
        exact ⟨⟨j + 1, by omega, congrArg (Value.int .i64) HS.out, congrArg (Value.int .i64) (by omega), trivial⟩, by simp only [intOf]; omega⟩
    · obtain rfl : j = 5 := by omega
      rw [HK.out]
      go_wp2
      go_ret
      exact ⟨rfl, rfl⟩

set_option maxRecDepth 20000 in
set_option maxHeartbeats 2000000 in
theorem rset_any (f : Rg) (g p : Int) (v : Bool) (w : World) : Calls Try.prog 51 #[rv f, .int .i64 g, .int .i64 p, .bool v] w fun e w' => e = .returned (rv (put f (plc g p) v)) ∧ Below w.heap.size w w' := by
  have HP := hi (fun W => rplace_any g p W)
  have hlt := plc_lt g p
  obtain ⟨q, hq⟩ : ∃ q, plc g p = q := ⟨_, rfl⟩
  rw [hq] at HP hlt ⊢
  have hset := bsA_set f hlt v
  have c0 := CB.bit (CB.alloc (CB.new w 34 (bsA f)) (.cells (bsA f0) 34)) hlt
  have hb : CB ((w.alloc (.cells (bsA (put f q v)) 34)).alloc (.cells (bsA f0) 34)) w.heap.size 34 (bsA (put f q v)) := (CB.new w _ _).alloc _
  have hc : CB ((w.alloc (.cells (bsA (put f q v)) 34)).alloc (.cells (bsA f0) 34)) (w.heap.size + 1) 34 (bsA f0) := cb_second
  have hB : Below w.heap.size w ((w.alloc (.cells (bsA (put f q v)) 34)).alloc (.cells (bsA f0) 34)) := bal_two _ _ _
  have HS1 := hi hb.rangeB
  have HT := hi (show World.there _ (w.heap.size + 1) 0 (bsA (put f q v)).size by rw [bsA_size]; exact hc.thereB (bsA_size _))
  have HR := hi (hc.whole (bsA_size _) (put f q v))
  have HB := hi (below_cells (b := w.heap.size + 1) (by omega) (bsL (put f q v)) 0 _ hB)
  have H1 := hi (bsA_one (put f q v))
  have HZ := hi (size_ref (put f q v))
  have HZA := hi (size_refA (put f q v))
  unfold rv
  clear hb hc hB hq
  go_enter Try.func51, Try.ntmps51
  go_wp2_with (first
    | (go_at_call 60; ((with_reducible refine (HP.out _).mono ?_); rintro e w1 ⟨rfl, rfl⟩))
    | (refine wpList_alloc_ref rfl rfl ?_)
    | (refine wpList_load_mid rfl 34 (.tmp 4) rfl w.heap.size 0 rfl (bsL (put f q v)) _ HS1.out Try.underlying34 rfl HZ.out ?_)
    | (refine wpList_store_mid rfl 34 (.tmp 8) (.tmp 15) rfl (w.heap.size + 1) 0 (bsA (put f q v)) rfl rfl HT.out HZA.out H1.out ?_))
  exact bodyPost_ret (results_ref rfl _ _ (w.heap.size + 1) (put f q v) rfl HR.out) rfl ⟨rfl, HB.out⟩

end Go.Proofs.Ytnnlimjbmfpalaa
