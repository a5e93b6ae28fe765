/-
  The law SgiMore at every call.
-/
import Derived.Test.YtkfnelhafflimaaSgiK
namespace Go.Proofs.Ytkfnelhafflimaa
open Go.ChangeShapes Go.WideShapes Go.ChangeAt Go.RowKit
set_option linter.unusedVariables false

theorem AtG.cells2 {w W : World} {b c : Nat} {t u : TypeId} {p q r s p' q' r' s' : Value} (h : AtG w [(b, t, #[p, q, r, s]), (c, u, #[p', q', r', s'])] W) :
    W.cell? ⟨b, 0, none⟩ = some p ∧ W.cell? ⟨b, 1, none⟩ = some q ∧ W.cell? ⟨b, 2, none⟩ = some r ∧ W.cell? ⟨b, 3, none⟩ = some s ∧ W.cell? ⟨c, 0, none⟩ = some p' ∧ W.cell? ⟨c, 1, none⟩ = some q' ∧ W.cell? ⟨c, 2, none⟩ = some r' ∧ W.cell? ⟨c, 3, none⟩ = some s' ∧ AtG w [(b, t, #[p, q, r, s]), (c, u, #[p', q', r', s'])] W :=
  ⟨h.b0.cell 0, h.b0.cell 1, h.b0.cell 2, h.b0.cell 3, h.tl.b0.cell 0, h.tl.b0.cell 1, h.tl.b0.cell 2, h.tl.b0.cell 3, h⟩

/-! ### Plain -/
theorem isIn_nums {xs : List Nat} {i : Nat} : isIn (nums xs) (i : Int) = decide (i ∈ xs) := by
  have h : ((i : Int) ∈ nums xs) ↔ i ∈ xs := by
    simp only [nums, List.mem_map]
    constructor
    · rintro ⟨a, h1, h2⟩
      have : a = i := by omega
      subst this; exact h1
    · exact fun h => ⟨i, h, rfl⟩
  by_cases hm : i ∈ xs
  · simp [isIn, h.2 hm, hm]
  · have : ¬ (i : Int) ∈ nums xs := fun x => hm (h.1 x)
    simp [isIn, this, hm]
theorem callV_more {id tg more fr : Int} {all odd : Bool} {k : Nat} (hk : k < 8) (h : callV ⟨id, all, tg, odd⟩ fr k = true) : callV ⟨id, all, bits .or .i64 tg more, odd⟩ fr k = true := by
  unfold callV at h ⊢
  cases all
  · simp only [Bool.false_eq_true, if_false, Bool.and_eq_true] at h ⊢
    exact ⟨h.1, by rw [bt_or _ _ _ hk, h.2]; rfl⟩
  · simpa using h
theorem more_in (id tg more fr cores : Int) (all odd : Bool) {k : Nat} (h : k < (nums (toL ⟨id, all, tg, odd⟩ fr cores)).length) :
    isIn (nums (toL ⟨id, all, bits .or .i64 tg more, odd⟩ fr cores)) ((nums (toL ⟨id, all, tg, odd⟩ fr cores))[k]?.getD 0) = true := by
  rw [nums_len] at h
  rw [nums_at h, isIn_nums, decide_eq_true_eq]
  obtain ⟨h1, h2⟩ : (toL ⟨id, all, tg, odd⟩ fr cores)[k] < capN cores ∧ callV ⟨id, all, tg, odd⟩ fr (toL ⟨id, all, tg, odd⟩ fr cores)[k] = true := upto_at (callV ⟨id, all, tg, odd⟩ fr) (capN cores) k h
  have := capN_le cores
  exact (mem_upto _ _ _).2 ⟨h1, callV_more (by omega) h2⟩
theorem odd_none (id tg fr cores : Int) : toL ⟨id, false, tg, true⟩ fr cores = [] := upto_none (fun i _ => by simp [callV])
theorem capN_mono (cores : Int) : capN cores ≤ capN (cores + 1) := by unfold capN; omega
theorem more_len (c : Cl) (fr cores : Int) : (nums (toL c fr cores)).length ≤ (nums (toL c fr (cores + 1))).length := by
  rw [nums_len, nums_len]
  exact upto_le (capN_mono cores)

set_option maxRecDepth 100000 in
set_option maxHeartbeats 8000000 in
theorem sgiMore_any (c : Cl) (more fr cores : Int) (w : World) (hlo : -9223372036854775808 ≤ cores) : Calls Try.prog 8 #[c.v, .int .i64 more, .int .i64 fr, .int .i64 cores] w fun e w' => e = .returned (.bool true) ∧ Below w.heap.size w w' := by
  obtain ⟨id, all, tg, odd⟩ := c
  have C1 := hi (fun W => lawTo_any ⟨id, all, tg, odd⟩ fr cores W)
  have C2 := hi (fun W => lawTo_any ⟨id, all, bits .or .i64 tg more, odd⟩ fr cores W)
  have C3 : Hi (all = false → ∀ W, Calls Try.prog 15 #[.agg #[.int .i64 id, .bool all, .int .i64 tg, .bool true], .int .i64 fr, .int .i64 cores] W fun e w' => ∃ a cap, e = .returned (.slice a 0 cap) ∧ Below W.heap.size W w') := hi (fun ha W => by
    subst ha
    have h := lawTo_any ⟨id, false, tg, true⟩ fr cores W
    rw [odd_none] at h
    exact h.mono fun e w' ⟨a, cap, h1, _, h3⟩ => ⟨a, cap, h1, h3⟩)
  have C4 := hi (fun W => lawTo_any ⟨id, all, tg, odd⟩ fr (cores + 1) W)
  have hin := hi (fun (k : Nat) => more_in id tg more fr cores all odd (k := k))
  have hge := more_len ⟨id, all, tg, odd⟩ fr cores
  have hl := toL_len ⟨id, all, tg, odd⟩ fr cores
  have hl2 := toL_len ⟨id, all, bits .or .i64 tg more, odd⟩ fr cores
  have hl3 := toL_len ⟨id, all, tg, odd⟩ fr (cores + 1)
  rw [← nums_len] at hl hl2 hl3
  obtain ⟨xs, hx⟩ : ∃ xs, nums (toL ⟨id, all, tg, odd⟩ fr cores) = xs := ⟨_, rfl⟩
  obtain ⟨ys, hy⟩ : ∃ ys, nums (toL ⟨id, all, bits .or .i64 tg more, odd⟩ fr cores) = ys := ⟨_, rfl⟩
  obtain ⟨zs, hz⟩ : ∃ zs, nums (toL ⟨id, all, tg, odd⟩ fr (cores + 1)) = zs := ⟨_, rfl⟩
  rw [hx] at C1 hin hge hl
  rw [hy] at C2 hin hl2
  rw [hz] at C4 hge hl3
  clear hx hy hz
  go_enter Try.func8, Try.ntmps8
  go_wp2_with (go_at_call 10; ((with_reducible refine (awake_any _).mono ?_); rintro e w1 ⟨rfl, hb⟩; have H1 := hi (((AtG.nil w).new 24 #[.int .i64 id, .bool all, .int .i64 tg, .bool odd]).later hb); obtain ⟨s0, s1, s2, s3⟩ := H1.out.b0.four; have hl1 := H1.out.b0.lt; clear hb))
  have H2 := hi (H1.out.new 24 #[.int .i64 id, .bool all, .int .i64 (bits .or .i64 tg more), .bool odd])
  refine wp_region_noPanic ?_
  refine wp_region_held_drew (S := (fun w' => w'.cell? ⟨w1.heap.size, 0, none⟩ = some (.int .i64 id) ∧ w'.cell? ⟨w1.heap.size, 1, none⟩ = some (.bool all) ∧ w'.cell? ⟨w1.heap.size, 2, none⟩ = some (.int .i64 (bits .or .i64 tg more)) ∧ w'.cell? ⟨w1.heap.size, 3, none⟩ = some (.bool odd) ∧ w'.cell? ⟨w.heap.size, 0, none⟩ = some (.int .i64 id) ∧ w'.cell? ⟨w.heap.size, 1, none⟩ = some (.bool all) ∧ w'.cell? ⟨w.heap.size, 2, none⟩ = some (.int .i64 tg) ∧ w'.cell? ⟨w.heap.size, 3, none⟩ = some (.bool odd) ∧ AtG w [(w1.heap.size, 24, #[.int .i64 id, .bool all, .int .i64 (bits .or .i64 tg more), .bool odd]), (w.heap.size, 24, #[.int .i64 id, .bool all, .int .i64 tg, .bool odd])] w')) (by kernel_rfl) H2.out.drew.cells2 (fun hHeld => ?_)
  (try simp only [Array.replicate_succ, Array.replicate_zero, List.push_toArray, List.nil_append, List.cons_append])
  refine wpAnyH_take (i := 0) (v := ?_) rfl (by kernel_rfl) (by kernel_rfl) (by kernel_rfl) (fun _ _ _ h => h) (Or.inl ⟨by rfl, ?_⟩) (by assumption) ?_
  rotate_left
  · intro w' hSw; (try dsimp only at hSw); obtain ⟨hs0, hs1, hs2, hs3, hs4, hs5, hs6, hs7, hs8⟩ := hSw; go_simp; (try with_reducible rfl)
  (try simp only [Act.put, List.getElem_toArray, List.getElem_cons_zero, List.setIfInBounds_toArray, List.set_cons_zero, List.set_cons_succ])
  refine wpAnyH_take (i := 1) (v := ?_) rfl (by kernel_rfl) (by kernel_rfl) (by kernel_rfl) (fun _ _ _ h => h) (Or.inl ⟨by rfl, ?_⟩) (by assumption) ?_
  rotate_left
  · intro w' hSw; (try dsimp only at hSw); obtain ⟨hs0, hs1, hs2, hs3, hs4, hs5, hs6, hs7, hs8⟩ := hSw; go_simp; (try with_reducible rfl)
  (try simp only [Act.put, List.getElem_toArray, List.getElem_cons_zero, List.getElem_cons_succ, List.setIfInBounds_toArray, List.set_cons_zero, List.set_cons_succ])
  refine wpAnyH_take (i := 2) (v := ?_) rfl (by kernel_rfl) (by kernel_rfl) (by kernel_rfl) (fun _ _ _ h => h) (Or.inl ⟨by rfl, ?_⟩) (by assumption) ?_
  rotate_left
  · intro w' hSw; (try dsimp only at hSw); obtain ⟨hs0, hs1, hs2, hs3, hs4, hs5, hs6, hs7, hs8⟩ := hSw; go_simp; (try with_reducible rfl)
  (try simp only [Act.put, List.getElem_toArray, List.getElem_cons_zero, List.getElem_cons_succ, List.setIfInBounds_toArray, List.set_cons_zero, List.set_cons_succ])
  refine wpAnyH_take (i := 4) (v := ?_) rfl (by kernel_rfl) (by kernel_rfl) (by kernel_rfl) (fun _ _ _ h => h) (Or.inl ⟨by rfl, ?_⟩) (by assumption) ?_
  rotate_left
  · intro w' hSw; (try dsimp only at hSw); obtain ⟨hs0, hs1, hs2, hs3, hs4, hs5, hs6, hs7, hs8⟩ := hSw; go_simp; (try with_reducible rfl)
  (try simp only [Act.put, List.getElem_toArray, List.getElem_cons_zero, List.getElem_cons_succ, List.setIfInBounds_toArray, List.set_cons_zero, List.set_cons_succ])
  refine wpAnyH_take (i := 5) (v := ?_) rfl (by kernel_rfl) (by kernel_rfl) (by kernel_rfl) (fun _ _ _ h => h) (Or.inl ⟨by rfl, ?_⟩) (by assumption) ?_
  rotate_left
  · intro w' hSw; (try dsimp only at hSw); obtain ⟨hs0, hs1, hs2, hs3, hs4, hs5, hs6, hs7, hs8⟩ := hSw; go_simp; (try with_reducible rfl)
  (try simp only [Act.put, List.getElem_toArray, List.getElem_cons_zero, List.getElem_cons_succ, List.setIfInBounds_toArray, List.set_cons_zero, List.set_cons_succ])
  refine wpAnyH_take (i := 6) (v := ?_) rfl (by kernel_rfl) (by kernel_rfl) (by kernel_rfl) (fun _ _ _ h => h) (Or.inl ⟨by rfl, ?_⟩) (by assumption) ?_
  rotate_left
  · intro w' hSw; (try dsimp only at hSw); obtain ⟨hs0, hs1, hs2, hs3, hs4, hs5, hs6, hs7, hs8⟩ := hSw; go_simp; (try with_reducible rfl)
  (try simp only [Act.put, List.getElem_toArray, List.getElem_cons_zero, List.getElem_cons_succ, List.setIfInBounds_toArray, List.set_cons_zero, List.set_cons_succ])
  refine wpAnyH_ready (rs := [3]) (by kernel_rfl) (by simp) ?_
  refine AllReadyH.cons rfl (fun KK hKK => ?_) AllReadyH.nil
  go_simp
  ((with_reducible refine (C1.out _).mono ?_); rintro e' w2 ⟨sa, sc, rfl, hI, hb⟩; have HI := hi hI; clear hI)
  (try go_simp)
  refine hKK.out _ _ (hHeld.2.2.2.2.2.2.2.2.later hb).cells2 (fun hHeld => ?_)
  clear hKK KK
  (try simp only [Act.put, List.getElem_toArray, List.getElem_cons_zero, List.getElem_cons_succ, List.setIfInBounds_toArray, List.set_cons_zero, List.set_cons_succ])
  refine wpAnyH_ready (rs := [7]) (by kernel_rfl) (by simp) ?_
  refine AllReadyH.cons rfl (fun KK hKK => ?_) AllReadyH.nil
  go_simp
  ((with_reducible refine (C2.out _).mono ?_); rintro e' w3 ⟨sb, sd, rfl, hJ, hb⟩; have HI3 := hi (intsAt_grew HI.out hb); have HJ := hi hJ; clear hJ)
  (try go_simp)
  refine hKK.out _ _ (hHeld.2.2.2.2.2.2.2.2.later hb).cells2 (fun hHeld => ?_)
  clear hKK KK
  (try simp only [Act.put, List.getElem_toArray, List.getElem_cons_zero, List.getElem_cons_succ, List.setIfInBounds_toArray, List.set_cons_zero, List.set_cons_succ])
  refine wpAnyH_take (i := 8) (v := ?_) rfl (by kernel_rfl) (by kernel_rfl) (by kernel_rfl) (fun _ _ _ h => h) (Or.inl ⟨by rfl, ?_⟩) (by assumption) ?_
  rotate_left
  · intro w' hSw; (try dsimp only at hSw); obtain ⟨hs0, hs1, hs2, hs3, hs4, hs5, hs6, hs7, hs8⟩ := hSw; go_simp; (try with_reducible rfl)
  (try simp only [Act.put, List.getElem_toArray, List.getElem_cons_zero, List.getElem_cons_succ, List.setIfInBounds_toArray, List.set_cons_zero, List.set_cons_succ])
  refine wpAnyH_take (i := 9) (v := ?_) rfl (by kernel_rfl) (by kernel_rfl) (by kernel_rfl) (fun _ _ _ h => h) (Or.inl ⟨by rfl, ?_⟩) (by assumption) ?_
  rotate_left
  · intro w' hSw; (try dsimp only at hSw); obtain ⟨hs0, hs1, hs2, hs3, hs4, hs5, hs6, hs7, hs8⟩ := hSw; go_simp; (try with_reducible rfl)
  (try simp only [Act.put, List.getElem_toArray, List.getElem_cons_zero, List.getElem_cons_succ, List.setIfInBounds_toArray, List.set_cons_zero, List.set_cons_succ])
  refine wpAnyH_done (by kernel_rfl) ?_ _
  refine NoPanic.normal ?_
  have H3 := hi hHeld.2.2.2.2.2.2.2.2.tl
  clear hHeld
  go_wp2
  go_loop [13] (fun i => ∃ k : Nat, k ≤ xs.length ∧ i = .int .i64 k) (fun i => xs.length - (intOf i).toNat)
  case atStart => exact ⟨0, Nat.zero_le _, rfl⟩
  case round =>
    obtain ⟨k, hk, rfl⟩ := hrel
    by_cases hlt : k < xs.length
    · have hne : xs ≠ [] := fun e => by simp [e] at hlt
      obtain ⟨x, ex⟩ : ∃ x, xs[k]?.getD 0 = x := ⟨_, rfl⟩
      have hi1 := hin.out k hlt
      obtain ⟨aa, ca, he, _, hcs⟩ := HI3.out
      obtain ⟨rfl, rfl⟩ : sa = aa ∧ sc = ca := by simpa using he
      obtain ⟨b1, o1, rfl, hc⟩ := hcs hne
      have hc1 := hc k hlt
      rw [ex] at hc1 hi1
      have HH := hi (ints_has ys x _ w3 HJ.out (by omega))
      rw [hi1] at HH
      clear hi1 hc he hcs ex hne
      go_wp2_with (go_at_call 19; ((with_reducible refine HH.out.mono ?_); rintro e w4 ⟨rfl, rfl⟩))
      go_round
      case rel => exact ⟨k + 1, by omega, by go_num⟩
      case measure => simp [intOf]; omega
    · obtain rfl : k = xs.length := by omega
      obtain ⟨s0, s1, s2, s3⟩ := H3.out.b0.four
      have hl9 := H3.out.b0.lt
      have hk9 : (xs.length : Int) ≤ (zs.length : Int) := by omega
      clear hk hlt
      by_cases hbig : 1099511627776 < cores
      · cases all
        · go_wp2_with (first
            | (go_at_call 15; ((with_reducible refine (C3.out rfl _).mono ?_); rintro e w4 ⟨sa3, sc3, rfl, hb⟩; have H4 := hi ((H3.out.new 24 #[.int .i64 id, .bool false, .int .i64 tg, .bool true]).later hb); obtain ⟨s0, s1, s2, s3⟩ := H4.out.tl.b0.four; clear hb)))
          go_ret
          exact ⟨rfl, H4.out.below⟩
        · have HE := hi (H3.out.new 24 #[.int .i64 id, .bool true, .int .i64 tg, .bool true])
          go_wp2
          go_ret
          exact ⟨rfl, HE.out.below⟩
      · have hd : decide ((1099511627776 : Int) < cores) = false := by simpa using hbig
        have hc8 : cores ≤ 1099511627776 := by omega
        cases all
        · go_wp2_with (first
            | (go_at_call 15; ((with_reducible refine (C3.out rfl _).mono ?_); rintro e w4 ⟨sa3, sc3, rfl, hb⟩; have H4 := hi ((H3.out.new 24 #[.int .i64 id, .bool false, .int .i64 tg, .bool true]).later hb); obtain ⟨s0, s1, s2, s3⟩ := H4.out.tl.b0.four; clear hb))
            | (go_at_call 15; ((with_reducible refine (C4.out _).mono ?_); rintro e w5 ⟨sa4, sc4, rfl, hK, hb⟩; have H5 := hi (H4.out.later hb); clear hb hK)))
          go_ret
          exact ⟨rfl, H5.out.below⟩
        · have HE := hi (H3.out.new 24 #[.int .i64 id, .bool true, .int .i64 tg, .bool true])
          go_wp2_with (first
            | (go_at_call 15; ((with_reducible refine (C4.out _).mono ?_); rintro e w5 ⟨sa4, sc4, rfl, hK, hb⟩; have H5 := hi (HE.out.later hb); clear hb hK)))
          go_ret
          exact ⟨rfl, H5.out.below⟩

end Go.Proofs.Ytkfnelhafflimaa
