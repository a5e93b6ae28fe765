/-
  The law LadderOrder at every input.
-/
import Derived.Test.YthfcgedlpnbojaaLadO
namespace Go.Proofs.Ythfcgedlpnbojaa
open Go.ChangeShapes Go.WideShapes Go.ChangeAt Go.RowKit
set_option linter.unusedVariables false
attribute [local go_sem high] eql2 guard2

/-- The second box's two cells stored anew. -/
theorem AtG.storeL {w W : World} {b c : Nat} {t : TypeId} {x1 x2 p q : Value} (h : AtG w [(b, t, #[x1, x2]), (c, t, #[p, q])] W) (hc : w.heap.size ≤ c) (hne : b ≠ c) (x y : Value) :
    AtG w [(b, t, #[x1, x2]), (c, t, #[x, y])] ((W.setCell ⟨c, 0, none⟩ x).setCell ⟨c, 1, none⟩ y) :=
  ⟨fun r hr => by
    rcases List.mem_cons.1 hr with rfl | hr
    · exact (h.b0.other _ _ _ hne).other _ _ _ hne
    · obtain rfl := List.mem_singleton.1 hr
      exact h.tl.b0.set2 x y, below_set2 h.below hc x y⟩

theorem AtG.fst {w W : World} {p q : Nat × TypeId × Array Value} (h : AtG w [p, q] W) : AtG w [p] W := ⟨fun r hr => h.box r (by obtain rfl := List.mem_singleton.1 hr; simp), h.below⟩

set_option maxRecDepth 100000 in
set_option maxHeartbeats 8000000 in
theorem lawOrder_any (xs : List Ac) (v : Value) (w : World) (h : ActsAt w v xs) (hl : xs.length ≤ 9223372036854775806) :
    Calls Try.prog 7 #[v] w fun e w' => e = .returned (.bool true) ∧ Below w.heap.size w w' := by
  obtain ⟨a0, cap, rfl⟩ := h.slice
  have HP1 := hi (fun k (hk : k < xs.length) => pushes_next (f := f0) hk)
  have HP2 := hi (fun k (hk : k < xs.length) => pushes_next_rev (f := f0) hk)
  have HM := hi (fun k (hk : k < xs.length) => pushes_has (f := f0) (nthA_mem hk))
  have hlen := pushes_len xs f0
  rw [rungs_f0, Nat.zero_add] at hlen
  have HE1 := hi (show pushes f0 (xs.take xs.length) = pushes f0 xs by rw [List.take_length])
  have HE2 := hi (show pushes f0 (xs.reverse.take xs.length) = pushes f0 xs by rw [← List.length_reverse, List.take_length, pushes_rev])
  have HACT := hi h
  obtain ⟨n, hn⟩ : ∃ n, xs.length = n := ⟨_, rfl⟩
  rw [hn] at HP1 HP2 HM hlen HE1 HE2 HACT hl ⊢
  clear h hn
  have H0 := hi (show AtG w [] w from AtG.nil w)
  go_enter Try.func7, Try.ntmps7
  go_wp2_with (go_at_call 9; ((with_reducible refine (awake_any _).mono ?_); rintro e w0 ⟨rfl, hb⟩; have HB0 := hi hb; clear hb))
  have hA0 := ((AtG.mk (w := w) (L := []) (fun p hp => (by cases hp)) HB0.out).new 27 #[.int .u32 0, .int .u32 0]).new 27 #[.int .u32 0, .int .u32 0]
  rw [World.size_alloc] at hA0
  have HA0 := hi (show AtG w [(w0.heap.size + 1, 27, lcs (pushes f0 (xs.reverse.take 0))), (w0.heap.size, 27, lcs (pushes f0 (xs.take 0)))] _ by
    rw [List.take_zero, List.take_zero, show pushes f0 [] = f0 from rfl]; unfold lcs; rw [wd_f0, wd_f0]; exact hA0)
  have HLO := hi (show w.heap.size ≤ w0.heap.size from HB0.out.size)
  clear hA0 HB0 H0
  go_loopw [6] (fun i wr => ∃ k : Nat, k ≤ n ∧ i = .int .i64 k ∧ Hi (AtG w [(w0.heap.size + 1, 27, lcs (pushes f0 (xs.reverse.take k))), (w0.heap.size, 27, lcs (pushes f0 (xs.take k)))] wr)) (fun i _ => n - (intOf i).toNat)
  case atStart => exact ⟨0, Nat.zero_le _, rfl, HA0⟩
  case round =>
    obtain ⟨k, hk, rfl, HX⟩ := hrel
    clear HA0
    by_cases hlt : k < n
    · obtain ⟨g, o, rfl, hc⟩ := HACT.out.read hlt
      have hc2 := HACT.out.read2 (k := n - 1 - k) (by omega)
      have CP1 := hi (fun W => push_any (pushes f0 (xs.take k)) (nthA xs k).g (nthA xs k).p W)
      have CP2 := hi (fun W => push_any (pushes f0 (xs.reverse.take k)) (nthA xs (n - 1 - k)).g (nthA xs (n - 1 - k)).p W)
      have e1 := HP1.out k hlt
      have e2 := HP2.out k hlt
      unfold Ac.at at e1 e2
      rw [← e1] at CP1
      rw [← e2] at CP2
      have hX := HX.out
      obtain ⟨l1, h1⟩ : ∃ a, wd (pushes f0 (xs.take k)) 0 = a := ⟨_, rfl⟩
      obtain ⟨l2, h2⟩ : ∃ a, wd (pushes f0 (xs.take k)) 1 = a := ⟨_, rfl⟩
      obtain ⟨m1, h3⟩ : ∃ a, wd (pushes f0 (xs.reverse.take k)) 0 = a := ⟨_, rfl⟩
      obtain ⟨m2, h4⟩ : ∃ a, wd (pushes f0 (xs.reverse.take k)) 1 = a := ⟨_, rfl⟩
      obtain ⟨n1, h5⟩ : ∃ a, wd (pushes f0 (xs.take (k + 1))) 0 = a := ⟨_, rfl⟩
      obtain ⟨n2, h6⟩ : ∃ a, wd (pushes f0 (xs.take (k + 1))) 1 = a := ⟨_, rfl⟩
      obtain ⟨q1, h7⟩ : ∃ a, wd (pushes f0 (xs.reverse.take (k + 1))) 0 = a := ⟨_, rfl⟩
      obtain ⟨q2, h8⟩ : ∃ a, wd (pushes f0 (xs.reverse.take (k + 1))) 1 = a := ⟨_, rfl⟩
      obtain ⟨G, hG⟩ : ∃ a, (nthA xs k).g = a := ⟨_, rfl⟩
      obtain ⟨P, hP⟩ : ∃ a, (nthA xs k).p = a := ⟨_, rfl⟩
      obtain ⟨q, hq⟩ : ∃ q, n - 1 - k = q := ⟨_, rfl⟩
      rw [hq] at hc2 CP2
      obtain ⟨G2, hG2⟩ : ∃ a, (nthA xs q).g = a := ⟨_, rfl⟩
      obtain ⟨P2, hP2⟩ : ∃ a, (nthA xs q).p = a := ⟨_, rfl⟩
      have HREL := hi (fun (W : World) (h : AtG w [(w0.heap.size + 1, 27, #[.int .u32 (q1 : Int), .int .u32 (q2 : Int)]), (w0.heap.size, 27, #[.int .u32 (n1 : Int), .int .u32 (n2 : Int)])] W) =>
        show AtG w [(w0.heap.size + 1, 27, lcs (pushes f0 (xs.reverse.take (k + 1)))), (w0.heap.size, 27, lcs (pushes f0 (xs.take (k + 1))))] W by unfold lcs; rw [h5, h6, h7, h8]; exact h)
      unfold lv lcs at CP1 CP2 hX
      rw [h1, h2, h5, h6, hG, hP] at CP1
      rw [h3, h4, h7, h8, hG2, hP2] at CP2
      rw [h1, h2, h3, h4] at hX
      rw [hG, hP] at hc
      rw [hG2, hP2] at hc2
      have HC := hi hc
      have HC2 := hi hc2
      have hqI : (n : Int) - 1 - (k : Int) = (q : Int) := by omega
      have hw1 : IntKind.i64.wrap ((n : Int) - 1) = (n : Int) - 1 := by rw [IntKind.wrap_i64]; omega
      have hw2 : IntKind.i64.wrap (q : Int) = (q : Int) := by rw [IntKind.wrap_i64]; omega
      have hqn : q < n := by omega
      obtain ⟨d0, d1, d2⟩ := hc _ hX.below
      have HXX := hi hX
      clear h1 h2 h3 h4 h5 h6 h7 h8 hG hP hG2 hP2 hq hc hc2 e1 e2 HX
      have c0 := hX.tl.b0.cell 0
      have c1 := hX.tl.b0.cell 1
      have f0' := hX.tl.b0.frozen
      have HD := HXX.out.drew
      clear hX
      go_wp2
      refine wp_region_noPanic ?_
      refine wp_region_held_drew (S := (fun w' => w'.cell? ⟨g, o + k * 3 + 1, none⟩ = some (.int .i64 G) ∧ w'.cell? ⟨g, o + k * 3 + 2, none⟩ = some (.int .i64 P) ∧ AtG w [(w0.heap.size + 1, 27, #[.int .u32 (m1 : Int), .int .u32 (m2 : Int)])] w')) (by kernel_rfl) ⟨(HC.out _ HD.below).2.1, (HC.out _ HD.below).2.2, HD.fst⟩ (fun hHeld => ?_)
      (try simp only [Array.replicate_succ, Array.replicate_zero, List.push_toArray, List.nil_append, List.cons_append])
      refine wpAnyH_take (i := 1) (v := ?_) rfl (by kernel_rfl) (by kernel_rfl) (by kernel_rfl) (fun _ _ _ h => h) (Or.inl ⟨by rfl, ?_⟩) (by assumption) ?_
      rotate_left
      · intro w' hSw; (try dsimp only at hSw); obtain ⟨hs0, hs1, hs2⟩ := hSw; go_simp; (try with_reducible rfl)
      (try simp only [Act.put, List.getElem_toArray, List.getElem_cons_zero, List.getElem_cons_succ, List.setIfInBounds_toArray, List.set_cons_zero, List.set_cons_succ])
      refine wpAnyH_take (i := 2) (v := ?_) rfl (by kernel_rfl) (by kernel_rfl) (by kernel_rfl) (fun _ _ _ h => h) (Or.inl ⟨by rfl, ?_⟩) (by assumption) ?_
      rotate_left
      · intro w' hSw; (try dsimp only at hSw); obtain ⟨hs0, hs1, hs2⟩ := hSw; go_simp; (try with_reducible rfl)
      (try simp only [Act.put, List.getElem_toArray, List.getElem_cons_zero, List.getElem_cons_succ, List.setIfInBounds_toArray, List.set_cons_zero, List.set_cons_succ])
      refine wpAnyH_take (i := 3) (v := ?_) rfl (by kernel_rfl) (by kernel_rfl) (by kernel_rfl) (fun _ _ _ h => h) (Or.inl ⟨by rfl, ?_⟩) (by assumption) ?_
      rotate_left
      · intro w' hSw; (try dsimp only at hSw); obtain ⟨hs0, hs1, hs2⟩ := hSw; go_simp; (try with_reducible rfl)
      (try simp only [Act.put, List.getElem_toArray, List.getElem_cons_zero, List.getElem_cons_succ, List.setIfInBounds_toArray, List.set_cons_zero, List.set_cons_succ])
      refine wpAnyH_take (i := 4) (v := ?_) rfl (by kernel_rfl) (by kernel_rfl) (by kernel_rfl) (fun _ _ _ h => h) (Or.inl ⟨by rfl, ?_⟩) (by assumption) ?_
      rotate_left
      · intro w' hSw; (try dsimp only at hSw); obtain ⟨hs0, hs1, hs2⟩ := hSw; go_simp; (try with_reducible rfl)
      (try simp only [Act.put, List.getElem_toArray, List.getElem_cons_zero, List.getElem_cons_succ, List.setIfInBounds_toArray, List.set_cons_zero, List.set_cons_succ])
      refine wpAnyH_take (i := 5) (v := ?_) rfl (by kernel_rfl) (by kernel_rfl) (by kernel_rfl) (fun _ _ _ h => h) (Or.inl ⟨by rfl, ?_⟩) (by assumption) ?_
      rotate_left
      · intro w' hSw; (try dsimp only at hSw); obtain ⟨hs0, hs1, hs2⟩ := hSw; go_simp; (try with_reducible rfl)
      (try simp only [Act.put, List.getElem_toArray, List.getElem_cons_zero, List.getElem_cons_succ, List.setIfInBounds_toArray, List.set_cons_zero, List.set_cons_succ])
      refine wpAnyH_take (i := 6) (v := ?_) rfl (by kernel_rfl) (by kernel_rfl) (by kernel_rfl) (fun _ _ _ h => h) (Or.inl ⟨by rfl, ?_⟩) (by assumption) ?_
      rotate_left
      · intro w' hSw; (try dsimp only at hSw); obtain ⟨hs0, hs1, hs2⟩ := hSw; go_simp; (try with_reducible rfl)
      (try simp only [Act.put, List.getElem_toArray, List.getElem_cons_zero, List.getElem_cons_succ, List.setIfInBounds_toArray, List.set_cons_zero, List.set_cons_succ])
      refine wpAnyH_take (i := 7) (v := ?_) rfl (by kernel_rfl) (by kernel_rfl) (by kernel_rfl) (fun _ _ _ h => h) (Or.inl ⟨by rfl, ?_⟩) (by assumption) ?_
      rotate_left
      · intro w' hSw; (try dsimp only at hSw); obtain ⟨hs0, hs1, hs2⟩ := hSw; go_simp; (try with_reducible rfl)
      (try simp only [Act.put, List.getElem_toArray, List.getElem_cons_zero, List.getElem_cons_succ, List.setIfInBounds_toArray, List.set_cons_zero, List.set_cons_succ])
      refine wpAnyH_take (i := 8) (v := ?_) rfl (by kernel_rfl) (by kernel_rfl) (by kernel_rfl) (fun _ _ _ h => h) (Or.inl ⟨by rfl, ?_⟩) (by assumption) ?_
      rotate_left
      · intro w' hSw; (try dsimp only at hSw); obtain ⟨hs0, hs1, hs2⟩ := hSw; go_simp; (try with_reducible rfl)
      (try simp only [Act.put, List.getElem_toArray, List.getElem_cons_zero, List.getElem_cons_succ, List.setIfInBounds_toArray, List.set_cons_zero, List.set_cons_succ])
      refine wpAnyH_take (i := 9) (v := ?_) rfl (by kernel_rfl) (by kernel_rfl) (by kernel_rfl) (fun _ _ _ h => h) (Or.inl ⟨by rfl, ?_⟩) (by assumption) ?_
      rotate_left
      · intro w' hSw; (try dsimp only at hSw); obtain ⟨hs0, hs1, hs2⟩ := hSw; go_simp; (try with_reducible rfl)
      (try simp only [Act.put, List.getElem_toArray, List.getElem_cons_zero, List.getElem_cons_succ, List.setIfInBounds_toArray, List.set_cons_zero, List.set_cons_succ])
      refine wpAnyH_take (i := 10) (v := ?_) rfl (by kernel_rfl) (by kernel_rfl) (by kernel_rfl) (fun _ _ _ h => h) (Or.inl ⟨by rfl, ?_⟩) (by assumption) ?_
      rotate_left
      · intro w' hSw; (try dsimp only at hSw); obtain ⟨hs0, hs1, hs2⟩ := hSw; go_simp; (try with_reducible rfl)
      (try simp only [Act.put, List.getElem_toArray, List.getElem_cons_zero, List.getElem_cons_succ, List.setIfInBounds_toArray, List.set_cons_zero, List.set_cons_succ])
      have d0' := HD.tl.b0.cell 0
      have d1' := HD.tl.b0.cell 1
      refine wpAnyH_ready (rs := [0]) (by kernel_rfl) (by simp) ?_
      refine AllReadyH.cons rfl (fun KK hKK => ?_) AllReadyH.nil
      go_simp
      refine hKK.out _ _ ⟨(HC.out _ HD.below).2.1, (HC.out _ HD.below).2.2, HD.fst⟩ (fun hHeld => ?_)
      clear hKK KK
      (try simp only [Act.put, List.getElem_toArray, List.getElem_cons_zero, List.getElem_cons_succ, List.setIfInBounds_toArray, List.set_cons_zero, List.set_cons_succ])
      refine wpAnyH_ready (rs := [11]) (by kernel_rfl) (by simp) ?_
      refine AllReadyH.cons rfl (fun KK hKK => ?_) AllReadyH.nil
      go_simp
      ((with_reducible refine (CP1.out _).mono ?_); rintro e' w6 ⟨rfl, hb⟩; have h6 := HD.later hb; clear hb)
      (try go_simp)
      refine hKK.out _ _ ⟨(HC.out _ h6.below).2.1, (HC.out _ h6.below).2.2, h6.fst⟩ (fun hHeld => ?_)
      clear hKK KK
      (try simp only [Act.put, List.getElem_toArray, List.getElem_cons_zero, List.getElem_cons_succ, List.setIfInBounds_toArray, List.set_cons_zero, List.set_cons_succ])
      obtain ⟨t0, t1⟩ := h6.tl.b0.two
      have f6 := h6.tl.b0.frozen
      have s6 := h6.storeL HLO.out (by omega) (.int .u32 (n1 : Int)) (.int .u32 (n2 : Int))
      refine wpAnyH_ready (rs := [12]) (by kernel_rfl) (by simp) ?_
      refine AllReadyH.cons rfl (fun KK hKK => ?_) AllReadyH.nil
      go_simp
      refine hKK.out _ _ ⟨(HC.out _ s6.below).2.1, (HC.out _ s6.below).2.2, s6.fst⟩ (fun hHeld => ?_)
      clear hKK KK
      (try simp only [Act.put, List.getElem_toArray, List.getElem_cons_zero, List.getElem_cons_succ, List.setIfInBounds_toArray, List.set_cons_zero, List.set_cons_succ])
      refine wpAnyH_done (by kernel_rfl) ?_ _
      refine NoPanic.normal ?_
      clear HD d0' d1' t0 t1 f6 h6 c0 c1 f0' d0 d1 d2
      obtain ⟨W6, hW6⟩ : ∃ W6, ((w6.setCell ⟨w0.heap.size, 0, none⟩ (.int .u32 (n1 : Int))).setCell ⟨w0.heap.size, 1, none⟩ (.int .u32 (n2 : Int))) = W6 := ⟨_, rfl⟩
      rw [hW6] at s6 ⊢
      clear hW6
      have HD2 := s6.drew
      obtain ⟨d0, d1, d2⟩ := HC2.out _ s6.below
      have c0 := s6.b0.cell 0
      have c1 := s6.b0.cell 1
      have f0' := s6.b0.frozen
      go_wp2
      refine wp_region_noPanic ?_
      refine wp_region_held_drew (S := (fun w' => w'.cell? ⟨g, o + q * 3 + 1, none⟩ = some (.int .i64 G2) ∧ w'.cell? ⟨g, o + q * 3 + 2, none⟩ = some (.int .i64 P2) ∧ AtG w [(w0.heap.size, 27, #[.int .u32 (n1 : Int), .int .u32 (n2 : Int)])] w')) (by kernel_rfl) ⟨(HC2.out _ HD2.below).2.1, (HC2.out _ HD2.below).2.2, HD2.tl⟩ (fun hHeld => ?_)
      (try simp only [Array.replicate_succ, Array.replicate_zero, List.push_toArray, List.nil_append, List.cons_append])
      refine wpAnyH_take (i := 1) (v := ?_) rfl (by kernel_rfl) (by kernel_rfl) (by kernel_rfl) (fun _ _ _ h => h) (Or.inl ⟨by rfl, ?_⟩) (by assumption) ?_
      rotate_left
      · intro w' hSw; (try dsimp only at hSw); obtain ⟨hs0, hs1, hs2⟩ := hSw; go_simp; (try with_reducible rfl)
      (try simp only [Act.put, List.getElem_toArray, List.getElem_cons_zero, List.getElem_cons_succ, List.setIfInBounds_toArray, List.set_cons_zero, List.set_cons_succ])
      refine wpAnyH_take (i := 2) (v := ?_) rfl (by kernel_rfl) (by kernel_rfl) (by kernel_rfl) (fun _ _ _ h => h) (Or.inl ⟨by rfl, ?_⟩) (by assumption) ?_
      rotate_left
      · intro w' hSw; (try dsimp only at hSw); obtain ⟨hs0, hs1, hs2⟩ := hSw; go_simp; (try with_reducible rfl)
      (try simp only [Act.put, List.getElem_toArray, List.getElem_cons_zero, List.getElem_cons_succ, List.setIfInBounds_toArray, List.set_cons_zero, List.set_cons_succ])
      refine wpAnyH_take (i := 3) (v := ?_) rfl (by kernel_rfl) (by kernel_rfl) (by kernel_rfl) (fun _ _ _ h => h) (Or.inl ⟨by rfl, ?_⟩) (by assumption) ?_
      rotate_left
      · intro w' hSw; (try dsimp only at hSw); obtain ⟨hs0, hs1, hs2⟩ := hSw; go_simp; (try with_reducible rfl)
      (try simp only [Act.put, List.getElem_toArray, List.getElem_cons_zero, List.getElem_cons_succ, List.setIfInBounds_toArray, List.set_cons_zero, List.set_cons_succ])
      refine wpAnyH_take (i := 4) (v := ?_) rfl (by kernel_rfl) (by kernel_rfl) (by kernel_rfl) (fun _ _ _ h => h) (Or.inl ⟨by rfl, ?_⟩) (by assumption) ?_
      rotate_left
      · intro w' hSw; (try dsimp only at hSw); obtain ⟨hs0, hs1, hs2⟩ := hSw; go_simp; (try with_reducible rfl)
      (try simp only [Act.put, List.getElem_toArray, List.getElem_cons_zero, List.getElem_cons_succ, List.setIfInBounds_toArray, List.set_cons_zero, List.set_cons_succ])
      refine wpAnyH_take (i := 5) (v := ?_) rfl (by kernel_rfl) (by kernel_rfl) (by kernel_rfl) (fun _ _ _ h => h) (Or.inl ⟨by rfl, ?_⟩) (by assumption) ?_
      rotate_left
      · intro w' hSw; (try dsimp only at hSw); obtain ⟨hs0, hs1, hs2⟩ := hSw; go_simp; (try with_reducible rfl)
      (try simp only [Act.put, List.getElem_toArray, List.getElem_cons_zero, List.getElem_cons_succ, List.setIfInBounds_toArray, List.set_cons_zero, List.set_cons_succ])
      refine wpAnyH_take (i := 6) (v := ?_) rfl (by kernel_rfl) (by kernel_rfl) (by kernel_rfl) (fun _ _ _ h => h) (Or.inl ⟨by rfl, ?_⟩) (by assumption) ?_
      rotate_left
      · intro w' hSw; (try dsimp only at hSw); obtain ⟨hs0, hs1, hs2⟩ := hSw; go_simp; (try with_reducible rfl)
      (try simp only [Act.put, List.getElem_toArray, List.getElem_cons_zero, List.getElem_cons_succ, List.setIfInBounds_toArray, List.set_cons_zero, List.set_cons_succ])
      refine wpAnyH_take (i := 7) (v := ?_) rfl (by kernel_rfl) (by kernel_rfl) (by kernel_rfl) (fun _ _ _ h => h) (Or.inl ⟨by rfl, ?_⟩) (by assumption) ?_
      rotate_left
      · intro w' hSw; (try dsimp only at hSw); obtain ⟨hs0, hs1, hs2⟩ := hSw; go_simp; (try with_reducible rfl)
      (try simp only [Act.put, List.getElem_toArray, List.getElem_cons_zero, List.getElem_cons_succ, List.setIfInBounds_toArray, List.set_cons_zero, List.set_cons_succ])
      refine wpAnyH_take (i := 8) (v := ?_) rfl (by kernel_rfl) (by kernel_rfl) (by kernel_rfl) (fun _ _ _ h => h) (Or.inl ⟨by rfl, ?_⟩) (by assumption) ?_
      rotate_left
      · intro w' hSw; (try dsimp only at hSw); obtain ⟨hs0, hs1, hs2⟩ := hSw; go_simp; (try with_reducible rfl)
      (try simp only [Act.put, List.getElem_toArray, List.getElem_cons_zero, List.getElem_cons_succ, List.setIfInBounds_toArray, List.set_cons_zero, List.set_cons_succ])
      refine wpAnyH_take (i := 9) (v := ?_) rfl (by kernel_rfl) (by kernel_rfl) (by kernel_rfl) (fun _ _ _ h => h) (Or.inl ⟨by rfl, ?_⟩) (by assumption) ?_
      rotate_left
      · intro w' hSw; (try dsimp only at hSw); obtain ⟨hs0, hs1, hs2⟩ := hSw; go_simp; (try with_reducible rfl)
      (try simp only [Act.put, List.getElem_toArray, List.getElem_cons_zero, List.getElem_cons_succ, List.setIfInBounds_toArray, List.set_cons_zero, List.set_cons_succ])
      refine wpAnyH_take (i := 10) (v := ?_) rfl (by kernel_rfl) (by kernel_rfl) (by kernel_rfl) (fun _ _ _ h => h) (Or.inl ⟨by rfl, ?_⟩) (by assumption) ?_
      rotate_left
      · intro w' hSw; (try dsimp only at hSw); obtain ⟨hs0, hs1, hs2⟩ := hSw; go_simp; (try with_reducible rfl)
      (try simp only [Act.put, List.getElem_toArray, List.getElem_cons_zero, List.getElem_cons_succ, List.setIfInBounds_toArray, List.set_cons_zero, List.set_cons_succ])
      refine wpAnyH_take (i := 11) (v := ?_) rfl (by kernel_rfl) (by kernel_rfl) (by kernel_rfl) (fun _ _ _ h => h) (Or.inl ⟨by rfl, ?_⟩) (by assumption) ?_
      rotate_left
      · intro w' hSw; (try dsimp only at hSw); obtain ⟨hs0, hs1, hs2⟩ := hSw; go_simp; (try with_reducible rfl)
      (try simp only [Act.put, List.getElem_toArray, List.getElem_cons_zero, List.getElem_cons_succ, List.setIfInBounds_toArray, List.set_cons_zero, List.set_cons_succ])
      refine wpAnyH_take (i := 12) (v := ?_) rfl (by kernel_rfl) (by kernel_rfl) (by kernel_rfl) (fun _ _ _ h => h) (Or.inl ⟨by rfl, ?_⟩) (by assumption) ?_
      rotate_left
      · intro w' hSw; (try dsimp only at hSw); obtain ⟨hs0, hs1, hs2⟩ := hSw; go_simp; (try with_reducible rfl)
      (try simp only [Act.put, List.getElem_toArray, List.getElem_cons_zero, List.getElem_cons_succ, List.setIfInBounds_toArray, List.set_cons_zero, List.set_cons_succ])
      refine wpAnyH_take (i := 13) (v := ?_) rfl (by kernel_rfl) (by kernel_rfl) (by kernel_rfl) (fun _ _ _ h => h) (Or.inl ⟨by rfl, ?_⟩) (by assumption) ?_
      rotate_left
      · intro w' hSw; (try dsimp only at hSw); obtain ⟨hs0, hs1, hs2⟩ := hSw; go_simp; (try with_reducible rfl)
      (try simp only [Act.put, List.getElem_toArray, List.getElem_cons_zero, List.getElem_cons_succ, List.setIfInBounds_toArray, List.set_cons_zero, List.set_cons_succ])
      refine wpAnyH_take (i := 14) (v := ?_) rfl (by kernel_rfl) (by kernel_rfl) (by kernel_rfl) (fun _ _ _ h => h) (Or.inl ⟨by rfl, ?_⟩) (by assumption) ?_
      rotate_left
      · intro w' hSw; (try dsimp only at hSw); obtain ⟨hs0, hs1, hs2⟩ := hSw; go_simp; (try with_reducible rfl)
      (try simp only [Act.put, List.getElem_toArray, List.getElem_cons_zero, List.getElem_cons_succ, List.setIfInBounds_toArray, List.set_cons_zero, List.set_cons_succ])
      refine wpAnyH_take (i := 15) (v := ?_) rfl (by kernel_rfl) (by kernel_rfl) (by kernel_rfl) (fun _ _ _ h => h) (Or.inl ⟨by rfl, ?_⟩) (by assumption) ?_
      rotate_left
      · intro w' hSw; (try dsimp only at hSw); obtain ⟨hs0, hs1, hs2⟩ := hSw; go_simp; (try with_reducible rfl)
      (try simp only [Act.put, List.getElem_toArray, List.getElem_cons_zero, List.getElem_cons_succ, List.setIfInBounds_toArray, List.set_cons_zero, List.set_cons_succ])
      refine wpAnyH_take (i := 16) (v := ?_) rfl (by kernel_rfl) (by kernel_rfl) (by kernel_rfl) (fun _ _ _ h => h) (Or.inl ⟨by rfl, ?_⟩) (by assumption) ?_
      rotate_left
      · intro w' hSw; (try dsimp only at hSw); obtain ⟨hs0, hs1, hs2⟩ := hSw; go_simp; (try with_reducible rfl)
      (try simp only [Act.put, List.getElem_toArray, List.getElem_cons_zero, List.getElem_cons_succ, List.setIfInBounds_toArray, List.set_cons_zero, List.set_cons_succ])
      refine wpAnyH_take (i := 17) (v := ?_) rfl (by kernel_rfl) (by kernel_rfl) (by kernel_rfl) (fun _ _ _ h => h) (Or.inl ⟨by rfl, ?_⟩) (by assumption) ?_
      rotate_left
      · intro w' hSw; (try dsimp only at hSw); obtain ⟨hs0, hs1, hs2⟩ := hSw; go_simp; (try with_reducible rfl)
      (try simp only [Act.put, List.getElem_toArray, List.getElem_cons_zero, List.getElem_cons_succ, List.setIfInBounds_toArray, List.set_cons_zero, List.set_cons_succ])
      refine wpAnyH_take (i := 18) (v := ?_) rfl (by kernel_rfl) (by kernel_rfl) (by kernel_rfl) (fun _ _ _ h => h) (Or.inl ⟨by rfl, ?_⟩) (by assumption) ?_
      rotate_left
      · intro w' hSw; (try dsimp only at hSw); obtain ⟨hs0, hs1, hs2⟩ := hSw; go_simp; (try with_reducible rfl)
      (try simp only [Act.put, List.getElem_toArray, List.getElem_cons_zero, List.getElem_cons_succ, List.setIfInBounds_toArray, List.set_cons_zero, List.set_cons_succ])
      have d0' := HD2.b0.cell 0
      have d1' := HD2.b0.cell 1
      refine wpAnyH_ready (rs := [0]) (by kernel_rfl) (by simp) ?_
      refine AllReadyH.cons rfl (fun KK hKK => ?_) AllReadyH.nil
      go_simp
      refine hKK.out _ _ ⟨(HC2.out _ HD2.below).2.1, (HC2.out _ HD2.below).2.2, HD2.tl⟩ (fun hHeld => ?_)
      clear hKK KK
      (try simp only [Act.put, List.getElem_toArray, List.getElem_cons_zero, List.getElem_cons_succ, List.setIfInBounds_toArray, List.set_cons_zero, List.set_cons_succ])
      refine wpAnyH_ready (rs := [19]) (by kernel_rfl) (by simp) ?_
      refine AllReadyH.cons rfl (fun KK hKK => ?_) AllReadyH.nil
      go_simp
      ((with_reducible refine (CP2.out _).mono ?_); rintro e' w7 ⟨rfl, hb⟩; have h7 := HD2.later hb; clear hb)
      (try go_simp)
      refine hKK.out _ _ ⟨(HC2.out _ h7.below).2.1, (HC2.out _ h7.below).2.2, h7.tl⟩ (fun hHeld => ?_)
      clear hKK KK
      (try simp only [Act.put, List.getElem_toArray, List.getElem_cons_zero, List.getElem_cons_succ, List.setIfInBounds_toArray, List.set_cons_zero, List.set_cons_succ])
      obtain ⟨t0, t1⟩ := h7.b0.two
      have f7 := h7.b0.frozen
      have s7 := h7.store2 (Nat.le_trans HLO.out (Nat.le_succ _)) (by simp) (.int .u32 (q1 : Int)) (.int .u32 (q2 : Int))
      refine wpAnyH_ready (rs := [20]) (by kernel_rfl) (by simp) ?_
      refine AllReadyH.cons rfl (fun KK hKK => ?_) AllReadyH.nil
      go_simp
      refine hKK.out _ _ ⟨(HC2.out _ s7.below).2.1, (HC2.out _ s7.below).2.2, s7.tl⟩ (fun hHeld => ?_)
      clear hKK KK
      (try simp only [Act.put, List.getElem_toArray, List.getElem_cons_zero, List.getElem_cons_succ, List.setIfInBounds_toArray, List.set_cons_zero, List.set_cons_succ])
      refine wpAnyH_done (by kernel_rfl) ?_ _
      refine NoPanic.normal ?_
      clear HD2 d0' d1' t0 t1 f7 h7 c0 c1 f0' d0 d1 d2
      have HR := hi (HREL.out _ s7)
      go_wp2
      go_roundw
      case rel => exact ⟨k + 1, by omega, by go_num, HR⟩
      case measure => simp [intOf]; omega
    · obtain rfl : n = k := by omega
      have HF := hi (show AtG w [(w0.heap.size + 1, 27, lcs (pushes f0 xs)), (w0.heap.size, 27, lcs (pushes f0 xs))] wr by have := HX.out; rw [HE1.out, HE2.out] at this; exact this)
      clear HX HE1 HE2 HP1 HP2
      go_wp2
      go_loopw [7] (fun i wr => ∃ k : Nat, k ≤ n ∧ i = .int .i64 k ∧ Hi (AtG w [(w0.heap.size + 1, 27, lcs (pushes f0 xs)), (w0.heap.size, 27, lcs (pushes f0 xs))] wr)) (fun i _ => n - (intOf i).toNat)
      case atStart => exact ⟨0, Nat.zero_le _, rfl, HF⟩
      case round =>
        obtain ⟨j, hj, rfl, HX⟩ := hrel
        clear HF
        obtain ⟨l1, h1⟩ : ∃ a, wd (pushes f0 xs) 0 = a := ⟨_, rfl⟩
        obtain ⟨l2, h2⟩ : ∃ a, wd (pushes f0 xs) 1 = a := ⟨_, rfl⟩
        have hX := HX.out
        unfold lcs at hX
        rw [h1, h2] at hX
        by_cases hlt : j < n
        · obtain ⟨g, o, rfl, hc⟩ := HACT.out.read hlt
          have CH := hi (fun W => has_any (pushes f0 xs) (nthA xs j).g (nthA xs j).p W)
          have e1 := HM.out j hlt
          unfold Ac.at at e1
          rw [e1] at CH
          obtain ⟨G, hG⟩ : ∃ a, (nthA xs j).g = a := ⟨_, rfl⟩
          obtain ⟨P, hP⟩ : ∃ a, (nthA xs j).p = a := ⟨_, rfl⟩
          unfold lv lcs at CH
          rw [h1, h2, hG, hP] at CH
          rw [hG, hP] at hc
          have HC := hi hc
          have HREL := hi (fun (W : World) (h : AtG w [(w0.heap.size + 1, 27, #[.int .u32 (l1 : Int), .int .u32 (l2 : Int)]), (w0.heap.size, 27, #[.int .u32 (l1 : Int), .int .u32 (l2 : Int)])] W) =>
            show AtG w [(w0.heap.size + 1, 27, lcs (pushes f0 xs)), (w0.heap.size, 27, lcs (pushes f0 xs))] W by unfold lcs; rw [h1, h2]; exact h)
          obtain ⟨d0, d1, d2⟩ := hc _ hX.below
          have HD := hX.drew
          have c0 := hX.tl.b0.cell 0
          have c1 := hX.tl.b0.cell 1
          clear h1 h2 hG hP hc e1 HX hX
          go_wp2
          refine wp_region_noPanic ?_
          refine wp_region_held_drew (S := (fun w' => w'.cell? ⟨w0.heap.size, 0, none⟩ = some (.int .u32 (l1 : Int)) ∧ w'.cell? ⟨w0.heap.size, 1, none⟩ = some (.int .u32 (l2 : Int)) ∧ w'.cell? ⟨g, o + j * 3 + 1, none⟩ = some (.int .i64 G) ∧ w'.cell? ⟨g, o + j * 3 + 2, none⟩ = some (.int .i64 P) ∧ AtG w [(w0.heap.size + 1, 27, #[.int .u32 (l1 : Int), .int .u32 (l2 : Int)]), (w0.heap.size, 27, #[.int .u32 (l1 : Int), .int .u32 (l2 : Int)])] w')) (by kernel_rfl) ⟨HD.tl.b0.cell 0, HD.tl.b0.cell 1, (HC.out _ HD.below).2.1, (HC.out _ HD.below).2.2, HD⟩ (fun hHeld => ?_)
          (try simp only [Array.replicate_succ, Array.replicate_zero, List.push_toArray, List.nil_append, List.cons_append])
          refine wpAnyH_take (i := 0) (v := ?_) rfl (by kernel_rfl) (by kernel_rfl) (by kernel_rfl) (fun _ _ _ h => h) (Or.inl ⟨by rfl, ?_⟩) (by assumption) ?_
          rotate_left
          · intro w' hSw; (try dsimp only at hSw); obtain ⟨hs0, hs1, hs2, hs3, hs4⟩ := hSw; go_simp; (try with_reducible rfl)
          (try simp only [Act.put, List.getElem_toArray, List.getElem_cons_zero, List.setIfInBounds_toArray, List.set_cons_zero, List.set_cons_succ])
          refine wpAnyH_take (i := 1) (v := ?_) rfl (by kernel_rfl) (by kernel_rfl) (by kernel_rfl) (fun _ _ _ h => h) (Or.inl ⟨by rfl, ?_⟩) (by assumption) ?_
          rotate_left
          · intro w' hSw; (try dsimp only at hSw); obtain ⟨hs0, hs1, hs2, hs3, hs4⟩ := hSw; go_simp; (try with_reducible rfl)
          (try simp only [Act.put, List.getElem_toArray, List.getElem_cons_zero, List.getElem_cons_succ, List.setIfInBounds_toArray, List.set_cons_zero, List.set_cons_succ])
          refine wpAnyH_take (i := 2) (v := ?_) rfl (by kernel_rfl) (by kernel_rfl) (by kernel_rfl) (fun _ _ _ h => h) (Or.inl ⟨by rfl, ?_⟩) (by assumption) ?_
          rotate_left
          · intro w' hSw; (try dsimp only at hSw); obtain ⟨hs0, hs1, hs2, hs3, hs4⟩ := hSw; go_simp; (try with_reducible rfl)
          (try simp only [Act.put, List.getElem_toArray, List.getElem_cons_zero, List.getElem_cons_succ, List.setIfInBounds_toArray, List.set_cons_zero, List.set_cons_succ])
          refine wpAnyH_take (i := 3) (v := ?_) rfl (by kernel_rfl) (by kernel_rfl) (by kernel_rfl) (fun _ _ _ h => h) (Or.inl ⟨by rfl, ?_⟩) (by assumption) ?_
          rotate_left
          · intro w' hSw; (try dsimp only at hSw); obtain ⟨hs0, hs1, hs2, hs3, hs4⟩ := hSw; go_simp; (try with_reducible rfl)
          (try simp only [Act.put, List.getElem_toArray, List.getElem_cons_zero, List.getElem_cons_succ, List.setIfInBounds_toArray, List.set_cons_zero, List.set_cons_succ])
          refine wpAnyH_take (i := 4) (v := ?_) rfl (by kernel_rfl) (by kernel_rfl) (by kernel_rfl) (fun _ _ _ h => h) (Or.inl ⟨by rfl, ?_⟩) (by assumption) ?_
          rotate_left
          · intro w' hSw; (try dsimp only at hSw); obtain ⟨hs0, hs1, hs2, hs3, hs4⟩ := hSw; go_simp; (try with_reducible rfl)
          (try simp only [Act.put, List.getElem_toArray, List.getElem_cons_zero, List.getElem_cons_succ, List.setIfInBounds_toArray, List.set_cons_zero, List.set_cons_succ])
          refine wpAnyH_take (i := 5) (v := ?_) rfl (by kernel_rfl) (by kernel_rfl) (by kernel_rfl) (fun _ _ _ h => h) (Or.inl ⟨by rfl, ?_⟩) (by assumption) ?_
          rotate_left
          · intro w' hSw; (try dsimp only at hSw); obtain ⟨hs0, hs1, hs2, hs3, hs4⟩ := hSw; go_simp; (try with_reducible rfl)
          (try simp only [Act.put, List.getElem_toArray, List.getElem_cons_zero, List.getElem_cons_succ, List.setIfInBounds_toArray, List.set_cons_zero, List.set_cons_succ])
          refine wpAnyH_take (i := 6) (v := ?_) rfl (by kernel_rfl) (by kernel_rfl) (by kernel_rfl) (fun _ _ _ h => h) (Or.inl ⟨by rfl, ?_⟩) (by assumption) ?_
          rotate_left
          · intro w' hSw; (try dsimp only at hSw); obtain ⟨hs0, hs1, hs2, hs3, hs4⟩ := hSw; go_simp; (try with_reducible rfl)
          (try simp only [Act.put, List.getElem_toArray, List.getElem_cons_zero, List.getElem_cons_succ, List.setIfInBounds_toArray, List.set_cons_zero, List.set_cons_succ])
          refine wpAnyH_take (i := 7) (v := ?_) rfl (by kernel_rfl) (by kernel_rfl) (by kernel_rfl) (fun _ _ _ h => h) (Or.inl ⟨by rfl, ?_⟩) (by assumption) ?_
          rotate_left
          · intro w' hSw; (try dsimp only at hSw); obtain ⟨hs0, hs1, hs2, hs3, hs4⟩ := hSw; go_simp; (try with_reducible rfl)
          (try simp only [Act.put, List.getElem_toArray, List.getElem_cons_zero, List.getElem_cons_succ, List.setIfInBounds_toArray, List.set_cons_zero, List.set_cons_succ])
          refine wpAnyH_take (i := 8) (v := ?_) rfl (by kernel_rfl) (by kernel_rfl) (by kernel_rfl) (fun _ _ _ h => h) (Or.inl ⟨by rfl, ?_⟩) (by assumption) ?_
          rotate_left
          · intro w' hSw; (try dsimp only at hSw); obtain ⟨hs0, hs1, hs2, hs3, hs4⟩ := hSw; go_simp; (try with_reducible rfl)
          (try simp only [Act.put, List.getElem_toArray, List.getElem_cons_zero, List.getElem_cons_succ, List.setIfInBounds_toArray, List.set_cons_zero, List.set_cons_succ])
          refine wpAnyH_take (i := 9) (v := ?_) rfl (by kernel_rfl) (by kernel_rfl) (by kernel_rfl) (fun _ _ _ h => h) (Or.inl ⟨by rfl, ?_⟩) (by assumption) ?_
          rotate_left
          · intro w' hSw; (try dsimp only at hSw); obtain ⟨hs0, hs1, hs2, hs3, hs4⟩ := hSw; go_simp; (try with_reducible rfl)
          (try simp only [Act.put, List.getElem_toArray, List.getElem_cons_zero, List.getElem_cons_succ, List.setIfInBounds_toArray, List.set_cons_zero, List.set_cons_succ])
          refine wpAnyH_take (i := 10) (v := ?_) rfl (by kernel_rfl) (by kernel_rfl) (by kernel_rfl) (fun _ _ _ h => h) (Or.inl ⟨by rfl, ?_⟩) (by assumption) ?_
          rotate_left
          · intro w' hSw; (try dsimp only at hSw); obtain ⟨hs0, hs1, hs2, hs3, hs4⟩ := hSw; go_simp; (try with_reducible rfl)
          (try simp only [Act.put, List.getElem_toArray, List.getElem_cons_zero, List.getElem_cons_succ, List.setIfInBounds_toArray, List.set_cons_zero, List.set_cons_succ])
          refine wpAnyH_ready (rs := [11]) (by kernel_rfl) (by simp) ?_
          refine AllReadyH.cons rfl (fun KK hKK => ?_) AllReadyH.nil
          go_simp
          ((with_reducible refine (CH.out _).mono ?_); rintro e' w6 ⟨rfl, hb⟩; have h6 := HD.later hb; clear hb)
          (try go_simp)
          refine hKK.out _ _ ⟨h6.tl.b0.cell 0, h6.tl.b0.cell 1, (HC.out _ h6.below).2.1, (HC.out _ h6.below).2.2, h6⟩ (fun hHeld => ?_)
          clear hKK KK
          (try simp only [Act.put, List.getElem_toArray, List.getElem_cons_zero, List.getElem_cons_succ, List.setIfInBounds_toArray, List.set_cons_zero, List.set_cons_succ])
          refine wpAnyH_take (i := 12) (v := ?_) rfl (by kernel_rfl) (by kernel_rfl) (by kernel_rfl) (fun _ _ _ h => h) (Or.inl ⟨by rfl, ?_⟩) (by assumption) ?_
          rotate_left
          · intro w' hSw; (try dsimp only at hSw); obtain ⟨hs0, hs1, hs2, hs3, hs4⟩ := hSw; go_simp; (try with_reducible rfl)
          (try simp only [Act.put, List.getElem_toArray, List.getElem_cons_zero, List.getElem_cons_succ, List.setIfInBounds_toArray, List.set_cons_zero, List.set_cons_succ])
          refine wpAnyH_done (by kernel_rfl) ?_ _
          refine NoPanic.normal ?_
          have HR := hi (HREL.out _ h6)
          clear HD h6 c0 c1 d0 d1 d2
          go_wp2
          go_roundw
          case rel => exact ⟨j + 1, by omega, by go_num, HR⟩
          case measure => simp [intOf]; omega
        · obtain rfl : n = j := by omega
          have CL := hi (fun W => len_any (pushes f0 xs) W)
          obtain ⟨N, hN⟩ : ∃ N, (rungs (pushes f0 xs)).length = N := ⟨_, rfl⟩
          unfold lv lcs at CL
          rw [h1, h2, hN] at CL
          rw [hN] at hlen
          have hle : decide ((N : Int) ≤ (n : Int)) = true := by simpa using hlen
          have E1 := eq2_self (l1 : Int) (l2 : Int)
          have c0 := hX.tl.b0.cell 0
          have c1 := hX.tl.b0.cell 1
          have m0 := hX.b0.cell 0
          have m1 := hX.b0.cell 1
          have HXX := hi hX
          clear h1 h2 hN HX hX
          go_wp2_with (go_at_call 21; ((with_reducible refine (CL.out _).mono ?_); rintro e w7 ⟨rfl, hb⟩; have HE := hi (HXX.out.later hb); clear hb))
          go_ret
          exact ⟨rfl, HE.out.below⟩

end Go.Proofs.Ythfcgedlpnbojaa
