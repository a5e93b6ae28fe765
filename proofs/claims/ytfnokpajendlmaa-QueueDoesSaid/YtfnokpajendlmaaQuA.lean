/-
  Package queue: ring, Left, Room, after, New, Put, Head, Pass, SetWrite at every call.
-/
import Derived.Test.YtfnokpajendlmaaQuP
import Derived.Test.YtfnokpajendlmaaLast
namespace Go.Proofs.Ytfnokpajendlmaa
open Go.ChangeShapes Go.WideShapes Go.ChangeAt Go.RowKit
set_option linter.unusedVariables false
set_option linter.unusedSimpArgs false

theorem below_dr (V : World) : Below V.heap.size V V.drew := ⟨rfl, rfl, rfl, Nat.le_refl _, fun _ _ => rfl⟩
theorem results_q {fn : Func} {c t : Tmp} (h : fn.results = #[.cell c 25, .tmp t]) (tmps : Array Value) (w : World) (b : Nat) (v0 v1 v2 v3 v : Value) (hp : tmps.getD c undef = .pointer (some ⟨b, 0, none⟩)) (ht : tmps.getD t undef = v) (hb : CB w b 25 #[v0, v1, v2, v3]) :
    (results fn tmps).run Try.prog w = .ok (.tuple #[.agg #[v0, v1, v2, v3], v]) w := by
  have hp' : tmps[c]?.getD undef = .pointer (some ⟨b, 0, none⟩) := by simpa using hp
  have ht' : tmps[t]?.getD undef = v := by simpa using ht
  have c0 := hb.cell 0
  have c1 := hb.cell 1
  have c2 := hb.cell 2
  have c3 := hb.cell 3
  simp at c0 c1 c2 c3
  simp [results, h, go_sem, hp', ht', c0, c1, c2, c3]
theorem results_rg {fn : Func} {c : Tmp} (h : fn.results = #[.cell c 75]) (tmps : Array Value) (w : World) (b : Nat) (v0 v1 : Value) (hp : tmps.getD c undef = .pointer (some ⟨b, 0, none⟩)) (hb : CB w b 75 #[v0, v1]) :
    (results fn tmps).run Try.prog w = .ok (.agg #[v0, v1]) w := by
  have hp' : tmps[c]?.getD undef = .pointer (some ⟨b, 0, none⟩) := by simpa using hp
  have c0 := hb.cell 0
  have c1 := hb.cell 1
  simp at c0 c1
  simp [results, h, go_sem, hp', c0, c1]
/-- A queue's box. -/
structure QB (w : World) (b : Nat) (q : Qu) (W : World) : Prop where
  q : CB W b 25 (Qu.cs q)
  below : Below w.heap.size w W
theorem QB.later {w : World} {b : Nat} {q : Qu} {W W' : World} (h : QB w b q W) (k : Below W.heap.size W W') : QB w b q W' := ⟨h.q.below k, h.below.trans (k.mono h.below.size)⟩
theorem QB.held {w : World} {b : Nat} {q : Qu} {W : World} (h : QB w b q W) : W.cell? ⟨b, 0, none⟩ = some (.int .i64 q.at_) ∧ W.cell? ⟨b, 1, none⟩ = some (.int .i64 q.size) ∧ W.cell? ⟨b, 2, none⟩ = some (.int .i64 q.read) ∧ W.cell? ⟨b, 3, none⟩ = some (.int .i64 q.write) ∧ QB w b q W :=
  ⟨h.q.cell 0, h.q.cell 1, h.q.cell 2, h.q.cell 3, h⟩

set_option maxHeartbeats 2000000 in
theorem ring_q (q : Qu) (w : World) : Calls Try.prog 31 #[q.v] w fun e w' => e = .returned (.agg #[.int .i64 q.size, .int .i64 32]) ∧ Below w.heap.size w w' := by
  have HC := hi (cb_second (w := w) (o := .cells (Qu.cs q) 25) (cs := #[.int .i64 0, .int .i64 0]) (t := 75))
  obtain ⟨a, s, r, v⟩ := q
  dsimp only at HC ⊢
  obtain ⟨r0, r1⟩ := CB.two HC.out
  have rf := HC.out.frozen
  go_enter Try.func31, Try.ntmps31
  go_wp2
  exact bodyPost_ret (results_rg rfl _ _ (w.heap.size + 1) _ _ rfl cb_second) rfl ⟨rfl, bal_two w _ _⟩

set_option maxRecDepth 100000 in
set_option maxHeartbeats 4000000 in
theorem left_q (q : Qu) (hs : q.size ≤ 9223372036854775807) (w : World) : Calls Try.prog 15 #[q.v] w fun e w' => e = .returned (.int .i64 (lefN q)) ∧ Below w.heap.size w w' := by
  have HRG := hi (fun W => ring_q q W)
  have HLF : Hi (∀ W, ∃ er, Calls Try.prog 36 #[.agg #[.int .i64 q.size, .int .i64 32], .int .i64 q.read, .int .i64 q.write] W fun e w' => e = .returned (.tuple #[.int .i64 (lefN q), .int .i64 er]) ∧ Below W.heap.size W w') := hi fun W => by
    cases hk : okQ q
    · rw [lefN, if_neg (by rw [hk]; decide)]
      exact ⟨1, left_no q.size 32 q.read q.write W hk hs⟩
    · obtain ⟨h1, h2⟩ := okQ_out hk
      rw [lefN, if_pos hk]
      exact ⟨0, left_yes q.size 32 q.read q.write W h1 h2 hs⟩
  obtain ⟨n, hn⟩ : ∃ n, lefN q = n := ⟨_, rfl⟩
  rw [hn] at HLF ⊢
  clear hn
  obtain ⟨a, s, r, v⟩ := q
  dsimp only at HRG HLF ⊢
  go_enter Try.func15, Try.ntmps15
  go_wp2
  refine wp_region_noPanic ?_
  refine wp_region_last_drew (S := (fun w' => w'.cell? ⟨w.heap.size, 0, none⟩ = some (.int .i64 a) ∧ w'.cell? ⟨w.heap.size, 1, none⟩ = some (.int .i64 s) ∧ w'.cell? ⟨w.heap.size, 2, none⟩ = some (.int .i64 r) ∧ w'.cell? ⟨w.heap.size, 3, none⟩ = some (.int .i64 v) ∧ QB w w.heap.size ⟨a, s, r, v⟩ w')) [] (by kernel_rfl) ((QB.later ⟨CB.new w 25 (Qu.cs ⟨a, s, r, v⟩), bal w _⟩ (below_dr _)).held) (fun hHeld => ?_)
  (try simp only [Array.replicate_succ, Array.replicate_zero, List.push_toArray, List.nil_append, List.cons_append])
  refine wpAnyF_take (i := 0) (v := ?_) (by kernel_rfl) (by kernel_rfl) rfl (by kernel_rfl) (by kernel_rfl) (by kernel_rfl) (fun _ _ _ h => h) (Or.inl ⟨by rfl, ?_⟩) (by assumption) ?_
  rotate_left
  · intro w' hSw; (try dsimp only at hSw); obtain ⟨a0, a1, a2, a3, jj⟩ := hSw; clear jj; go_simp; (try with_reducible rfl)
  (try simp only [Act.put, List.getElem_toArray, List.getElem_cons_zero, List.getElem_cons_succ, List.setIfInBounds_toArray, List.set_cons_zero, List.set_cons_succ])
  refine wpAnyF_take (i := 2) (v := ?_) (by kernel_rfl) (by kernel_rfl) rfl (by kernel_rfl) (by kernel_rfl) (by kernel_rfl) (fun _ _ _ h => h) (Or.inl ⟨by rfl, ?_⟩) (by assumption) ?_
  rotate_left
  · intro w' hSw; (try dsimp only at hSw); clear hSw; go_simp; (try with_reducible rfl)
  (try simp only [Act.put, List.getElem_toArray, List.getElem_cons_zero, List.getElem_cons_succ, List.setIfInBounds_toArray, List.set_cons_zero, List.set_cons_succ])
  refine wpAnyF_take (i := 3) (v := ?_) (by kernel_rfl) (by kernel_rfl) rfl (by kernel_rfl) (by kernel_rfl) (by kernel_rfl) (fun _ _ _ h => h) (Or.inl ⟨by rfl, ?_⟩) (by assumption) ?_
  rotate_left
  · intro w' hSw; (try dsimp only at hSw); obtain ⟨a0, a1, a2, a3, jj⟩ := hSw; clear jj; go_simp; (try with_reducible rfl)
  (try simp only [Act.put, List.getElem_toArray, List.getElem_cons_zero, List.getElem_cons_succ, List.setIfInBounds_toArray, List.set_cons_zero, List.set_cons_succ])
  refine wpAnyF_take (i := 4) (v := ?_) (by kernel_rfl) (by kernel_rfl) rfl (by kernel_rfl) (by kernel_rfl) (by kernel_rfl) (fun _ _ _ h => h) (Or.inl ⟨by rfl, ?_⟩) (by assumption) ?_
  rotate_left
  · intro w' hSw; (try dsimp only at hSw); clear hSw; go_simp; (try with_reducible rfl)
  (try simp only [Act.put, List.getElem_toArray, List.getElem_cons_zero, List.getElem_cons_succ, List.setIfInBounds_toArray, List.set_cons_zero, List.set_cons_succ])
  refine wpAnyF_take (i := 5) (v := ?_) (by kernel_rfl) (by kernel_rfl) rfl (by kernel_rfl) (by kernel_rfl) (by kernel_rfl) (fun _ _ _ h => h) (Or.inl ⟨by rfl, ?_⟩) (by assumption) ?_
  rotate_left
  · intro w' hSw; (try dsimp only at hSw); obtain ⟨a0, a1, a2, a3, jj⟩ := hSw; clear jj; go_simp; (try with_reducible rfl)
  (try simp only [Act.put, List.getElem_toArray, List.getElem_cons_zero, List.getElem_cons_succ, List.setIfInBounds_toArray, List.set_cons_zero, List.set_cons_succ])
  refine wpAnyF_ready (rs := [1]) (by kernel_rfl) (by simp) ?_
  refine AllReadyF.cons rfl (fun KK hKK => ?_) AllReadyF.nil
  go_simp
  ((with_reducible refine (HRG.out _).mono ?_); rintro e' w1 ⟨rfl, hb1⟩; have hH1 := (hHeld.2.2.2.2.later hb1).held; clear hb1)
  (try go_simp)
  refine hKK.out _ _ hH1 (fun hHeld => ?_)
  clear hKK KK
  (try simp only [Act.put, List.getElem_toArray, List.getElem_cons_zero, List.getElem_cons_succ, List.setIfInBounds_toArray, List.set_cons_zero, List.set_cons_succ])
  refine wpAnyF_ready (rs := [6]) (by kernel_rfl) (by simp) ?_
  refine AllReadyF.cons rfl (fun KK hKK => ?_) AllReadyF.nil
  go_simp
  ((with_reducible refine (HLF.out _).choose_spec.mono ?_); rintro e' w2 ⟨rfl, hb2⟩; have hH2 := (hHeld.2.2.2.2.later hb2).held; clear hb2)
  (try go_simp)
  refine hKK.out _ _ hH2 (fun hHeld => ?_)
  clear hKK KK
  (try simp only [Act.put, List.getElem_toArray, List.getElem_cons_zero, List.getElem_cons_succ, List.setIfInBounds_toArray, List.set_cons_zero, List.set_cons_succ])
  refine wpAnyF_take (i := 7) (v := ?_) (by kernel_rfl) (by kernel_rfl) rfl (by kernel_rfl) (by kernel_rfl) (by kernel_rfl) (fun _ _ _ h => h) (Or.inl ⟨by rfl, ?_⟩) (by assumption) ?_
  rotate_left
  · intro w' hSw; (try dsimp only at hSw); clear hSw; go_simp; (try with_reducible rfl)
  (try simp only [Act.put, List.getElem_toArray, List.getElem_cons_zero, List.getElem_cons_succ, List.setIfInBounds_toArray, List.set_cons_zero, List.set_cons_succ])
  refine wpAnyF_take (i := 8) (v := ?_) (by kernel_rfl) (by kernel_rfl) rfl (by kernel_rfl) (by kernel_rfl) (by kernel_rfl) (fun _ _ _ h => h) (Or.inl ⟨by rfl, ?_⟩) (by assumption) ?_
  rotate_left
  · intro w' hSw; (try dsimp only at hSw); clear hSw; go_simp; (try with_reducible rfl)
  (try simp only [Act.put, List.getElem_toArray, List.getElem_cons_zero, List.getElem_cons_succ, List.setIfInBounds_toArray, List.set_cons_zero, List.set_cons_succ])
  refine wpAnyF_take (i := 9) (v := ?_) (by kernel_rfl) (by kernel_rfl) rfl (by kernel_rfl) (by kernel_rfl) (by kernel_rfl) (fun _ _ _ h => h) (Or.inl ⟨by rfl, ?_⟩) (by assumption) ?_
  rotate_left
  · intro w' hSw; (try dsimp only at hSw); clear hSw; go_simp; (try with_reducible rfl)
  (try simp only [Act.put, List.getElem_toArray, List.getElem_cons_zero, List.getElem_cons_succ, List.setIfInBounds_toArray, List.set_cons_zero, List.set_cons_succ])
  refine wpAnyF_take (i := 10) (v := ?_) (by kernel_rfl) (by kernel_rfl) rfl (by kernel_rfl) (by kernel_rfl) (by kernel_rfl) (fun _ _ _ h => h) (Or.inl ⟨by rfl, ?_⟩) (by assumption) ?_
  rotate_left
  · intro w' hSw; (try dsimp only at hSw); clear hSw; go_simp; (try with_reducible rfl)
  (try simp only [Act.put, List.getElem_toArray, List.getElem_cons_zero, List.getElem_cons_succ, List.setIfInBounds_toArray, List.set_cons_zero, List.set_cons_succ])
  refine wpAnyF_take (i := 11) (v := ?_) (by kernel_rfl) (by kernel_rfl) rfl (by kernel_rfl) (by kernel_rfl) (by kernel_rfl) (fun _ _ _ h => h) (Or.inl ⟨by rfl, ?_⟩) (by assumption) ?_
  rotate_left
  · intro w' hSw; (try dsimp only at hSw); clear hSw; go_simp; (try with_reducible rfl)
  (try simp only [Act.put, List.getElem_toArray, List.getElem_cons_zero, List.getElem_cons_succ, List.setIfInBounds_toArray, List.set_cons_zero, List.set_cons_succ])
  refine wpAnyF_done (by kernel_rfl) ?_ _
  refine NoPanic.normal ?_
  have hfin := hHeld.2.2.2.2.below
  clear hHeld
  go_wp2
  go_ret
  exact ⟨rfl, hfin⟩

set_option maxRecDepth 100000 in
set_option maxHeartbeats 4000000 in
theorem room_q (q : Qu) (hs : q.size ≤ 9223372036854775807) (w : World) : Calls Try.prog 11 #[q.v] w fun e w' => e = .returned (.int .i64 (rooN q)) ∧ Below w.heap.size w w' := by
  have HRG := hi (fun W => ring_q q W)
  have HLF : Hi (∀ W, ∃ er, Calls Try.prog 33 #[.agg #[.int .i64 q.size, .int .i64 32], .int .i64 q.read, .int .i64 q.write] W fun e w' => e = .returned (.tuple #[.int .i64 (rooN q), .int .i64 er]) ∧ Below W.heap.size W w') := hi fun W => by
    cases hk : okQ q
    · rw [rooN, if_neg (by rw [hk]; decide)]
      exact ⟨1, room_no q.size 32 q.read q.write W hk hs⟩
    · obtain ⟨h1, h2⟩ := okQ_out hk
      rw [rooN, if_pos hk]
      exact ⟨0, room_yes q.size 32 q.read q.write W h1 h2 hs⟩
  obtain ⟨n, hn⟩ : ∃ n, rooN q = n := ⟨_, rfl⟩
  rw [hn] at HLF ⊢
  clear hn
  obtain ⟨a, s, r, v⟩ := q
  dsimp only at HRG HLF ⊢
  go_enter Try.func11, Try.ntmps11
  go_wp2
  refine wp_region_noPanic ?_
  refine wp_region_last_drew (S := (fun w' => w'.cell? ⟨w.heap.size, 0, none⟩ = some (.int .i64 a) ∧ w'.cell? ⟨w.heap.size, 1, none⟩ = some (.int .i64 s) ∧ w'.cell? ⟨w.heap.size, 2, none⟩ = some (.int .i64 r) ∧ w'.cell? ⟨w.heap.size, 3, none⟩ = some (.int .i64 v) ∧ QB w w.heap.size ⟨a, s, r, v⟩ w')) [] (by kernel_rfl) ((QB.later ⟨CB.new w 25 (Qu.cs ⟨a, s, r, v⟩), bal w _⟩ (below_dr _)).held) (fun hHeld => ?_)
  (try simp only [Array.replicate_succ, Array.replicate_zero, List.push_toArray, List.nil_append, List.cons_append])
  refine wpAnyF_take (i := 0) (v := ?_) (by kernel_rfl) (by kernel_rfl) rfl (by kernel_rfl) (by kernel_rfl) (by kernel_rfl) (fun _ _ _ h => h) (Or.inl ⟨by rfl, ?_⟩) (by assumption) ?_
  rotate_left
  · intro w' hSw; (try dsimp only at hSw); obtain ⟨a0, a1, a2, a3, jj⟩ := hSw; clear jj; go_simp; (try with_reducible rfl)
  (try simp only [Act.put, List.getElem_toArray, List.getElem_cons_zero, List.getElem_cons_succ, List.setIfInBounds_toArray, List.set_cons_zero, List.set_cons_succ])
  refine wpAnyF_take (i := 2) (v := ?_) (by kernel_rfl) (by kernel_rfl) rfl (by kernel_rfl) (by kernel_rfl) (by kernel_rfl) (fun _ _ _ h => h) (Or.inl ⟨by rfl, ?_⟩) (by assumption) ?_
  rotate_left
  · intro w' hSw; (try dsimp only at hSw); clear hSw; go_simp; (try with_reducible rfl)
  (try simp only [Act.put, List.getElem_toArray, List.getElem_cons_zero, List.getElem_cons_succ, List.setIfInBounds_toArray, List.set_cons_zero, List.set_cons_succ])
  refine wpAnyF_take (i := 3) (v := ?_) (by kernel_rfl) (by kernel_rfl) rfl (by kernel_rfl) (by kernel_rfl) (by kernel_rfl) (fun _ _ _ h => h) (Or.inl ⟨by rfl, ?_⟩) (by assumption) ?_
  rotate_left
  · intro w' hSw; (try dsimp only at hSw); obtain ⟨a0, a1, a2, a3, jj⟩ := hSw; clear jj; go_simp; (try with_reducible rfl)
  (try simp only [Act.put, List.getElem_toArray, List.getElem_cons_zero, List.getElem_cons_succ, List.setIfInBounds_toArray, List.set_cons_zero, List.set_cons_succ])
  refine wpAnyF_take (i := 4) (v := ?_) (by kernel_rfl) (by kernel_rfl) rfl (by kernel_rfl) (by kernel_rfl) (by kernel_rfl) (fun _ _ _ h => h) (Or.inl ⟨by rfl, ?_⟩) (by assumption) ?_
  rotate_left
  · intro w' hSw; (try dsimp only at hSw); clear hSw; go_simp; (try with_reducible rfl)
  (try simp only [Act.put, List.getElem_toArray, List.getElem_cons_zero, List.getElem_cons_succ, List.setIfInBounds_toArray, List.set_cons_zero, List.set_cons_succ])
  refine wpAnyF_take (i := 5) (v := ?_) (by kernel_rfl) (by kernel_rfl) rfl (by kernel_rfl) (by kernel_rfl) (by kernel_rfl) (fun _ _ _ h => h) (Or.inl ⟨by rfl, ?_⟩) (by assumption) ?_
  rotate_left
  · intro w' hSw; (try dsimp only at hSw); obtain ⟨a0, a1, a2, a3, jj⟩ := hSw; clear jj; go_simp; (try with_reducible rfl)
  (try simp only [Act.put, List.getElem_toArray, List.getElem_cons_zero, List.getElem_cons_succ, List.setIfInBounds_toArray, List.set_cons_zero, List.set_cons_succ])
  refine wpAnyF_ready (rs := [1]) (by kernel_rfl) (by simp) ?_
  refine AllReadyF.cons rfl (fun KK hKK => ?_) AllReadyF.nil
  go_simp
  ((with_reducible refine (HRG.out _).mono ?_); rintro e' w1 ⟨rfl, hb1⟩; have hH1 := (hHeld.2.2.2.2.later hb1).held; clear hb1)
  (try go_simp)
  refine hKK.out _ _ hH1 (fun hHeld => ?_)
  clear hKK KK
  (try simp only [Act.put, List.getElem_toArray, List.getElem_cons_zero, List.getElem_cons_succ, List.setIfInBounds_toArray, List.set_cons_zero, List.set_cons_succ])
  refine wpAnyF_ready (rs := [6]) (by kernel_rfl) (by simp) ?_
  refine AllReadyF.cons rfl (fun KK hKK => ?_) AllReadyF.nil
  go_simp
  ((with_reducible refine (HLF.out _).choose_spec.mono ?_); rintro e' w2 ⟨rfl, hb2⟩; have hH2 := (hHeld.2.2.2.2.later hb2).held; clear hb2)
  (try go_simp)
  refine hKK.out _ _ hH2 (fun hHeld => ?_)
  clear hKK KK
  (try simp only [Act.put, List.getElem_toArray, List.getElem_cons_zero, List.getElem_cons_succ, List.setIfInBounds_toArray, List.set_cons_zero, List.set_cons_succ])
  refine wpAnyF_take (i := 7) (v := ?_) (by kernel_rfl) (by kernel_rfl) rfl (by kernel_rfl) (by kernel_rfl) (by kernel_rfl) (fun _ _ _ h => h) (Or.inl ⟨by rfl, ?_⟩) (by assumption) ?_
  rotate_left
  · intro w' hSw; (try dsimp only at hSw); clear hSw; go_simp; (try with_reducible rfl)
  (try simp only [Act.put, List.getElem_toArray, List.getElem_cons_zero, List.getElem_cons_succ, List.setIfInBounds_toArray, List.set_cons_zero, List.set_cons_succ])
  refine wpAnyF_take (i := 8) (v := ?_) (by kernel_rfl) (by kernel_rfl) rfl (by kernel_rfl) (by kernel_rfl) (by kernel_rfl) (fun _ _ _ h => h) (Or.inl ⟨by rfl, ?_⟩) (by assumption) ?_
  rotate_left
  · intro w' hSw; (try dsimp only at hSw); clear hSw; go_simp; (try with_reducible rfl)
  (try simp only [Act.put, List.getElem_toArray, List.getElem_cons_zero, List.getElem_cons_succ, List.setIfInBounds_toArray, List.set_cons_zero, List.set_cons_succ])
  refine wpAnyF_take (i := 9) (v := ?_) (by kernel_rfl) (by kernel_rfl) rfl (by kernel_rfl) (by kernel_rfl) (by kernel_rfl) (fun _ _ _ h => h) (Or.inl ⟨by rfl, ?_⟩) (by assumption) ?_
  rotate_left
  · intro w' hSw; (try dsimp only at hSw); clear hSw; go_simp; (try with_reducible rfl)
  (try simp only [Act.put, List.getElem_toArray, List.getElem_cons_zero, List.getElem_cons_succ, List.setIfInBounds_toArray, List.set_cons_zero, List.set_cons_succ])
  refine wpAnyF_take (i := 10) (v := ?_) (by kernel_rfl) (by kernel_rfl) rfl (by kernel_rfl) (by kernel_rfl) (by kernel_rfl) (fun _ _ _ h => h) (Or.inl ⟨by rfl, ?_⟩) (by assumption) ?_
  rotate_left
  · intro w' hSw; (try dsimp only at hSw); clear hSw; go_simp; (try with_reducible rfl)
  (try simp only [Act.put, List.getElem_toArray, List.getElem_cons_zero, List.getElem_cons_succ, List.setIfInBounds_toArray, List.set_cons_zero, List.set_cons_succ])
  refine wpAnyF_take (i := 11) (v := ?_) (by kernel_rfl) (by kernel_rfl) rfl (by kernel_rfl) (by kernel_rfl) (by kernel_rfl) (fun _ _ _ h => h) (Or.inl ⟨by rfl, ?_⟩) (by assumption) ?_
  rotate_left
  · intro w' hSw; (try dsimp only at hSw); clear hSw; go_simp; (try with_reducible rfl)
  (try simp only [Act.put, List.getElem_toArray, List.getElem_cons_zero, List.getElem_cons_succ, List.setIfInBounds_toArray, List.set_cons_zero, List.set_cons_succ])
  refine wpAnyF_done (by kernel_rfl) ?_ _
  refine NoPanic.normal ?_
  have hfin := hHeld.2.2.2.2.below
  clear hHeld
  go_wp2
  go_ret
  exact ⟨rfl, hfin⟩

def nextN (q : Qu) (x : Int) : Int := if mayB q.size 32 x = true then nextR q.size 32 x else 0
set_option maxRecDepth 100000 in
set_option maxHeartbeats 4000000 in
theorem after_q (q : Qu) (x : Int) (hs : q.size ≤ 9223372036854775807) (w : World) : Calls Try.prog 35 #[q.v, .int .i64 x] w fun e w' => e = .returned (.int .i64 (nextN q x)) ∧ Below w.heap.size w w' := by
  have HRG := hi (fun W => ring_q q W)
  have HN : Hi (∀ W, ∃ er, Calls Try.prog 55 #[.agg #[.int .i64 q.size, .int .i64 32], .int .i64 x] W fun e w' => e = .returned (.tuple #[.int .i64 (nextN q x), .int .i64 er]) ∧ Below W.heap.size W w') := hi fun W => by
    cases hk : mayB q.size 32 x
    · rw [nextN, if_neg (by rw [hk]; decide)]
      exact ⟨1, next_no q.size 32 x W hk hs⟩
    · rw [nextN, if_pos hk]
      exact ⟨0, next_yes q.size 32 x W hk hs⟩
  obtain ⟨n, hn⟩ : ∃ n, nextN q x = n := ⟨_, rfl⟩
  rw [hn] at HN ⊢
  clear hn
  have HC := hi (show QB w w.heap.size q (w.alloc (.cells (Qu.cs q) 25)) from ⟨CB.new w _ _, bal w _⟩)
  obtain ⟨a, s, r, v⟩ := q
  dsimp only at HRG HN HC ⊢
  obtain ⟨a0, a1, a2, a3, _⟩ := HC.out.held
  go_enter Try.func35, Try.ntmps35
  go_wp2_with (first
    | (go_at_call 31; ((with_reducible refine (HRG.out _).mono ?_); rintro e w1 ⟨rfl, hb1⟩; have H1 := hi (HC.out.later hb1); clear hb1))
    | (go_at_call 55; ((with_reducible refine (HN.out _).choose_spec.mono ?_); rintro e w2 ⟨rfl, hb2⟩; have H2 := hi (H1.out.later hb2); clear hb2)))
  go_ret
  exact ⟨rfl, H2.out.below⟩

end Go.Proofs.Ytfnokpajendlmaa
