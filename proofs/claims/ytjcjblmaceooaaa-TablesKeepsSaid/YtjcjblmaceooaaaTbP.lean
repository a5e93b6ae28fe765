/-
  The document's tables: where a device's entry stands; Lead, Put, SetRoute, SetTarget: they end, and the memory keeps its size.
-/
import Derived.Test.YtjcjblmaceooaaaTbO
namespace Go.Proofs.Ytjcjblmaceooaaa
open Go.ChangeShapes Go.WideShapes Go.ChangeAt Go.RowKit
set_option linter.unusedVariables false
set_option linter.unusedSimpArgs false

set_option maxRecDepth 100000 in
set_option maxHeartbeats 8000000 in
theorem rplace_out (q : Nat) (t : Tb) (id : Int) (w : World) (h : ¬ (0 ≤ id ∧ id < 131072)) :
    Calls Try.prog 63 #[t.v, .pointer (some ⟨q, 0, none⟩), .int .i64 id] w fun e w' => e = .returned (plV none) ∧ Below w.heap.size w w' := by
  have H0 := Hi.mk (And.intro (CB.new w 103 (Tb.cs t)) (bal w (.cells (Tb.cs t) 103)))
  obtain ⟨a, s, pg⟩ := t
  (try dsimp only at H0 ⊢)
  unfold plV
  by_cases h0 : id < 0
  · clear h
    go_enter Try.func63, Try.ntmps63
    go_wp2
    go_ret2
    exact ⟨rfl, H0.out.2⟩
  · have h1 : 131072 ≤ id := by omega
    have h2 : 0 ≤ id := by omega
    clear h h0
    go_enter Try.func63, Try.ntmps63
    go_wp2
    go_ret2
    exact ⟨rfl, H0.out.2⟩
set_option maxRecDepth 100000 in
set_option maxHeartbeats 8000000 in
theorem rplace_flat (q : Nat) (t : Tb) (id : Int) (w : World) (h0 : 0 ≤ id) (h1 : id < 131072) (hp : t.page = 0) (o : Option Nat)
    (HN : ∀ W, Below w.heap.size w W → Calls Try.prog 61 #[.pointer (some ⟨q, 0, none⟩), .agg #[.int .i64 t.at_, .int .i64 t.size], .int .i64 id] W fun e w' => e = .returned (plV o) ∧ Below W.heap.size W w') :
    Calls Try.prog 63 #[t.v, .pointer (some ⟨q, 0, none⟩), .int .i64 id] w fun e w' => e = .returned (plV o) ∧ Below w.heap.size w w' := by
  obtain ⟨u, ok, hpl⟩ : ∃ u ok, plV o = .tuple #[.int .i64 u, .bool ok] := by
    cases o with
    | none => exact ⟨_, _, rfl⟩
    | some P => exact ⟨_, _, rfl⟩
  rw [hpl] at HN ⊢
  clear hpl
  have H0 := Hi.mk (And.intro (CB.new w 103 (Tb.cs t)) (bal w (.cells (Tb.cs t) 103)))
  have HNT := Hi.mk HN
  obtain ⟨a, s, pg⟩ := t
  dsimp only at H0 hp HNT ⊢
  subst hp
  clear HN
  obtain ⟨c0, c1, c2⟩ := CB.three H0.out.1
  go_enter Try.func63, Try.ntmps63
  go_wp2_with (go_at_call 61; ((with_reducible refine (HNT.out _ H0.out.2).mono ?_); rintro e w1 ⟨rfl, hb1⟩; have H1 := Hi.mk (H0.out.2.more hb1); clear hb1))
  go_ret2
  exact ⟨rfl, H1.out⟩
set_option maxRecDepth 100000 in
set_option maxHeartbeats 8000000 in
theorem rplace_none (q : Nat) (t : Tb) (id : Int) (w : World) (h0 : 0 ≤ id) (h1 : id < 131072) (hp : t.page ≠ 0) (per x : Int) (hper : 1 ≤ per) (hpw : IntKind.i64.wrap (t.page.tdiv 8) = per) (hx : IntKind.i64.wrap (id.tdiv per) = x)
    (HN : ∀ W, Below w.heap.size w W → Calls Try.prog 61 #[.pointer (some ⟨q, 0, none⟩), .agg #[.int .i64 t.at_, .int .i64 t.size], .int .i64 x] W fun e w' => e = .returned (plV (none)) ∧ Below W.heap.size W w') :
    Calls Try.prog 63 #[t.v, .pointer (some ⟨q, 0, none⟩), .int .i64 id] w fun e w' => e = .returned (plV none) ∧ Below w.heap.size w w' := by
  have H0 := Hi.mk (And.intro (CB.new w 103 (Tb.cs t)) (bal w (.cells (Tb.cs t) 103)))
  have HNT := Hi.mk HN
  obtain ⟨a, s, pg⟩ := t
  dsimp only at H0 hp HNT hpw ⊢
  unfold plV at HNT ⊢
  dsimp only at HNT ⊢
  have g0 : (pg == 0) = false := by simpa using hp
  have g1 : (per == 0) = false := by simp; omega
  have g2 : per ≠ 0 := by omega
  clear HN hp hper
  obtain ⟨c0, c1, c2⟩ := CB.three H0.out.1
  go_enter Try.func63, Try.ntmps63
  go_wp2
  clear c0 c1 c2
  refine wp_region_noPanic ?_
  refine wp_region_last_drew (S := (fun V => V.cell? ⟨w.heap.size, 0, none⟩ = some (.int .i64 a) ∧ V.cell? ⟨w.heap.size, 1, none⟩ = some (.int .i64 s) ∧ V.cell? ⟨w.heap.size, 2, none⟩ = some (.int .i64 pg))) [] (by kernel_rfl) (CB.three H0.out.1.drew) (fun hHeld => ?_)
  (try simp only [Array.replicate_succ, Array.replicate_zero, List.push_toArray, List.nil_append, List.cons_append])
  refine wpAnyF_take (i := 0) (v := ?_) (by kernel_rfl) (by kernel_rfl) rfl (by kernel_rfl) (by kernel_rfl) (by kernel_rfl) (fun _ _ _ h => h) (Or.inl ⟨by rfl, ?_⟩) (by assumption) ?_
  rotate_left
  · intro w' hSw; (try dsimp only at hSw); clear hSw; go_simp; (try with_reducible rfl)
  (try simp only [Act.put, List.getElem_toArray, List.getElem_cons_zero, List.getElem_cons_succ, List.setIfInBounds_toArray, List.set_cons_zero, List.set_cons_succ])
  refine wpAnyF_take (i := 1) (v := ?_) (by kernel_rfl) (by kernel_rfl) rfl (by kernel_rfl) (by kernel_rfl) (by kernel_rfl) (fun _ _ _ h => h) (Or.inl ⟨by rfl, ?_⟩) (by assumption) ?_
  rotate_left
  · intro w' hSw; (try dsimp only at hSw); clear hSw; go_simp; (try with_reducible rfl)
  (try simp only [Act.put, List.getElem_toArray, List.getElem_cons_zero, List.getElem_cons_succ, List.setIfInBounds_toArray, List.set_cons_zero, List.set_cons_succ])
  refine wpAnyF_take (i := 2) (v := ?_) (by kernel_rfl) (by kernel_rfl) rfl (by kernel_rfl) (by kernel_rfl) (by kernel_rfl) (fun _ _ _ h => h) (Or.inl ⟨by rfl, ?_⟩) (by assumption) ?_
  rotate_left
  · intro w' hSw; (try dsimp only at hSw); have hq := hSw; clear hSw; obtain ⟨c0, c1, c2⟩ := hq; go_simp; (try with_reducible rfl)
  (try simp only [Act.put, List.getElem_toArray, List.getElem_cons_zero, List.getElem_cons_succ, List.setIfInBounds_toArray, List.set_cons_zero, List.set_cons_succ])
  refine wpAnyF_take (i := 3) (v := ?_) (by kernel_rfl) (by kernel_rfl) rfl (by kernel_rfl) (by kernel_rfl) (by kernel_rfl) (fun _ _ _ h => h) (Or.inl ⟨by rfl, ?_⟩) (by assumption) ?_
  rotate_left
  · intro w' hSw; (try dsimp only at hSw); clear hSw; go_simp; (try with_reducible rfl)
  (try simp only [Act.put, List.getElem_toArray, List.getElem_cons_zero, List.getElem_cons_succ, List.setIfInBounds_toArray, List.set_cons_zero, List.set_cons_succ])
  refine wpAnyF_take (i := 4) (v := ?_) (by kernel_rfl) (by kernel_rfl) rfl (by kernel_rfl) (by kernel_rfl) (by kernel_rfl) (fun _ _ _ h => h) (Or.inl ⟨by rfl, ?_⟩) (by assumption) ?_
  rotate_left
  · intro w' hSw; (try dsimp only at hSw); clear hSw; go_simp; (try with_reducible rfl)
  (try simp only [Act.put, List.getElem_toArray, List.getElem_cons_zero, List.getElem_cons_succ, List.setIfInBounds_toArray, List.set_cons_zero, List.set_cons_succ])
  refine wpAnyF_take (i := 5) (v := ?_) (by kernel_rfl) (by kernel_rfl) rfl (by kernel_rfl) (by kernel_rfl) (by kernel_rfl) (fun _ _ _ h => h) (Or.inl ⟨by rfl, ?_⟩) (by assumption) ?_
  rotate_left
  · intro w' hSw; (try dsimp only at hSw); have hq := hSw; clear hSw; obtain ⟨c0, c1, c2⟩ := hq; go_simp; (try with_reducible rfl)
  (try simp only [Act.put, List.getElem_toArray, List.getElem_cons_zero, List.getElem_cons_succ, List.setIfInBounds_toArray, List.set_cons_zero, List.set_cons_succ])
  refine wpAnyF_take (i := 6) (v := ?_) (by kernel_rfl) (by kernel_rfl) rfl (by kernel_rfl) (by kernel_rfl) (by kernel_rfl) (fun _ _ _ h => h) (Or.inl ⟨by rfl, ?_⟩) (by assumption) ?_
  rotate_left
  · intro w' hSw; (try dsimp only at hSw); clear hSw; go_simp; (try with_reducible rfl)
  (try simp only [Act.put, List.getElem_toArray, List.getElem_cons_zero, List.getElem_cons_succ, List.setIfInBounds_toArray, List.set_cons_zero, List.set_cons_succ])
  refine wpAnyF_take (i := 7) (v := ?_) (by kernel_rfl) (by kernel_rfl) rfl (by kernel_rfl) (by kernel_rfl) (by kernel_rfl) (fun _ _ _ h => h) (Or.inl ⟨by rfl, ?_⟩) (by assumption) ?_
  rotate_left
  · intro w' hSw; (try dsimp only at hSw); clear hSw; go_simp; (try with_reducible rfl)
  (try simp only [Act.put, List.getElem_toArray, List.getElem_cons_zero, List.getElem_cons_succ, List.setIfInBounds_toArray, List.set_cons_zero, List.set_cons_succ])
  refine wpAnyF_ready (rs := [8]) (by kernel_rfl) (by simp) ?_
  refine AllReadyF.cons rfl (fun KK hKK => ?_) AllReadyF.nil
  go_simp
  ((with_reducible refine (HNT.out _ (H0.out.2.more (below_dr _))).mono ?_); rintro e' w1 ⟨rfl, hbb⟩; have HL := Hi.mk (And.intro (H0.out.1.drew.below hbb) ((H0.out.2.more (below_dr _)).more hbb)); clear hbb)
  (try go_simp)
  refine hKK.out _ _ (CB.three HL.out.1) (fun hHeld => ?_)
  clear hKK KK
  (try simp only [Act.put, List.getElem_toArray, List.getElem_cons_zero, List.getElem_cons_succ, List.setIfInBounds_toArray, List.set_cons_zero, List.set_cons_succ])
  refine wpAnyF_take (i := 9) (v := ?_) (by kernel_rfl) (by kernel_rfl) rfl (by kernel_rfl) (by kernel_rfl) (by kernel_rfl) (fun _ _ _ h => h) (Or.inl ⟨by rfl, ?_⟩) (by assumption) ?_
  rotate_left
  · intro w' hSw; (try dsimp only at hSw); clear hSw; go_simp; (try with_reducible rfl)
  (try simp only [Act.put, List.getElem_toArray, List.getElem_cons_zero, List.getElem_cons_succ, List.setIfInBounds_toArray, List.set_cons_zero, List.set_cons_succ])
  refine wpAnyF_take (i := 10) (v := ?_) (by kernel_rfl) (by kernel_rfl) rfl (by kernel_rfl) (by kernel_rfl) (by kernel_rfl) (fun _ _ _ h => h) (Or.inl ⟨by rfl, ?_⟩) (by assumption) ?_
  rotate_left
  · intro w' hSw; (try dsimp only at hSw); clear hSw; go_simp; (try with_reducible rfl)
  (try simp only [Act.put, List.getElem_toArray, List.getElem_cons_zero, List.getElem_cons_succ, List.setIfInBounds_toArray, List.set_cons_zero, List.set_cons_succ])
  refine wpAnyF_take (i := 11) (v := ?_) (by kernel_rfl) (by kernel_rfl) rfl (by kernel_rfl) (by kernel_rfl) (by kernel_rfl) (fun _ _ _ h => h) (Or.inl ⟨by rfl, ?_⟩) (by assumption) ?_
  rotate_left
  · intro w' hSw; (try dsimp only at hSw); clear hSw; go_simp; (try with_reducible rfl)
  (try simp only [Act.put, List.getElem_toArray, List.getElem_cons_zero, List.getElem_cons_succ, List.setIfInBounds_toArray, List.set_cons_zero, List.set_cons_succ])
  refine wpAnyF_take (i := 12) (v := ?_) (by kernel_rfl) (by kernel_rfl) rfl (by kernel_rfl) (by kernel_rfl) (by kernel_rfl) (fun _ _ _ h => h) (Or.inl ⟨by rfl, ?_⟩) (by assumption) ?_
  rotate_left
  · intro w' hSw; (try dsimp only at hSw); clear hSw; go_simp; (try with_reducible rfl)
  (try simp only [Act.put, List.getElem_toArray, List.getElem_cons_zero, List.getElem_cons_succ, List.setIfInBounds_toArray, List.set_cons_zero, List.set_cons_succ])
  refine wpAnyF_take (i := 13) (v := ?_) (by kernel_rfl) (by kernel_rfl) rfl (by kernel_rfl) (by kernel_rfl) (by kernel_rfl) (fun _ _ _ h => h) (Or.inl ⟨by rfl, ?_⟩) (by assumption) ?_
  rotate_left
  · intro w' hSw; (try dsimp only at hSw); clear hSw; go_simp; (try with_reducible rfl)
  (try simp only [Act.put, List.getElem_toArray, List.getElem_cons_zero, List.getElem_cons_succ, List.setIfInBounds_toArray, List.set_cons_zero, List.set_cons_succ])
  refine wpAnyF_done (by kernel_rfl) ?_ _
  refine NoPanic.normal ?_
  go_wp2
  go_ret2
  exact ⟨rfl, HL.out.2⟩
set_option maxRecDepth 100000 in
set_option maxHeartbeats 8000000 in
theorem rplace_inv (q : Nat) (t : Tb) (id : Int) (w : World) (h0 : 0 ≤ id) (h1 : id < 131072) (hp : t.page ≠ 0) (per x : Int) (hper : 1 ≤ per) (hpw : IntKind.i64.wrap (t.page.tdiv 8) = per) (hx : IntKind.i64.wrap (id.tdiv per) = x) (k v : Nat)
    (HN : ∀ W, Below w.heap.size w W → Calls Try.prog 61 #[.pointer (some ⟨q, 0, none⟩), .agg #[.int .i64 t.at_, .int .i64 t.size], .int .i64 x] W fun e w' => e = .returned (plV (some k)) ∧ Below W.heap.size W w')
    (HG : ∀ W, Below w.heap.size w W → Calls Try.prog 67 #[.pointer (some ⟨q, 0, none⟩), .int .i64 k] W fun e w' => e = .returned (.tuple #[.int .u64 v, .bool false]) ∧ W = w') :
    Calls Try.prog 63 #[t.v, .pointer (some ⟨q, 0, none⟩), .int .i64 id] w fun e w' => e = .returned (plV none) ∧ Below w.heap.size w w' := by
  have H0 := Hi.mk (And.intro (CB.new w 103 (Tb.cs t)) (bal w (.cells (Tb.cs t) 103)))
  have HNT := Hi.mk HN
  have HGT := Hi.mk HG
  obtain ⟨a, s, pg⟩ := t
  dsimp only at H0 hp HNT hpw ⊢
  unfold plV at HNT ⊢
  dsimp only at HNT ⊢
  have g0 : (pg == 0) = false := by simpa using hp
  have g1 : (per == 0) = false := by simp; omega
  have g2 : per ≠ 0 := by omega
  clear HN HG hp hper
  obtain ⟨c0, c1, c2⟩ := CB.three H0.out.1
  go_enter Try.func63, Try.ntmps63
  go_wp2
  clear c0 c1 c2
  refine wp_region_noPanic ?_
  refine wp_region_last_drew (S := (fun V => V.cell? ⟨w.heap.size, 0, none⟩ = some (.int .i64 a) ∧ V.cell? ⟨w.heap.size, 1, none⟩ = some (.int .i64 s) ∧ V.cell? ⟨w.heap.size, 2, none⟩ = some (.int .i64 pg))) [] (by kernel_rfl) (CB.three H0.out.1.drew) (fun hHeld => ?_)
  (try simp only [Array.replicate_succ, Array.replicate_zero, List.push_toArray, List.nil_append, List.cons_append])
  refine wpAnyF_take (i := 0) (v := ?_) (by kernel_rfl) (by kernel_rfl) rfl (by kernel_rfl) (by kernel_rfl) (by kernel_rfl) (fun _ _ _ h => h) (Or.inl ⟨by rfl, ?_⟩) (by assumption) ?_
  rotate_left
  · intro w' hSw; (try dsimp only at hSw); clear hSw; go_simp; (try with_reducible rfl)
  (try simp only [Act.put, List.getElem_toArray, List.getElem_cons_zero, List.getElem_cons_succ, List.setIfInBounds_toArray, List.set_cons_zero, List.set_cons_succ])
  refine wpAnyF_take (i := 1) (v := ?_) (by kernel_rfl) (by kernel_rfl) rfl (by kernel_rfl) (by kernel_rfl) (by kernel_rfl) (fun _ _ _ h => h) (Or.inl ⟨by rfl, ?_⟩) (by assumption) ?_
  rotate_left
  · intro w' hSw; (try dsimp only at hSw); clear hSw; go_simp; (try with_reducible rfl)
  (try simp only [Act.put, List.getElem_toArray, List.getElem_cons_zero, List.getElem_cons_succ, List.setIfInBounds_toArray, List.set_cons_zero, List.set_cons_succ])
  refine wpAnyF_take (i := 2) (v := ?_) (by kernel_rfl) (by kernel_rfl) rfl (by kernel_rfl) (by kernel_rfl) (by kernel_rfl) (fun _ _ _ h => h) (Or.inl ⟨by rfl, ?_⟩) (by assumption) ?_
  rotate_left
  · intro w' hSw; (try dsimp only at hSw); have hq := hSw; clear hSw; obtain ⟨c0, c1, c2⟩ := hq; go_simp; (try with_reducible rfl)
  (try simp only [Act.put, List.getElem_toArray, List.getElem_cons_zero, List.getElem_cons_succ, List.setIfInBounds_toArray, List.set_cons_zero, List.set_cons_succ])
  refine wpAnyF_take (i := 3) (v := ?_) (by kernel_rfl) (by kernel_rfl) rfl (by kernel_rfl) (by kernel_rfl) (by kernel_rfl) (fun _ _ _ h => h) (Or.inl ⟨by rfl, ?_⟩) (by assumption) ?_
  rotate_left
  · intro w' hSw; (try dsimp only at hSw); clear hSw; go_simp; (try with_reducible rfl)
  (try simp only [Act.put, List.getElem_toArray, List.getElem_cons_zero, List.getElem_cons_succ, List.setIfInBounds_toArray, List.set_cons_zero, List.set_cons_succ])
  refine wpAnyF_take (i := 4) (v := ?_) (by kernel_rfl) (by kernel_rfl) rfl (by kernel_rfl) (by kernel_rfl) (by kernel_rfl) (fun _ _ _ h => h) (Or.inl ⟨by rfl, ?_⟩) (by assumption) ?_
  rotate_left
  · intro w' hSw; (try dsimp only at hSw); clear hSw; go_simp; (try with_reducible rfl)
  (try simp only [Act.put, List.getElem_toArray, List.getElem_cons_zero, List.getElem_cons_succ, List.setIfInBounds_toArray, List.set_cons_zero, List.set_cons_succ])
  refine wpAnyF_take (i := 5) (v := ?_) (by kernel_rfl) (by kernel_rfl) rfl (by kernel_rfl) (by kernel_rfl) (by kernel_rfl) (fun _ _ _ h => h) (Or.inl ⟨by rfl, ?_⟩) (by assumption) ?_
  rotate_left
  · intro w' hSw; (try dsimp only at hSw); have hq := hSw; clear hSw; obtain ⟨c0, c1, c2⟩ := hq; go_simp; (try with_reducible rfl)
  (try simp only [Act.put, List.getElem_toArray, List.getElem_cons_zero, List.getElem_cons_succ, List.setIfInBounds_toArray, List.set_cons_zero, List.set_cons_succ])
  refine wpAnyF_take (i := 6) (v := ?_) (by kernel_rfl) (by kernel_rfl) rfl (by kernel_rfl) (by kernel_rfl) (by kernel_rfl) (fun _ _ _ h => h) (Or.inl ⟨by rfl, ?_⟩) (by assumption) ?_
  rotate_left
  · intro w' hSw; (try dsimp only at hSw); clear hSw; go_simp; (try with_reducible rfl)
  (try simp only [Act.put, List.getElem_toArray, List.getElem_cons_zero, List.getElem_cons_succ, List.setIfInBounds_toArray, List.set_cons_zero, List.set_cons_succ])
  refine wpAnyF_take (i := 7) (v := ?_) (by kernel_rfl) (by kernel_rfl) rfl (by kernel_rfl) (by kernel_rfl) (by kernel_rfl) (fun _ _ _ h => h) (Or.inl ⟨by rfl, ?_⟩) (by assumption) ?_
  rotate_left
  · intro w' hSw; (try dsimp only at hSw); clear hSw; go_simp; (try with_reducible rfl)
  (try simp only [Act.put, List.getElem_toArray, List.getElem_cons_zero, List.getElem_cons_succ, List.setIfInBounds_toArray, List.set_cons_zero, List.set_cons_succ])
  refine wpAnyF_ready (rs := [8]) (by kernel_rfl) (by simp) ?_
  refine AllReadyF.cons rfl (fun KK hKK => ?_) AllReadyF.nil
  go_simp
  ((with_reducible refine (HNT.out _ (H0.out.2.more (below_dr _))).mono ?_); rintro e' w1 ⟨rfl, hbb⟩; have HL := Hi.mk (And.intro (H0.out.1.drew.below hbb) ((H0.out.2.more (below_dr _)).more hbb)); clear hbb)
  (try go_simp)
  refine hKK.out _ _ (CB.three HL.out.1) (fun hHeld => ?_)
  clear hKK KK
  (try simp only [Act.put, List.getElem_toArray, List.getElem_cons_zero, List.getElem_cons_succ, List.setIfInBounds_toArray, List.set_cons_zero, List.set_cons_succ])
  refine wpAnyF_take (i := 9) (v := ?_) (by kernel_rfl) (by kernel_rfl) rfl (by kernel_rfl) (by kernel_rfl) (by kernel_rfl) (fun _ _ _ h => h) (Or.inl ⟨by rfl, ?_⟩) (by assumption) ?_
  rotate_left
  · intro w' hSw; (try dsimp only at hSw); clear hSw; go_simp; (try with_reducible rfl)
  (try simp only [Act.put, List.getElem_toArray, List.getElem_cons_zero, List.getElem_cons_succ, List.setIfInBounds_toArray, List.set_cons_zero, List.set_cons_succ])
  refine wpAnyF_take (i := 10) (v := ?_) (by kernel_rfl) (by kernel_rfl) rfl (by kernel_rfl) (by kernel_rfl) (by kernel_rfl) (fun _ _ _ h => h) (Or.inl ⟨by rfl, ?_⟩) (by assumption) ?_
  rotate_left
  · intro w' hSw; (try dsimp only at hSw); clear hSw; go_simp; (try with_reducible rfl)
  (try simp only [Act.put, List.getElem_toArray, List.getElem_cons_zero, List.getElem_cons_succ, List.setIfInBounds_toArray, List.set_cons_zero, List.set_cons_succ])
  refine wpAnyF_take (i := 11) (v := ?_) (by kernel_rfl) (by kernel_rfl) rfl (by kernel_rfl) (by kernel_rfl) (by kernel_rfl) (fun _ _ _ h => h) (Or.inl ⟨by rfl, ?_⟩) (by assumption) ?_
  rotate_left
  · intro w' hSw; (try dsimp only at hSw); clear hSw; go_simp; (try with_reducible rfl)
  (try simp only [Act.put, List.getElem_toArray, List.getElem_cons_zero, List.getElem_cons_succ, List.setIfInBounds_toArray, List.set_cons_zero, List.set_cons_succ])
  refine wpAnyF_take (i := 12) (v := ?_) (by kernel_rfl) (by kernel_rfl) rfl (by kernel_rfl) (by kernel_rfl) (by kernel_rfl) (fun _ _ _ h => h) (Or.inl ⟨by rfl, ?_⟩) (by assumption) ?_
  rotate_left
  · intro w' hSw; (try dsimp only at hSw); clear hSw; go_simp; (try with_reducible rfl)
  (try simp only [Act.put, List.getElem_toArray, List.getElem_cons_zero, List.getElem_cons_succ, List.setIfInBounds_toArray, List.set_cons_zero, List.set_cons_succ])
  refine wpAnyF_take (i := 13) (v := ?_) (by kernel_rfl) (by kernel_rfl) rfl (by kernel_rfl) (by kernel_rfl) (by kernel_rfl) (fun _ _ _ h => h) (Or.inl ⟨by rfl, ?_⟩) (by assumption) ?_
  rotate_left
  · intro w' hSw; (try dsimp only at hSw); clear hSw; go_simp; (try with_reducible rfl)
  (try simp only [Act.put, List.getElem_toArray, List.getElem_cons_zero, List.getElem_cons_succ, List.setIfInBounds_toArray, List.set_cons_zero, List.set_cons_succ])
  refine wpAnyF_done (by kernel_rfl) ?_ _
  refine NoPanic.normal ?_
  go_wp2_with (go_at_call 67; ((with_reducible refine (HGT.out _ HL.out.2).mono ?_); rintro e w2 ⟨rfl, rfl⟩))
  go_ret2
  exact ⟨rfl, HL.out.2⟩
set_option maxRecDepth 100000 in
set_option maxHeartbeats 8000000 in
theorem rplace_yes (q : Nat) (t : Tb) (id : Int) (w : World) (h0 : 0 ≤ id) (h1 : id < 131072) (hp : t.page ≠ 0) (per x : Int) (hper : 1 ≤ per) (hpw : IntKind.i64.wrap (t.page.tdiv 8) = per) (hx : IntKind.i64.wrap (id.tdiv per) = x) (y z : Int) (hy : id.tmod per = y) (k v : Nat) (hz1 : (v : Int) % 4294967296 = z) (o : Option Nat)
    (HN : ∀ W, Below w.heap.size w W → Calls Try.prog 61 #[.pointer (some ⟨q, 0, none⟩), .agg #[.int .i64 t.at_, .int .i64 t.size], .int .i64 x] W fun e w' => e = .returned (plV (some k)) ∧ Below W.heap.size W w')
    (HG : ∀ W, Below w.heap.size w W → Calls Try.prog 67 #[.pointer (some ⟨q, 0, none⟩), .int .i64 k] W fun e w' => e = .returned (.tuple #[.int .u64 v, .bool true]) ∧ W = w')
    (HN2 : ∀ W, Below w.heap.size w W → Calls Try.prog 61 #[.pointer (some ⟨q, 0, none⟩), .agg #[.int .i64 z, .int .i64 t.page], .int .i64 y] W fun e w' => e = .returned (plV o) ∧ Below W.heap.size W w') :
    Calls Try.prog 63 #[t.v, .pointer (some ⟨q, 0, none⟩), .int .i64 id] w fun e w' => e = .returned (plV o) ∧ Below w.heap.size w w' := by
  obtain ⟨u, ok, hpl⟩ : ∃ u ok, plV o = .tuple #[.int .i64 u, .bool ok] := by
    cases o with
    | none => exact ⟨_, _, rfl⟩
    | some P => exact ⟨_, _, rfl⟩
  rw [hpl] at HN2 ⊢
  clear hpl
  have H0 := Hi.mk (And.intro (CB.new w 103 (Tb.cs t)) (bal w (.cells (Tb.cs t) 103)))
  have HNT := Hi.mk HN
  have HGT := Hi.mk HG
  have HN3 := Hi.mk HN2
  obtain ⟨a, s, pg⟩ := t
  dsimp only at H0 hp HNT hpw HN3 ⊢
  unfold plV at HNT
  dsimp only at HNT
  have g0 : (pg == 0) = false := by simpa using hp
  have g1 : (per == 0) = false := by simp; omega
  have g2 : per ≠ 0 := by omega
  have hz2 : (v : Int).tmod 4294967296 = z := by rw [Int.tmod_eq_emod_of_nonneg (by omega)]; exact hz1
  have hz3 : IntKind.i64.wrap z = z := by rw [IntKind.wrap_i64]; omega
  clear HN HG HN2 hp hper
  obtain ⟨c0, c1, c2⟩ := CB.three H0.out.1
  go_enter Try.func63, Try.ntmps63
  go_wp2
  clear c0 c1 c2
  refine wp_region_noPanic ?_
  refine wp_region_last_drew (S := (fun V => V.cell? ⟨w.heap.size, 0, none⟩ = some (.int .i64 a) ∧ V.cell? ⟨w.heap.size, 1, none⟩ = some (.int .i64 s) ∧ V.cell? ⟨w.heap.size, 2, none⟩ = some (.int .i64 pg))) [] (by kernel_rfl) (CB.three H0.out.1.drew) (fun hHeld => ?_)
  (try simp only [Array.replicate_succ, Array.replicate_zero, List.push_toArray, List.nil_append, List.cons_append])
  refine wpAnyF_take (i := 0) (v := ?_) (by kernel_rfl) (by kernel_rfl) rfl (by kernel_rfl) (by kernel_rfl) (by kernel_rfl) (fun _ _ _ h => h) (Or.inl ⟨by rfl, ?_⟩) (by assumption) ?_
  rotate_left
  · intro w' hSw; (try dsimp only at hSw); clear hSw; go_simp; (try with_reducible rfl)
  (try simp only [Act.put, List.getElem_toArray, List.getElem_cons_zero, List.getElem_cons_succ, List.setIfInBounds_toArray, List.set_cons_zero, List.set_cons_succ])
  refine wpAnyF_take (i := 1) (v := ?_) (by kernel_rfl) (by kernel_rfl) rfl (by kernel_rfl) (by kernel_rfl) (by kernel_rfl) (fun _ _ _ h => h) (Or.inl ⟨by rfl, ?_⟩) (by assumption) ?_
  rotate_left
  · intro w' hSw; (try dsimp only at hSw); clear hSw; go_simp; (try with_reducible rfl)
  (try simp only [Act.put, List.getElem_toArray, List.getElem_cons_zero, List.getElem_cons_succ, List.setIfInBounds_toArray, List.set_cons_zero, List.set_cons_succ])
  refine wpAnyF_take (i := 2) (v := ?_) (by kernel_rfl) (by kernel_rfl) rfl (by kernel_rfl) (by kernel_rfl) (by kernel_rfl) (fun _ _ _ h => h) (Or.inl ⟨by rfl, ?_⟩) (by assumption) ?_
  rotate_left
  · intro w' hSw; (try dsimp only at hSw); have hq := hSw; clear hSw; obtain ⟨c0, c1, c2⟩ := hq; go_simp; (try with_reducible rfl)
  (try simp only [Act.put, List.getElem_toArray, List.getElem_cons_zero, List.getElem_cons_succ, List.setIfInBounds_toArray, List.set_cons_zero, List.set_cons_succ])
  refine wpAnyF_take (i := 3) (v := ?_) (by kernel_rfl) (by kernel_rfl) rfl (by kernel_rfl) (by kernel_rfl) (by kernel_rfl) (fun _ _ _ h => h) (Or.inl ⟨by rfl, ?_⟩) (by assumption) ?_
  rotate_left
  · intro w' hSw; (try dsimp only at hSw); clear hSw; go_simp; (try with_reducible rfl)
  (try simp only [Act.put, List.getElem_toArray, List.getElem_cons_zero, List.getElem_cons_succ, List.setIfInBounds_toArray, List.set_cons_zero, List.set_cons_succ])
  refine wpAnyF_take (i := 4) (v := ?_) (by kernel_rfl) (by kernel_rfl) rfl (by kernel_rfl) (by kernel_rfl) (by kernel_rfl) (fun _ _ _ h => h) (Or.inl ⟨by rfl, ?_⟩) (by assumption) ?_
  rotate_left
  · intro w' hSw; (try dsimp only at hSw); clear hSw; go_simp; (try with_reducible rfl)
  (try simp only [Act.put, List.getElem_toArray, List.getElem_cons_zero, List.getElem_cons_succ, List.setIfInBounds_toArray, List.set_cons_zero, List.set_cons_succ])
  refine wpAnyF_take (i := 5) (v := ?_) (by kernel_rfl) (by kernel_rfl) rfl (by kernel_rfl) (by kernel_rfl) (by kernel_rfl) (fun _ _ _ h => h) (Or.inl ⟨by rfl, ?_⟩) (by assumption) ?_
  rotate_left
  · intro w' hSw; (try dsimp only at hSw); have hq := hSw; clear hSw; obtain ⟨c0, c1, c2⟩ := hq; go_simp; (try with_reducible rfl)
  (try simp only [Act.put, List.getElem_toArray, List.getElem_cons_zero, List.getElem_cons_succ, List.setIfInBounds_toArray, List.set_cons_zero, List.set_cons_succ])
  refine wpAnyF_take (i := 6) (v := ?_) (by kernel_rfl) (by kernel_rfl) rfl (by kernel_rfl) (by kernel_rfl) (by kernel_rfl) (fun _ _ _ h => h) (Or.inl ⟨by rfl, ?_⟩) (by assumption) ?_
  rotate_left
  · intro w' hSw; (try dsimp only at hSw); clear hSw; go_simp; (try with_reducible rfl)
  (try simp only [Act.put, List.getElem_toArray, List.getElem_cons_zero, List.getElem_cons_succ, List.setIfInBounds_toArray, List.set_cons_zero, List.set_cons_succ])
  refine wpAnyF_take (i := 7) (v := ?_) (by kernel_rfl) (by kernel_rfl) rfl (by kernel_rfl) (by kernel_rfl) (by kernel_rfl) (fun _ _ _ h => h) (Or.inl ⟨by rfl, ?_⟩) (by assumption) ?_
  rotate_left
  · intro w' hSw; (try dsimp only at hSw); clear hSw; go_simp; (try with_reducible rfl)
  (try simp only [Act.put, List.getElem_toArray, List.getElem_cons_zero, List.getElem_cons_succ, List.setIfInBounds_toArray, List.set_cons_zero, List.set_cons_succ])
  refine wpAnyF_ready (rs := [8]) (by kernel_rfl) (by simp) ?_
  refine AllReadyF.cons rfl (fun KK hKK => ?_) AllReadyF.nil
  go_simp
  ((with_reducible refine (HNT.out _ (H0.out.2.more (below_dr _))).mono ?_); rintro e' w1 ⟨rfl, hbb⟩; have HL := Hi.mk (And.intro (H0.out.1.drew.below hbb) ((H0.out.2.more (below_dr _)).more hbb)); clear hbb)
  (try go_simp)
  refine hKK.out _ _ (CB.three HL.out.1) (fun hHeld => ?_)
  clear hKK KK
  (try simp only [Act.put, List.getElem_toArray, List.getElem_cons_zero, List.getElem_cons_succ, List.setIfInBounds_toArray, List.set_cons_zero, List.set_cons_succ])
  refine wpAnyF_take (i := 9) (v := ?_) (by kernel_rfl) (by kernel_rfl) rfl (by kernel_rfl) (by kernel_rfl) (by kernel_rfl) (fun _ _ _ h => h) (Or.inl ⟨by rfl, ?_⟩) (by assumption) ?_
  rotate_left
  · intro w' hSw; (try dsimp only at hSw); clear hSw; go_simp; (try with_reducible rfl)
  (try simp only [Act.put, List.getElem_toArray, List.getElem_cons_zero, List.getElem_cons_succ, List.setIfInBounds_toArray, List.set_cons_zero, List.set_cons_succ])
  refine wpAnyF_take (i := 10) (v := ?_) (by kernel_rfl) (by kernel_rfl) rfl (by kernel_rfl) (by kernel_rfl) (by kernel_rfl) (fun _ _ _ h => h) (Or.inl ⟨by rfl, ?_⟩) (by assumption) ?_
  rotate_left
  · intro w' hSw; (try dsimp only at hSw); clear hSw; go_simp; (try with_reducible rfl)
  (try simp only [Act.put, List.getElem_toArray, List.getElem_cons_zero, List.getElem_cons_succ, List.setIfInBounds_toArray, List.set_cons_zero, List.set_cons_succ])
  refine wpAnyF_take (i := 11) (v := ?_) (by kernel_rfl) (by kernel_rfl) rfl (by kernel_rfl) (by kernel_rfl) (by kernel_rfl) (fun _ _ _ h => h) (Or.inl ⟨by rfl, ?_⟩) (by assumption) ?_
  rotate_left
  · intro w' hSw; (try dsimp only at hSw); clear hSw; go_simp; (try with_reducible rfl)
  (try simp only [Act.put, List.getElem_toArray, List.getElem_cons_zero, List.getElem_cons_succ, List.setIfInBounds_toArray, List.set_cons_zero, List.set_cons_succ])
  refine wpAnyF_take (i := 12) (v := ?_) (by kernel_rfl) (by kernel_rfl) rfl (by kernel_rfl) (by kernel_rfl) (by kernel_rfl) (fun _ _ _ h => h) (Or.inl ⟨by rfl, ?_⟩) (by assumption) ?_
  rotate_left
  · intro w' hSw; (try dsimp only at hSw); clear hSw; go_simp; (try with_reducible rfl)
  (try simp only [Act.put, List.getElem_toArray, List.getElem_cons_zero, List.getElem_cons_succ, List.setIfInBounds_toArray, List.set_cons_zero, List.set_cons_succ])
  refine wpAnyF_take (i := 13) (v := ?_) (by kernel_rfl) (by kernel_rfl) rfl (by kernel_rfl) (by kernel_rfl) (by kernel_rfl) (fun _ _ _ h => h) (Or.inl ⟨by rfl, ?_⟩) (by assumption) ?_
  rotate_left
  · intro w' hSw; (try dsimp only at hSw); clear hSw; go_simp; (try with_reducible rfl)
  (try simp only [Act.put, List.getElem_toArray, List.getElem_cons_zero, List.getElem_cons_succ, List.setIfInBounds_toArray, List.set_cons_zero, List.set_cons_succ])
  refine wpAnyF_done (by kernel_rfl) ?_ _
  refine NoPanic.normal ?_
  go_wp2_with (go_at_call 67; ((with_reducible refine (HGT.out _ HL.out.2).mono ?_); rintro e w2 ⟨rfl, rfl⟩))
  refine wp_region_noPanic ?_
  refine wp_region_last_drew (S := (fun V => V.cell? ⟨w.heap.size, 0, none⟩ = some (.int .i64 a) ∧ V.cell? ⟨w.heap.size, 1, none⟩ = some (.int .i64 s) ∧ V.cell? ⟨w.heap.size, 2, none⟩ = some (.int .i64 pg))) [] (by kernel_rfl) (CB.three HL.out.1.drew) (fun hHeld => ?_)
  (try simp only [Array.replicate_succ, Array.replicate_zero, List.push_toArray, List.nil_append, List.cons_append])
  refine wpAnyF_take (i := 0) (v := ?_) (by kernel_rfl) (by kernel_rfl) rfl (by kernel_rfl) (by kernel_rfl) (by kernel_rfl) (fun _ _ _ h => h) (Or.inl ⟨by rfl, ?_⟩) (by assumption) ?_
  rotate_left
  · intro w' hSw; (try dsimp only at hSw); clear hSw; go_simp; (try with_reducible rfl)
  (try simp only [Act.put, List.getElem_toArray, List.getElem_cons_zero, List.getElem_cons_succ, List.setIfInBounds_toArray, List.set_cons_zero, List.set_cons_succ])
  refine wpAnyF_take (i := 1) (v := ?_) (by kernel_rfl) (by kernel_rfl) rfl (by kernel_rfl) (by kernel_rfl) (by kernel_rfl) (fun _ _ _ h => h) (Or.inl ⟨by rfl, ?_⟩) (by assumption) ?_
  rotate_left
  · intro w' hSw; (try dsimp only at hSw); clear hSw; go_simp; (try with_reducible rfl)
  (try simp only [Act.put, List.getElem_toArray, List.getElem_cons_zero, List.getElem_cons_succ, List.setIfInBounds_toArray, List.set_cons_zero, List.set_cons_succ])
  refine wpAnyF_take (i := 2) (v := ?_) (by kernel_rfl) (by kernel_rfl) rfl (by kernel_rfl) (by kernel_rfl) (by kernel_rfl) (fun _ _ _ h => h) (Or.inl ⟨by rfl, ?_⟩) (by assumption) ?_
  rotate_left
  · intro w' hSw; (try dsimp only at hSw); clear hSw; go_simp; (try with_reducible rfl)
  (try simp only [Act.put, List.getElem_toArray, List.getElem_cons_zero, List.getElem_cons_succ, List.setIfInBounds_toArray, List.set_cons_zero, List.set_cons_succ])
  refine wpAnyF_take (i := 3) (v := ?_) (by kernel_rfl) (by kernel_rfl) rfl (by kernel_rfl) (by kernel_rfl) (by kernel_rfl) (fun _ _ _ h => h) (Or.inl ⟨by rfl, ?_⟩) (by assumption) ?_
  rotate_left
  · intro w' hSw; (try dsimp only at hSw); clear hSw; go_simp; (try with_reducible rfl)
  (try simp only [Act.put, List.getElem_toArray, List.getElem_cons_zero, List.getElem_cons_succ, List.setIfInBounds_toArray, List.set_cons_zero, List.set_cons_succ])
  refine wpAnyF_take (i := 4) (v := ?_) (by kernel_rfl) (by kernel_rfl) rfl (by kernel_rfl) (by kernel_rfl) (by kernel_rfl) (fun _ _ _ h => h) (Or.inl ⟨by rfl, ?_⟩) (by assumption) ?_
  rotate_left
  · intro w' hSw; (try dsimp only at hSw); clear hSw; go_simp; (try with_reducible rfl)
  (try simp only [Act.put, List.getElem_toArray, List.getElem_cons_zero, List.getElem_cons_succ, List.setIfInBounds_toArray, List.set_cons_zero, List.set_cons_succ])
  refine wpAnyF_take (i := 5) (v := ?_) (by kernel_rfl) (by kernel_rfl) rfl (by kernel_rfl) (by kernel_rfl) (by kernel_rfl) (fun _ _ _ h => h) (Or.inl ⟨by rfl, ?_⟩) (by assumption) ?_
  rotate_left
  · intro w' hSw; (try dsimp only at hSw); have hq := hSw; clear hSw; obtain ⟨c0, c1, c2⟩ := hq; go_simp; (try with_reducible rfl)
  (try simp only [Act.put, List.getElem_toArray, List.getElem_cons_zero, List.getElem_cons_succ, List.setIfInBounds_toArray, List.set_cons_zero, List.set_cons_succ])
  refine wpAnyF_take (i := 6) (v := ?_) (by kernel_rfl) (by kernel_rfl) rfl (by kernel_rfl) (by kernel_rfl) (by kernel_rfl) (fun _ _ _ h => h) (Or.inl ⟨by rfl, ?_⟩) (by assumption) ?_
  rotate_left
  · intro w' hSw; (try dsimp only at hSw); clear hSw; go_simp; (try with_reducible rfl)
  (try simp only [Act.put, List.getElem_toArray, List.getElem_cons_zero, List.getElem_cons_succ, List.setIfInBounds_toArray, List.set_cons_zero, List.set_cons_succ])
  refine wpAnyF_take (i := 7) (v := ?_) (by kernel_rfl) (by kernel_rfl) rfl (by kernel_rfl) (by kernel_rfl) (by kernel_rfl) (fun _ _ _ h => h) (Or.inl ⟨by rfl, ?_⟩) (by assumption) ?_
  rotate_left
  · intro w' hSw; (try dsimp only at hSw); clear hSw; go_simp; (try with_reducible rfl)
  (try simp only [Act.put, List.getElem_toArray, List.getElem_cons_zero, List.getElem_cons_succ, List.setIfInBounds_toArray, List.set_cons_zero, List.set_cons_succ])
  refine wpAnyF_take (i := 8) (v := ?_) (by kernel_rfl) (by kernel_rfl) rfl (by kernel_rfl) (by kernel_rfl) (by kernel_rfl) (fun _ _ _ h => h) (Or.inl ⟨by rfl, ?_⟩) (by assumption) ?_
  rotate_left
  · intro w' hSw; (try dsimp only at hSw); clear hSw; go_simp; (try with_reducible rfl)
  (try simp only [Act.put, List.getElem_toArray, List.getElem_cons_zero, List.getElem_cons_succ, List.setIfInBounds_toArray, List.set_cons_zero, List.set_cons_succ])
  refine wpAnyF_take (i := 9) (v := ?_) (by kernel_rfl) (by kernel_rfl) rfl (by kernel_rfl) (by kernel_rfl) (by kernel_rfl) (fun _ _ _ h => h) (Or.inl ⟨by rfl, ?_⟩) (by assumption) ?_
  rotate_left
  · intro w' hSw; (try dsimp only at hSw); have hq := hSw; clear hSw; obtain ⟨c0, c1, c2⟩ := hq; go_simp; (try with_reducible rfl)
  (try simp only [Act.put, List.getElem_toArray, List.getElem_cons_zero, List.getElem_cons_succ, List.setIfInBounds_toArray, List.set_cons_zero, List.set_cons_succ])
  refine wpAnyF_take (i := 10) (v := ?_) (by kernel_rfl) (by kernel_rfl) rfl (by kernel_rfl) (by kernel_rfl) (by kernel_rfl) (fun _ _ _ h => h) (Or.inl ⟨by rfl, ?_⟩) (by assumption) ?_
  rotate_left
  · intro w' hSw; (try dsimp only at hSw); clear hSw; go_simp; (try with_reducible rfl)
  (try simp only [Act.put, List.getElem_toArray, List.getElem_cons_zero, List.getElem_cons_succ, List.setIfInBounds_toArray, List.set_cons_zero, List.set_cons_succ])
  refine wpAnyF_take (i := 11) (v := ?_) (by kernel_rfl) (by kernel_rfl) rfl (by kernel_rfl) (by kernel_rfl) (by kernel_rfl) (fun _ _ _ h => h) (Or.inl ⟨by rfl, ?_⟩) (by assumption) ?_
  rotate_left
  · intro w' hSw; (try dsimp only at hSw); clear hSw; go_simp; (try with_reducible rfl)
  (try simp only [Act.put, List.getElem_toArray, List.getElem_cons_zero, List.getElem_cons_succ, List.setIfInBounds_toArray, List.set_cons_zero, List.set_cons_succ])
  refine wpAnyF_ready (rs := [12]) (by kernel_rfl) (by simp) ?_
  refine AllReadyF.cons rfl (fun KK hKK => ?_) AllReadyF.nil
  go_simp
  ((with_reducible refine (HN3.out _ (HL.out.2.more (below_dr _))).mono ?_); rintro e' w3 ⟨rfl, hb3⟩; have H3 := Hi.mk (And.intro (HL.out.1.drew.below hb3) ((HL.out.2.more (below_dr _)).more hb3)); clear hb3)
  (try go_simp)
  refine hKK.out _ _ (CB.three H3.out.1) (fun hHeld => ?_)
  clear hKK KK
  (try simp only [Act.put, List.getElem_toArray, List.getElem_cons_zero, List.getElem_cons_succ, List.setIfInBounds_toArray, List.set_cons_zero, List.set_cons_succ])
  refine wpAnyF_take (i := 13) (v := ?_) (by kernel_rfl) (by kernel_rfl) rfl (by kernel_rfl) (by kernel_rfl) (by kernel_rfl) (fun _ _ _ h => h) (Or.inl ⟨by rfl, ?_⟩) (by assumption) ?_
  rotate_left
  · intro w' hSw; (try dsimp only at hSw); clear hSw; go_simp; (try with_reducible rfl)
  (try simp only [Act.put, List.getElem_toArray, List.getElem_cons_zero, List.getElem_cons_succ, List.setIfInBounds_toArray, List.set_cons_zero, List.set_cons_succ])
  refine wpAnyF_take (i := 14) (v := ?_) (by kernel_rfl) (by kernel_rfl) rfl (by kernel_rfl) (by kernel_rfl) (by kernel_rfl) (fun _ _ _ h => h) (Or.inl ⟨by rfl, ?_⟩) (by assumption) ?_
  rotate_left
  · intro w' hSw; (try dsimp only at hSw); clear hSw; go_simp; (try with_reducible rfl)
  (try simp only [Act.put, List.getElem_toArray, List.getElem_cons_zero, List.getElem_cons_succ, List.setIfInBounds_toArray, List.set_cons_zero, List.set_cons_succ])
  refine wpAnyF_take (i := 15) (v := ?_) (by kernel_rfl) (by kernel_rfl) rfl (by kernel_rfl) (by kernel_rfl) (by kernel_rfl) (fun _ _ _ h => h) (Or.inl ⟨by rfl, ?_⟩) (by assumption) ?_
  rotate_left
  · intro w' hSw; (try dsimp only at hSw); clear hSw; go_simp; (try with_reducible rfl)
  (try simp only [Act.put, List.getElem_toArray, List.getElem_cons_zero, List.getElem_cons_succ, List.setIfInBounds_toArray, List.set_cons_zero, List.set_cons_succ])
  refine wpAnyF_take (i := 16) (v := ?_) (by kernel_rfl) (by kernel_rfl) rfl (by kernel_rfl) (by kernel_rfl) (by kernel_rfl) (fun _ _ _ h => h) (Or.inl ⟨by rfl, ?_⟩) (by assumption) ?_
  rotate_left
  · intro w' hSw; (try dsimp only at hSw); clear hSw; go_simp; (try with_reducible rfl)
  (try simp only [Act.put, List.getElem_toArray, List.getElem_cons_zero, List.getElem_cons_succ, List.setIfInBounds_toArray, List.set_cons_zero, List.set_cons_succ])
  refine wpAnyF_done (by kernel_rfl) ?_ _
  refine NoPanic.normal ?_
  go_wp2
  go_ret2
  exact ⟨rfl, H3.out.2⟩
theorem rplace_any (q h c : Nat) (bs : List Nat) (t : Tb) (hF : t.Fair) (id : Int) (w : World) (hM : MemAt 72 w q h c bs) (hp : t.page = 0 ∨ (8 ≤ t.page ∧ t.page ≤ 131072)) :
    Calls Try.prog 63 #[t.v, .pointer (some ⟨q, 0, none⟩), .int .i64 id] w fun e w' => e = .returned (plV (findP bs t id)) ∧ Below w.heap.size w w' := by
  by_cases h1 : 0 ≤ id ∧ id < 131072
  · by_cases h0 : t.page = 0
    · have hf : findP bs t id = nthP bs.length t.at_ t.size id := by rw [findP, if_pos h0]
      rw [hf]
      exact rplace_flat q t id w h1.1 h1.2 h0 _ (fun W hb => rentry_pl q h c bs t.at_ t.size id W (hM.below hb) hF.a hF.s)
    · have hpg : 8 ≤ t.page ∧ t.page ≤ 131072 := by omega
      obtain ⟨hn1, hn2⟩ := perN_pos hpg.1 hpg.2
      have hpw : IntKind.i64.wrap (t.page.tdiv 8) = perN t := (tdiv_i64 hF.p 8 (by decide)).1
      have hx : IntKind.i64.wrap (id.tdiv (perN t)) = id.tdiv (perN t) := (tdiv_i64 ⟨by omega, by omega⟩ _ (by omega)).1
      have HN := fun W (hb : Below w.heap.size w W) => rentry_pl q h c bs t.at_ t.size (id.tdiv (perN t)) W (hM.below hb) hF.a hF.s
      have hfp : findP bs t id = match nthP bs.length t.at_ t.size (id.tdiv (perN t)) with
        | none => none
        | some q => if 9223372036854775808 ≤ w8 bs q then nthP bs.length ((w8 bs q % 4294967296 : Nat) : Int) t.page (id.tmod (perN t)) else none := by rw [findP, if_neg h0, if_pos h1]; rfl
      cases ho : nthP bs.length t.at_ t.size (id.tdiv (perN t)) with
      | none =>
        rw [ho] at HN hfp
        rw [hfp]
        exact rplace_none q t id w h1.1 h1.2 h0 (perN t) _ hn1 hpw hx HN
      | some k =>
        rw [ho] at HN hfp
        dsimp only at hfp
        have hql := (nthP_some ho).2.2
        have HG := fun W (hb : Below w.heap.size w W) => rget_any q h c bs k k rfl hql W (hM.below hb)
        by_cases hval : 9223372036854775808 ≤ w8 bs k
        · rw [if_pos hval] at hfp
          rw [hfp]
          rw [show valB (w8 bs k) = true by simpa [valB] using hval] at HG
          exact rplace_yes q t id w h1.1 h1.2 h0 (perN t) _ hn1 hpw hx _ _ rfl k (w8 bs k) (by omega) _ HN HG (fun W hb => rentry_pl q h c bs _ t.page _ W (hM.below hb) ⟨by omega, by omega⟩ hF.p)
        · rw [if_neg hval] at hfp
          rw [hfp]
          rw [show valB (w8 bs k) = false by simpa [valB] using hval] at HG
          exact rplace_inv q t id w h1.1 h1.2 h0 (perN t) _ hn1 hpw hx k (w8 bs k) HN HG
  · have hf : findP bs t id = none := by
      by_cases h0 : t.page = 0
      · rw [findP, if_pos h0]
        have : nthB bs.length t.at_ t.size id = false := by simp [nthB, h1]
        rw [nthP, if_neg (by rw [this]; decide)]
      · rw [findP, if_neg h0, if_neg h1]
    rw [hf]
    exact rplace_out q t id w h1

/-- A call that may have written into the document's memory. -/
def RefW (q h c n : Nat) (w : World) (e : Ending) (w' : World) : Prop := ∃ (x : Int) (cs : List Nat), e = .returned (.int .i64 x) ∧ cs.length = n ∧ MemAt 72 w' q h c cs ∧ Kept (· = h) w w'
theorem RefW.no {q h c : Nat} {bs : List Nat} {w w' : World} (hM : MemAt 72 w q h c bs) (k : Below w.heap.size w w') (x : Int) : RefW q h c bs.length w (.returned (.int .i64 x)) w' := ⟨x, bs, rfl, rfl, hM.below k, Kept.of k⟩
theorem RefW.yes {q h c n : Nat} {w V W : World} {cs : List Nat} (k : Below w.heap.size w V) (hl : cs.length = n) (hM : MemAt 72 W q h c cs) (hk : Kept (· = h) V W) (x : Int) : RefW q h c n w (.returned (.int .i64 x)) W := ⟨x, cs, rfl, hl, hM, (Kept.of k).trans hk⟩
theorem rput_w (q h c : Nat) (bs : List Nat) (P : Nat) (a n : Int) (hPa : (P : Int) = a) (h0 : 0 ≤ n) (h1 : n < 18446744073709551616) (hP : P + 8 ≤ bs.length) (w : World) (hM : MemAt 72 w q h c bs) :
    Calls Try.prog 62 #[.pointer (some ⟨q, 0, none⟩), .int .i64 a, .int .u64 n] w fun e w' => (∃ r, e = .returned r) ∧ (∃ cs : List Nat, cs.length = bs.length ∧ MemAt 72 w' q h c cs) ∧ Kept (· = h) w w' :=
  (rput_any q h c bs P n.toNat a n hPa (by omega) hP (by omega) w hM).mono fun e w' ⟨h2, h3, h4⟩ => ⟨h2, ⟨_, s8_len hP, h3⟩, h4⟩
end Go.Proofs.Ytjcjblmaceooaaa
