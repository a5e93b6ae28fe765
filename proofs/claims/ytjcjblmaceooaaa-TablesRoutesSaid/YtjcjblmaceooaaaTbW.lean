/-
  TablesRoutes.
-/
import Derived.Test.YtjcjblmaceooaaaTbV
namespace Go.Proofs.Ytjcjblmaceooaaa
open Go.ChangeShapes Go.WideShapes Go.ChangeAt Go.RowKit
set_option linter.unusedVariables false
set_option linter.unusedSimpArgs false

attribute [local go_sem high] eql_rt neq_rt guard_rt
attribute [local go_sem] Oper.semAt_some



set_option maxRecDepth 100000 in
set_option maxHeartbeats 16000000 in
theorem routes_law (size : Int) (d : Dv) (hF : d.Fair) (a0 a1 : Option Addr) (b0 b1 f0 f1 k0 k1 : Nat) (xs : List Nat) (rs : List Rt) (w : World) (hx : RowAt w a0 b0 f0 1 (xs.map u8C)) (hr : RowAt w a1 b1 f1 3 (rs.map rtC)) (hx1 : ∀ x ∈ xs, x < 256) (hr1 : ∀ r ∈ rs, r.Fair) :
    Calls Try.prog 5 #[.int .i64 size, d.v, .slice a0 xs.length k0, .slice a1 rs.length k1] w fun e w' => e = .returned (.bool true) ∧ Below w.heap.size w w' := by
  have HA := Hi.mk (fun W => awake_any W)
  have hN1 := newN_le size
  have HN := Hi.mk (show ∀ W, Calls Try.prog 8 #[.int .i64 size] W fun e w' => ∃ p g q h bs, e = .returned (.tuple #[.pointer (some ⟨p, 0, none⟩), .pointer (some ⟨q, 0, none⟩)]) ∧ bs.length = newN size ∧ Since W p g (newN size) bs w' from fun W => (lawNew_any size W).mono fun e w' ⟨p, g, q, h, h1, h2⟩ => ⟨p, g, q, h, _, h1, List.length_replicate, h2.mem⟩)
  obtain ⟨N, hN⟩ : ∃ N, newN size = N := ⟨_, rfl⟩
  rw [hN] at HN hN1
  clear hN
  have hl0 := hx.len
  have hl1 := hr.len
  rw [List.length_map] at hl0 hl1
  have HX := Hi.mk (And.intro hx hr)
  have HB := Hi.mk (And.intro hx1 hr1)
  have HFD := Hi.mk hF
  have H0 := Hi.mk (And.intro (show CB ((w.alloc (.cells (Dv.cs d) 36)).alloc (.cells #[.bool false] 4)) w.heap.size 36 (Dv.cs d) from (CB.new w 36 (Dv.cs d)).alloc _) (And.intro (show CB ((w.alloc (.cells (Dv.cs d) 36)).alloc (.cells #[.bool false] 4)) (w.heap.size + 1) 4 #[.bool false] from cb_second) (bal_two w (.cells (Dv.cs d) 36) (.cells #[.bool false] 4))))
  clear hx hr hx1 hr1 hF
  refine (callsIn_wide (n := 6)).1 ?_
  refine callsIn_of_wp_marks Try.func5 rfl trivial ?_ rfl
  simp only [Try.ntmps5, List.size_toArray, List.length_cons, List.length_nil, Nat.reduceAdd, Nat.reduceSub, Array.replicate_succ, Array.replicate_zero, List.push_toArray, List.append_toArray, List.nil_append, List.cons_append]
  refine wpIn_wide.2 ?_
  go_wp2_with (first
    | (go_at_call 7; ((with_reducible refine (HA.out _).mono ?_); rintro e w1 ⟨rfl, hb1⟩; have H1 := Hi.mk (And.intro (H0.out.1.below hb1) (And.intro (H0.out.2.1.below hb1) (H0.out.2.2.more hb1))); clear hb1))
    | (go_at_call 8; ((with_reducible refine (HN.out _).mono ?_); rintro e w2 ⟨p, g, q, h, bs, rfl, hbl, hs2⟩; have H2 := Hi.mk (show RoI w p g N w2.heap.size d bs (w2.alloc (.cells #[.pointer (some ⟨p, 0, none⟩)] 25)) from ⟨(hs2.base H1.out.2.2).later (bal _ _), (H1.out.1.below hs2.below).alloc _, (H1.out.2.1.below hs2.below).alloc _, CB.new w2 _ _, hs2.mem.bytes.lt, hs2.mem.plt, Nat.lt_of_lt_of_le H1.out.2.1.lt hs2.g, Nat.lt_of_lt_of_le H1.out.2.1.lt hs2.p⟩); have HBL := Hi.mk hbl; clear hbl hs2; have qf := (CB.new w2 25 #[.pointer none]).frozen)))

  have HSZ := Hi.mk (fun (p g : Nat) (bs : List Nat) (hbl : bs.length = N) (W : World) (hM : MemAt 89 W p g N bs) => show Calls Try.prog 14 #[.pointer (some ⟨p, 0, none⟩)] W fun e w' => e = .returned (.int .i64 N) ∧ W = w' by have := size_any p g N bs W hM; rwa [hbl] at this)
  have HEV := Hi.mk (fun W => events_any d W)
  by_cases h5 : 5 < d.bits
  · skip
    refine wp_region_noPanic ?_
    refine wp_region_last_drew (S := (fun V => ((V.cell? ⟨w.heap.size, 0, none⟩ = some (.bool d.ok) ∧ V.cell? ⟨w.heap.size, 1, none⟩ = some (.int .i64 d.bits) ∧ V.cell? ⟨w.heap.size, 2, none⟩ = some (.int .i64 d.at_)) ∧ V.cell? ⟨w2.heap.size, 0, none⟩ = some (.pointer (some ⟨p, 0, none⟩))))) [] (by kernel_rfl) (H2.out.later (below_dr _)).cells (fun hHeld => ?_)
    (try simp only [Array.replicate_succ, Array.replicate_zero, List.push_toArray, List.nil_append, List.cons_append])
    refine wpAnyF_take (i := 0) (v := ?_) (by kernel_rfl) (by kernel_rfl) rfl (by kernel_rfl) (by kernel_rfl) (by kernel_rfl) (fun _ _ _ h => h) (Or.inl ⟨by rfl, ?_⟩) (by assumption) ?_
    rotate_left
    · intro w' hSw; (try dsimp only at hSw); clear hSw; go_simp; (try with_reducible rfl)
    (try simp only [Act.put, List.getElem_toArray, List.getElem_cons_zero, List.getElem_cons_succ, List.setIfInBounds_toArray, List.set_cons_zero, List.set_cons_succ])
    refine wpAnyF_take (i := 1) (v := ?_) (by kernel_rfl) (by kernel_rfl) rfl (by kernel_rfl) (by kernel_rfl) (by kernel_rfl) (fun _ _ _ h => h) (Or.inl ⟨by rfl, ?_⟩) (by assumption) ?_
    rotate_left
    · intro w' hSw; (try dsimp only at hSw); clear hSw; go_simp; (try with_reducible rfl)
    (try simp only [Act.put, List.getElem_toArray, List.getElem_cons_zero, List.getElem_cons_succ, List.setIfInBounds_toArray, List.set_cons_zero, List.set_cons_succ])
    refine wpAnyF_take (i := 2) (v := ?_) (by kernel_rfl) (by kernel_rfl) rfl (by kernel_rfl) (by kernel_rfl) (by kernel_rfl) (fun _ _ _ h => h) (Or.inl ⟨by rfl, ?_⟩) (by assumption) ?_
    rotate_left
    · intro w' hSw; (try dsimp only at hSw); clear hSw; go_simp; (try with_reducible rfl)
    (try simp only [Act.put, List.getElem_toArray, List.getElem_cons_zero, List.getElem_cons_succ, List.setIfInBounds_toArray, List.set_cons_zero, List.set_cons_succ])
    refine wpAnyF_take (i := 3) (v := ?_) (by kernel_rfl) (by kernel_rfl) rfl (by kernel_rfl) (by kernel_rfl) (by kernel_rfl) (fun _ _ _ h => h) (Or.inl ⟨by rfl, ?_⟩) (by assumption) ?_
    rotate_left
    · intro w' hSw; (try dsimp only at hSw); obtain ⟨⟨m0, m1, m2⟩, m3⟩ := hSw; go_simp; (try with_reducible rfl)
    (try simp only [Act.put, List.getElem_toArray, List.getElem_cons_zero, List.getElem_cons_succ, List.setIfInBounds_toArray, List.set_cons_zero, List.set_cons_succ])
    refine wpAnyF_take (i := 4) (v := ?_) (by kernel_rfl) (by kernel_rfl) rfl (by kernel_rfl) (by kernel_rfl) (by kernel_rfl) (fun _ _ _ h => h) (Or.inl ⟨by rfl, ?_⟩) (by assumption) ?_
    rotate_left
    · intro w' hSw; (try dsimp only at hSw); clear hSw; go_simp; (try with_reducible rfl)
    (try simp only [Act.put, List.getElem_toArray, List.getElem_cons_zero, List.getElem_cons_succ, List.setIfInBounds_toArray, List.set_cons_zero, List.set_cons_succ])
    refine wpAnyF_take (i := 5) (v := ?_) (by kernel_rfl) (by kernel_rfl) rfl (by kernel_rfl) (by kernel_rfl) (by kernel_rfl) (fun _ _ _ h => h) (Or.inl ⟨by rfl, ?_⟩) (by assumption) ?_
    rotate_left
    · intro w' hSw; (try dsimp only at hSw); clear hSw; go_simp; (try with_reducible rfl)
    (try simp only [Act.put, List.getElem_toArray, List.getElem_cons_zero, List.getElem_cons_succ, List.setIfInBounds_toArray, List.set_cons_zero, List.set_cons_succ])
    refine wpAnyF_take (i := 6) (v := ?_) (by kernel_rfl) (by kernel_rfl) rfl (by kernel_rfl) (by kernel_rfl) (by kernel_rfl) (fun _ _ _ h => h) (Or.inl ⟨by rfl, ?_⟩) (by assumption) ?_
    rotate_left
    · intro w' hSw; (try dsimp only at hSw); clear hSw; go_simp; (try with_reducible rfl)
    (try simp only [Act.put, List.getElem_toArray, List.getElem_cons_zero, List.getElem_cons_succ, List.setIfInBounds_toArray, List.set_cons_zero, List.set_cons_succ])
    refine wpAnyF_take (i := 7) (v := ?_) (by kernel_rfl) (by kernel_rfl) rfl (by kernel_rfl) (by kernel_rfl) (by kernel_rfl) (fun _ _ _ h => h) (Or.inl ⟨by rfl, ?_⟩) (by assumption) ?_
    rotate_left
    · intro w' hSw; (try dsimp only at hSw); clear hSw; go_simp; (try with_reducible rfl)
    (try simp only [Act.put, List.getElem_toArray, List.getElem_cons_zero, List.getElem_cons_succ, List.setIfInBounds_toArray, List.set_cons_zero, List.set_cons_succ])
    refine wpAnyF_take (i := 8) (v := ?_) (by kernel_rfl) (by kernel_rfl) rfl (by kernel_rfl) (by kernel_rfl) (by kernel_rfl) (fun _ _ _ h => h) (Or.inl ⟨by rfl, ?_⟩) (by assumption) ?_
    rotate_left
    · intro w' hSw; (try dsimp only at hSw); obtain ⟨⟨m0, m1, m2⟩, m3⟩ := hSw; go_simp; (try with_reducible rfl)
    (try simp only [Act.put, List.getElem_toArray, List.getElem_cons_zero, List.getElem_cons_succ, List.setIfInBounds_toArray, List.set_cons_zero, List.set_cons_succ])
    refine wpAnyF_take (i := 9) (v := ?_) (by kernel_rfl) (by kernel_rfl) rfl (by kernel_rfl) (by kernel_rfl) (by kernel_rfl) (fun _ _ _ h => h) (Or.inl ⟨by rfl, ?_⟩) (by assumption) ?_
    rotate_left
    · intro w' hSw; (try dsimp only at hSw); clear hSw; go_simp; (try with_reducible rfl)
    (try simp only [Act.put, List.getElem_toArray, List.getElem_cons_zero, List.getElem_cons_succ, List.setIfInBounds_toArray, List.set_cons_zero, List.set_cons_succ])
    refine wpAnyF_take (i := 10) (v := ?_) (by kernel_rfl) (by kernel_rfl) rfl (by kernel_rfl) (by kernel_rfl) (by kernel_rfl) (fun _ _ _ h => h) (Or.inl ⟨by rfl, ?_⟩) (by assumption) ?_
    rotate_left
    · intro w' hSw; (try dsimp only at hSw); clear hSw; go_simp; (try with_reducible rfl)
    (try simp only [Act.put, List.getElem_toArray, List.getElem_cons_zero, List.getElem_cons_succ, List.setIfInBounds_toArray, List.set_cons_zero, List.set_cons_succ])
    refine wpAnyF_take (i := 11) (v := ?_) (by kernel_rfl) (by kernel_rfl) rfl (by kernel_rfl) (by kernel_rfl) (by kernel_rfl) (fun _ _ _ h => h) (Or.inl ⟨by rfl, ?_⟩) (by assumption) ?_
    rotate_left
    · intro w' hSw; (try dsimp only at hSw); clear hSw; go_simp; (try with_reducible rfl)
    (try simp only [Act.put, List.getElem_toArray, List.getElem_cons_zero, List.getElem_cons_succ, List.setIfInBounds_toArray, List.set_cons_zero, List.set_cons_succ])
    refine wpAnyF_take (i := 12) (v := undef) (by kernel_rfl) (by kernel_rfl) rfl (by kernel_rfl) (by kernel_rfl) (by kernel_rfl) (fun _ _ _ h => h) (Or.inr ⟨by rfl, rfl⟩) (by assumption) ?_
    (try simp only [Act.put, List.getElem_toArray, List.getElem_cons_zero, List.getElem_cons_succ, List.setIfInBounds_toArray, List.set_cons_zero, List.set_cons_succ])
    refine wpAnyF_take (i := 13) (v := undef) (by kernel_rfl) (by kernel_rfl) rfl (by kernel_rfl) (by kernel_rfl) (by kernel_rfl) (fun _ _ _ h => h) (Or.inr ⟨by rfl, rfl⟩) (by assumption) ?_
    (try simp only [Act.put, List.getElem_toArray, List.getElem_cons_zero, List.getElem_cons_succ, List.setIfInBounds_toArray, List.set_cons_zero, List.set_cons_succ])
    refine wpAnyF_take (i := 14) (v := undef) (by kernel_rfl) (by kernel_rfl) rfl (by kernel_rfl) (by kernel_rfl) (by kernel_rfl) (fun _ _ _ h => h) (Or.inr ⟨by rfl, rfl⟩) (by assumption) ?_
    (try simp only [Act.put, List.getElem_toArray, List.getElem_cons_zero, List.getElem_cons_succ, List.setIfInBounds_toArray, List.set_cons_zero, List.set_cons_succ])
    refine wpAnyF_take (i := 15) (v := ?_) (by kernel_rfl) (by kernel_rfl) rfl (by kernel_rfl) (by kernel_rfl) (by kernel_rfl) (fun _ _ _ h => h) (Or.inl ⟨by rfl, ?_⟩) (by assumption) ?_
    rotate_left
    · intro w' hSw; (try dsimp only at hSw); clear hSw; go_simp; (try with_reducible rfl)
    (try simp only [Act.put, List.getElem_toArray, List.getElem_cons_zero, List.getElem_cons_succ, List.setIfInBounds_toArray, List.set_cons_zero, List.set_cons_succ])
    refine wpAnyF_take (i := 16) (v := ?_) (by kernel_rfl) (by kernel_rfl) rfl (by kernel_rfl) (by kernel_rfl) (by kernel_rfl) (fun _ _ _ h => h) (Or.inl ⟨by rfl, ?_⟩) (by assumption) ?_
    rotate_left
    · intro w' hSw; (try dsimp only at hSw); clear hSw; go_simp; (try with_reducible rfl)
    (try simp only [Act.put, List.getElem_toArray, List.getElem_cons_zero, List.getElem_cons_succ, List.setIfInBounds_toArray, List.set_cons_zero, List.set_cons_succ])
    refine wpAnyF_take (i := 17) (v := undef) (by kernel_rfl) (by kernel_rfl) rfl (by kernel_rfl) (by kernel_rfl) (by kernel_rfl) (fun _ _ _ h => h) (Or.inr ⟨by rfl, rfl⟩) (by assumption) ?_
    (try simp only [Act.put, List.getElem_toArray, List.getElem_cons_zero, List.getElem_cons_succ, List.setIfInBounds_toArray, List.set_cons_zero, List.set_cons_succ])
    refine wpAnyF_take (i := 18) (v := undef) (by kernel_rfl) (by kernel_rfl) rfl (by kernel_rfl) (by kernel_rfl) (by kernel_rfl) (fun _ _ _ h => h) (Or.inr ⟨by rfl, rfl⟩) (by assumption) ?_
    (try simp only [Act.put, List.getElem_toArray, List.getElem_cons_zero, List.getElem_cons_succ, List.setIfInBounds_toArray, List.set_cons_zero, List.set_cons_succ])
    refine wpAnyF_take (i := 19) (v := undef) (by kernel_rfl) (by kernel_rfl) rfl (by kernel_rfl) (by kernel_rfl) (by kernel_rfl) (fun _ _ _ h => h) (Or.inr ⟨by rfl, rfl⟩) (by assumption) ?_
    (try simp only [Act.put, List.getElem_toArray, List.getElem_cons_zero, List.getElem_cons_succ, List.setIfInBounds_toArray, List.set_cons_zero, List.set_cons_succ])
    refine wpAnyF_take (i := 20) (v := undef) (by kernel_rfl) (by kernel_rfl) rfl (by kernel_rfl) (by kernel_rfl) (by kernel_rfl) (fun _ _ _ h => h) (Or.inr ⟨by rfl, rfl⟩) (by assumption) ?_
    (try simp only [Act.put, List.getElem_toArray, List.getElem_cons_zero, List.getElem_cons_succ, List.setIfInBounds_toArray, List.set_cons_zero, List.set_cons_succ])
    refine wpAnyF_take (i := 21) (v := undef) (by kernel_rfl) (by kernel_rfl) rfl (by kernel_rfl) (by kernel_rfl) (by kernel_rfl) (fun _ _ _ h => h) (Or.inr ⟨by rfl, rfl⟩) (by assumption) ?_
    (try simp only [Act.put, List.getElem_toArray, List.getElem_cons_zero, List.getElem_cons_succ, List.setIfInBounds_toArray, List.set_cons_zero, List.set_cons_succ])
    refine wpAnyF_take (i := 22) (v := undef) (by kernel_rfl) (by kernel_rfl) rfl (by kernel_rfl) (by kernel_rfl) (by kernel_rfl) (fun _ _ _ h => h) (Or.inr ⟨by rfl, rfl⟩) (by assumption) ?_
    (try simp only [Act.put, List.getElem_toArray, List.getElem_cons_zero, List.getElem_cons_succ, List.setIfInBounds_toArray, List.set_cons_zero, List.set_cons_succ])
    refine wpAnyF_take (i := 23) (v := undef) (by kernel_rfl) (by kernel_rfl) rfl (by kernel_rfl) (by kernel_rfl) (by kernel_rfl) (fun _ _ _ h => h) (Or.inr ⟨by rfl, rfl⟩) (by assumption) ?_
    (try simp only [Act.put, List.getElem_toArray, List.getElem_cons_zero, List.getElem_cons_succ, List.setIfInBounds_toArray, List.set_cons_zero, List.set_cons_succ])
    refine wpAnyF_take (i := 24) (v := undef) (by kernel_rfl) (by kernel_rfl) rfl (by kernel_rfl) (by kernel_rfl) (by kernel_rfl) (fun _ _ _ h => h) (Or.inr ⟨by rfl, rfl⟩) (by assumption) ?_
    (try simp only [Act.put, List.getElem_toArray, List.getElem_cons_zero, List.getElem_cons_succ, List.setIfInBounds_toArray, List.set_cons_zero, List.set_cons_succ])
    refine wpAnyF_take (i := 25) (v := undef) (by kernel_rfl) (by kernel_rfl) rfl (by kernel_rfl) (by kernel_rfl) (by kernel_rfl) (fun _ _ _ h => h) (Or.inr ⟨by rfl, rfl⟩) (by assumption) ?_
    (try simp only [Act.put, List.getElem_toArray, List.getElem_cons_zero, List.getElem_cons_succ, List.setIfInBounds_toArray, List.set_cons_zero, List.set_cons_succ])
    refine wpAnyF_take (i := 26) (v := ?_) (by kernel_rfl) (by kernel_rfl) rfl (by kernel_rfl) (by kernel_rfl) (by kernel_rfl) (fun _ _ _ h => h) (Or.inl ⟨by rfl, ?_⟩) (by assumption) ?_
    rotate_left
    · intro w' hSw; (try dsimp only at hSw); clear hSw; go_simp; (try with_reducible rfl)
    (try simp only [Act.put, List.getElem_toArray, List.getElem_cons_zero, List.getElem_cons_succ, List.setIfInBounds_toArray, List.set_cons_zero, List.set_cons_succ])
    refine wpAnyF_done (by kernel_rfl) ?_ _
    refine NoPanic.normal ?_
    have HH := Hi.mk H2.out
    have m3 := HH.out.x.cell 0
    have rf := HH.out.r.frozen
    have rz := HH.out.r.lt
    have rc := HH.out.r.cell 0
    go_wp2
    have hc9 : CB ((w2.alloc (.cells #[.pointer (some ⟨p, 0, none⟩)] 25)).setCell ⟨w.heap.size + 1, 0, none⟩ (.bool true)) (w.heap.size + 1) 4 #[.bool true] := by have := HH.out.r.set 0 (.bool true); simpa using this
    have hb9 : Below w.heap.size w ((w2.alloc (.cells #[.pointer (some ⟨p, 0, none⟩)] 25)).setCell ⟨w.heap.size + 1, 0, none⟩ (.bool true)) := below_set HH.out.m.below (by show w.heap.size ≤ w.heap.size + 1; omega) _
    exact ⟨_, results_b rfl _ _ (w.heap.size + 1) (.bool true) rfl (hc9.below (below_dr _)), rfl, (hb9.more (below_dr _))⟩
  have h5' : d.bits ≤ 5 := by omega
  have hE64 := evN_small h5'
  by_cases h6 : d.at_ < 0
  · skip
    refine wp_region_noPanic ?_
    refine wp_region_last_drew (S := (fun V => ((V.cell? ⟨w.heap.size, 0, none⟩ = some (.bool d.ok) ∧ V.cell? ⟨w.heap.size, 1, none⟩ = some (.int .i64 d.bits) ∧ V.cell? ⟨w.heap.size, 2, none⟩ = some (.int .i64 d.at_)) ∧ V.cell? ⟨w2.heap.size, 0, none⟩ = some (.pointer (some ⟨p, 0, none⟩))))) [] (by kernel_rfl) (H2.out.later (below_dr _)).cells (fun hHeld => ?_)
    (try simp only [Array.replicate_succ, Array.replicate_zero, List.push_toArray, List.nil_append, List.cons_append])
    refine wpAnyF_take (i := 0) (v := ?_) (by kernel_rfl) (by kernel_rfl) rfl (by kernel_rfl) (by kernel_rfl) (by kernel_rfl) (fun _ _ _ h => h) (Or.inl ⟨by rfl, ?_⟩) (by assumption) ?_
    rotate_left
    · intro w' hSw; (try dsimp only at hSw); clear hSw; go_simp; (try with_reducible rfl)
    (try simp only [Act.put, List.getElem_toArray, List.getElem_cons_zero, List.getElem_cons_succ, List.setIfInBounds_toArray, List.set_cons_zero, List.set_cons_succ])
    refine wpAnyF_take (i := 1) (v := ?_) (by kernel_rfl) (by kernel_rfl) rfl (by kernel_rfl) (by kernel_rfl) (by kernel_rfl) (fun _ _ _ h => h) (Or.inl ⟨by rfl, ?_⟩) (by assumption) ?_
    rotate_left
    · intro w' hSw; (try dsimp only at hSw); clear hSw; go_simp; (try with_reducible rfl)
    (try simp only [Act.put, List.getElem_toArray, List.getElem_cons_zero, List.getElem_cons_succ, List.setIfInBounds_toArray, List.set_cons_zero, List.set_cons_succ])
    refine wpAnyF_take (i := 2) (v := ?_) (by kernel_rfl) (by kernel_rfl) rfl (by kernel_rfl) (by kernel_rfl) (by kernel_rfl) (fun _ _ _ h => h) (Or.inl ⟨by rfl, ?_⟩) (by assumption) ?_
    rotate_left
    · intro w' hSw; (try dsimp only at hSw); clear hSw; go_simp; (try with_reducible rfl)
    (try simp only [Act.put, List.getElem_toArray, List.getElem_cons_zero, List.getElem_cons_succ, List.setIfInBounds_toArray, List.set_cons_zero, List.set_cons_succ])
    refine wpAnyF_take (i := 3) (v := ?_) (by kernel_rfl) (by kernel_rfl) rfl (by kernel_rfl) (by kernel_rfl) (by kernel_rfl) (fun _ _ _ h => h) (Or.inl ⟨by rfl, ?_⟩) (by assumption) ?_
    rotate_left
    · intro w' hSw; (try dsimp only at hSw); obtain ⟨⟨m0, m1, m2⟩, m3⟩ := hSw; go_simp; (try with_reducible rfl)
    (try simp only [Act.put, List.getElem_toArray, List.getElem_cons_zero, List.getElem_cons_succ, List.setIfInBounds_toArray, List.set_cons_zero, List.set_cons_succ])
    refine wpAnyF_take (i := 4) (v := ?_) (by kernel_rfl) (by kernel_rfl) rfl (by kernel_rfl) (by kernel_rfl) (by kernel_rfl) (fun _ _ _ h => h) (Or.inl ⟨by rfl, ?_⟩) (by assumption) ?_
    rotate_left
    · intro w' hSw; (try dsimp only at hSw); clear hSw; go_simp; (try with_reducible rfl)
    (try simp only [Act.put, List.getElem_toArray, List.getElem_cons_zero, List.getElem_cons_succ, List.setIfInBounds_toArray, List.set_cons_zero, List.set_cons_succ])
    refine wpAnyF_take (i := 5) (v := ?_) (by kernel_rfl) (by kernel_rfl) rfl (by kernel_rfl) (by kernel_rfl) (by kernel_rfl) (fun _ _ _ h => h) (Or.inl ⟨by rfl, ?_⟩) (by assumption) ?_
    rotate_left
    · intro w' hSw; (try dsimp only at hSw); clear hSw; go_simp; (try with_reducible rfl)
    (try simp only [Act.put, List.getElem_toArray, List.getElem_cons_zero, List.getElem_cons_succ, List.setIfInBounds_toArray, List.set_cons_zero, List.set_cons_succ])
    refine wpAnyF_take (i := 6) (v := ?_) (by kernel_rfl) (by kernel_rfl) rfl (by kernel_rfl) (by kernel_rfl) (by kernel_rfl) (fun _ _ _ h => h) (Or.inl ⟨by rfl, ?_⟩) (by assumption) ?_
    rotate_left
    · intro w' hSw; (try dsimp only at hSw); clear hSw; go_simp; (try with_reducible rfl)
    (try simp only [Act.put, List.getElem_toArray, List.getElem_cons_zero, List.getElem_cons_succ, List.setIfInBounds_toArray, List.set_cons_zero, List.set_cons_succ])
    refine wpAnyF_take (i := 7) (v := ?_) (by kernel_rfl) (by kernel_rfl) rfl (by kernel_rfl) (by kernel_rfl) (by kernel_rfl) (fun _ _ _ h => h) (Or.inl ⟨by rfl, ?_⟩) (by assumption) ?_
    rotate_left
    · intro w' hSw; (try dsimp only at hSw); clear hSw; go_simp; (try with_reducible rfl)
    (try simp only [Act.put, List.getElem_toArray, List.getElem_cons_zero, List.getElem_cons_succ, List.setIfInBounds_toArray, List.set_cons_zero, List.set_cons_succ])
    refine wpAnyF_take (i := 8) (v := ?_) (by kernel_rfl) (by kernel_rfl) rfl (by kernel_rfl) (by kernel_rfl) (by kernel_rfl) (fun _ _ _ h => h) (Or.inl ⟨by rfl, ?_⟩) (by assumption) ?_
    rotate_left
    · intro w' hSw; (try dsimp only at hSw); obtain ⟨⟨m0, m1, m2⟩, m3⟩ := hSw; go_simp; (try with_reducible rfl)
    (try simp only [Act.put, List.getElem_toArray, List.getElem_cons_zero, List.getElem_cons_succ, List.setIfInBounds_toArray, List.set_cons_zero, List.set_cons_succ])
    refine wpAnyF_take (i := 9) (v := ?_) (by kernel_rfl) (by kernel_rfl) rfl (by kernel_rfl) (by kernel_rfl) (by kernel_rfl) (fun _ _ _ h => h) (Or.inl ⟨by rfl, ?_⟩) (by assumption) ?_
    rotate_left
    · intro w' hSw; (try dsimp only at hSw); clear hSw; go_simp; (try with_reducible rfl)
    (try simp only [Act.put, List.getElem_toArray, List.getElem_cons_zero, List.getElem_cons_succ, List.setIfInBounds_toArray, List.set_cons_zero, List.set_cons_succ])
    refine wpAnyF_take (i := 10) (v := ?_) (by kernel_rfl) (by kernel_rfl) rfl (by kernel_rfl) (by kernel_rfl) (by kernel_rfl) (fun _ _ _ h => h) (Or.inl ⟨by rfl, ?_⟩) (by assumption) ?_
    rotate_left
    · intro w' hSw; (try dsimp only at hSw); clear hSw; go_simp; (try with_reducible rfl)
    (try simp only [Act.put, List.getElem_toArray, List.getElem_cons_zero, List.getElem_cons_succ, List.setIfInBounds_toArray, List.set_cons_zero, List.set_cons_succ])
    refine wpAnyF_take (i := 11) (v := ?_) (by kernel_rfl) (by kernel_rfl) rfl (by kernel_rfl) (by kernel_rfl) (by kernel_rfl) (fun _ _ _ h => h) (Or.inl ⟨by rfl, ?_⟩) (by assumption) ?_
    rotate_left
    · intro w' hSw; (try dsimp only at hSw); clear hSw; go_simp; (try with_reducible rfl)
    (try simp only [Act.put, List.getElem_toArray, List.getElem_cons_zero, List.getElem_cons_succ, List.setIfInBounds_toArray, List.set_cons_zero, List.set_cons_succ])
    refine wpAnyF_take (i := 12) (v := ?_) (by kernel_rfl) (by kernel_rfl) rfl (by kernel_rfl) (by kernel_rfl) (by kernel_rfl) (fun _ _ _ h => h) (Or.inl ⟨by rfl, ?_⟩) (by assumption) ?_
    rotate_left
    · intro w' hSw; (try dsimp only at hSw); clear hSw; go_simp; (try with_reducible rfl)
    (try simp only [Act.put, List.getElem_toArray, List.getElem_cons_zero, List.getElem_cons_succ, List.setIfInBounds_toArray, List.set_cons_zero, List.set_cons_succ])
    refine wpAnyF_take (i := 13) (v := ?_) (by kernel_rfl) (by kernel_rfl) rfl (by kernel_rfl) (by kernel_rfl) (by kernel_rfl) (fun _ _ _ h => h) (Or.inl ⟨by rfl, ?_⟩) (by assumption) ?_
    rotate_left
    · intro w' hSw; (try dsimp only at hSw); obtain ⟨⟨m0, m1, m2⟩, m3⟩ := hSw; go_simp; (try with_reducible rfl)
    (try simp only [Act.put, List.getElem_toArray, List.getElem_cons_zero, List.getElem_cons_succ, List.setIfInBounds_toArray, List.set_cons_zero, List.set_cons_succ])
    refine wpAnyF_take (i := 14) (v := ?_) (by kernel_rfl) (by kernel_rfl) rfl (by kernel_rfl) (by kernel_rfl) (by kernel_rfl) (fun _ _ _ h => h) (Or.inl ⟨by rfl, ?_⟩) (by assumption) ?_
    rotate_left
    · intro w' hSw; (try dsimp only at hSw); clear hSw; go_simp; (try with_reducible rfl)
    (try simp only [Act.put, List.getElem_toArray, List.getElem_cons_zero, List.getElem_cons_succ, List.setIfInBounds_toArray, List.set_cons_zero, List.set_cons_succ])
    refine wpAnyF_take (i := 15) (v := ?_) (by kernel_rfl) (by kernel_rfl) rfl (by kernel_rfl) (by kernel_rfl) (by kernel_rfl) (fun _ _ _ h => h) (Or.inl ⟨by rfl, ?_⟩) (by assumption) ?_
    rotate_left
    · intro w' hSw; (try dsimp only at hSw); clear hSw; go_simp; (try with_reducible rfl)
    (try simp only [Act.put, List.getElem_toArray, List.getElem_cons_zero, List.getElem_cons_succ, List.setIfInBounds_toArray, List.set_cons_zero, List.set_cons_succ])
    refine wpAnyF_take (i := 16) (v := ?_) (by kernel_rfl) (by kernel_rfl) rfl (by kernel_rfl) (by kernel_rfl) (by kernel_rfl) (fun _ _ _ h => h) (Or.inl ⟨by rfl, ?_⟩) (by assumption) ?_
    rotate_left
    · intro w' hSw; (try dsimp only at hSw); clear hSw; go_simp; (try with_reducible rfl)
    (try simp only [Act.put, List.getElem_toArray, List.getElem_cons_zero, List.getElem_cons_succ, List.setIfInBounds_toArray, List.set_cons_zero, List.set_cons_succ])
    refine wpAnyF_take (i := 17) (v := undef) (by kernel_rfl) (by kernel_rfl) rfl (by kernel_rfl) (by kernel_rfl) (by kernel_rfl) (fun _ _ _ h => h) (Or.inr ⟨by rfl, rfl⟩) (by assumption) ?_
    (try simp only [Act.put, List.getElem_toArray, List.getElem_cons_zero, List.getElem_cons_succ, List.setIfInBounds_toArray, List.set_cons_zero, List.set_cons_succ])
    refine wpAnyF_take (i := 18) (v := undef) (by kernel_rfl) (by kernel_rfl) rfl (by kernel_rfl) (by kernel_rfl) (by kernel_rfl) (fun _ _ _ h => h) (Or.inr ⟨by rfl, rfl⟩) (by assumption) ?_
    (try simp only [Act.put, List.getElem_toArray, List.getElem_cons_zero, List.getElem_cons_succ, List.setIfInBounds_toArray, List.set_cons_zero, List.set_cons_succ])
    refine wpAnyF_take (i := 19) (v := undef) (by kernel_rfl) (by kernel_rfl) rfl (by kernel_rfl) (by kernel_rfl) (by kernel_rfl) (fun _ _ _ h => h) (Or.inr ⟨by rfl, rfl⟩) (by assumption) ?_
    (try simp only [Act.put, List.getElem_toArray, List.getElem_cons_zero, List.getElem_cons_succ, List.setIfInBounds_toArray, List.set_cons_zero, List.set_cons_succ])
    refine wpAnyF_take (i := 20) (v := undef) (by kernel_rfl) (by kernel_rfl) rfl (by kernel_rfl) (by kernel_rfl) (by kernel_rfl) (fun _ _ _ h => h) (Or.inr ⟨by rfl, rfl⟩) (by assumption) ?_
    (try simp only [Act.put, List.getElem_toArray, List.getElem_cons_zero, List.getElem_cons_succ, List.setIfInBounds_toArray, List.set_cons_zero, List.set_cons_succ])
    refine wpAnyF_take (i := 21) (v := undef) (by kernel_rfl) (by kernel_rfl) rfl (by kernel_rfl) (by kernel_rfl) (by kernel_rfl) (fun _ _ _ h => h) (Or.inr ⟨by rfl, rfl⟩) (by assumption) ?_
    (try simp only [Act.put, List.getElem_toArray, List.getElem_cons_zero, List.getElem_cons_succ, List.setIfInBounds_toArray, List.set_cons_zero, List.set_cons_succ])
    refine wpAnyF_take (i := 22) (v := undef) (by kernel_rfl) (by kernel_rfl) rfl (by kernel_rfl) (by kernel_rfl) (by kernel_rfl) (fun _ _ _ h => h) (Or.inr ⟨by rfl, rfl⟩) (by assumption) ?_
    (try simp only [Act.put, List.getElem_toArray, List.getElem_cons_zero, List.getElem_cons_succ, List.setIfInBounds_toArray, List.set_cons_zero, List.set_cons_succ])
    refine wpAnyF_take (i := 23) (v := undef) (by kernel_rfl) (by kernel_rfl) rfl (by kernel_rfl) (by kernel_rfl) (by kernel_rfl) (fun _ _ _ h => h) (Or.inr ⟨by rfl, rfl⟩) (by assumption) ?_
    (try simp only [Act.put, List.getElem_toArray, List.getElem_cons_zero, List.getElem_cons_succ, List.setIfInBounds_toArray, List.set_cons_zero, List.set_cons_succ])
    refine wpAnyF_take (i := 24) (v := undef) (by kernel_rfl) (by kernel_rfl) rfl (by kernel_rfl) (by kernel_rfl) (by kernel_rfl) (fun _ _ _ h => h) (Or.inr ⟨by rfl, rfl⟩) (by assumption) ?_
    (try simp only [Act.put, List.getElem_toArray, List.getElem_cons_zero, List.getElem_cons_succ, List.setIfInBounds_toArray, List.set_cons_zero, List.set_cons_succ])
    refine wpAnyF_take (i := 25) (v := undef) (by kernel_rfl) (by kernel_rfl) rfl (by kernel_rfl) (by kernel_rfl) (by kernel_rfl) (fun _ _ _ h => h) (Or.inr ⟨by rfl, rfl⟩) (by assumption) ?_
    (try simp only [Act.put, List.getElem_toArray, List.getElem_cons_zero, List.getElem_cons_succ, List.setIfInBounds_toArray, List.set_cons_zero, List.set_cons_succ])
    refine wpAnyF_take (i := 26) (v := ?_) (by kernel_rfl) (by kernel_rfl) rfl (by kernel_rfl) (by kernel_rfl) (by kernel_rfl) (fun _ _ _ h => h) (Or.inl ⟨by rfl, ?_⟩) (by assumption) ?_
    rotate_left
    · intro w' hSw; (try dsimp only at hSw); clear hSw; go_simp; (try with_reducible rfl)
    (try simp only [Act.put, List.getElem_toArray, List.getElem_cons_zero, List.getElem_cons_succ, List.setIfInBounds_toArray, List.set_cons_zero, List.set_cons_succ])
    refine wpAnyF_done (by kernel_rfl) ?_ _
    refine NoPanic.normal ?_
    have HH := Hi.mk H2.out
    have m3 := HH.out.x.cell 0
    have rf := HH.out.r.frozen
    have rz := HH.out.r.lt
    have rc := HH.out.r.cell 0
    go_wp2
    have hc9 : CB ((w2.alloc (.cells #[.pointer (some ⟨p, 0, none⟩)] 25)).setCell ⟨w.heap.size + 1, 0, none⟩ (.bool true)) (w.heap.size + 1) 4 #[.bool true] := by have := HH.out.r.set 0 (.bool true); simpa using this
    have hb9 : Below w.heap.size w ((w2.alloc (.cells #[.pointer (some ⟨p, 0, none⟩)] 25)).setCell ⟨w.heap.size + 1, 0, none⟩ (.bool true)) := below_set HH.out.m.below (by show w.heap.size ≤ w.heap.size + 1; omega) _
    exact ⟨_, results_b rfl _ _ (w.heap.size + 1) (.bool true) rfl (hc9.below (below_dr _)), rfl, (hb9.more (below_dr _))⟩
  have h6' : 0 ≤ d.at_ := by omega
  obtain ⟨E, hE⟩ : ∃ E, evN d = E := ⟨_, rfl⟩
  have HE := Hi.mk hE
  rw [hE] at HEV hE64
  clear hE
  have hw : IntKind.i64.wrap ((N : Int) - IntKind.i64.wrap (8 * (E : Int))) = (N : Int) - 8 * E := by rw [IntKind.wrap_i64, IntKind.wrap_i64]; omega
  by_cases h7 : IntKind.i64.wrap ((N : Int) - IntKind.i64.wrap (8 * (E : Int))) < d.at_
  · skip
    refine wp_region_noPanic ?_
    refine wp_region_last_drew (S := (fun V => ((V.cell? ⟨w.heap.size, 0, none⟩ = some (.bool d.ok) ∧ V.cell? ⟨w.heap.size, 1, none⟩ = some (.int .i64 d.bits) ∧ V.cell? ⟨w.heap.size, 2, none⟩ = some (.int .i64 d.at_)) ∧ V.cell? ⟨w2.heap.size, 0, none⟩ = some (.pointer (some ⟨p, 0, none⟩))))) [] (by kernel_rfl) (H2.out.later (below_dr _)).cells (fun hHeld => ?_)
    (try simp only [Array.replicate_succ, Array.replicate_zero, List.push_toArray, List.nil_append, List.cons_append])
    refine wpAnyF_take (i := 0) (v := ?_) (by kernel_rfl) (by kernel_rfl) rfl (by kernel_rfl) (by kernel_rfl) (by kernel_rfl) (fun _ _ _ h => h) (Or.inl ⟨by rfl, ?_⟩) (by assumption) ?_
    rotate_left
    · intro w' hSw; (try dsimp only at hSw); clear hSw; go_simp; (try with_reducible rfl)
    (try simp only [Act.put, List.getElem_toArray, List.getElem_cons_zero, List.getElem_cons_succ, List.setIfInBounds_toArray, List.set_cons_zero, List.set_cons_succ])
    refine wpAnyF_take (i := 1) (v := ?_) (by kernel_rfl) (by kernel_rfl) rfl (by kernel_rfl) (by kernel_rfl) (by kernel_rfl) (fun _ _ _ h => h) (Or.inl ⟨by rfl, ?_⟩) (by assumption) ?_
    rotate_left
    · intro w' hSw; (try dsimp only at hSw); clear hSw; go_simp; (try with_reducible rfl)
    (try simp only [Act.put, List.getElem_toArray, List.getElem_cons_zero, List.getElem_cons_succ, List.setIfInBounds_toArray, List.set_cons_zero, List.set_cons_succ])
    refine wpAnyF_take (i := 2) (v := ?_) (by kernel_rfl) (by kernel_rfl) rfl (by kernel_rfl) (by kernel_rfl) (by kernel_rfl) (fun _ _ _ h => h) (Or.inl ⟨by rfl, ?_⟩) (by assumption) ?_
    rotate_left
    · intro w' hSw; (try dsimp only at hSw); clear hSw; go_simp; (try with_reducible rfl)
    (try simp only [Act.put, List.getElem_toArray, List.getElem_cons_zero, List.getElem_cons_succ, List.setIfInBounds_toArray, List.set_cons_zero, List.set_cons_succ])
    refine wpAnyF_take (i := 3) (v := ?_) (by kernel_rfl) (by kernel_rfl) rfl (by kernel_rfl) (by kernel_rfl) (by kernel_rfl) (fun _ _ _ h => h) (Or.inl ⟨by rfl, ?_⟩) (by assumption) ?_
    rotate_left
    · intro w' hSw; (try dsimp only at hSw); obtain ⟨⟨m0, m1, m2⟩, m3⟩ := hSw; go_simp; (try with_reducible rfl)
    (try simp only [Act.put, List.getElem_toArray, List.getElem_cons_zero, List.getElem_cons_succ, List.setIfInBounds_toArray, List.set_cons_zero, List.set_cons_succ])
    refine wpAnyF_take (i := 4) (v := ?_) (by kernel_rfl) (by kernel_rfl) rfl (by kernel_rfl) (by kernel_rfl) (by kernel_rfl) (fun _ _ _ h => h) (Or.inl ⟨by rfl, ?_⟩) (by assumption) ?_
    rotate_left
    · intro w' hSw; (try dsimp only at hSw); clear hSw; go_simp; (try with_reducible rfl)
    (try simp only [Act.put, List.getElem_toArray, List.getElem_cons_zero, List.getElem_cons_succ, List.setIfInBounds_toArray, List.set_cons_zero, List.set_cons_succ])
    refine wpAnyF_take (i := 5) (v := ?_) (by kernel_rfl) (by kernel_rfl) rfl (by kernel_rfl) (by kernel_rfl) (by kernel_rfl) (fun _ _ _ h => h) (Or.inl ⟨by rfl, ?_⟩) (by assumption) ?_
    rotate_left
    · intro w' hSw; (try dsimp only at hSw); clear hSw; go_simp; (try with_reducible rfl)
    (try simp only [Act.put, List.getElem_toArray, List.getElem_cons_zero, List.getElem_cons_succ, List.setIfInBounds_toArray, List.set_cons_zero, List.set_cons_succ])
    refine wpAnyF_take (i := 6) (v := ?_) (by kernel_rfl) (by kernel_rfl) rfl (by kernel_rfl) (by kernel_rfl) (by kernel_rfl) (fun _ _ _ h => h) (Or.inl ⟨by rfl, ?_⟩) (by assumption) ?_
    rotate_left
    · intro w' hSw; (try dsimp only at hSw); clear hSw; go_simp; (try with_reducible rfl)
    (try simp only [Act.put, List.getElem_toArray, List.getElem_cons_zero, List.getElem_cons_succ, List.setIfInBounds_toArray, List.set_cons_zero, List.set_cons_succ])
    refine wpAnyF_take (i := 7) (v := ?_) (by kernel_rfl) (by kernel_rfl) rfl (by kernel_rfl) (by kernel_rfl) (by kernel_rfl) (fun _ _ _ h => h) (Or.inl ⟨by rfl, ?_⟩) (by assumption) ?_
    rotate_left
    · intro w' hSw; (try dsimp only at hSw); clear hSw; go_simp; (try with_reducible rfl)
    (try simp only [Act.put, List.getElem_toArray, List.getElem_cons_zero, List.getElem_cons_succ, List.setIfInBounds_toArray, List.set_cons_zero, List.set_cons_succ])
    refine wpAnyF_take (i := 8) (v := ?_) (by kernel_rfl) (by kernel_rfl) rfl (by kernel_rfl) (by kernel_rfl) (by kernel_rfl) (fun _ _ _ h => h) (Or.inl ⟨by rfl, ?_⟩) (by assumption) ?_
    rotate_left
    · intro w' hSw; (try dsimp only at hSw); obtain ⟨⟨m0, m1, m2⟩, m3⟩ := hSw; go_simp; (try with_reducible rfl)
    (try simp only [Act.put, List.getElem_toArray, List.getElem_cons_zero, List.getElem_cons_succ, List.setIfInBounds_toArray, List.set_cons_zero, List.set_cons_succ])
    refine wpAnyF_take (i := 9) (v := ?_) (by kernel_rfl) (by kernel_rfl) rfl (by kernel_rfl) (by kernel_rfl) (by kernel_rfl) (fun _ _ _ h => h) (Or.inl ⟨by rfl, ?_⟩) (by assumption) ?_
    rotate_left
    · intro w' hSw; (try dsimp only at hSw); clear hSw; go_simp; (try with_reducible rfl)
    (try simp only [Act.put, List.getElem_toArray, List.getElem_cons_zero, List.getElem_cons_succ, List.setIfInBounds_toArray, List.set_cons_zero, List.set_cons_succ])
    refine wpAnyF_take (i := 10) (v := ?_) (by kernel_rfl) (by kernel_rfl) rfl (by kernel_rfl) (by kernel_rfl) (by kernel_rfl) (fun _ _ _ h => h) (Or.inl ⟨by rfl, ?_⟩) (by assumption) ?_
    rotate_left
    · intro w' hSw; (try dsimp only at hSw); clear hSw; go_simp; (try with_reducible rfl)
    (try simp only [Act.put, List.getElem_toArray, List.getElem_cons_zero, List.getElem_cons_succ, List.setIfInBounds_toArray, List.set_cons_zero, List.set_cons_succ])
    refine wpAnyF_take (i := 11) (v := ?_) (by kernel_rfl) (by kernel_rfl) rfl (by kernel_rfl) (by kernel_rfl) (by kernel_rfl) (fun _ _ _ h => h) (Or.inl ⟨by rfl, ?_⟩) (by assumption) ?_
    rotate_left
    · intro w' hSw; (try dsimp only at hSw); clear hSw; go_simp; (try with_reducible rfl)
    (try simp only [Act.put, List.getElem_toArray, List.getElem_cons_zero, List.getElem_cons_succ, List.setIfInBounds_toArray, List.set_cons_zero, List.set_cons_succ])
    refine wpAnyF_take (i := 12) (v := ?_) (by kernel_rfl) (by kernel_rfl) rfl (by kernel_rfl) (by kernel_rfl) (by kernel_rfl) (fun _ _ _ h => h) (Or.inl ⟨by rfl, ?_⟩) (by assumption) ?_
    rotate_left
    · intro w' hSw; (try dsimp only at hSw); clear hSw; go_simp; (try with_reducible rfl)
    (try simp only [Act.put, List.getElem_toArray, List.getElem_cons_zero, List.getElem_cons_succ, List.setIfInBounds_toArray, List.set_cons_zero, List.set_cons_succ])
    refine wpAnyF_take (i := 13) (v := ?_) (by kernel_rfl) (by kernel_rfl) rfl (by kernel_rfl) (by kernel_rfl) (by kernel_rfl) (fun _ _ _ h => h) (Or.inl ⟨by rfl, ?_⟩) (by assumption) ?_
    rotate_left
    · intro w' hSw; (try dsimp only at hSw); obtain ⟨⟨m0, m1, m2⟩, m3⟩ := hSw; go_simp; (try with_reducible rfl)
    (try simp only [Act.put, List.getElem_toArray, List.getElem_cons_zero, List.getElem_cons_succ, List.setIfInBounds_toArray, List.set_cons_zero, List.set_cons_succ])
    refine wpAnyF_take (i := 14) (v := ?_) (by kernel_rfl) (by kernel_rfl) rfl (by kernel_rfl) (by kernel_rfl) (by kernel_rfl) (fun _ _ _ h => h) (Or.inl ⟨by rfl, ?_⟩) (by assumption) ?_
    rotate_left
    · intro w' hSw; (try dsimp only at hSw); clear hSw; go_simp; (try with_reducible rfl)
    (try simp only [Act.put, List.getElem_toArray, List.getElem_cons_zero, List.getElem_cons_succ, List.setIfInBounds_toArray, List.set_cons_zero, List.set_cons_succ])
    refine wpAnyF_take (i := 15) (v := ?_) (by kernel_rfl) (by kernel_rfl) rfl (by kernel_rfl) (by kernel_rfl) (by kernel_rfl) (fun _ _ _ h => h) (Or.inl ⟨by rfl, ?_⟩) (by assumption) ?_
    rotate_left
    · intro w' hSw; (try dsimp only at hSw); clear hSw; go_simp; (try with_reducible rfl)
    (try simp only [Act.put, List.getElem_toArray, List.getElem_cons_zero, List.getElem_cons_succ, List.setIfInBounds_toArray, List.set_cons_zero, List.set_cons_succ])
    refine wpAnyF_take (i := 16) (v := ?_) (by kernel_rfl) (by kernel_rfl) rfl (by kernel_rfl) (by kernel_rfl) (by kernel_rfl) (fun _ _ _ h => h) (Or.inl ⟨by rfl, ?_⟩) (by assumption) ?_
    rotate_left
    · intro w' hSw; (try dsimp only at hSw); clear hSw; go_simp; (try with_reducible rfl)
    (try simp only [Act.put, List.getElem_toArray, List.getElem_cons_zero, List.getElem_cons_succ, List.setIfInBounds_toArray, List.set_cons_zero, List.set_cons_succ])
    refine wpAnyF_take (i := 17) (v := ?_) (by kernel_rfl) (by kernel_rfl) rfl (by kernel_rfl) (by kernel_rfl) (by kernel_rfl) (fun _ _ _ h => h) (Or.inl ⟨by rfl, ?_⟩) (by assumption) ?_
    rotate_left
    · intro w' hSw; (try dsimp only at hSw); clear hSw; go_simp; (try with_reducible rfl)
    (try simp only [Act.put, List.getElem_toArray, List.getElem_cons_zero, List.getElem_cons_succ, List.setIfInBounds_toArray, List.set_cons_zero, List.set_cons_succ])
    refine wpAnyF_take (i := 18) (v := ?_) (by kernel_rfl) (by kernel_rfl) rfl (by kernel_rfl) (by kernel_rfl) (by kernel_rfl) (fun _ _ _ h => h) (Or.inl ⟨by rfl, ?_⟩) (by assumption) ?_
    rotate_left
    · intro w' hSw; (try dsimp only at hSw); obtain ⟨⟨m0, m1, m2⟩, m3⟩ := hSw; go_simp; (try with_reducible rfl)
    (try simp only [Act.put, List.getElem_toArray, List.getElem_cons_zero, List.getElem_cons_succ, List.setIfInBounds_toArray, List.set_cons_zero, List.set_cons_succ])
    refine wpAnyF_take (i := 19) (v := ?_) (by kernel_rfl) (by kernel_rfl) rfl (by kernel_rfl) (by kernel_rfl) (by kernel_rfl) (fun _ _ _ h => h) (Or.inl ⟨by rfl, ?_⟩) (by assumption) ?_
    rotate_left
    · intro w' hSw; (try dsimp only at hSw); obtain ⟨⟨m0, m1, m2⟩, m3⟩ := hSw; go_simp; (try with_reducible rfl)
    (try simp only [Act.put, List.getElem_toArray, List.getElem_cons_zero, List.getElem_cons_succ, List.setIfInBounds_toArray, List.set_cons_zero, List.set_cons_succ])
    refine wpAnyF_take (i := 21) (v := ?_) (by kernel_rfl) (by kernel_rfl) rfl (by kernel_rfl) (by kernel_rfl) (by kernel_rfl) (fun _ _ _ h => h) (Or.inl ⟨by rfl, ?_⟩) (by assumption) ?_
    rotate_left
    · intro w' hSw; (try dsimp only at hSw); obtain ⟨⟨m0, m1, m2⟩, m3⟩ := hSw; go_simp; (try with_reducible rfl)
    (try simp only [Act.put, List.getElem_toArray, List.getElem_cons_zero, List.getElem_cons_succ, List.setIfInBounds_toArray, List.set_cons_zero, List.set_cons_succ])
    refine wpAnyF_ready (rs := [20]) (by kernel_rfl) (by simp) ?_
    refine AllReadyF.cons rfl (fun KK hKK => ?_) AllReadyF.nil
    go_simp
    ((with_reducible refine (HSZ.out p g _ HBL.out _ (H2.out.later (below_dr _)).m.mem).mono ?_); rintro e' w3 ⟨rfl, rfl⟩)
    (try go_simp)
    refine hKK.out _ _ (H2.out.later (below_dr _)).cells (fun hHeld => ?_)
    clear hKK KK
    (try simp only [Act.put, List.getElem_toArray, List.getElem_cons_zero, List.getElem_cons_succ, List.setIfInBounds_toArray, List.set_cons_zero, List.set_cons_succ])
    refine wpAnyF_ready (rs := [22]) (by kernel_rfl) (by simp) ?_
    refine AllReadyF.cons rfl (fun KK hKK => ?_) AllReadyF.nil
    go_simp
    ((with_reducible refine (HEV.out _).mono ?_); rintro e' w4 ⟨rfl, hb4⟩; have H4 := Hi.mk ((H2.out.later (below_dr _)).later hb4); clear hb4)
    (try go_simp)
    refine hKK.out _ _ H4.out.cells (fun hHeld => ?_)
    clear hKK KK
    (try simp only [Act.put, List.getElem_toArray, List.getElem_cons_zero, List.getElem_cons_succ, List.setIfInBounds_toArray, List.set_cons_zero, List.set_cons_succ])
    refine wpAnyF_take (i := 23) (v := ?_) (by kernel_rfl) (by kernel_rfl) rfl (by kernel_rfl) (by kernel_rfl) (by kernel_rfl) (fun _ _ _ h => h) (Or.inl ⟨by rfl, ?_⟩) (by assumption) ?_
    rotate_left
    · intro w' hSw; (try dsimp only at hSw); clear hSw; go_simp; (try with_reducible rfl)
    (try simp only [Act.put, List.getElem_toArray, List.getElem_cons_zero, List.getElem_cons_succ, List.setIfInBounds_toArray, List.set_cons_zero, List.set_cons_succ])
    refine wpAnyF_take (i := 24) (v := ?_) (by kernel_rfl) (by kernel_rfl) rfl (by kernel_rfl) (by kernel_rfl) (by kernel_rfl) (fun _ _ _ h => h) (Or.inl ⟨by rfl, ?_⟩) (by assumption) ?_
    rotate_left
    · intro w' hSw; (try dsimp only at hSw); clear hSw; go_simp; (try with_reducible rfl)
    (try simp only [Act.put, List.getElem_toArray, List.getElem_cons_zero, List.getElem_cons_succ, List.setIfInBounds_toArray, List.set_cons_zero, List.set_cons_succ])
    refine wpAnyF_take (i := 25) (v := ?_) (by kernel_rfl) (by kernel_rfl) rfl (by kernel_rfl) (by kernel_rfl) (by kernel_rfl) (fun _ _ _ h => h) (Or.inl ⟨by rfl, ?_⟩) (by assumption) ?_
    rotate_left
    · intro w' hSw; (try dsimp only at hSw); clear hSw; go_simp; (try with_reducible rfl)
    (try simp only [Act.put, List.getElem_toArray, List.getElem_cons_zero, List.getElem_cons_succ, List.setIfInBounds_toArray, List.set_cons_zero, List.set_cons_succ])
    refine wpAnyF_take (i := 26) (v := ?_) (by kernel_rfl) (by kernel_rfl) rfl (by kernel_rfl) (by kernel_rfl) (by kernel_rfl) (fun _ _ _ h => h) (Or.inl ⟨by rfl, ?_⟩) (by assumption) ?_
    rotate_left
    · intro w' hSw; (try dsimp only at hSw); clear hSw; go_simp; (try with_reducible rfl)
    (try simp only [Act.put, List.getElem_toArray, List.getElem_cons_zero, List.getElem_cons_succ, List.setIfInBounds_toArray, List.set_cons_zero, List.set_cons_succ])
    refine wpAnyF_done (by kernel_rfl) ?_ _
    refine NoPanic.normal ?_
    have HH := Hi.mk H4.out
    have m3 := HH.out.x.cell 0
    have rf := HH.out.r.frozen
    have rz := HH.out.r.lt
    have rc := HH.out.r.cell 0
    go_wp2
    have hc9 : CB (w4.setCell ⟨w.heap.size + 1, 0, none⟩ (.bool true)) (w.heap.size + 1) 4 #[.bool true] := by have := HH.out.r.set 0 (.bool true); simpa using this
    have hb9 : Below w.heap.size w (w4.setCell ⟨w.heap.size + 1, 0, none⟩ (.bool true)) := below_set HH.out.m.below (by show w.heap.size ≤ w.heap.size + 1; omega) _
    exact ⟨_, results_b rfl _ _ (w.heap.size + 1) (.bool true) rfl hc9, rfl, hb9⟩
  have h7' : d.at_ ≤ (N : Int) - 8 * E := by rw [hw] at h7; omega
  refine wp_region_noPanic ?_
  refine wp_region_last_drew (S := (fun V => ((V.cell? ⟨w.heap.size, 0, none⟩ = some (.bool d.ok) ∧ V.cell? ⟨w.heap.size, 1, none⟩ = some (.int .i64 d.bits) ∧ V.cell? ⟨w.heap.size, 2, none⟩ = some (.int .i64 d.at_)) ∧ V.cell? ⟨w2.heap.size, 0, none⟩ = some (.pointer (some ⟨p, 0, none⟩))))) [] (by kernel_rfl) (H2.out.later (below_dr _)).cells (fun hHeld => ?_)
  (try simp only [Array.replicate_succ, Array.replicate_zero, List.push_toArray, List.nil_append, List.cons_append])
  refine wpAnyF_take (i := 0) (v := ?_) (by kernel_rfl) (by kernel_rfl) rfl (by kernel_rfl) (by kernel_rfl) (by kernel_rfl) (fun _ _ _ h => h) (Or.inl ⟨by rfl, ?_⟩) (by assumption) ?_
  rotate_left
  · intro w' hSw; (try dsimp only at hSw); clear hSw; go_simp; (try with_reducible rfl)
  (try simp only [Act.put, List.getElem_toArray, List.getElem_cons_zero, List.getElem_cons_succ, List.setIfInBounds_toArray, List.set_cons_zero, List.set_cons_succ])
  refine wpAnyF_take (i := 1) (v := ?_) (by kernel_rfl) (by kernel_rfl) rfl (by kernel_rfl) (by kernel_rfl) (by kernel_rfl) (fun _ _ _ h => h) (Or.inl ⟨by rfl, ?_⟩) (by assumption) ?_
  rotate_left
  · intro w' hSw; (try dsimp only at hSw); clear hSw; go_simp; (try with_reducible rfl)
  (try simp only [Act.put, List.getElem_toArray, List.getElem_cons_zero, List.getElem_cons_succ, List.setIfInBounds_toArray, List.set_cons_zero, List.set_cons_succ])
  refine wpAnyF_take (i := 2) (v := ?_) (by kernel_rfl) (by kernel_rfl) rfl (by kernel_rfl) (by kernel_rfl) (by kernel_rfl) (fun _ _ _ h => h) (Or.inl ⟨by rfl, ?_⟩) (by assumption) ?_
  rotate_left
  · intro w' hSw; (try dsimp only at hSw); clear hSw; go_simp; (try with_reducible rfl)
  (try simp only [Act.put, List.getElem_toArray, List.getElem_cons_zero, List.getElem_cons_succ, List.setIfInBounds_toArray, List.set_cons_zero, List.set_cons_succ])
  refine wpAnyF_take (i := 3) (v := ?_) (by kernel_rfl) (by kernel_rfl) rfl (by kernel_rfl) (by kernel_rfl) (by kernel_rfl) (fun _ _ _ h => h) (Or.inl ⟨by rfl, ?_⟩) (by assumption) ?_
  rotate_left
  · intro w' hSw; (try dsimp only at hSw); obtain ⟨⟨m0, m1, m2⟩, m3⟩ := hSw; go_simp; (try with_reducible rfl)
  (try simp only [Act.put, List.getElem_toArray, List.getElem_cons_zero, List.getElem_cons_succ, List.setIfInBounds_toArray, List.set_cons_zero, List.set_cons_succ])
  refine wpAnyF_take (i := 4) (v := ?_) (by kernel_rfl) (by kernel_rfl) rfl (by kernel_rfl) (by kernel_rfl) (by kernel_rfl) (fun _ _ _ h => h) (Or.inl ⟨by rfl, ?_⟩) (by assumption) ?_
  rotate_left
  · intro w' hSw; (try dsimp only at hSw); clear hSw; go_simp; (try with_reducible rfl)
  (try simp only [Act.put, List.getElem_toArray, List.getElem_cons_zero, List.getElem_cons_succ, List.setIfInBounds_toArray, List.set_cons_zero, List.set_cons_succ])
  refine wpAnyF_take (i := 5) (v := ?_) (by kernel_rfl) (by kernel_rfl) rfl (by kernel_rfl) (by kernel_rfl) (by kernel_rfl) (fun _ _ _ h => h) (Or.inl ⟨by rfl, ?_⟩) (by assumption) ?_
  rotate_left
  · intro w' hSw; (try dsimp only at hSw); clear hSw; go_simp; (try with_reducible rfl)
  (try simp only [Act.put, List.getElem_toArray, List.getElem_cons_zero, List.getElem_cons_succ, List.setIfInBounds_toArray, List.set_cons_zero, List.set_cons_succ])
  refine wpAnyF_take (i := 6) (v := ?_) (by kernel_rfl) (by kernel_rfl) rfl (by kernel_rfl) (by kernel_rfl) (by kernel_rfl) (fun _ _ _ h => h) (Or.inl ⟨by rfl, ?_⟩) (by assumption) ?_
  rotate_left
  · intro w' hSw; (try dsimp only at hSw); clear hSw; go_simp; (try with_reducible rfl)
  (try simp only [Act.put, List.getElem_toArray, List.getElem_cons_zero, List.getElem_cons_succ, List.setIfInBounds_toArray, List.set_cons_zero, List.set_cons_succ])
  refine wpAnyF_take (i := 7) (v := ?_) (by kernel_rfl) (by kernel_rfl) rfl (by kernel_rfl) (by kernel_rfl) (by kernel_rfl) (fun _ _ _ h => h) (Or.inl ⟨by rfl, ?_⟩) (by assumption) ?_
  rotate_left
  · intro w' hSw; (try dsimp only at hSw); clear hSw; go_simp; (try with_reducible rfl)
  (try simp only [Act.put, List.getElem_toArray, List.getElem_cons_zero, List.getElem_cons_succ, List.setIfInBounds_toArray, List.set_cons_zero, List.set_cons_succ])
  refine wpAnyF_take (i := 8) (v := ?_) (by kernel_rfl) (by kernel_rfl) rfl (by kernel_rfl) (by kernel_rfl) (by kernel_rfl) (fun _ _ _ h => h) (Or.inl ⟨by rfl, ?_⟩) (by assumption) ?_
  rotate_left
  · intro w' hSw; (try dsimp only at hSw); obtain ⟨⟨m0, m1, m2⟩, m3⟩ := hSw; go_simp; (try with_reducible rfl)
  (try simp only [Act.put, List.getElem_toArray, List.getElem_cons_zero, List.getElem_cons_succ, List.setIfInBounds_toArray, List.set_cons_zero, List.set_cons_succ])
  refine wpAnyF_take (i := 9) (v := ?_) (by kernel_rfl) (by kernel_rfl) rfl (by kernel_rfl) (by kernel_rfl) (by kernel_rfl) (fun _ _ _ h => h) (Or.inl ⟨by rfl, ?_⟩) (by assumption) ?_
  rotate_left
  · intro w' hSw; (try dsimp only at hSw); clear hSw; go_simp; (try with_reducible rfl)
  (try simp only [Act.put, List.getElem_toArray, List.getElem_cons_zero, List.getElem_cons_succ, List.setIfInBounds_toArray, List.set_cons_zero, List.set_cons_succ])
  refine wpAnyF_take (i := 10) (v := ?_) (by kernel_rfl) (by kernel_rfl) rfl (by kernel_rfl) (by kernel_rfl) (by kernel_rfl) (fun _ _ _ h => h) (Or.inl ⟨by rfl, ?_⟩) (by assumption) ?_
  rotate_left
  · intro w' hSw; (try dsimp only at hSw); clear hSw; go_simp; (try with_reducible rfl)
  (try simp only [Act.put, List.getElem_toArray, List.getElem_cons_zero, List.getElem_cons_succ, List.setIfInBounds_toArray, List.set_cons_zero, List.set_cons_succ])
  refine wpAnyF_take (i := 11) (v := ?_) (by kernel_rfl) (by kernel_rfl) rfl (by kernel_rfl) (by kernel_rfl) (by kernel_rfl) (fun _ _ _ h => h) (Or.inl ⟨by rfl, ?_⟩) (by assumption) ?_
  rotate_left
  · intro w' hSw; (try dsimp only at hSw); clear hSw; go_simp; (try with_reducible rfl)
  (try simp only [Act.put, List.getElem_toArray, List.getElem_cons_zero, List.getElem_cons_succ, List.setIfInBounds_toArray, List.set_cons_zero, List.set_cons_succ])
  refine wpAnyF_take (i := 12) (v := ?_) (by kernel_rfl) (by kernel_rfl) rfl (by kernel_rfl) (by kernel_rfl) (by kernel_rfl) (fun _ _ _ h => h) (Or.inl ⟨by rfl, ?_⟩) (by assumption) ?_
  rotate_left
  · intro w' hSw; (try dsimp only at hSw); clear hSw; go_simp; (try with_reducible rfl)
  (try simp only [Act.put, List.getElem_toArray, List.getElem_cons_zero, List.getElem_cons_succ, List.setIfInBounds_toArray, List.set_cons_zero, List.set_cons_succ])
  refine wpAnyF_take (i := 13) (v := ?_) (by kernel_rfl) (by kernel_rfl) rfl (by kernel_rfl) (by kernel_rfl) (by kernel_rfl) (fun _ _ _ h => h) (Or.inl ⟨by rfl, ?_⟩) (by assumption) ?_
  rotate_left
  · intro w' hSw; (try dsimp only at hSw); obtain ⟨⟨m0, m1, m2⟩, m3⟩ := hSw; go_simp; (try with_reducible rfl)
  (try simp only [Act.put, List.getElem_toArray, List.getElem_cons_zero, List.getElem_cons_succ, List.setIfInBounds_toArray, List.set_cons_zero, List.set_cons_succ])
  refine wpAnyF_take (i := 14) (v := ?_) (by kernel_rfl) (by kernel_rfl) rfl (by kernel_rfl) (by kernel_rfl) (by kernel_rfl) (fun _ _ _ h => h) (Or.inl ⟨by rfl, ?_⟩) (by assumption) ?_
  rotate_left
  · intro w' hSw; (try dsimp only at hSw); clear hSw; go_simp; (try with_reducible rfl)
  (try simp only [Act.put, List.getElem_toArray, List.getElem_cons_zero, List.getElem_cons_succ, List.setIfInBounds_toArray, List.set_cons_zero, List.set_cons_succ])
  refine wpAnyF_take (i := 15) (v := ?_) (by kernel_rfl) (by kernel_rfl) rfl (by kernel_rfl) (by kernel_rfl) (by kernel_rfl) (fun _ _ _ h => h) (Or.inl ⟨by rfl, ?_⟩) (by assumption) ?_
  rotate_left
  · intro w' hSw; (try dsimp only at hSw); clear hSw; go_simp; (try with_reducible rfl)
  (try simp only [Act.put, List.getElem_toArray, List.getElem_cons_zero, List.getElem_cons_succ, List.setIfInBounds_toArray, List.set_cons_zero, List.set_cons_succ])
  refine wpAnyF_take (i := 16) (v := ?_) (by kernel_rfl) (by kernel_rfl) rfl (by kernel_rfl) (by kernel_rfl) (by kernel_rfl) (fun _ _ _ h => h) (Or.inl ⟨by rfl, ?_⟩) (by assumption) ?_
  rotate_left
  · intro w' hSw; (try dsimp only at hSw); clear hSw; go_simp; (try with_reducible rfl)
  (try simp only [Act.put, List.getElem_toArray, List.getElem_cons_zero, List.getElem_cons_succ, List.setIfInBounds_toArray, List.set_cons_zero, List.set_cons_succ])
  refine wpAnyF_take (i := 17) (v := ?_) (by kernel_rfl) (by kernel_rfl) rfl (by kernel_rfl) (by kernel_rfl) (by kernel_rfl) (fun _ _ _ h => h) (Or.inl ⟨by rfl, ?_⟩) (by assumption) ?_
  rotate_left
  · intro w' hSw; (try dsimp only at hSw); clear hSw; go_simp; (try with_reducible rfl)
  (try simp only [Act.put, List.getElem_toArray, List.getElem_cons_zero, List.getElem_cons_succ, List.setIfInBounds_toArray, List.set_cons_zero, List.set_cons_succ])
  refine wpAnyF_take (i := 18) (v := ?_) (by kernel_rfl) (by kernel_rfl) rfl (by kernel_rfl) (by kernel_rfl) (by kernel_rfl) (fun _ _ _ h => h) (Or.inl ⟨by rfl, ?_⟩) (by assumption) ?_
  rotate_left
  · intro w' hSw; (try dsimp only at hSw); obtain ⟨⟨m0, m1, m2⟩, m3⟩ := hSw; go_simp; (try with_reducible rfl)
  (try simp only [Act.put, List.getElem_toArray, List.getElem_cons_zero, List.getElem_cons_succ, List.setIfInBounds_toArray, List.set_cons_zero, List.set_cons_succ])
  refine wpAnyF_take (i := 19) (v := ?_) (by kernel_rfl) (by kernel_rfl) rfl (by kernel_rfl) (by kernel_rfl) (by kernel_rfl) (fun _ _ _ h => h) (Or.inl ⟨by rfl, ?_⟩) (by assumption) ?_
  rotate_left
  · intro w' hSw; (try dsimp only at hSw); obtain ⟨⟨m0, m1, m2⟩, m3⟩ := hSw; go_simp; (try with_reducible rfl)
  (try simp only [Act.put, List.getElem_toArray, List.getElem_cons_zero, List.getElem_cons_succ, List.setIfInBounds_toArray, List.set_cons_zero, List.set_cons_succ])
  refine wpAnyF_take (i := 21) (v := ?_) (by kernel_rfl) (by kernel_rfl) rfl (by kernel_rfl) (by kernel_rfl) (by kernel_rfl) (fun _ _ _ h => h) (Or.inl ⟨by rfl, ?_⟩) (by assumption) ?_
  rotate_left
  · intro w' hSw; (try dsimp only at hSw); obtain ⟨⟨m0, m1, m2⟩, m3⟩ := hSw; go_simp; (try with_reducible rfl)
  (try simp only [Act.put, List.getElem_toArray, List.getElem_cons_zero, List.getElem_cons_succ, List.setIfInBounds_toArray, List.set_cons_zero, List.set_cons_succ])
  refine wpAnyF_ready (rs := [20]) (by kernel_rfl) (by simp) ?_
  refine AllReadyF.cons rfl (fun KK hKK => ?_) AllReadyF.nil
  go_simp
  ((with_reducible refine (HSZ.out p g _ HBL.out _ (H2.out.later (below_dr _)).m.mem).mono ?_); rintro e' w3 ⟨rfl, rfl⟩)
  (try go_simp)
  refine hKK.out _ _ (H2.out.later (below_dr _)).cells (fun hHeld => ?_)
  clear hKK KK
  (try simp only [Act.put, List.getElem_toArray, List.getElem_cons_zero, List.getElem_cons_succ, List.setIfInBounds_toArray, List.set_cons_zero, List.set_cons_succ])
  refine wpAnyF_ready (rs := [22]) (by kernel_rfl) (by simp) ?_
  refine AllReadyF.cons rfl (fun KK hKK => ?_) AllReadyF.nil
  go_simp
  ((with_reducible refine (HEV.out _).mono ?_); rintro e' w4 ⟨rfl, hb4⟩; have H4 := Hi.mk ((H2.out.later (below_dr _)).later hb4); clear hb4)
  (try go_simp)
  refine hKK.out _ _ H4.out.cells (fun hHeld => ?_)
  clear hKK KK
  (try simp only [Act.put, List.getElem_toArray, List.getElem_cons_zero, List.getElem_cons_succ, List.setIfInBounds_toArray, List.set_cons_zero, List.set_cons_succ])
  refine wpAnyF_take (i := 23) (v := ?_) (by kernel_rfl) (by kernel_rfl) rfl (by kernel_rfl) (by kernel_rfl) (by kernel_rfl) (fun _ _ _ h => h) (Or.inl ⟨by rfl, ?_⟩) (by assumption) ?_
  rotate_left
  · intro w' hSw; (try dsimp only at hSw); clear hSw; go_simp; (try with_reducible rfl)
  (try simp only [Act.put, List.getElem_toArray, List.getElem_cons_zero, List.getElem_cons_succ, List.setIfInBounds_toArray, List.set_cons_zero, List.set_cons_succ])
  refine wpAnyF_take (i := 24) (v := ?_) (by kernel_rfl) (by kernel_rfl) rfl (by kernel_rfl) (by kernel_rfl) (by kernel_rfl) (fun _ _ _ h => h) (Or.inl ⟨by rfl, ?_⟩) (by assumption) ?_
  rotate_left
  · intro w' hSw; (try dsimp only at hSw); clear hSw; go_simp; (try with_reducible rfl)
  (try simp only [Act.put, List.getElem_toArray, List.getElem_cons_zero, List.getElem_cons_succ, List.setIfInBounds_toArray, List.set_cons_zero, List.set_cons_succ])
  refine wpAnyF_take (i := 25) (v := ?_) (by kernel_rfl) (by kernel_rfl) rfl (by kernel_rfl) (by kernel_rfl) (by kernel_rfl) (fun _ _ _ h => h) (Or.inl ⟨by rfl, ?_⟩) (by assumption) ?_
  rotate_left
  · intro w' hSw; (try dsimp only at hSw); clear hSw; go_simp; (try with_reducible rfl)
  (try simp only [Act.put, List.getElem_toArray, List.getElem_cons_zero, List.getElem_cons_succ, List.setIfInBounds_toArray, List.set_cons_zero, List.set_cons_succ])
  refine wpAnyF_take (i := 26) (v := ?_) (by kernel_rfl) (by kernel_rfl) rfl (by kernel_rfl) (by kernel_rfl) (by kernel_rfl) (fun _ _ _ h => h) (Or.inl ⟨by rfl, ?_⟩) (by assumption) ?_
  rotate_left
  · intro w' hSw; (try dsimp only at hSw); clear hSw; go_simp; (try with_reducible rfl)
  (try simp only [Act.put, List.getElem_toArray, List.getElem_cons_zero, List.getElem_cons_succ, List.setIfInBounds_toArray, List.set_cons_zero, List.set_cons_succ])
  refine wpAnyF_done (by kernel_rfl) ?_ _
  refine NoPanic.normal ?_
  have qd := H4.out.d.frozen
  have qz := H4.out.d.lt
  have q0 := H4.out.d.cell 0
  have H5 := Hi.mk (show RoI w p g N w2.heap.size ⟨true, d.bits, d.at_⟩ bs (w4.setCell ⟨w.heap.size, 0, none⟩ (.bool true)) from H4.out.valid)
  have HEE := Hi.mk (show (⟨true, d.bits, d.at_⟩ : Dv).Fair ∧ evN ⟨true, d.bits, d.at_⟩ = E ∧ (∀ k : Nat, k < E → evE N ⟨true, d.bits, d.at_⟩ k = 0) ∧ evE N ⟨true, d.bits, d.at_⟩ (E : Nat) ≠ 0 from
    ⟨⟨HFD.out.b, HFD.out.a⟩, HE.out, fun k hk => evs_in (n := N) (d := ⟨true, d.bits, d.at_⟩) rfl h6' (by rw [show evN ⟨true, d.bits, d.at_⟩ = E from HE.out]; exact h7') k (by rw [show evN ⟨true, d.bits, d.at_⟩ = E from HE.out]; exact hk), by have h := evs_out (n := N) (d := ⟨true, d.bits, d.at_⟩); rwa [show evN ⟨true, d.bits, d.at_⟩ = E from HE.out] at h⟩)
  go_wp2
  clear qd qz q0 hHeld hw h5 h6 h7 h5' h6' h7' HE qf H1 H2
  obtain ⟨e, he⟩ : ∃ e : Dv, (⟨true, d.bits, d.at_⟩ : Dv) = e := ⟨_, rfl⟩
  rw [he] at H5 HEE
  clear he
  go_loopw [12] (fun i wr => ∃ j : Nat, i = .int .i64 j ∧ Hi (j ≤ xs.length ∧ ∃ bs : List Nat, bs.length = N ∧ RoI w p g N w2.heap.size e bs wr)) (fun i _ => xs.length - (intOf i).toNat)
  case atStart => exact ⟨0, rfl, Hi.mk ⟨Nat.zero_le _, _, HBL.out, H5.out⟩⟩
  case round =>
    obtain ⟨j, rfl, HJ⟩ := hrel
    have hj := HJ.out.1
    obtain ⟨bs1, hbl1, hi1⟩ := HJ.out.2
    have HL1 := Hi.mk hbl1
    have HI := Hi.mk hi1
    clear hbl1 hi1
    by_cases hlt : j < xs.length
    · by_cases hlt1 : j < rs.length
      · obtain rfl := HX.out.1.some (j := j) (by simpa using hlt)
        obtain rfl := HX.out.2.some (j := j) (by simpa using hlt1)
        have hxb := HB.out.1 _ (List.getElem_mem hlt)
        have hxc := fun {W : World} (h : Below w.heap.size w W) => (HX.out.1.below h).one (map_at (f := u8C) hlt)
        have hrc := fun {W : World} (h : Below w.heap.size w W) => (HX.out.2.below h).three (map_at (f := rtC) hlt1)
        obtain ⟨x, hxe⟩ : ∃ x, xs[j] = x := ⟨_, rfl⟩
        obtain ⟨r, hre⟩ : ∃ r, rs[j] = r := ⟨_, rfl⟩
        rw [hxe] at hxc hxb
        rw [hre] at hrc
        have HXC := Hi.mk @hxc
        have HRC := Hi.mk @hrc
        have HSR := Hi.mk (fun W hM => setR_any p g N bs1 e HEE.out.1 (IntKind.i64.wrap (x : Int)) r W hM)
        have HL2 := Hi.mk (Eq.trans (@setB_len bs1 e (IntKind.i64.wrap (x : Int)) r) HL1.out)
        obtain ⟨bs2, hb2⟩ : ∃ l, setB bs1 e (IntKind.i64.wrap (x : Int)) r = l := ⟨_, rfl⟩
        obtain ⟨E2, hE2⟩ : ∃ l, setE bs1.length e (IntKind.i64.wrap (x : Int)) r = l := ⟨_, rfl⟩
        rw [hb2, hE2] at HSR
        rw [hb2] at HL2
        clear hxc hrc hxe hre hb2 hE2
        go_wp2
        refine wp_region_noPanic ?_
        refine wp_region_last_drew (S := (fun V => ((V.cell? ⟨w.heap.size, 0, none⟩ = some (.bool e.ok) ∧ V.cell? ⟨w.heap.size, 1, none⟩ = some (.int .i64 e.bits) ∧ V.cell? ⟨w.heap.size, 2, none⟩ = some (.int .i64 e.at_)) ∧ V.cell? ⟨w2.heap.size, 0, none⟩ = some (.pointer (some ⟨p, 0, none⟩))) ∧ V.cell? ⟨b0, f0 + j, none⟩ = some (.int .u8 (x : Int)) ∧ (V.cell? ⟨b1, f1 + j * 3, none⟩ = some (.int .i64 r.num) ∧ V.cell? ⟨b1, f1 + j * 3 + 1, none⟩ = some (.int .i64 r.coll) ∧ V.cell? ⟨b1, f1 + j * 3 + 2, none⟩ = some (.bool r.ok)))) [] (by kernel_rfl) ⟨(HI.out.later (below_dr _)).cells, HXC.out (HI.out.later (below_dr _)).m.below, HRC.out (HI.out.later (below_dr _)).m.below⟩ (fun hHeld => ?_)
        (try simp only [Array.replicate_succ, Array.replicate_zero, List.push_toArray, List.nil_append, List.cons_append])
        refine wpAnyF_take (i := 0) (v := ?_) (by kernel_rfl) (by kernel_rfl) rfl (by kernel_rfl) (by kernel_rfl) (by kernel_rfl) (fun _ _ _ h => h) (Or.inl ⟨by rfl, ?_⟩) (by assumption) ?_
        rotate_left
        · intro w' hSw; (try dsimp only at hSw); have hq := hSw.1.1; clear hSw; obtain ⟨m0, m1, m2⟩ := hq; go_simp; (try with_reducible rfl)
        (try simp only [Act.put, List.getElem_toArray, List.getElem_cons_zero, List.getElem_cons_succ, List.setIfInBounds_toArray, List.set_cons_zero, List.set_cons_succ])
        refine wpAnyF_take (i := 1) (v := ?_) (by kernel_rfl) (by kernel_rfl) rfl (by kernel_rfl) (by kernel_rfl) (by kernel_rfl) (fun _ _ _ h => h) (Or.inl ⟨by rfl, ?_⟩) (by assumption) ?_
        rotate_left
        · intro w' hSw; (try dsimp only at hSw); have m3 := hSw.1.2; clear hSw; go_simp; (try with_reducible rfl)
        (try simp only [Act.put, List.getElem_toArray, List.getElem_cons_zero, List.getElem_cons_succ, List.setIfInBounds_toArray, List.set_cons_zero, List.set_cons_succ])
        refine wpAnyF_take (i := 2) (v := ?_) (by kernel_rfl) (by kernel_rfl) rfl (by kernel_rfl) (by kernel_rfl) (by kernel_rfl) (fun _ _ _ h => h) (Or.inl ⟨by rfl, ?_⟩) (by assumption) ?_
        rotate_left
        · intro w' hSw; (try dsimp only at hSw); clear hSw; go_simp; (try with_reducible rfl)
        (try simp only [Act.put, List.getElem_toArray, List.getElem_cons_zero, List.getElem_cons_succ, List.setIfInBounds_toArray, List.set_cons_zero, List.set_cons_succ])
        refine wpAnyF_take (i := 3) (v := ?_) (by kernel_rfl) (by kernel_rfl) rfl (by kernel_rfl) (by kernel_rfl) (by kernel_rfl) (fun _ _ _ h => h) (Or.inl ⟨by rfl, ?_⟩) (by assumption) ?_
        rotate_left
        · intro w' hSw; (try dsimp only at hSw); clear hSw; go_simp; (try with_reducible rfl)
        (try simp only [Act.put, List.getElem_toArray, List.getElem_cons_zero, List.getElem_cons_succ, List.setIfInBounds_toArray, List.set_cons_zero, List.set_cons_succ])
        refine wpAnyF_take (i := 4) (v := ?_) (by kernel_rfl) (by kernel_rfl) rfl (by kernel_rfl) (by kernel_rfl) (by kernel_rfl) (fun _ _ _ h => h) (Or.inl ⟨by rfl, ?_⟩) (by assumption) ?_
        rotate_left
        · intro w' hSw; (try dsimp only at hSw); clear hSw; go_simp; (try with_reducible rfl)
        (try simp only [Act.put, List.getElem_toArray, List.getElem_cons_zero, List.getElem_cons_succ, List.setIfInBounds_toArray, List.set_cons_zero, List.set_cons_succ])
        refine wpAnyF_take (i := 5) (v := ?_) (by kernel_rfl) (by kernel_rfl) rfl (by kernel_rfl) (by kernel_rfl) (by kernel_rfl) (fun _ _ _ h => h) (Or.inl ⟨by rfl, ?_⟩) (by assumption) ?_
        rotate_left
        · intro w' hSw; (try dsimp only at hSw); have m4 := hSw.2.1; clear hSw; go_simp; (try with_reducible rfl)
        (try simp only [Act.put, List.getElem_toArray, List.getElem_cons_zero, List.getElem_cons_succ, List.setIfInBounds_toArray, List.set_cons_zero, List.set_cons_succ])
        refine wpAnyF_take (i := 6) (v := ?_) (by kernel_rfl) (by kernel_rfl) rfl (by kernel_rfl) (by kernel_rfl) (by kernel_rfl) (fun _ _ _ h => h) (Or.inl ⟨by rfl, ?_⟩) (by assumption) ?_
        rotate_left
        · intro w' hSw; (try dsimp only at hSw); clear hSw; go_simp; (try with_reducible rfl)
        (try simp only [Act.put, List.getElem_toArray, List.getElem_cons_zero, List.getElem_cons_succ, List.setIfInBounds_toArray, List.set_cons_zero, List.set_cons_succ])
        refine wpAnyF_take (i := 7) (v := ?_) (by kernel_rfl) (by kernel_rfl) rfl (by kernel_rfl) (by kernel_rfl) (by kernel_rfl) (fun _ _ _ h => h) (Or.inl ⟨by rfl, ?_⟩) (by assumption) ?_
        rotate_left
        · intro w' hSw; (try dsimp only at hSw); clear hSw; go_simp; (try with_reducible rfl)
        (try simp only [Act.put, List.getElem_toArray, List.getElem_cons_zero, List.getElem_cons_succ, List.setIfInBounds_toArray, List.set_cons_zero, List.set_cons_succ])
        refine wpAnyF_take (i := 8) (v := ?_) (by kernel_rfl) (by kernel_rfl) rfl (by kernel_rfl) (by kernel_rfl) (by kernel_rfl) (fun _ _ _ h => h) (Or.inl ⟨by rfl, ?_⟩) (by assumption) ?_
        rotate_left
        · intro w' hSw; (try dsimp only at hSw); clear hSw; go_simp; (try with_reducible rfl)
        (try simp only [Act.put, List.getElem_toArray, List.getElem_cons_zero, List.getElem_cons_succ, List.setIfInBounds_toArray, List.set_cons_zero, List.set_cons_succ])
        refine wpAnyF_take (i := 9) (v := ?_) (by kernel_rfl) (by kernel_rfl) rfl (by kernel_rfl) (by kernel_rfl) (by kernel_rfl) (fun _ _ _ h => h) (Or.inl ⟨by rfl, ?_⟩) (by assumption) ?_
        rotate_left
        · intro w' hSw; (try dsimp only at hSw); clear hSw; go_simp; (try with_reducible rfl)
        (try simp only [Act.put, List.getElem_toArray, List.getElem_cons_zero, List.getElem_cons_succ, List.setIfInBounds_toArray, List.set_cons_zero, List.set_cons_succ])
        refine wpAnyF_take (i := 10) (v := ?_) (by kernel_rfl) (by kernel_rfl) rfl (by kernel_rfl) (by kernel_rfl) (by kernel_rfl) (fun _ _ _ h => h) (Or.inl ⟨by rfl, ?_⟩) (by assumption) ?_
        rotate_left
        · intro w' hSw; (try dsimp only at hSw); have hq := hSw.2.2; clear hSw; obtain ⟨m0, m1, m2⟩ := hq; go_simp; (try with_reducible rfl)
        (try simp only [Act.put, List.getElem_toArray, List.getElem_cons_zero, List.getElem_cons_succ, List.setIfInBounds_toArray, List.set_cons_zero, List.set_cons_succ])
        refine wpAnyF_ready (rs := [11]) (by kernel_rfl) (by simp) ?_
        refine AllReadyF.cons rfl (fun KK hKK => ?_) AllReadyF.nil
        go_simp
        ((with_reducible refine (HSR.out _ (HI.out.later (below_dr _)).m.mem).mono ?_); rintro e' w6 ⟨rfl, hm6, hk6⟩; have H6 := Hi.mk ((HI.out.later (below_dr _)).wrote hk6 hm6); clear hm6 hk6)
        (try go_simp)
        refine hKK.out _ _ ⟨H6.out.cells, HXC.out H6.out.m.below, HRC.out H6.out.m.below⟩ (fun hHeld => ?_)
        clear hKK KK
        (try simp only [Act.put, List.getElem_toArray, List.getElem_cons_zero, List.getElem_cons_succ, List.setIfInBounds_toArray, List.set_cons_zero, List.set_cons_succ])
        refine wpAnyF_done (by kernel_rfl) ?_ _
        refine NoPanic.normal ?_
        go_wp2
        go_roundw
        case rel => exact ⟨j + 1, by go_num, Hi.mk ⟨hlt, _, HL2.out, H6.out⟩⟩
        case measure => simp [intOf]; omega
      · skip
        obtain ⟨wo, rfl⟩ : ∃ wo : World, wo = wr := ⟨_, rfl⟩
        have HRT := Hi.mk (fun W => routes_any e p W)
        have HEV2 := Hi.mk (show ∀ W, Calls Try.prog 15 #[e.v] W fun e' w' => e' = .returned (.int .i64 E) ∧ Below W.heap.size W w' from fun W => by have h := events_any e W; rwa [HEE.out.2.1] at h)
        have HRO := Hi.mk (show ∀ k : Nat, k < E → ∀ W, MemAt 89 W p g N bs1 → Calls Try.prog 18 #[e.v, .pointer (some ⟨p, 0, none⟩), .int .i64 k] W fun e' w' => e' = .returned (.tuple #[(routR bs1 e k).v, .int .i64 0]) ∧ Below W.heap.size W w' from fun k hk W hM => by have h := route_any p g N bs1 e HEE.out.1 k W hM; rwa [HL1.out, HEE.out.2.2.1 k hk] at h)
        obtain ⟨⟨c0, c1, c2⟩, c3⟩ := HI.out.cells
        have l0 := HI.out.d.lt
        have l1 := HI.out.r.lt
        have l3 := HI.out.x.lt
        have z1 := And.intro HI.out.gm HI.out.pm
        have q1 := (CB.new wo 3 #[.int .i64 0]).frozen
        have q2 := (cb_second (w := wo) (o := .cells #[.int .i64 (-1)] 3) (cs := #[.int .i64 0]) (t := 3)).frozen
        go_wp2_with (go_at_call 17; ((with_reducible refine (HRT.out _).mono ?_); rintro e' w7 ⟨rfl, rfl⟩))
        generalize IntKind.i64.wrap (8 * (E : Int)) = t53
        obtain ⟨V0, hV0⟩ : ∃ V0, ((((wo.alloc (.cells #[.int .i64 (-1)] 3)).alloc (.cells #[.int .i64 0] 3)).alloc (.cells (Dv.cs e) 36)).alloc (.cells #[.pointer (some ⟨p, 0, none⟩)] 25)) = V0 := ⟨_, rfl⟩
        have hz0 : V0.heap.size = wo.heap.size + 4 := by rw [← hV0]; simp
        have H6 := Hi.mk (show RoN w p g N w2.heap.size wo.heap.size e bs1 (-1) 0 V0 by rw [← hV0]; exact ⟨(((HI.out.later (bal _ _)).later (bal _ _)).later (bal _ _)).later (bal _ _), (((CB.new wo 3 _).alloc _).alloc _).alloc _, (cb_second.alloc _).alloc _, l3⟩)
        have hst := routes_stops (wo.heap.size + 2) p g N bs1 e HEE.out.1 E (by omega) (by rw [HL1.out]; exact HEE.out.2.2.1) (by rw [HL1.out]; exact HEE.out.2.2.2) V0 (by omega)
          ⟨by rw [← hV0]; have := (CB.new ((wo.alloc (.cells #[.int .i64 (-1)] 3)).alloc (.cells #[.int .i64 0] 3)) 36 (Dv.cs e)).alloc (.cells #[.pointer (some ⟨p, 0, none⟩)] 25); simp only [World.size_alloc] at this; exact this, by rw [← hV0]; have := CB.new (((wo.alloc (.cells #[.int .i64 (-1)] 3)).alloc (.cells #[.int .i64 0] 3)).alloc (.cells (Dv.cs e) 36)) 25 #[.pointer (some ⟨p, 0, none⟩)]; simp only [World.size_alloc] at this; exact this, H6.out.i.m.mem⟩
        have HV0 := Hi.mk hV0
        clear hV0 c0 c1 c2 c3 q1 q2
        change Code.wp _ _ _ _ ((((wo.alloc (.cells #[.int .i64 (-1)] 3)).alloc (.cells #[.int .i64 0] 3)).alloc (.cells (Dv.cs e) 36)).alloc (.cells #[.pointer (some ⟨p, 0, none⟩)] 25))
        rw [HV0.out]
        refine (wpIn_wide (n := 6)).1 ?_
        refine range_win (n := 6) (by omega) (gf := 40) (lb := #[.pointer (some ⟨wo.heap.size + 1 + 1, 0, none⟩), .pointer (some ⟨wo.heap.size + 1 + 1 + 1, 0, none⟩)]) rfl (enters_of Try.func40 (by kernel_rfl) rfl)
          hst (fun a b => KpT.trans a b) (fun W l o o' h1 h2 h3 h4 => ⟨by simp, fun i hi => World.putObj_heap_other (by omega)⟩) (Below.refl _ _) (fun _ => rfl)
          (fun pre V => RoN w p g N w2.heap.size wo.heap.size e bs1 (lastI pre) pre.length V)
          (fun cd pre V => False)
          (ron_abl (by omega))
          (fun cd => fun s A A' row hs hg hr => hs)
          H6.out
          (fun x' a' V => ∃ rb, V0.heap.size + 2 ≤ rb ∧ CB V rb 52 #[.int .i64 x'.2.num, .int .i64 x'.2.coll, .bool x'.2.ok] ∧ a' = { tmps := #[.int .i64 size, d.v, .slice a0 xs.length k0, .slice a1 rs.length k1, undef, .pointer (some ⟨w.heap.size, 0, none⟩), undef, undef, .pointer (some ⟨w.heap.size + 1, 0, none⟩), .bool true, .pointer (some ⟨w2.heap.size, 0, none⟩), .pointer (some ⟨q, 0, none⟩), .int .i64 j, .pointer (some ⟨wo.heap.size, 0, none⟩), .pointer (some ⟨wo.heap.size + 1, 0, none⟩), .int .i64 (x'.1 : Int), .pointer (some ⟨rb, 0, none⟩), undef, undef, undef, undef, undef, .bool true, .bool true, .bool false, .tuple #[.pointer (some ⟨p, 0, none⟩), .pointer (some ⟨q, 0, none⟩)], .int .i64 size, .tuple #[.pointer (some ⟨p, 0, none⟩), .pointer (some ⟨q, 0, none⟩)], .pointer (some ⟨p, 0, none⟩), .pointer (some ⟨q, 0, none⟩), .bool true, .bool false, .bool false, .pointer (some ⟨p, 0, none⟩), .bool false, .bool false, .bool false, .pointer (some ⟨w.heap.size, 1, none⟩), .int .i64 d.bits, .bool false, .bool false, .bool false, .pointer (some ⟨w.heap.size, 2, none⟩), .int .i64 d.at_, .bool false, .bool false, .bool false, .pointer (some ⟨w.heap.size, 2, none⟩), .int .i64 d.at_, .pointer (some ⟨p, 0, none⟩), .int .i64 N, .agg #[.bool d.ok, .int .i64 d.bits, .int .i64 d.at_], .int .i64 E, .int .i64 t53, .int .i64 ((N : Int) - 8 * E), .bool (decide ((N : Int) - 8 * E < d.at_)), .bool (decide ((N : Int) - 8 * E < d.at_)), undef, undef, undef, undef, undef, .pointer (some ⟨w.heap.size, 0, none⟩), .int .i64 j, .slice a0 xs.length k0, .int .i64 xs.length, .bool true, .bool true, .int .i64 j, .slice a1 rs.length k1, .int .i64 rs.length, .bool false, .bool false, u73, u74, u75, u76, u77, u78, u79, u80, u81, u82, u83, u84, u85, u86, .agg #[.bool e.ok, .int .i64 e.bits, .int .i64 e.at_], .pointer (some ⟨p, 0, none⟩), .func (.func 40) #[] #[.pointer (some ⟨wo.heap.size + 1 + 1, 0, none⟩), .pointer (some ⟨wo.heap.size + 1 + 1 + 1, 0, none⟩)], .int .i64 (x'.1 : Int), .agg #[.int .i64 x'.2.num, .int .i64 x'.2.coll, .bool x'.2.ok], undef, undef, undef, undef, undef, undef, undef, undef, undef, undef, undef, undef, undef, undef, undef, undef, undef, undef, undef, undef, undef, undef, undef, undef, undef, undef, undef, undef, undef, undef, undef, undef, undef, undef, undef, undef, undef, undef, undef, undef, undef, undef, undef, undef, undef, undef, undef, undef], defers := [] })
          (fun x' a' s A A' row hs hg hr => by
            obtain ⟨rb, hrb, hc, hd⟩ := hs
            exact ⟨rb, hrb, hc.kept hg (fun e => by rcases hr rb e.symm with ⟨h1, h2, _⟩ | ⟨h1, h2⟩ <;> omega), hd⟩)
          ?assign ?body ?done ?stop
        case assign =>
          rintro l' pre ⟨k, rn, rc, ro⟩ V K h hsz hK
          rw [zip_two]
          have qf := (CB.new V 52 #[.int .i64 0, .int .i64 0, .bool false]).frozen
          have HH := Hi.mk h
          clear h
          gi_wp2
          exact hK _ _ (KW.of_below (bal V _)) (KpT.of_below (bal V _) (by omega) (by omega) (by omega)) (HH.out.later (bal V _)) ⟨V.heap.size, by omega, CB.new V _ _, rfl⟩
        case body =>
          rintro l' pre ⟨k, rn, rc, ro⟩ a' V hsz hW ⟨rb, hrb, hcr, rfl⟩ hpx
          obtain ⟨hls, hkE, hre, hro⟩ := rts_next hpx
          have hpl : pre.length + 1 ≤ E := by have h := hpx.length_le; have := rts_len bs1 e E; simp at h; omega
          have hla := lastI_app pre (k, ⟨rn, rc, ro⟩)
          have hll : ((pre ++ [(k, (⟨rn, rc, ro⟩ : Rt))]).length : Int) = (pre.length : Int) + 1 := by simp
          dsimp only at hls hkE hre hro hla hcr
          subst hro
          have HR1 := Hi.mk (HRO.out k hkE)
          rw [← hre] at HR1
          have HWI := Hi.mk hW
          have HEQ := Hi.mk (And.intro hla hll)
          obtain ⟨ls, hlse⟩ : ∃ z, lastI pre = z := ⟨_, rfl⟩
          obtain ⟨n, hn⟩ : ∃ n, pre.length = n := ⟨_, rfl⟩
          rw [hlse, hn] at HWI
          rw [hlse] at hls
          rw [hn] at hpl HEQ
          have hls' : ¬ ((k : Int) ≤ ls) := by omega
          have qz : eqRt ⟨rn, rc, true⟩ ⟨rn, rc, true⟩ = true := by rw [eqRt_iff]; simp
          have HCR := Hi.mk hcr
          clear hW hpx hla hll hlse hn hre hls hcr
          obtain ⟨⟨c0, c1, c2⟩, c3⟩ := HWI.out.i.cells
          gi_wp2_with (refine ⟨trivial, ?_⟩; gi_at_call 18; ((with_reducible refine (CallsIn.inRound l' (callsIn_wide.2 (HR1.out _ HWI.out.i.m.mem))).mono ?_); rintro e' V1 ⟨rfl, hb⟩; have qf := (CB.new V1 52 #[.int .i64 0, .int .i64 0, .bool false]).frozen; have hB := hb.alloc hb.size (.cells #[.int .i64 rn, .int .i64 rc, .bool true] 52); have HW2 := Hi.mk (HWI.out.later hB); have HBB := Hi.mk hB; have HC2 := Hi.mk (And.intro (HCR.out.below hB) (CB.new V1 52 #[.int .i64 rn, .int .i64 rc, .bool true])); clear hb hB c0 c1 c2 c3; have x0 := HW2.out.l.cell 0; have x1 := HW2.out.n.cell 0; have x2 := HW2.out.l.frozen; have x3 := HW2.out.n.frozen; have x4 := HW2.out.l.lt; have x5 := HW2.out.n.lt; obtain ⟨r0, r1, r2⟩ := CB.three HC2.out.1; obtain ⟨s0, s1, s2⟩ := CB.three HC2.out.2))
          refine ⟨(KW.of_below HBB.out).trans ((KW.set _ _ _).trans (KW.set _ _ _)), (KpT.of_below HBB.out (by omega) (by omega) (by omega)).trans (KpT.trans ⟨by simp, fun i hi => Below.heap_setCell _ ⟨wo.heap.size, 0, none⟩ _ i (show i ≠ wo.heap.size by omega)⟩ ⟨by simp, fun i hi => Below.heap_setCell _ ⟨wo.heap.size + 1, 0, none⟩ _ i (show i ≠ wo.heap.size + 1 by omega)⟩), ?_⟩
          show RoN w p g N w2.heap.size wo.heap.size e bs1 (lastI (pre ++ [(k, ⟨rn, rc, true⟩)])) ((pre ++ [(k, (⟨rn, rc, true⟩ : Rt))]).length : Int) _
          rw [HEQ.out.1, HEQ.out.2]
          exact (HW2.out.setL _).setN _
        case done =>
          rintro ys V rfl hW hK hs2
          have HW := Hi.mk hW
          have HK := Hi.mk hK
          clear hW hK
          rw [hz0] at HK hs2
          rw [hz0]
          go_wp2
          go_loopw [19] (fun i wr => ∃ k : Nat, i = .int .i64 k ∧ Hi (k ≤ E ∧ wr.heap[(wo.heap.size + 4)]? = some (.deferred (some [])) ∧ (wo.heap.size + 4) + 2 ≤ wr.heap.size ∧ RoN w p g N w2.heap.size wo.heap.size e bs1 (lastI (rtsL bs1 e E)) (((rtsL bs1 e E).length : Int) - (rtsL bs1 e k).length) wr)) (fun i _ => E - (intOf i).toNat)
          case atStart => exact ⟨0, rfl, Hi.mk ⟨Nat.zero_le _, HK.out, hs2, by simpa [rtsL] using HW.out⟩⟩
          case round =>
            obtain ⟨k, rfl, HP⟩ := hrel
            have hkE := HP.out.1
            have hzs := HP.out.2.2.1
            have hlk := rts_len bs1 e k
            have hlE := rts_len bs1 e E
            obtain ⟨z, hz⟩ : ∃ z : Int, ((rtsL bs1 e E).length : Int) - (rtsL bs1 e k).length = z := ⟨_, rfl⟩
            have z2 : -100 ≤ z := by omega
            have z3 : z ≤ 100 := by omega
            have HN := Hi.mk (show RoN w p g N w2.heap.size wo.heap.size e bs1 (lastI (rtsL bs1 e E)) z wr from hz ▸ HP.out.2.2.2)
            have HZ := Hi.mk hz
            have HKK := Hi.mk HP.out.2.1
            clear hz hlk hlE HP
            obtain ⟨⟨c0, c1, c2⟩, c3⟩ := HN.out.i.cells
            by_cases hlt : k < E
            · have x1 : (k : Int) < (E : Int) := by omega
              have HR1 := Hi.mk (HRO.out k hlt)
              have HLN := Hi.mk (And.intro (show (routR bs1 e k).ok = true → ((rtsL bs1 e (k + 1)).length : Int) = (rtsL bs1 e k).length + 1 from fun h => by rw [rts_yes h]; simp) (show ¬ (routR bs1 e k).ok = true → ((rtsL bs1 e (k + 1)).length : Int) = (rtsL bs1 e k).length from fun h => by rw [rts_no h]))
              obtain ⟨r, hr⟩ : ∃ r, routR bs1 e k = r := ⟨_, rfl⟩
              rw [hr] at HR1 HLN
              clear hr
              obtain ⟨rn, rc, ro⟩ := r
              dsimp only at HR1 HLN
              cases ro
              · go_wp2_with (first
                  | (go_at_call 15; ((with_reducible refine (HEV2.out _).mono ?_); rintro e' v1 ⟨rfl, hb1⟩; have H1 := Hi.mk (HN.out.later hb1); have HK1 := Hi.mk ((hb1.block (wo.heap.size + 4) (by omega)).trans HKK.out); have hv1 := hb1.size; clear hb1 c0 c1 c2 c3; obtain ⟨⟨c0, c1, c2⟩, c3⟩ := H1.out.i.cells))
                  | (go_at_call 18; ((with_reducible refine (HR1.out _ H1.out.i.m.mem).mono ?_); rintro e' v2 ⟨rfl, hb2⟩; have qf := (CB.new v2 52 #[.int .i64 0, .int .i64 0, .bool false]).frozen; have hB := hb2.alloc hb2.size (.cells #[.int .i64 rn, .int .i64 rc, .bool false] 52); have H2 := Hi.mk (And.intro (H1.out.later hB) (And.intro (CB.new v2 52 #[.int .i64 rn, .int .i64 rc, .bool false]) (show wr.heap.size ≤ (v2.alloc (.cells #[.int .i64 rn, .int .i64 rc, .bool false] 52)).heap.size from Nat.le_trans hv1 hB.size))); have HK2 := Hi.mk ((hB.block (wo.heap.size + 4) (by omega)).trans HK1.out); clear hb2 hB c0 c1 c2 c3; obtain ⟨s0, s1, s2⟩ := CB.three H2.out.2.1; have n0 := H2.out.1.n.cell 0; have n1 := H2.out.1.n.frozen; have n2 := H2.out.1.n.lt)))
                go_roundw
                case rel => exact ⟨k + 1, by go_num, Hi.mk ⟨hlt, HK2.out, by have := H2.out.2.2; omega, by rw [HLN.out.2 (by simp), HZ.out]; exact H2.out.1⟩⟩
                case measure => simp [intOf]; omega
              · go_wp2_with (first
                  | (go_at_call 15; ((with_reducible refine (HEV2.out _).mono ?_); rintro e' v1 ⟨rfl, hb1⟩; have H1 := Hi.mk (HN.out.later hb1); have HK1 := Hi.mk ((hb1.block (wo.heap.size + 4) (by omega)).trans HKK.out); have hv1 := hb1.size; clear hb1 c0 c1 c2 c3; obtain ⟨⟨c0, c1, c2⟩, c3⟩ := H1.out.i.cells))
                  | (go_at_call 18; ((with_reducible refine (HR1.out _ H1.out.i.m.mem).mono ?_); rintro e' v2 ⟨rfl, hb2⟩; have qf := (CB.new v2 52 #[.int .i64 0, .int .i64 0, .bool false]).frozen; have hB := hb2.alloc hb2.size (.cells #[.int .i64 rn, .int .i64 rc, .bool true] 52); have H2 := Hi.mk (And.intro (H1.out.later hB) (And.intro (CB.new v2 52 #[.int .i64 rn, .int .i64 rc, .bool true]) (show wr.heap.size ≤ (v2.alloc (.cells #[.int .i64 rn, .int .i64 rc, .bool true] 52)).heap.size from Nat.le_trans hv1 hB.size))); have HK2 := Hi.mk ((hB.block (wo.heap.size + 4) (by omega)).trans HK1.out); clear hb2 hB c0 c1 c2 c3; obtain ⟨s0, s1, s2⟩ := CB.three H2.out.2.1; have n0 := H2.out.1.n.cell 0; have n1 := H2.out.1.n.frozen; have n2 := H2.out.1.n.lt)))
                go_roundw
                case rel => exact ⟨k + 1, by go_num, Hi.mk ⟨hlt, (Below.heap_setCell _ ⟨wo.heap.size + 1, 0, none⟩ _ (wo.heap.size + 4) (show (wo.heap.size + 4) ≠ wo.heap.size + 1 by omega)).trans HK2.out, by have h2 := H2.out.2.2; simp at h2 ⊢; omega, by rw [HLN.out.1 (by simp), show ((rtsL bs1 e E).length : Int) - ((rtsL bs1 e k).length + 1) = z - 1 by have := HZ.out; omega]; exact H2.out.1.setN _⟩⟩
                case measure => simp [intOf]; omega
            · obtain rfl : k = E := by omega
              obtain rfl : z = 0 := by have := HZ.out; omega
              clear HZ
              have x1 : ¬ (k : Int) < (k : Int) := by omega
              go_wp2_with (go_at_call 15; ((with_reducible refine (HEV2.out _).mono ?_); rintro e' v1 ⟨rfl, hb1⟩; have H1 := Hi.mk (HN.out.later hb1); have HK1 := Hi.mk ((hb1.block (wo.heap.size + 4) (by omega)).trans HKK.out); have hv1 := hb1.size; clear hb1 c0 c1 c2 c3; obtain ⟨⟨c0, c1, c2⟩, c3⟩ := H1.out.i.cells; have n0 := H1.out.n.cell 0; have r0 := H1.out.i.r.cell 0; have r1 := H1.out.i.r.frozen; have r2 := H1.out.i.r.lt))
              have hc9 : CB (v1.setCell ⟨w.heap.size + 1, 0, none⟩ (.bool true)) (w.heap.size + 1) 4 #[.bool true] := by have := H1.out.i.r.set 0 (.bool true); simpa using this
              have hb9 : Below w.heap.size w (v1.setCell ⟨w.heap.size + 1, 0, none⟩ (.bool true)) := below_set H1.out.i.m.below (by show w.heap.size ≤ w.heap.size + 1; omega) _
              have hkk : (v1.setCell ⟨w.heap.size + 1, 0, none⟩ (.bool true)).heap[(wo.heap.size + 4)]? = some (.deferred (some [])) := (Below.heap_setCell v1 ⟨w.heap.size + 1, 0, none⟩ (.bool true) (wo.heap.size + 4) (by show (wo.heap.size + 4) ≠ w.heap.size + 1; omega)).trans HK1.out
              refine ⟨by simp, .inl ⟨_, _, rfl, run_takeDeferred hkk, ?_⟩⟩
              exact ⟨_, results_b rfl _ _ (w.heap.size + 1) (.bool true) rfl ((World.putObj_heap_other (by omega)).trans hc9), rfl, below_put hb9 _ (by have := H1.out.i.m.below.size; simpa using this) (by omega)⟩
        case stop =>
          rintro cd pre V hpre hf
          exact hf.elim
    · skip
      obtain ⟨wo, rfl⟩ : ∃ wo : World, wo = wr := ⟨_, rfl⟩
      have HRT := Hi.mk (fun W => routes_any e p W)
      have HEV2 := Hi.mk (show ∀ W, Calls Try.prog 15 #[e.v] W fun e' w' => e' = .returned (.int .i64 E) ∧ Below W.heap.size W w' from fun W => by have h := events_any e W; rwa [HEE.out.2.1] at h)
      have HRO := Hi.mk (show ∀ k : Nat, k < E → ∀ W, MemAt 89 W p g N bs1 → Calls Try.prog 18 #[e.v, .pointer (some ⟨p, 0, none⟩), .int .i64 k] W fun e' w' => e' = .returned (.tuple #[(routR bs1 e k).v, .int .i64 0]) ∧ Below W.heap.size W w' from fun k hk W hM => by have h := route_any p g N bs1 e HEE.out.1 k W hM; rwa [HL1.out, HEE.out.2.2.1 k hk] at h)
      obtain ⟨⟨c0, c1, c2⟩, c3⟩ := HI.out.cells
      have l0 := HI.out.d.lt
      have l1 := HI.out.r.lt
      have l3 := HI.out.x.lt
      have z1 := And.intro HI.out.gm HI.out.pm
      have q1 := (CB.new wo 3 #[.int .i64 0]).frozen
      have q2 := (cb_second (w := wo) (o := .cells #[.int .i64 (-1)] 3) (cs := #[.int .i64 0]) (t := 3)).frozen
      go_wp2_with (go_at_call 17; ((with_reducible refine (HRT.out _).mono ?_); rintro e' w7 ⟨rfl, rfl⟩))
      generalize IntKind.i64.wrap (8 * (E : Int)) = t53
      obtain ⟨V0, hV0⟩ : ∃ V0, ((((wo.alloc (.cells #[.int .i64 (-1)] 3)).alloc (.cells #[.int .i64 0] 3)).alloc (.cells (Dv.cs e) 36)).alloc (.cells #[.pointer (some ⟨p, 0, none⟩)] 25)) = V0 := ⟨_, rfl⟩
      have hz0 : V0.heap.size = wo.heap.size + 4 := by rw [← hV0]; simp
      have H6 := Hi.mk (show RoN w p g N w2.heap.size wo.heap.size e bs1 (-1) 0 V0 by rw [← hV0]; exact ⟨(((HI.out.later (bal _ _)).later (bal _ _)).later (bal _ _)).later (bal _ _), (((CB.new wo 3 _).alloc _).alloc _).alloc _, (cb_second.alloc _).alloc _, l3⟩)
      have hst := routes_stops (wo.heap.size + 2) p g N bs1 e HEE.out.1 E (by omega) (by rw [HL1.out]; exact HEE.out.2.2.1) (by rw [HL1.out]; exact HEE.out.2.2.2) V0 (by omega)
        ⟨by rw [← hV0]; have := (CB.new ((wo.alloc (.cells #[.int .i64 (-1)] 3)).alloc (.cells #[.int .i64 0] 3)) 36 (Dv.cs e)).alloc (.cells #[.pointer (some ⟨p, 0, none⟩)] 25); simp only [World.size_alloc] at this; exact this, by rw [← hV0]; have := CB.new (((wo.alloc (.cells #[.int .i64 (-1)] 3)).alloc (.cells #[.int .i64 0] 3)).alloc (.cells (Dv.cs e) 36)) 25 #[.pointer (some ⟨p, 0, none⟩)]; simp only [World.size_alloc] at this; exact this, H6.out.i.m.mem⟩
      have HV0 := Hi.mk hV0
      clear hV0 c0 c1 c2 c3 q1 q2
      change Code.wp _ _ _ _ ((((wo.alloc (.cells #[.int .i64 (-1)] 3)).alloc (.cells #[.int .i64 0] 3)).alloc (.cells (Dv.cs e) 36)).alloc (.cells #[.pointer (some ⟨p, 0, none⟩)] 25))
      rw [HV0.out]
      refine (wpIn_wide (n := 6)).1 ?_
      refine range_win (n := 6) (by omega) (gf := 40) (lb := #[.pointer (some ⟨wo.heap.size + 1 + 1, 0, none⟩), .pointer (some ⟨wo.heap.size + 1 + 1 + 1, 0, none⟩)]) rfl (enters_of Try.func40 (by kernel_rfl) rfl)
        hst (fun a b => KpT.trans a b) (fun W l o o' h1 h2 h3 h4 => ⟨by simp, fun i hi => World.putObj_heap_other (by omega)⟩) (Below.refl _ _) (fun _ => rfl)
        (fun pre V => RoN w p g N w2.heap.size wo.heap.size e bs1 (lastI pre) pre.length V)
        (fun cd pre V => False)
        (ron_abl (by omega))
        (fun cd => fun s A A' row hs hg hr => hs)
        H6.out
        (fun x' a' V => ∃ rb, V0.heap.size + 2 ≤ rb ∧ CB V rb 52 #[.int .i64 x'.2.num, .int .i64 x'.2.coll, .bool x'.2.ok] ∧ a' = { tmps := #[.int .i64 size, d.v, .slice a0 xs.length k0, .slice a1 rs.length k1, undef, .pointer (some ⟨w.heap.size, 0, none⟩), undef, undef, .pointer (some ⟨w.heap.size + 1, 0, none⟩), .bool true, .pointer (some ⟨w2.heap.size, 0, none⟩), .pointer (some ⟨q, 0, none⟩), .int .i64 j, .pointer (some ⟨wo.heap.size, 0, none⟩), .pointer (some ⟨wo.heap.size + 1, 0, none⟩), .int .i64 (x'.1 : Int), .pointer (some ⟨rb, 0, none⟩), undef, undef, undef, undef, undef, .bool true, .bool true, .bool false, .tuple #[.pointer (some ⟨p, 0, none⟩), .pointer (some ⟨q, 0, none⟩)], .int .i64 size, .tuple #[.pointer (some ⟨p, 0, none⟩), .pointer (some ⟨q, 0, none⟩)], .pointer (some ⟨p, 0, none⟩), .pointer (some ⟨q, 0, none⟩), .bool true, .bool false, .bool false, .pointer (some ⟨p, 0, none⟩), .bool false, .bool false, .bool false, .pointer (some ⟨w.heap.size, 1, none⟩), .int .i64 d.bits, .bool false, .bool false, .bool false, .pointer (some ⟨w.heap.size, 2, none⟩), .int .i64 d.at_, .bool false, .bool false, .bool false, .pointer (some ⟨w.heap.size, 2, none⟩), .int .i64 d.at_, .pointer (some ⟨p, 0, none⟩), .int .i64 N, .agg #[.bool d.ok, .int .i64 d.bits, .int .i64 d.at_], .int .i64 E, .int .i64 t53, .int .i64 ((N : Int) - 8 * E), .bool (decide ((N : Int) - 8 * E < d.at_)), .bool (decide ((N : Int) - 8 * E < d.at_)), undef, undef, undef, undef, undef, .pointer (some ⟨w.heap.size, 0, none⟩), .int .i64 j, .slice a0 xs.length k0, .int .i64 xs.length, .bool false, .bool false, undef, undef, undef, undef, .bool false, u73, u74, u75, u76, u77, u78, u79, u80, u81, u82, u83, u84, u85, u86, .agg #[.bool e.ok, .int .i64 e.bits, .int .i64 e.at_], .pointer (some ⟨p, 0, none⟩), .func (.func 40) #[] #[.pointer (some ⟨wo.heap.size + 1 + 1, 0, none⟩), .pointer (some ⟨wo.heap.size + 1 + 1 + 1, 0, none⟩)], .int .i64 (x'.1 : Int), .agg #[.int .i64 x'.2.num, .int .i64 x'.2.coll, .bool x'.2.ok], undef, undef, undef, undef, undef, undef, undef, undef, undef, undef, undef, undef, undef, undef, undef, undef, undef, undef, undef, undef, undef, undef, undef, undef, undef, undef, undef, undef, undef, undef, undef, undef, undef, undef, undef, undef, undef, undef, undef, undef, undef, undef, undef, undef, undef, undef, undef, undef], defers := [] })
        (fun x' a' s A A' row hs hg hr => by
          obtain ⟨rb, hrb, hc, hd⟩ := hs
          exact ⟨rb, hrb, hc.kept hg (fun e => by rcases hr rb e.symm with ⟨h1, h2, _⟩ | ⟨h1, h2⟩ <;> omega), hd⟩)
        ?assign ?body ?done ?stop
      case assign =>
        rintro l' pre ⟨k, rn, rc, ro⟩ V K h hsz hK
        rw [zip_two]
        have qf := (CB.new V 52 #[.int .i64 0, .int .i64 0, .bool false]).frozen
        have HH := Hi.mk h
        clear h
        gi_wp2
        exact hK _ _ (KW.of_below (bal V _)) (KpT.of_below (bal V _) (by omega) (by omega) (by omega)) (HH.out.later (bal V _)) ⟨V.heap.size, by omega, CB.new V _ _, rfl⟩
      case body =>
        rintro l' pre ⟨k, rn, rc, ro⟩ a' V hsz hW ⟨rb, hrb, hcr, rfl⟩ hpx
        obtain ⟨hls, hkE, hre, hro⟩ := rts_next hpx
        have hpl : pre.length + 1 ≤ E := by have h := hpx.length_le; have := rts_len bs1 e E; simp at h; omega
        have hla := lastI_app pre (k, ⟨rn, rc, ro⟩)
        have hll : ((pre ++ [(k, (⟨rn, rc, ro⟩ : Rt))]).length : Int) = (pre.length : Int) + 1 := by simp
        dsimp only at hls hkE hre hro hla hcr
        subst hro
        have HR1 := Hi.mk (HRO.out k hkE)
        rw [← hre] at HR1
        have HWI := Hi.mk hW
        have HEQ := Hi.mk (And.intro hla hll)
        obtain ⟨ls, hlse⟩ : ∃ z, lastI pre = z := ⟨_, rfl⟩
        obtain ⟨n, hn⟩ : ∃ n, pre.length = n := ⟨_, rfl⟩
        rw [hlse, hn] at HWI
        rw [hlse] at hls
        rw [hn] at hpl HEQ
        have hls' : ¬ ((k : Int) ≤ ls) := by omega
        have qz : eqRt ⟨rn, rc, true⟩ ⟨rn, rc, true⟩ = true := by rw [eqRt_iff]; simp
        have HCR := Hi.mk hcr
        clear hW hpx hla hll hlse hn hre hls hcr
        obtain ⟨⟨c0, c1, c2⟩, c3⟩ := HWI.out.i.cells
        gi_wp2_with (refine ⟨trivial, ?_⟩; gi_at_call 18; ((with_reducible refine (CallsIn.inRound l' (callsIn_wide.2 (HR1.out _ HWI.out.i.m.mem))).mono ?_); rintro e' V1 ⟨rfl, hb⟩; have qf := (CB.new V1 52 #[.int .i64 0, .int .i64 0, .bool false]).frozen; have hB := hb.alloc hb.size (.cells #[.int .i64 rn, .int .i64 rc, .bool true] 52); have HW2 := Hi.mk (HWI.out.later hB); have HBB := Hi.mk hB; have HC2 := Hi.mk (And.intro (HCR.out.below hB) (CB.new V1 52 #[.int .i64 rn, .int .i64 rc, .bool true])); clear hb hB c0 c1 c2 c3; have x0 := HW2.out.l.cell 0; have x1 := HW2.out.n.cell 0; have x2 := HW2.out.l.frozen; have x3 := HW2.out.n.frozen; have x4 := HW2.out.l.lt; have x5 := HW2.out.n.lt; obtain ⟨r0, r1, r2⟩ := CB.three HC2.out.1; obtain ⟨s0, s1, s2⟩ := CB.three HC2.out.2))
        refine ⟨(KW.of_below HBB.out).trans ((KW.set _ _ _).trans (KW.set _ _ _)), (KpT.of_below HBB.out (by omega) (by omega) (by omega)).trans (KpT.trans ⟨by simp, fun i hi => Below.heap_setCell _ ⟨wo.heap.size, 0, none⟩ _ i (show i ≠ wo.heap.size by omega)⟩ ⟨by simp, fun i hi => Below.heap_setCell _ ⟨wo.heap.size + 1, 0, none⟩ _ i (show i ≠ wo.heap.size + 1 by omega)⟩), ?_⟩
        show RoN w p g N w2.heap.size wo.heap.size e bs1 (lastI (pre ++ [(k, ⟨rn, rc, true⟩)])) ((pre ++ [(k, (⟨rn, rc, true⟩ : Rt))]).length : Int) _
        rw [HEQ.out.1, HEQ.out.2]
        exact (HW2.out.setL _).setN _
      case done =>
        rintro ys V rfl hW hK hs2
        have HW := Hi.mk hW
        have HK := Hi.mk hK
        clear hW hK
        rw [hz0] at HK hs2
        rw [hz0]
        go_wp2
        go_loopw [19] (fun i wr => ∃ k : Nat, i = .int .i64 k ∧ Hi (k ≤ E ∧ wr.heap[(wo.heap.size + 4)]? = some (.deferred (some [])) ∧ (wo.heap.size + 4) + 2 ≤ wr.heap.size ∧ RoN w p g N w2.heap.size wo.heap.size e bs1 (lastI (rtsL bs1 e E)) (((rtsL bs1 e E).length : Int) - (rtsL bs1 e k).length) wr)) (fun i _ => E - (intOf i).toNat)
        case atStart => exact ⟨0, rfl, Hi.mk ⟨Nat.zero_le _, HK.out, hs2, by simpa [rtsL] using HW.out⟩⟩
        case round =>
          obtain ⟨k, rfl, HP⟩ := hrel
          have hkE := HP.out.1
          have hzs := HP.out.2.2.1
          have hlk := rts_len bs1 e k
          have hlE := rts_len bs1 e E
          obtain ⟨z, hz⟩ : ∃ z : Int, ((rtsL bs1 e E).length : Int) - (rtsL bs1 e k).length = z := ⟨_, rfl⟩
          have z2 : -100 ≤ z := by omega
          have z3 : z ≤ 100 := by omega
          have HN := Hi.mk (show RoN w p g N w2.heap.size wo.heap.size e bs1 (lastI (rtsL bs1 e E)) z wr from hz ▸ HP.out.2.2.2)
          have HZ := Hi.mk hz
          have HKK := Hi.mk HP.out.2.1
          clear hz hlk hlE HP
          obtain ⟨⟨c0, c1, c2⟩, c3⟩ := HN.out.i.cells
          by_cases hlt : k < E
          · have x1 : (k : Int) < (E : Int) := by omega
            have HR1 := Hi.mk (HRO.out k hlt)
            have HLN := Hi.mk (And.intro (show (routR bs1 e k).ok = true → ((rtsL bs1 e (k + 1)).length : Int) = (rtsL bs1 e k).length + 1 from fun h => by rw [rts_yes h]; simp) (show ¬ (routR bs1 e k).ok = true → ((rtsL bs1 e (k + 1)).length : Int) = (rtsL bs1 e k).length from fun h => by rw [rts_no h]))
            obtain ⟨r, hr⟩ : ∃ r, routR bs1 e k = r := ⟨_, rfl⟩
            rw [hr] at HR1 HLN
            clear hr
            obtain ⟨rn, rc, ro⟩ := r
            dsimp only at HR1 HLN
            cases ro
            · go_wp2_with (first
                | (go_at_call 15; ((with_reducible refine (HEV2.out _).mono ?_); rintro e' v1 ⟨rfl, hb1⟩; have H1 := Hi.mk (HN.out.later hb1); have HK1 := Hi.mk ((hb1.block (wo.heap.size + 4) (by omega)).trans HKK.out); have hv1 := hb1.size; clear hb1 c0 c1 c2 c3; obtain ⟨⟨c0, c1, c2⟩, c3⟩ := H1.out.i.cells))
                | (go_at_call 18; ((with_reducible refine (HR1.out _ H1.out.i.m.mem).mono ?_); rintro e' v2 ⟨rfl, hb2⟩; have qf := (CB.new v2 52 #[.int .i64 0, .int .i64 0, .bool false]).frozen; have hB := hb2.alloc hb2.size (.cells #[.int .i64 rn, .int .i64 rc, .bool false] 52); have H2 := Hi.mk (And.intro (H1.out.later hB) (And.intro (CB.new v2 52 #[.int .i64 rn, .int .i64 rc, .bool false]) (show wr.heap.size ≤ (v2.alloc (.cells #[.int .i64 rn, .int .i64 rc, .bool false] 52)).heap.size from Nat.le_trans hv1 hB.size))); have HK2 := Hi.mk ((hB.block (wo.heap.size + 4) (by omega)).trans HK1.out); clear hb2 hB c0 c1 c2 c3; obtain ⟨s0, s1, s2⟩ := CB.three H2.out.2.1; have n0 := H2.out.1.n.cell 0; have n1 := H2.out.1.n.frozen; have n2 := H2.out.1.n.lt)))
              go_roundw
              case rel => exact ⟨k + 1, by go_num, Hi.mk ⟨hlt, HK2.out, by have := H2.out.2.2; omega, by rw [HLN.out.2 (by simp), HZ.out]; exact H2.out.1⟩⟩
              case measure => simp [intOf]; omega
            · go_wp2_with (first
                | (go_at_call 15; ((with_reducible refine (HEV2.out _).mono ?_); rintro e' v1 ⟨rfl, hb1⟩; have H1 := Hi.mk (HN.out.later hb1); have HK1 := Hi.mk ((hb1.block (wo.heap.size + 4) (by omega)).trans HKK.out); have hv1 := hb1.size; clear hb1 c0 c1 c2 c3; obtain ⟨⟨c0, c1, c2⟩, c3⟩ := H1.out.i.cells))
                | (go_at_call 18; ((with_reducible refine (HR1.out _ H1.out.i.m.mem).mono ?_); rintro e' v2 ⟨rfl, hb2⟩; have qf := (CB.new v2 52 #[.int .i64 0, .int .i64 0, .bool false]).frozen; have hB := hb2.alloc hb2.size (.cells #[.int .i64 rn, .int .i64 rc, .bool true] 52); have H2 := Hi.mk (And.intro (H1.out.later hB) (And.intro (CB.new v2 52 #[.int .i64 rn, .int .i64 rc, .bool true]) (show wr.heap.size ≤ (v2.alloc (.cells #[.int .i64 rn, .int .i64 rc, .bool true] 52)).heap.size from Nat.le_trans hv1 hB.size))); have HK2 := Hi.mk ((hB.block (wo.heap.size + 4) (by omega)).trans HK1.out); clear hb2 hB c0 c1 c2 c3; obtain ⟨s0, s1, s2⟩ := CB.three H2.out.2.1; have n0 := H2.out.1.n.cell 0; have n1 := H2.out.1.n.frozen; have n2 := H2.out.1.n.lt)))
              go_roundw
              case rel => exact ⟨k + 1, by go_num, Hi.mk ⟨hlt, (Below.heap_setCell _ ⟨wo.heap.size + 1, 0, none⟩ _ (wo.heap.size + 4) (show (wo.heap.size + 4) ≠ wo.heap.size + 1 by omega)).trans HK2.out, by have h2 := H2.out.2.2; simp at h2 ⊢; omega, by rw [HLN.out.1 (by simp), show ((rtsL bs1 e E).length : Int) - ((rtsL bs1 e k).length + 1) = z - 1 by have := HZ.out; omega]; exact H2.out.1.setN _⟩⟩
              case measure => simp [intOf]; omega
          · obtain rfl : k = E := by omega
            obtain rfl : z = 0 := by have := HZ.out; omega
            clear HZ
            have x1 : ¬ (k : Int) < (k : Int) := by omega
            go_wp2_with (go_at_call 15; ((with_reducible refine (HEV2.out _).mono ?_); rintro e' v1 ⟨rfl, hb1⟩; have H1 := Hi.mk (HN.out.later hb1); have HK1 := Hi.mk ((hb1.block (wo.heap.size + 4) (by omega)).trans HKK.out); have hv1 := hb1.size; clear hb1 c0 c1 c2 c3; obtain ⟨⟨c0, c1, c2⟩, c3⟩ := H1.out.i.cells; have n0 := H1.out.n.cell 0; have r0 := H1.out.i.r.cell 0; have r1 := H1.out.i.r.frozen; have r2 := H1.out.i.r.lt))
            have hc9 : CB (v1.setCell ⟨w.heap.size + 1, 0, none⟩ (.bool true)) (w.heap.size + 1) 4 #[.bool true] := by have := H1.out.i.r.set 0 (.bool true); simpa using this
            have hb9 : Below w.heap.size w (v1.setCell ⟨w.heap.size + 1, 0, none⟩ (.bool true)) := below_set H1.out.i.m.below (by show w.heap.size ≤ w.heap.size + 1; omega) _
            have hkk : (v1.setCell ⟨w.heap.size + 1, 0, none⟩ (.bool true)).heap[(wo.heap.size + 4)]? = some (.deferred (some [])) := (Below.heap_setCell v1 ⟨w.heap.size + 1, 0, none⟩ (.bool true) (wo.heap.size + 4) (by show (wo.heap.size + 4) ≠ w.heap.size + 1; omega)).trans HK1.out
            refine ⟨by simp, .inl ⟨_, _, rfl, run_takeDeferred hkk, ?_⟩⟩
            exact ⟨_, results_b rfl _ _ (w.heap.size + 1) (.bool true) rfl ((World.putObj_heap_other (by omega)).trans hc9), rfl, below_put hb9 _ (by have := H1.out.i.m.below.size; simpa using this) (by omega)⟩
      case stop =>
        rintro cd pre V hpre hf
        exact hf.elim
end Go.Proofs.Ytjcjblmaceooaaa
