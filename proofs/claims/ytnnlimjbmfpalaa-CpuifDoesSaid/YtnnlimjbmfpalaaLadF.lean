/-
  Package ladder: Drop, Len.
-/
import Derived.Test.YtnnlimjbmfpalaaLadE
import Derived.Test.YtnnlimjbmfpalaaHi
namespace Go.Proofs.Ytnnlimjbmfpalaa
open Go.ChangeShapes Go.WideShapes Go.ChangeAt Go.RowKit Go.Shelf
set_option linter.unusedVariables false
attribute [local go_sem] Oper.semAt_some

theorem dropB_some {f : Rg} {i : Nat} (h : top f = some i) : dropB f = true := by rw [dropB, h]; rfl
theorem dropB_none {f : Rg} (h : top f = none) : dropB f = false := by rw [dropB, h]; rfl
theorem heap_set_three (W : World) (b c i : Nat) (u v x : Value) (h1 : i ≠ b) (h2 : i ≠ c) : (((W.setCell ⟨b, 0, none⟩ u).setCell ⟨b, 1, none⟩ v).setCell ⟨c, 0, none⟩ x).heap[i]? = W.heap[i]? :=
  (Below.heap_setCell _ ⟨c, 0, none⟩ _ i h2).trans ((Below.heap_setCell _ ⟨b, 1, none⟩ _ i h1).trans (Below.heap_setCell _ ⟨b, 0, none⟩ _ i h1))

set_option maxRecDepth 100000 in
set_option maxHeartbeats 4000000 in
theorem drop_any (f : Rg) (w : World) : Calls Try.prog 49 #[lv f] w fun e w' => e = .returned (.tuple #[lv (dropR f), .bool (dropB f)]) ∧ Below w.heap.size w w' := by
  obtain ⟨w3, hw3⟩ : ∃ w3, ((w.alloc (.cells (lcs f) 27)).alloc (.cells #[.int .u32 0, .int .u32 0] 27)).alloc (.cells #[.bool false] 4) = w3 := ⟨_, rfl⟩
  have hz3 : w3.heap.size = w.heap.size + 3 := by rw [← hw3]; simp
  have hB3 : Below w.heap.size w w3 := by rw [← hw3]; exact ((bal w _).alloc (by simp) _).alloc (by simp; omega) _
  have q0 : CB w3 w.heap.size 27 (lcs f) := by rw [← hw3]; exact ((CB.new w _ _).alloc _).alloc _
  have q1 : CB w3 (w.heap.size + 1) 27 #[.int .u32 0, .int .u32 0] := by rw [← hw3]; exact cb_second.alloc _
  have q2 : CB w3 (w.heap.size + 2) 4 #[.bool false] := by rw [← hw3]; have := CB.new ((w.alloc (.cells (lcs f) 27)).alloc (.cells #[.int .u32 0, .int .u32 0] 27)) 4 #[.bool false]; simpa using this
  have HA := hi (all_any f w3)
  rw [hz3] at HA
  obtain ⟨w4, hw4⟩ : ∃ w4, w3.alloc (.cells (lcs f) 27) = w4 := ⟨_, rfl⟩
  have hz4 : w4.heap.size = w.heap.size + 4 := by rw [← hw4]; simp; omega
  have hB4 : Below w.heap.size w w4 := by rw [← hw4]; exact hB3.alloc hB3.size _
  have hc4 : CB w4 (w.heap.size + 3) 27 (lcs f) := by rw [← hw4, ← hz3]; exact CB.new w3 _ _
  have p0 : CB w4 w.heap.size 27 (lcs f) := by rw [← hw4]; exact q0.alloc _
  have p1 : CB w4 (w.heap.size + 1) 27 #[.int .u32 0, .int .u32 0] := by rw [← hw4]; exact q1.alloc _
  have p2 : CB w4 (w.heap.size + 2) 4 #[.bool false] := by rw [← hw4]; exact q2.alloc _
  rw [hw4] at HA
  have hst := all_stops (w.heap.size + 3) f w4 hc4
  have HCL := hi (fun (g p : Int) (V : World) => clear_any f g p V)
  have s0 := q0.cell 0
  have s1 := q0.cell 1
  have HP0 := hi p0
  have HP1 := hi p1
  have HP2 := hi p2
  have HB4 := hi hB4
  clear hw4 q1 q2 hc4 p0 p1 p2 hB4 hB3 q0
  obtain ⟨a, ha⟩ : ∃ a, wd f 0 = a := ⟨_, rfl⟩
  obtain ⟨b, hb'⟩ : ∃ b, wd f 1 = b := ⟨_, rfl⟩
  have HAB := hi (And.intro ha hb')
  unfold lv lcs at *
  rw [ha, hb'] at HA hw3 s0 s1 HP0 HCL ⊢
  clear ha hb'
  refine (callsIn_wide (n := 6)).1 ?_
  refine callsIn_of_wp_marks Try.func49 rfl trivial ?_ rfl
  simp only [Try.ntmps49, List.size_toArray, List.length_cons, List.length_nil, Nat.reduceAdd, Nat.reduceSub, Array.replicate_succ, Array.replicate_zero, List.push_toArray, List.append_toArray, List.nil_append, List.cons_append]
  gi_wp2_with (first
    | (refine ⟨trivial, ?_⟩; gi_at_call 44; ((with_reducible refine (callsIn_wide.2 HA.out).mono ?_); rintro e' w5 ⟨rfl, rfl⟩))
    | gi_in)
  clear hw3 s0 s1
  refine range_win (n := 6) (by omega) (gf := 56) (lb := #[.pointer (some ⟨w.heap.size + 3, 0, none⟩)]) rfl (enters_of Try.func56 (by kernel_rfl) rfl)
    hst (fun a b => Stays.trans a b) (fun W l o o' h1 h2 h3 h4 => stays_put (by omega)) (Below.refl _ _) (fun _ => rfl)
    (fun pre V => (pre = [] ∧ CB V w.heap.size 27 #[.int .u32 (a : Int), .int .u32 (b : Int)] ∧ CB V (w.heap.size + 1) 27 #[.int .u32 0, .int .u32 0] ∧ CB V (w.heap.size + 2) 4 #[.bool false]) ∧ Below w.heap.size w V)
    (fun cd pre V => (cd = .ret ∧ ∃ x : Nat, pre = [x] ∧ CB V (w.heap.size + 1) 27 #[.int .u32 (wd (put f x false) 0 : Int), .int .u32 (wd (put f x false) 1 : Int)] ∧ CB V (w.heap.size + 2) 4 #[.bool true]) ∧ Below w.heap.size w V)
    (AbL.and (AbL.of (m := 2) (fun s A A' row hs hg hr => ⟨hs.1, hs.2.1.kept hg (fun e => by have := hr _ e.symm; omega), hs.2.2.1.kept hg (fun e => by have := hr _ e.symm; omega), hs.2.2.2.kept hg (fun e => by have := hr _ e.symm; omega)⟩) rfl) (AbL.below (Nat.le_refl _) (by omega)))
    (fun cd => AbL.and (AbL.of (m := 2) (fun s A A' row hs hg hr => by obtain ⟨e, x, e2, h1, h2⟩ := hs; exact ⟨e, x, e2, h1.kept hg (fun e => by have := hr _ e.symm; omega), h2.kept hg (fun e => by have := hr _ e.symm; omega)⟩) rfl) (AbL.below (Nat.le_refl _) (by omega)))
    ⟨⟨rfl, HP0.out, HP1.out, HP2.out⟩, HB4.out⟩
    (fun x a' V => a' = { tmps := #[.agg #[.int .u32 a, .int .u32 b], .pointer (some ⟨w.heap.size, 0, none⟩), .pointer (some ⟨w.heap.size + 1, 0, none⟩), .pointer (some ⟨w.heap.size + 2, 0, none⟩), .int .i64 (8 * ((x : Int) / 2)), .int .i64 ((x : Int) % 2), .agg #[.int .u32 a, .int .u32 b], .func (.func 56) #[] #[.pointer (some ⟨w.heap.size + 3, 0, none⟩)], .int .i64 (8 * ((x : Int) / 2)), .int .i64 ((x : Int) % 2), undef, undef, undef, undef, undef], defers := [] })
    (fun x a' => AbL.pure _ _ _)
    ?assign ?body ?done ?stop
  case assign =>
    rintro l' pre x V K h hsz hK
    gi_wp2
    exact hK _ _ (KW.refl _ _) (Stays.refl _ _ _) h rfl
  case body =>
    rintro l' pre x a' V hsz ⟨⟨rfl, h0, h1, h2⟩, hB⟩ rfl hpx
    have hx : x < 64 := (top_lt (top_one hpx)).1
    have HC1 := hi (fun V => HCL.out ((x : Int) % 2) (8 * ((x : Int) / 2)) V)
    rw [plc_top hx] at HC1
    have c0 := h0.cell 0
    have c1 := h0.cell 1
    have HH1 := hi h1
    have HH2 := hi h2
    have HB := hi hB
    clear hpx h0 h1 h2 hB
    gi_wp2_with (first
      | (refine ⟨trivial, ?_⟩; gi_at_call 59; ((with_reducible refine (CallsIn.inRound l' (callsIn_wide.2 (HC1.out V))).mono ?_); rintro e w6 ⟨rfl, hb6⟩; have hh1 := HH1.out.below hb6; have hh2 := HH2.out.below hb6; have f1 := hh1.frozen; have f2 := hh2.frozen; have d0 := hh1.cell 0; have d1 := hh1.cell 1; have d2 := hh2.cell 0; have HK1 := hi hh1; have HK2 := hi hh2; have HB6 := hi hb6; clear hh1 hh2 hb6))
      | gi_in)
    exact ⟨(KW.of_below HB6.out).trans (((KW.set _ _ _).trans (KW.set _ _ _)).trans (KW.set _ _ _)), ((Stays.below HB6.out (by omega)).trans (((stays_set (by omega)).trans (stays_set (by omega))).trans (stays_set (by omega)))),
      ⟨rfl, x, rfl, (HK1.out.set2 _ _).other _ _ _ (by omega), ((HK2.out.other _ _ _ (by omega)).other _ _ _ (by omega)).set 0 _⟩, below_set (below_set2 (HB.out.trans (HB6.out.mono HB.out.size)) (by omega) _ _) (by omega) _⟩
  case done =>
    rintro ys V rfl ⟨⟨hn, h0, h1, h2⟩, hB⟩ hK hs2
    have f1 := h1.frozen
    have f2 := h2.frozen
    have z0 := h0.cell 0
    have z1 := h0.cell 1
    have c0 := h1.cell 0
    have c1 := h1.cell 1
    have c2 := h2.cell 0
    have HK := hi ((heap_set_three V (w.heap.size + 1) (w.heap.size + 2) w5.heap.size (.int .u32 (a : Int)) (.int .u32 (b : Int)) (.bool false) (by omega) (by omega)).trans hK)
    have HR := hi (dropR_none (top_nil hn))
    have HR2 := hi (dropB_none (top_nil hn))
    have g1 := hi ((h1.set2 (.int .u32 (a : Int)) (.int .u32 (b : Int))).other (w.heap.size + 2) 0 (.bool false) (by omega))
    have g2 := hi (((h2.other (w.heap.size + 1) 0 (.int .u32 (a : Int)) (by omega)).other (w.heap.size + 1) 1 (.int .u32 (b : Int)) (by omega)).set 0 (.bool false))
    have HB := hi hB
    clear hn h1 h2 hB hK h0
    gi_wp2
    refine ⟨by simp, .inl ⟨_, _, rfl, run_takeDeferred HK.out, ?_⟩⟩
    exact ⟨_, results_drop rfl _ _ (w.heap.size + 1) (w.heap.size + 2) _ _ _ rfl rfl (g1.out.putO _ (by omega)) (g2.out.putO _ (by omega)), by rw [HR.out, HR2.out, HAB.out.1, HAB.out.2], below_put (below_set (below_set2 HB.out (by omega) _ _) (by omega) _) _ (by have := HB.out.size; simp; omega) (by omega)⟩
  case stop =>
    rintro cd pre V hpre ⟨⟨rfl, x, rfl, h1, h2⟩, hB⟩ hK hs2
    have HR := hi (dropR_some (top_one hpre))
    have HR2 := hi (dropB_some (top_one hpre))
    gi_wp2
    refine ⟨by simp, .inl ⟨_, _, rfl, run_takeDeferred hK, ?_⟩⟩
    exact ⟨_, results_drop rfl _ _ (w.heap.size + 1) (w.heap.size + 2) _ _ _ rfl rfl (h1.putO _ (by omega)) (h2.putO _ (by omega)), by rw [HR.out, HR2.out], below_put hB _ hB.size (by omega)⟩

theorem zip_two (i j : Nat) (v u : Value) (t : Array Value) : Array.foldl (fun t x => t.setIfInBounds x.fst x.snd) t ((#[i, j] : Array Nat).zip #[v, u]) = (t.setIfInBounds i v).setIfInBounds j u := by simp

set_option maxRecDepth 100000 in
set_option maxHeartbeats 4000000 in
theorem len_any (f : Rg) (w : World) : Calls Try.prog 22 #[lv f] w fun e w' => e = .returned (.int .i64 (rungs f).length) ∧ Below w.heap.size w w' := by
  obtain ⟨w3, hw3⟩ : ∃ w3, (w.alloc (.cells (lcs f) 27)).alloc (.cells #[.int .i64 0] 3) = w3 := ⟨_, rfl⟩
  have hz3 : w3.heap.size = w.heap.size + 2 := by rw [← hw3]; simp
  have hB3 : Below w.heap.size w w3 := by rw [← hw3]; exact bal_two _ _ _
  have q0 : CB w3 w.heap.size 27 (lcs f) := by rw [← hw3]; exact (CB.new w _ _).alloc _
  have q1 : CB w3 (w.heap.size + 1) 3 #[.int .i64 0] := by rw [← hw3]; exact cb_second
  have HA := hi (all_any f w3)
  rw [hz3] at HA
  obtain ⟨w4, hw4⟩ : ∃ w4, w3.alloc (.cells (lcs f) 27) = w4 := ⟨_, rfl⟩
  have hz4 : w4.heap.size = w.heap.size + 3 := by rw [← hw4]; simp; omega
  have hB4 : Below w.heap.size w w4 := by rw [← hw4]; exact hB3.alloc hB3.size _
  have hc4 : CB w4 (w.heap.size + 2) 27 (lcs f) := by rw [← hw4, ← hz3]; exact CB.new w3 _ _
  have p1 : CB w4 (w.heap.size + 1) 3 #[.int .i64 0] := by rw [← hw4]; exact q1.alloc _
  rw [hw4] at HA
  have hst := all_stops (w.heap.size + 2) f w4 hc4
  have hmax := rungs_len f
  have HP1 := hi p1
  have HB4 := hi hB4
  clear hw4 q1 hc4 p1 hB4 hB3 q0
  obtain ⟨a, ha⟩ : ∃ a, wd f 0 = a := ⟨_, rfl⟩
  obtain ⟨b, hb'⟩ : ∃ b, wd f 1 = b := ⟨_, rfl⟩
  unfold lv lcs at *
  rw [ha, hb'] at HA hw3 ⊢
  subst hw3
  clear ha hb' hz3
  refine (callsIn_wide (n := 6)).1 ?_
  refine callsIn_of_wp_marks Try.func22 rfl trivial ?_ rfl
  simp only [Try.ntmps22, List.size_toArray, List.length_cons, List.length_nil, Nat.reduceAdd, Nat.reduceSub, Array.replicate_succ, Array.replicate_zero, List.push_toArray, List.append_toArray, List.nil_append, List.cons_append]
  gi_wp2_with (first
    | (refine ⟨trivial, ?_⟩; gi_at_call 44; ((with_reducible refine (callsIn_wide.2 HA.out).mono ?_); rintro e' w5 ⟨rfl, rfl⟩))
    | gi_in)
  refine range_win (n := 6) (by omega) (gf := 56) (lb := #[.pointer (some ⟨w.heap.size + 2, 0, none⟩)]) rfl (enters_of Try.func56 (by kernel_rfl) rfl)
    hst (fun a b => Stays.trans a b) (fun W l o o' h1 h2 h3 h4 => stays_put (by omega)) (Below.refl _ _) (fun _ => rfl)
    (fun pre V => CB V (w.heap.size + 1) 3 #[.int .i64 (pre.length : Int)] ∧ Below w.heap.size w V)
    (fun cd pre V => False)
    (AbL.and (AbL.cb _ _ (fun pre : List Nat => #[.int .i64 (pre.length : Int)]) (by omega)) (AbL.below (Nat.le_refl _) (by omega)))
    (fun _ _ _ _ _ hs _ _ => hs)
    ⟨HP1.out, HB4.out⟩
    (fun x a' V => a' = { tmps := #[.agg #[.int .u32 a, .int .u32 b], .pointer (some ⟨w.heap.size, 0, none⟩), .int .i64 0, .pointer (some ⟨w.heap.size + 1, 0, none⟩), .agg #[.int .u32 a, .int .u32 b], .func (.func 56) #[] #[.pointer (some ⟨w.heap.size + 2, 0, none⟩)], .int .i64 (8 * ((x : Int) / 2)), .int .i64 ((x : Int) % 2), undef, undef, undef], defers := [] })
    (fun x a' => AbL.pure _ _ _)
    ?assign ?body ?done ?stop
  case assign =>
    rintro l' pre x V K h hsz hK
    gi_wp2
    rw [zip_two]
    exact hK _ _ (KW.refl _ _) (Stays.refl _ _ _) h rfl
  case body =>
    rintro l' pre x a' V hsz ⟨h1, hB⟩ rfl hpx
    have f1 := h1.frozen
    have c1 := h1.cell 0
    have hlen : pre.length + 1 ≤ 64 := by have := hpx.length_le; simp at this; omega
    gi_wp2
    exact ⟨KW.set _ _ _, stays_set (by omega), by have := h1.set 0 (.int .i64 ((pre.length : Int) + 1)); simpa using this, below_set hB (by omega) _⟩
  case done =>
    rintro ys V rfl ⟨h1, hB⟩ hK hs2
    have c1 := h1.cell 0
    gi_wp2
    refine ⟨by simp, .inl ⟨_, _, rfl, run_takeDeferred hK, ?_⟩⟩
    exact ⟨_, results_tmp rfl _ _ _, rfl, below_put hB _ hB.size (by omega)⟩
  case stop =>
    rintro cd pre V hpre h _ _
    exact h.elim

end Go.Proofs.Ytnnlimjbmfpalaa
