/-
  SetsLeft: for every list of numbers, number, bound and number that goes: a loop that is left early has gone through the first members, and a set that is changed meanwhile changes nothing of what it goes through (the law answers true). Asked: the library's table lies in its variable.
-/
import Derived.Test.YtmdlknddlmpddaaDoorSetP
import Derived.Test.YtmdlknddlmpddaaDoorRng
import Derived.Test.YtmdlknddlmpddaaDoorSetsRuns
namespace Go.Proofs.YtmdlknddlmpddaaDoor
open Go.ChangeShapes Go.WideShapes Go.ChangeAt Go.RowKit Go.Shelf
set_option linter.unusedVariables false
attribute [local go_sem] Oper.semAt_some

/-- The slice v holds the ints xs in a block from base on. -/
def NewInts (base : Nat) (W : World) (v : Value) (xs : List Int) : Prop := W.ownsRow base 3 1 v xs.length (xs.map (Value.int .i64))
theorem NewInts.kept {bs : Nat → Prop} {base : Nat} {A W : World} {v : Value} {xs : List Int} (h : NewInts base A v xs) (k : Kept bs A W) (hn : ∀ g, base ≤ g → g < A.heap.size → ¬ bs g) : NewInts base W v xs := by
  refine ⟨h.1, ?_⟩
  rcases h.2 with x | ⟨g, cap, cur, hv, hb, hg, rest⟩
  · exact .inl x
  · have hlt := (Array.getElem?_eq_some_iff.1 hg).1
    exact .inr ⟨g, cap, cur, hv, hb, (k.block g hlt (hn g hb hlt)).trans hg, rest⟩
theorem NewInts.at {base : Nat} {W : World} {v : Value} {xs : List Int} (h : NewInts base W v xs) : IntsAt W v xs := intsAt_row h
theorem NewInts.slice {base : Nat} {W : World} {v : Value} {xs : List Int} (h : NewInts base W v xs) : ∃ a cap, v = .slice a xs.length cap := by
  obtain ⟨a, cap, hv, _⟩ := h.at
  exact ⟨a, cap, hv⟩
theorem from_some (n : Nat) (hn : 3 ≤ n) (b : Nat) (S : Words) (m most : Int) (xs ys : List Int) (w : World) (hR : RowAt 58 w b S) (hT : TabW w) (hm : 0 ≤ most) (hxs : ListFrom S (max m 0) xs) (hk : xs.take most.toNat = ys) :
    CallsIn Fence.wide n Tryd.prog 23 #[.pointer (some ⟨b, 0, none⟩), .int .i64 m, .int .i64 most] w fun e W' => ∃ a cap, e = .returned (.slice a ys.length cap) ∧ NewInts w.heap.size W' (.slice a ys.length cap) ys ∧ Below w.heap.size w W' :=
  (from_in n hn b S m most xs w hR hT hm hxs).mono fun e W' ⟨o, he, ho, hb⟩ => by
    subst hk
    have hn : NewInts w.heap.size W' o (xs.take most.toNat) := ho.1
    obtain ⟨a, cap, rfl⟩ := hn.slice
    exact ⟨a, cap, he, hn, hb⟩
theorem NewInts.cap {base : Nat} {W : World} {a : Option Addr} {cap : Nat} {xs : List Int} (h : NewInts base W (.slice a xs.length cap) xs) : (xs.length : Int) ≤ (cap : Int) := by
  obtain ⟨a', cap', e, hc, _⟩ := h.at
  simp only [Value.slice.injEq, true_and] at e
  have := hc.1
  omega
theorem IntsAt.first {W : World} {a : Option Addr} {cap : Nat} {xs ys : List Int} (h : IntsAt W (.slice a xs.length cap) xs) (hy : ys <+: xs) : IntsAt W (.slice a ys.length cap) ys := by
  obtain ⟨a', cap', e, hc, hcs⟩ := h
  simp only [Value.slice.injEq, true_and] at e
  obtain ⟨rfl, rfl⟩ := e
  have hl := hy.length_le
  refine ⟨a, cap, rfl, ⟨by omega, hc.2⟩, fun hne => ?_⟩
  have hp : 0 < ys.length := by
    rcases Nat.eq_zero_or_pos ys.length with z | z
    · exact absurd (List.length_eq_zero_iff.1 z) hne
    · exact z
  obtain ⟨b, off, ha, hx⟩ := hcs (fun z => by rw [z, List.length_nil] at hl; omega)
  refine ⟨b, off, ha, fun j hj => ?_⟩
  rw [hx j (by omega)]
  obtain ⟨r, rfl⟩ := hy
  rw [List.getElem?_append_left hj]
theorem of_new (xs : List Int) (a : Option Addr) (cap : Nat) (w W : World) (hb : Below w.heap.size w W) (hT : TabW W) (h0 : 0 < w.heap.size) (hv : IntsAt w (.slice a xs.length cap) xs) (hl : xs.length ≤ 9223372036854775806) (J : Words) (e : putAll S0 xs = J) :
    Calls Tryd.prog 10 #[.slice a xs.length cap] W fun e W' => ∃ B : Nat, e = .returned (.pointer (some ⟨B, 0, none⟩)) ∧ Good w B J W' ∧ Below W.heap.size W W' ∧ W.heap.size ≤ B :=
  e ▸ (of_any xs a cap W (intsAt_grew hv hb) hl).mono fun e W' ⟨he, hR, hB⟩ => ⟨_, he, ⟨hR, hb.trans (hB.mono hb.size), hT.below hB, hb.size, h0⟩, hB, Nat.le_refl _⟩
theorem from_all (n : Nat) (hn : 3 ≤ n) (b : Nat) (S : Words) (m : Int) (xs : List Int) (w : World) (hR : RowAt 58 w b S) (hT : TabW w) (hxs : ListFrom S (max m 0) xs) :
    CallsIn Fence.wide n Tryd.prog 23 #[.pointer (some ⟨b, 0, none⟩), .int .i64 m, .int .i64 20000] w fun e W' => ∃ a cap, e = .returned (.slice a xs.length cap) ∧ NewInts w.heap.size W' (.slice a xs.length cap) xs ∧ Below w.heap.size w W' :=
  from_some n hn b S m 20000 xs xs w hR hT (by omega) hxs (take_all (by have := listFrom_len hxs; omega))

/-- The law's boxes (the set, the number that goes), and the set. -/
structure LB (w : World) (K B : Nat) (gone : Int) (S : Words) (W : World) : Prop where
  s : Boxed W K 25 (.pointer (some ⟨B, 0, none⟩))
  g : Boxed W w.heap.size 3 (.int .i64 gone)
  good : Good w B S W
  k : B < K
  b : w.heap.size < B
theorem LB.below {w W W' : World} {K B : Nat} {gone : Int} {S : Words} (h : LB w K B gone S W) (k : Below W.heap.size W W') : LB w K B gone S W' :=
  ⟨h.s.kept (Below.grew k) (by simp), h.g.kept (Below.grew k) (by simp), h.good.below k, h.k, h.b⟩

theorem ownsRow_kept {bs : Nat → Prop} {base : Nat} {e : TypeId} {size n : Nat} {A W : World} {v : Value} {xs : List Value} (h : A.ownsRow base e size v n xs) (k : Kept bs A W) (hn : ∀ g, base ≤ g → g < A.heap.size → ¬ bs g) : W.ownsRow base e size v n xs := by
  refine ⟨h.1, ?_⟩
  rcases h.2 with x | ⟨g, cap, cur, hv, hb, hg, rest⟩
  · exact .inl x
  · have hlt := (Array.getElem?_eq_some_iff.1 hg).1
    exact .inr ⟨g, cap, cur, hv, hb, (k.block g hlt (hn g hb hlt)).trans hg, rest⟩

/-- Where a round of the law's loop stands: the collecting box, the set that is changed meanwhile, and all else as it lay. -/
structure BI (W7 : World) (O B : Nat) (v : Value) (n : Nat) (ys : List Value) (W0 W : World) : Prop where
  box : Boxed W O 22 v
  own : W.ownsRow (O + 1 + 2) 3 1 v n ys
  kept : Kept (fun k => k = B ∨ k = O) W7 W
  row : ∃ S', RowAt 58 W B S'
  kf : KeepsFrom W7.heap.size W0 W
  kp : KpS (O + 1) W0 W
  b0 : 0 < B
  bO : B < O
  sz : O + 3 ≤ W7.heap.size
theorem BI.step {W7 W0 W W' : World} {O B n : Nat} {v : Value} {ys : List Value} {S : Words} (h : BI W7 O B v n ys W0 W) (hR : RowAt 58 W' B S) (hg : W.grownBy W' (some B)) : BI W7 O B v n ys W0 W' := by
  have hb0 := h.b0
  have hbO := h.bO
  have hsz := h.sz
  have hs := h.kept.size
  have hk : Kept (fun k => k = B) W W' := (Kept.refl _ W).grown hg (fun r e => by cases e; exact .inl rfl)
  exact ⟨h.box.kept hg (fun e => by cases e; omega), ownsRow_kept h.own hk (fun g h1 _ e => by omega), h.kept.grown hg (fun r e => by cases e; exact .inl (.inl rfl)), ⟨_, hR⟩,
    h.kf.trans (KeepsFrom.of_grownBy hg (fun j e => by cases e; omega)), kpS_t h.kp ⟨stays_grown hg (by omega) (by omega), stays_grown hg (by omega) (by omega)⟩, h.b0, h.bO, h.sz⟩
theorem take_bi (W7 W0 : World) (O B n : Nat) (v : Value) (ys : List Value) (x : Int) (W : World) (h : BI W7 O B v n ys W0 W) :
    Calls Tryd.prog 16 #[.pointer (some ⟨B, 0, none⟩), .int .i64 x] W fun e W' => (∃ u, e = .returned u) ∧ BI W7 O B v n ys W0 W' := by
  obtain ⟨S, hR⟩ := h.row
  exact (take_any _ B S x W hR).mono fun e W' ⟨he, hR', hg⟩ => ⟨⟨_, he⟩, h.step hR' hg⟩
theorem put_bi (W7 W0 : World) (O B n : Nat) (v : Value) (ys : List Value) (x : Int) (W : World) (h : BI W7 O B v n ys W0 W) :
    Calls Tryd.prog 15 #[.pointer (some ⟨B, 0, none⟩), .int .i64 x] W fun e W' => (∃ u, e = .returned u) ∧ BI W7 O B v n ys W0 W' := by
  obtain ⟨S, hR⟩ := h.row
  exact (put_any _ B S x W hR).mono fun e W' ⟨he, hR', hg⟩ => ⟨⟨_, he⟩, h.step hR' hg⟩
theorem LB.s_at {w W7 W : World} {K B O : Nat} {gone : Int} {S : Words} (h : LB w K B gone S W7) (hKO : K < O) (k : Kept (fun k => k = B ∨ k = O) W7 W) : W.cell? ⟨K, 0, none⟩ = some (.pointer (some ⟨B, 0, none⟩)) := (k.boxed h.s (by have := h.k; omega)).cell
theorem LB.g_at {w W7 W : World} {K B O : Nat} {gone : Int} {S : Words} (h : LB w K B gone S W7) (hKO : K < O) (k : Kept (fun k => k = B ∨ k = O) W7 W) : W.cell? ⟨w.heap.size, 0, none⟩ = some (.int .i64 gone) := (k.boxed h.g (by have := h.k; have := h.b; omega)).cell

set_option maxRecDepth 100000 in
set_option maxHeartbeats 2000000 in
theorem setsLeft_in (n : Nat) (hn : 4 ≤ n) (ms : List Int) (a : Option Addr) (ca : Nat) (m most gone : Int) (w : World) (hT : TabW w) (hm : IntsAt w (.slice a ms.length ca) ms) (l1 : ms.length ≤ 2000) (hmost : 0 ≤ most ∧ most ≤ 255) :
    CallsIn Fence.wide n Tryd.prog 6 #[.slice a ms.length ca, .int .i64 m, .int .u8 most, .int .i64 gone] w fun e W' => e = .returned (.bool true) ∧ Below w.heap.size w W' := by
  have h1 : 1 ≤ n := by omega
  obtain ⟨i0, hi', hz0, hz1, hz2⟩ := info_parts info_int
  have i1 : (ms.length : Int) ≤ 2000 := by omega
  have i2 : decide (2000 < (ms.length : Int)) = false := decide_eq_false (by omega)
  obtain ⟨hm0, hm1⟩ := hmost
  obtain ⟨S, eS⟩ : ∃ S, putAll S0 ms = S := ⟨_, rfl⟩
  obtain ⟨xs, hxs⟩ := listFrom_ex S (max m 0) (by omega)
  have hlen := listFrom_len hxs
  obtain ⟨ys, hys⟩ : ∃ ys, xs.take most.toNat = ys := ⟨_, rfl⟩
  have hyl : ys.length ≤ xs.length := by rw [← hys]; exact List.length_take_le' _ _
  have HYP := hi (show ys <+: xs by rw [← hys]; exact List.take_prefix _ _)
  have hcase : (most < (xs.length : Int) ∧ most = (ys.length : Int)) ∨ ((xs.length : Int) ≤ most ∧ xs = ys) := by
    rcases Int.lt_or_le most (xs.length : Int) with c | c
    · exact .inl ⟨c, by rw [← hys, List.length_take]; omega⟩
    · exact .inr ⟨c, by rw [← hys]; exact (take_all (by omega)).symm⟩
  have HYS := hi hys
  have hyi : (ys.length : Int) ≤ (xs.length : Int) := by omega
  have hxi : (xs.length : Int) ≤ 16384 := by omega
  have HX := hi hxs
  have HT := hi hT
  have HM := hi hm
  have L1 := hi l1
  have HS := hi eS
  clear hT hm l1 hxs eS hys hyl
  rcases hcase with ⟨hcl, rfl⟩ | ⟨hcl, rfl⟩
  all_goals
    refine callsIn_of_wp_marks Tryd.func6 rfl trivial ?_ rfl
    simp only [Tryd.ntmps6, List.size_toArray, List.length_cons, List.length_nil, Nat.reduceAdd, Nat.reduceSub, Array.replicate_succ, Array.replicate_zero, List.push_toArray, List.append_toArray, List.nil_append, List.cons_append]
    gi_wp2_with (first
      | (refine ⟨trivial, ?_⟩; gi_at_call 9; refine (callsIn_wide.2 (awake_any _ (HT.out.below ((Below.refl _ w).alloc (Nat.le_refl _) _)))).mono ?_; rintro e W2 ⟨rfl, hb2⟩; have HB2 := hi (((Below.refl _ w).alloc (Nat.le_refl _) (.cells #[.int .i64 gone] 3)).trans (hb2.mono (by simp))); have HG2 := hi ((Boxed.new w 3 (.int .i64 gone)).kept (Below.grew hb2) (by simp)); clear hb2)
      | (refine ⟨trivial, ?_⟩; gi_at_call 10; ((with_reducible refine (callsIn_wide.2 (of_new ms a ca w _ HB2.out (HT.out.below HB2.out) HT.out.lt HM.out (by have := L1.out; omega) S HS.out)).mono ?_); rintro e W3 ⟨B, rfl, g, hb, hBs⟩; have HL := hi (show LB w W3.heap.size B gone S (W3.alloc (.cells #[.pointer (some ⟨B, 0, none⟩)] 25)) from ⟨Boxed.new W3 _ _, (HG2.out.kept (Below.grew hb) (by simp)).alloc _, g.below ((Below.refl _ W3).alloc (Nat.le_refl _) _), g.1.lt, Nat.lt_of_lt_of_le HG2.out.lt hBs⟩); clear g hb hBs))
      | (refine ⟨trivial, ?_⟩; gi_at_call 23; ((with_reducible refine (from_all (n - 1) (by omega) B S m xs _ HL.out.good.row HL.out.good.tab HX.out).mono ?_); rintro e W4 ⟨aa, ac, rfl, hn4, hb4⟩; replace HL := hi (HL.out.below hb4); have HN := hi hn4; have hcS4 := HL.out.s.cell; have hcap4 := hn4.cap; clear hb4 hn4))
      | (refine ⟨trivial, ?_⟩; gi_at_call 23; ((with_reducible refine (from_some (n - 1) (by omega) B S m _ xs _ _ HL.out.good.row HL.out.good.tab hm0 HX.out HYS.out).mono ?_); rintro e W5 ⟨sa, sc, rfl, hn5, hb5⟩; replace HL := hi (HL.out.below hb5); replace HN := hi (HN.out.kept ((Kept.refl (fun _ => False) W4).below hb5) (fun _ _ _ h => h)); have HN2 := hi hn5; have hcS5 := HL.out.s.cell; have hcG5 := HL.out.g.cell; clear hb5 hn5 hcS4))
      | (refine ⟨trivial, ?_⟩; gi_at_call 22; ((with_reducible refine (callsIn_wide.2 (same_x _ _ _ _ _ _ (by omega) HN2.out.at (HN.out.at.first HYP.out))).mono ?_); rintro e W6 ⟨rfl, hb6⟩; replace HL := hi (HL.out.below hb6); replace HN := hi (HN.out.kept ((Kept.refl (fun _ => False) W5).below hb6) (fun _ _ _ h => h)); have hcS6 := HL.out.s.cell; have hltS := HL.out.s.lt; have hltG := HL.out.g.lt; clear hb6 HN2))
      | (refine ⟨trivial, ?_⟩; gi_at_call 34; ((with_reducible refine (callsIn_wide.2 (from_any B S m _ (by exact HL.out.good.row.below ((Below.refl _ _).alloc (Nat.le_refl _) _)))).mono ?_); rintro e W7 ⟨rfl, hF, hb7, hz7⟩))
      | gi_in)
    simp only [World.size_alloc] at hF hz7
    obtain ⟨O, hO⟩ : ∃ O, W6.heap.size = O := ⟨_, rfl⟩
    obtain ⟨K, hK⟩ : ∃ K, W3.heap.size = K := ⟨_, rfl⟩
    have bO := (Boxed.new W6 22 (.slice none 0 0)).kept (Below.grew hb7) (by simp)
    have hb67 : Below W6.heap.size W6 W7 := ((Below.refl _ W6).alloc (Nat.le_refl _) _).trans (hb7.mono (by simp))
    have hL7 := HL.out.below hb67
    have hN6 := HN.out
    have HK67 := hi ((Kept.refl (fun k => k = B ∨ k = O) W6).below hb67)
    have HO := hi hO
    rw [hO] at hF hz7 bO hltS hltG
    rw [hK] at hL7 hltS
    rw [World.size_alloc, hK] at hN6
    simp only [hO, hK]
    have HL7 := hi hL7
    have HN6 := hi hN6
    have HF := hi hF
    have BO := hi bO
    clear HL HN hb67 hb7 hL7 hN6 hO hK hcS6 hF bO
    refine range_one rfl h1 (gf := 49) (lb := #[.pointer (some ⟨O + 1, 0, none⟩), .pointer (some ⟨O + 1 + 1, 0, none⟩)]) rfl trivial (enters_of Tryd.func49 (by kernel_rfl) rfl) 14
      (listFrom_stops (n - 1) (by omega) (O + 1) S (max m 0) _ HX.out W7 HF.out HL7.out.good.tab) (fun h k => kpS_t h k) (kpS_b (by omega) (by omega)) (Below.refl _ _)
      (fun pre W => (∃ o, Boxed W O 22 o ∧ W.ownsRow (O + 1 + 2) 3 1 o pre.length (pre.map (Value.int .i64)) ∧ (o = .slice none 0 0 ↔ pre = [])) ∧ (Kept (fun k => k = B ∨ k = O) W7 W ∧ ∃ S', RowAt 58 W B S'))
      (fun _ _ _ => False)
      (OwnFrom.and (Own.from (holdsRow_own (O + 1 + 2) O 22 3 1 (fun pre => pre.length) (fun pre => pre.map (Value.int .i64)) (fun pre o => o = .slice none 0 0 ↔ pre = [])) _) (OwnFrom.and (Kept.ownFrom (Nat.le_refl _)) (fun _ _ _ _ h hg hr => by obtain ⟨S', h⟩ := h; exact ⟨S', rowAt_own h hg (fun r e => (hr r e).2)⟩)))
      (fun _ _ _ _ _ hs _ _ => hs)
      ⟨⟨_, BO.out, World.ownsRow_nil _ _ _ _, by simp⟩, Kept.refl _ _, _, HL7.out.good.row⟩ ?assign ?body ?done ?stop
    case assign =>
      intro l x W K hK
      gi_wp2
      exact hK
    case body =>
      rintro l pre x W ⟨⟨o, hv, hrow, hnil⟩, hKp, S', hR⟩ hlt
      have hc := hv.cell
      have hcS := (hKp.boxed HL7.out.s (by have := HL7.out.k; have := HL7.out.b; omega)).cell
      have hcG := (hKp.boxed HL7.out.g (by have := HL7.out.k; have := HL7.out.b; omega)).cell
      have hsz := hKp.size
      have hlen : pre.length + 1 ≤ 16384 := by omega
      have h2 : 1 ≤ n - 1 - 1 := by omega
      gi_wp2_with (first
        | (gi_at_builtin; refine wpListIn_append_own _ rfl _ _ 22 rfl (O + 1 + 2) 3 i0 (.int .i64 0) 1 8 Tryd.underlying22 hi' hz0 hz1 hz2 rfl (by decide) _ _ _ rfl (hrow.alloc _) ⟨W.heap.size, 0, none⟩ 1 1 [.int .i64 x] rfl rfl (cell_one_new _ _ _) (by simp [Value.oneCell']) (by unfold maxLen; omega) (by omega) (by simp; omega) ?_; intro v' w1 hown' hgrow _; obtain ⟨g', cap', rfl⟩ := ownsRow_succ hown'; obtain ⟨hv1, hv2, hr2, hk2, hb2, hs2⟩ := boxed_appended (lo := O) hv (by decide) hrow (by omega) (Nat.le_refl _) (by omega) hown' hgrow; have hc1 := hv1.cell; have hf1 := hv1.frozen; have HB := hi (show BI W7 O B (.slice (some ⟨g', 0, none⟩) (pre.length + 1) cap') (pre.length + 1) (pre.map (Value.int .i64) ++ [.int .i64 x]) W (w1.setCell ⟨O, 0, none⟩ (.slice (some ⟨g', 0, none⟩) (pre.length + 1) cap')) from ⟨hv2, hr2, hKp.of_append hb2 hs2 (by omega) (.inr rfl), ⟨S', (hb2.block B (by have := HL7.out.k; omega)).trans hR.1, hR.2⟩, hk2.from _, ⟨fun i _ h => hb2.block i (by omega), fun i h1 h2 => hs2 i (by omega) (by omega)⟩, by have := HL7.out.b; omega, by have := HL7.out.k; omega, by omega⟩); have hcS2 := HL7.out.s_at hltS HB.out.kept; have hcG2 := HL7.out.g_at hltS HB.out.kept; clear hr2 hk2 hb2 hs2 hv1 hv2)
        | (refine ⟨trivial, ?_⟩; gi_at_call 16; ((with_reducible refine (CallsIn.inRound l (callsIn_wide.2 (take_bi _ _ _ _ _ _ _ _ _ HB.out))).mono ?_); rintro e W8 ⟨⟨u, rfl⟩, h8⟩; replace HB := hi h8; have hcS8 := HL7.out.s_at hltS h8.kept; have hcG8 := HL7.out.g_at hltS h8.kept; clear h8))
        | (refine ⟨trivial, ?_⟩; gi_at_call 15; ((with_reducible refine (CallsIn.inRound l (callsIn_wide.2 (put_bi _ _ _ _ _ _ _ _ _ HB.out))).mono ?_); rintro e W9 ⟨⟨u, rfl⟩, h8⟩; replace HB := hi h8; have hcO9 := h8.box.cell; clear h8))
        | gi_in)
      exact ⟨HB.out.kf, HB.out.kp, ⟨_, HB.out.box, by simpa using HB.out.own, by simp⟩, HB.out.kept, HB.out.row⟩
    case done =>
      rintro D zs W hD rfl ⟨⟨o, hv, hrow, hnil⟩, hKp, hR⟩ hK
      obtain ⟨ad, cap, rfl⟩ := NewInts.slice (base := O + 1 + 2) (xs := zs) hrow
      have hc := hv.cell
      have hk6 := HL7.out.k
      have hall := HN6.out.kept (HK67.out.trans hKp) (fun g h1 h2 e => by rw [HO.out] at h2; rcases e with e | e <;> omega)
      have HA := hi (intsAt_row hrow)
      have HAL := hi hall.at
      have HKK := hi hK
      clear hall hrow hK
      gi_wp2_with (first
        | (refine ⟨trivial, ?_⟩; gi_at_call 22; ((with_reducible refine (callsIn_wide.2 (same_x _ _ _ _ _ _ (by omega) HA.out HAL.out)).mono ?_); rintro e W9 ⟨rfl, hb9⟩))
        | gi_in)
      have hD9 := hb9.block D (Array.getElem?_eq_some_iff.1 HKK.out).1 |>.trans HKK.out
      refine ⟨by simp, .inl ⟨_, _, rfl, run_takeDeferred hD9, ?_⟩⟩
      refine ⟨_, results_tmp rfl _ _ _, rfl, ?_⟩
      have hlG := HL7.out.g.lt
      exact (((HL7.out.good.2.1).trans (hKp.toBelow (Nat.le_of_lt hlG) (by have := HL7.out.b; intro k hk; omega))).trans (hb9.mono (by have := hKp.size; omega))).trans (belowK_b (w := w) (Nat.le_refl _) _ D _ _ (by omega) hD9 rfl rfl)
    case stop =>
      rintro D c pre W _ _ h _
      exact h.elim

set_option maxRecDepth 100000 in
set_option maxHeartbeats 1000000 in
theorem setsLeft_any (ms : List Int) (a : Option Addr) (ca : Nat) (m most gone : Int) (w : World) (hT : TabW w) (hm : IntsAt w (.slice a ms.length ca) ms) (hw : (Lit.int .u8 most).wf = true) :
    Calls Tryd.prog 6 #[.slice a ms.length ca, .int .i64 m, .int .u8 most, .int .i64 gone] w fun e w' => e = .returned (.bool true) ∧ Below w.heap.size w w' := by
  have hmost : 0 ≤ most ∧ most ≤ 255 := by
    have h1 : IntKind.u8.min = 0 := by decide
    have h2 : IntKind.u8.max = 255 := by decide
    simp [Lit.wf, h1, h2] at hw
    omega
  by_cases l1 : ms.length ≤ 2000
  · exact callsIn_wide.1 (setsLeft_in 4 (Nat.le_refl _) ms a ca m most gone w hT hm l1 hmost)
  · have i1 : (2000 : Int) < (ms.length : Int) := by omega
    have hb1 : Below w.heap.size w (w.alloc (.cells #[.int .i64 gone] 3)) := (Below.refl _ w).alloc (Nat.le_refl _) _
    have HB1 := hi hb1
    have HT := hi hT
    clear hT hm l1 hb1 hw
    refine (callsIn_wide (n := 3)).1 ?_
    refine callsIn_of_wp_marks Tryd.func6 rfl trivial ?_ rfl
    simp only [Tryd.ntmps6, List.size_toArray, List.length_cons, List.length_nil, Nat.reduceAdd, Nat.reduceSub, Array.replicate_succ, Array.replicate_zero, List.push_toArray, List.append_toArray, List.nil_append, List.cons_append]
    gi_wp2_with (first
      | (refine ⟨trivial, ?_⟩; gi_at_call 9; refine (callsIn_wide.2 (awake_any _ (HT.out.below HB1.out))).mono ?_; rintro e W2 ⟨rfl, hb2⟩; have HB2 := hi (HB1.out.trans (hb2.mono HB1.out.size)); clear hb2)
      | gi_in)
    exact ⟨_, results_tmp rfl _ _ _, rfl, HB2.out⟩

end Go.Proofs.YtmdlknddlmpddaaDoor
