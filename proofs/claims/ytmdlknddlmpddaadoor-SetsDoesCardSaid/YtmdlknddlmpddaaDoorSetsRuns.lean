/-
  SetsRuns: for every list of numbers: the rows of neighbours tell all members, and none is next to another one (the law answers true). Asked: the library's table lies in its variable.
-/
import Derived.Test.YtmdlknddlmpddaaDoorSetO
import Derived.Test.YtmdlknddlmpddaaDoorSetL
namespace Go.Proofs.YtmdlknddlmpddaaDoor
open Go.ChangeShapes Go.WideShapes Go.ChangeAt Go.RowKit Go.Shelf
set_option linter.unusedVariables false
attribute [local go_sem] Oper.semAt_some

theorem of_two3 (w W : World) (B : Nat) (S : Words) (h : Good w B S W) :
    Calls Tryd.prog 10 #[.slice none 0 0] W fun e W' => ∃ C : Nat, e = .returned (.pointer (some ⟨C, 0, none⟩)) ∧ Two w B C S S0 W' ∧ Below W.heap.size W W' ∧ W.heap.size ≤ C :=
  (of_any [] none 0 W ⟨none, 0, rfl, ⟨by simp, by unfold maxLen; omega⟩, fun h => absurd rfl h⟩ (by simp)).mono fun e W' ⟨he, hR, hB⟩ =>
    ⟨_, he, ⟨h.below hB, ⟨hR, h.2.1.trans (hB.mono h.2.1.size), h.2.2.1.below hB, h.2.1.size, h.2.2.2.2⟩, by have := h.1.lt; omega⟩, hB, Nat.le_refl _⟩

/-- What abides a turn of what is no cells. -/
theorem rowAt_own {T : TypeId} {b : Nat} {S : Words} {W W' : World} {row : Option Nat} (h : RowAt T W b S) (hg : W.grownBy W' row) (hr : ∀ r, row = some r → ∃ o : Obj, W.heap[r]? = some o ∧ o.isCells = false) : RowAt T W' b S :=
  ⟨(hg.block b h.lt (fun e => by
    obtain ⟨o, ho, hc⟩ := hr b e.symm
    rw [h.1] at ho; cases ho; cases hc)).trans h.1, h.2⟩
theorem tabW_own {W W' : World} {row : Option Nat} (h : TabW W) (hg : W.grownBy W' row) (hr : ∀ r, row = some r → ∃ o : Obj, W.heap[r]? = some o ∧ o.isCells = false) : TabW W' := fun j hj => cell_kept (h j hj) hg hr
theorem good_own {w W W' : World} {B : Nat} {S : Words} {row : Option Nat} (h : Good w B S W) (hg : W.grownBy W' row) (hr : ∀ r, row = some r → w.heap.size ≤ r ∧ ∃ o : Obj, W.heap[r]? = some o ∧ o.isCells = false) : Good w B S W' :=
  ⟨rowAt_own h.1 hg (fun r e => (hr r e).2), Below.grown h.2.1 hg h.2.1.size (fun k e => (hr k e).1), tabW_own h.2.2.1 hg (fun r e => (hr r e).2), h.2.2.2⟩

/-- The law's boxes (the result, the second set, the last number), and the two sets. -/
structure RBox (w : World) (K B C : Nat) (S T : Words) (l : Int) (W : World) : Prop where
  r : Boxed W w.heap.size 4 (.bool false)
  t : Boxed W K 25 (.pointer (some ⟨C, 0, none⟩))
  l : Boxed W (K + 1) 3 (.int .i64 l)
  two : Two w B C S T W
  c : C < K
  k : w.heap.size < K
  rc : w.heap.size < C
theorem boxed_own' {b : Nat} {t : TypeId} {v : Value} {W W' : World} {row : Option Nat} (h : Boxed W b t v) (hg : W.grownBy W' row) (hr : ∀ r, row = some r → ∃ o : Obj, W.heap[r]? = some o ∧ o.isCells = false) : Boxed W' b t v :=
  (hg.block b h.lt (fun e => by
    obtain ⟨o, ho, hc⟩ := hr b e.symm
    rw [show W.heap[b]? = _ from h] at ho; cases ho; cases hc)).trans h
theorem RBox.own {w W W' : World} {K B C : Nat} {S T : Words} {l : Int} {row : Option Nat} (h : RBox w K B C S T l W) (hg : W.grownBy W' row) (hr : ∀ r, row = some r → w.heap.size ≤ r ∧ ∃ o : Obj, W.heap[r]? = some o ∧ o.isCells = false) : RBox w K B C S T l W' :=
  ⟨boxed_own' h.r hg (fun r e => (hr r e).2), boxed_own' h.t hg (fun r e => (hr r e).2), boxed_own' h.l hg (fun r e => (hr r e).2), ⟨good_own h.two.1 hg hr, good_own h.two.2.1 hg hr, h.two.2.2⟩, h.c, h.k, h.rc⟩
theorem stays_grown {lo hi : Nat} {W W' : World} {c : Nat} (hg : W.grownBy W' (some c)) (hc : c < lo ∨ hi ≤ c) (hh : hi ≤ W.heap.size) : Stays lo hi W W' := fun i h1 h2 => hg.block i (by omega) (fun e => by cases e; omega)
theorem put_rbox (w : World) (K B C Bd : Nat) (S T : Words) (l x : Int) (W : World) (h : RBox w K B C S T l W) (hs : K + 3 ≤ W.heap.size) (hB : K + 3 ≤ Bd) :
    Calls Tryd.prog 15 #[.pointer (some ⟨C, 0, none⟩), .int .i64 x] W fun e W' => (∃ v, e = .returned v) ∧ RBox w K B C S (putS T x) l W' ∧ KeepsFrom Bd W W' ∧ KpR (K + 1 + 1) W W' ∧ K + 3 ≤ W'.heap.size :=
  (put_any _ C T x W h.two.2.1.1).mono fun e W' ⟨he, hR, hg⟩ => by
    have hc := h.c
    have hk := h.k
    have hrc := h.rc
    have h0 := h.two.1.2.2.2.2
    exact ⟨⟨_, he⟩, ⟨h.r.kept hg (fun e => by cases e; omega), h.t.kept hg (fun e => by cases e; omega), h.l.kept hg (fun e => by cases e; omega), ⟨h.two.1.far hg h.two.2.2 h.two.2.1.2.2.2.1, h.two.2.1.turn hR hg, h.two.2.2⟩, h.c, h.k, h.rc⟩,
      KeepsFrom.of_grownBy hg (fun j e => by cases e; omega), ⟨stays_grown hg (by omega) (by omega), stays_grown hg (by omega) (by omega)⟩, Nat.le_trans hs hg.size⟩

theorem row_box_ne {T t : TypeId} {W : World} {b c : Nat} {S : Words} {v : Value} (h : RowAt T W b S) (g : Boxed W c t v) : b ≠ c := fun e => by
  subst e
  have h1 := h.1
  rw [show W.heap[b]? = _ from g] at h1
  have h2 : #[v] = rowCells S := by simpa using (by injection h1 with h1; injection h1 with h1)
  have := rowCells_size S
  rw [← h2] at this
  simp at this
theorem rbox_last {w W : World} {K B C : Nat} {S T : Words} {l : Int} (q : Int) (h : RBox w K B C S T l W) : RBox w K B C S T q (W.setCell ⟨K + 1, 0, none⟩ (.int .i64 q)) := by
  have hg := grownBy_setCell' W (K + 1) (.int .i64 q)
  have hk := h.k
  have hc := h.c
  have hB := row_box_ne h.two.1.1 h.l
  refine ⟨h.r.other (by omega) _, h.t.other (by omega) _, h.l.set _, ⟨h.two.1.far hg hB (by omega), h.two.2.1.far hg (by omega) (by omega), h.two.2.2⟩, h.c, h.k, h.rc⟩

theorem size_setCell' (W : World) (b : Nat) (v : Value) : (W.setCell ⟨b, 0, none⟩ v).heap.size = W.heap.size := by simp [World.setCell]
theorem lastOf_bd (pre : List Rn) : -2 ≤ lastOf (-2) pre ∧ lastOf (-2) pre < 16384 := by
  rcases List.eq_nil_or_concat pre with rfl | ⟨l, x, rfl⟩
  · simp [lastOf]
  · rw [List.concat_eq_append, lastOf_snoc]
    have := x.2
    omega

set_option maxRecDepth 100000 in
set_option maxHeartbeats 2000000 in
theorem setsRuns_in (n : Nat) (hn : 3 ≤ n) (ms : List Int) (a : Option Addr) (ca : Nat) (w : World) (hT : TabW w) (hm : IntsAt w (.slice a ms.length ca) ms) (l1 : ms.length ≤ 2000) :
    CallsIn Fence.wide n Tryd.prog 7 #[.slice a ms.length ca] w fun e W' => e = .returned (.bool true) ∧ Below w.heap.size w W' := by
  have h1 : 1 ≤ n := by omega
  have i1 : (ms.length : Int) ≤ 2000 := by omega
  have i2 : decide (2000 < (ms.length : Int)) = false := decide_eq_false (by omega)
  have hb1 : Below w.heap.size w (w.alloc (.cells #[.bool false] 4)) := (Below.refl _ w).alloc (Nat.le_refl _) _
  have HB1 := hi hb1
  have HT := hi hT
  have HM := hi hm
  have L1 := hi l1
  clear hT hm l1 hb1
  refine callsIn_of_wp_marks Tryd.func7 rfl trivial ?_ rfl
  simp only [Tryd.ntmps7, List.size_toArray, List.length_cons, List.length_nil, Nat.reduceAdd, Nat.reduceSub, Array.replicate_succ, Array.replicate_zero, List.push_toArray, List.append_toArray, List.nil_append, List.cons_append]
  gi_wp2_with (first
    | (refine ⟨trivial, ?_⟩; gi_at_call 9; refine (callsIn_wide.2 (awake_any _ (HT.out.below HB1.out))).mono ?_; rintro e W2 ⟨rfl, hb2⟩; have HB2 := hi (HB1.out.trans (hb2.mono HB1.out.size)); have HR2 := hi (Boxed.kept (Boxed.new w 4 (.bool false)) (Below.grew hb2) (by simp)); clear hb2)
    | (refine ⟨trivial, ?_⟩; gi_at_call 10; ((with_reducible refine (callsIn_wide.2 (of_made ms a ca w _ HB2.out (HT.out.below HB2.out) HT.out.lt HM.out (by have := L1.out; omega) (putAll S0 ms) rfl)).mono ?_); rintro e W3 ⟨B, rfl, g, hb⟩; have GS := hi g; have HR3 := hi (HR2.out.kept (Below.grew hb) (by simp)); clear g hb))
    | (refine ⟨trivial, ?_⟩; gi_at_call 10; ((with_reducible refine (callsIn_wide.2 (of_two3 w _ B _ GS.out)).mono ?_); rintro e W4 ⟨C, rfl, g, hb, hCs⟩; have G2 := hi g; have HRC := hi (Nat.lt_of_lt_of_le HR3.out.lt hCs); have HR4 := hi (HR3.out.kept (Below.grew hb) (by simp)); clear g hb hCs))
    | (refine ⟨trivial, ?_⟩; gi_at_call 35; ((with_reducible refine (callsIn_wide.2 (runs_any B (putAll S0 ms) _ (by exact G2.out.l.row.below (((Below.refl _ _).alloc (Nat.le_refl _) _).alloc (by simp) _)))).mono ?_); rintro e W5 ⟨rfl, hF, hb5, hz5⟩))
    | gi_in)
  simp only [World.size_alloc] at hF hz5
  have hbA : Below W4.heap.size W4 ((W4.alloc (.cells #[.pointer (some ⟨C, 0, none⟩)] 25)).alloc (.cells #[.int .i64 (-2)] 3)) := ((Below.refl _ _).alloc (Nat.le_refl _) _).alloc (by simp) _
  have hb45 : Below W4.heap.size W4 W5 := hbA.trans (hb5.mono (by simp; omega))
  have hX : RBox w W4.heap.size B C (putAll S0 ms) S0 (-2) W5 := by
    refine ⟨HR4.out.kept (Below.grew hb45) (by simp), ?_, ?_, G2.out.below hb45, G2.out.r.row.lt, HR4.out.lt, HRC.out⟩
    · exact (((Boxed.new W4 25 _).alloc _).kept (Below.grew hb5) (by simp))
    · have := Boxed.new (W4.alloc (.cells #[.pointer (some ⟨C, 0, none⟩)] 25)) 3 (.int .i64 (-2))
      rw [World.size_alloc] at this
      exact this.kept (Below.grew hb5) (by simp)
  have hlt4 := HR4.out.lt
  obtain ⟨xs, hxs⟩ := runFrom_ex (putAll S0 ms) 16384 0 (by omega) (by omega)
  have HF := hi hF
  have HX := hi hxs
  obtain ⟨K, hK⟩ : ∃ K, W4.heap.size = K := ⟨_, rfl⟩
  rw [hK] at hX hz5 hlt4 hb45 HF
  simp only [hK]
  have HBX := hi hX
  clear hX hbA hb5 hF hxs hK
  refine wpIn_rangeFunc_ownG rfl h1 (gf := 51) (lb := #[.pointer (some ⟨K + 1 + 1, 0, none⟩)]) rfl trivial (enters_of Tryd.func51 (by kernel_rfl) rfl)
    (runs_stops (n - 1) (by omega) (K + 1 + 1) (putAll S0 ms) xs HX.out W5 HF.out HBX.out.two.l.tab) (fun h k => kpR_t h k) (kpR_b (by omega) (by omega)) (Below.refl _ _) (fun _ => rfl)
    (fun pre W => RBox w K B C (putAll S0 ms) (fillAll S0 pre) (lastOf (-2) pre) W ∧ K + 3 ≤ W.heap.size)
    (fun _ (ps : List Rn) _ => ∃ (a : List Rn) (b : Rn), ps = a ++ [b] ∧ b.1.1 ≤ lastOf (-2) a + 1)
    (fun s W W' row h hg hr => ⟨h.1.own hg (fun r e => ⟨by have := (hr r e).1; omega, (hr r e).2⟩), Nat.le_trans h.2 hg.size⟩)
    (fun _ _ _ _ _ hs _ _ => hs)
    ⟨HBX.out, by omega⟩
    (fun x => { tmps := #[.slice a ms.length ca, undef, .pointer (some ⟨w.heap.size, 0, none⟩), .bool true, .pointer (some ⟨B, 0, none⟩), .pointer (some ⟨K, 0, none⟩), .pointer (some ⟨K + 1, 0, none⟩), .int .i64 x.1.1, .int .i64 x.1.2, undef, .bool true, .bool true, .bool false, .slice a ms.length ca, .int .i64 ms.length, .bool false, undef, .slice a ms.length ca, .pointer (some ⟨B, 0, none⟩), .bool true, .bool false, .bool false, .pointer (some ⟨B, 0, none⟩), .bool false, .bool false, .pointer (some ⟨C, 0, none⟩), .pointer (some ⟨B, 0, none⟩), .func (.func 51) #[] #[.pointer (some ⟨K + 1 + 1, 0, none⟩)], .int .i64 x.1.1, .int .i64 x.1.2, undef, undef, undef, undef, undef, undef, undef, undef, undef, undef, undef, undef, undef, undef, undef, undef, undef, undef, undef, undef, undef, undef, undef, undef, undef, undef, undef, undef, undef, undef], defers := [] }) ?assign ?body ?done ?stop
  case assign =>
    intro l x W K' hK
    gi_wp2
    exact hK
  case body =>
    rintro l pre x W ⟨hX, hsz⟩ hlt
    obtain ⟨hl1, hl2⟩ := lastOf_bd pre
    obtain ⟨la, hla⟩ : ∃ la, lastOf (-2) pre = la := ⟨_, rfl⟩
    obtain ⟨T, hT⟩ : ∃ T, fillAll S0 pre = T := ⟨_, rfl⟩
    rw [hla] at hX hl1 hl2
    rw [hT] at hX
    obtain ⟨p, hp⟩ : ∃ p, x.1.1 = p := ⟨_, rfl⟩
    obtain ⟨q, hq⟩ : ∃ q, x.1.2 = q := ⟨_, rfl⟩
    have hab := x.2
    rw [hp, hq] at hab ⊢
    obtain ⟨hp0, hpq, hq1⟩ := hab
    have hpq' : decide (q < p) = false := decide_eq_false (by omega)
    have hc1 := hX.t.cell
    have hc2 := hX.l.cell
    have hc3 := hX.r.cell
    have hf3 := hX.r.frozen
    have HBY := hi hX
    have HLA := hi hla
    have HTT := hi hT
    have HP := hi hp
    have HQ := hi hq
    clear hX hla hT hp hq
    by_cases hgt : p ≤ la + 1
    · gi_wp2
      exact ⟨(KeepsOthers.setCell _ _ _).from _, pre, x, rfl, by rw [HLA.out, HP.out]; exact hgt⟩
    · have hgt' : la + 1 < p := by omega
      clear hgt
      gi_wp2
      gi_loopw [9] (fun m wr => ∃ k : Nat, m = .int .i64 (p + k) ∧ Hi ((k : Int) ≤ q + 1 - p ∧ RBox w K B C (putAll S0 ms) (fillS T p k) la wr ∧ K + 3 ≤ wr.heap.size ∧ KeepsFrom W5.heap.size W wr ∧ KpR (K + 1 + 1) W wr)) (fun m _ => (q + 1 - intOf m).toNat)
      case atStart => exact ⟨0, by simp, hi ⟨by simp; omega, HBY.out, hsz, KeepsFrom.refl _ _, ⟨Stays.refl _ _ _, Stays.refl _ _ _⟩⟩⟩
      case round =>
        obtain ⟨k, rfl, HH⟩ := hrel
        have hc4 := HH.out.2.1.t.cell
        have hc5 := HH.out.2.1.l.cell
        have hf5 := HH.out.2.1.l.frozen
        have h2 : 1 ≤ n - 1 - 1 := by omega
        by_cases hk : p + (k : Int) ≤ q
        · gi_wp2_with (first
            | (refine ⟨trivial, ?_⟩; gi_at_call 15; ((with_reducible refine (CallsIn.inRound l (callsIn_wide.2 (put_rbox w K B C W5.heap.size (putAll S0 ms) (fillS T p k) la (p + (k : Int)) wr HH.out.2.1 HH.out.2.2.1 (by omega)))).mono ?_); rintro e W6 ⟨⟨v, rfl⟩, hx6, hk6, hp6, hs6⟩; have HX6 := hi hx6; clear hx6))
            | gi_in)
          go_roundw
          case rel => exact ⟨k + 1, by simp only [Value.int.injEq, true_and]; omega, hi ⟨by omega, HX6.out, hs6, HH.out.2.2.2.1.trans hk6, kpR_t HH.out.2.2.2.2 hp6⟩⟩
          case measure => simp only [intOf]; omega
        · have hk' : q < p + (k : Int) := by omega
          clear hk
          gi_wp2
          obtain ⟨g1, g2, g3, g4, g5⟩ := HH.out
          have hs := size_setCell' wr (K + 1) (.int .i64 q)
          exact ⟨by rw [← hz5]; exact g4.trans ((KeepsOthers.setCell _ _ _).from _), kpR_t g5 ⟨stays_grown (grownBy_setCell' wr (K + 1) _) (by have := g2.k; omega) (by omega), stays_grown (grownBy_setCell' wr (K + 1) _) (by omega) (by omega)⟩,
            by rw [fillAll_snoc, lastOf_snoc, HTT.out, HP.out, HQ.out, show (q - p + 1).toNat = k by omega]; exact rbox_last q g2, by rw [hs]; exact g3⟩
  case done =>
    rintro D ys W hD rfl ⟨hX, hsz⟩ hK
    have hc1 := hX.t.cell
    have hsame : sameW (putAll S0 ms) (fillAll S0 ys) = true := sameW_of (words_ext (fun j hj => (fill_same HX.out j hj).symm) hX.two.1.1.2 hX.two.2.1.1.2)
    have HS := hi hsame
    have HBY := hi hX
    have HK := hi hK
    clear hX hsame hK
    gi_wp2_with (first
      | (refine ⟨trivial, ?_⟩; gi_at_call 31; ((with_reducible refine (callsIn_wide.2 (same_made w W B C _ _ HBY.out.two.l HBY.out.two.r HS.out)).mono ?_); rintro e W6 ⟨rfl, hb6⟩; have hc6 := (HBY.out.r.kept (Below.grew hb6) (by simp)).cell; have hf6 := (HBY.out.r.kept (Below.grew hb6) (by simp)).frozen; have HB6 := hi hb6; clear hb6))
      | gi_in)
    have hD6 := HB6.out.block D (Array.getElem?_eq_some_iff.1 HK.out).1 |>.trans HK.out
    have hD7 := (KeepsOthers.setCell W6 ⟨w.heap.size, 0, none⟩ (.bool true)).same D _ hD6 rfl
    have hcR := cell_kept (World.cell?_setCell_same' W6 ⟨w.heap.size, 0, none⟩ (.bool true) (by rw [hc6]; rfl)) (grownBy_putObj' _ D (.deferred none)) (fun r e => by cases e; exact ⟨_, hD7, rfl⟩)
    refine ⟨by simp, .inl ⟨_, _, rfl, run_takeDeferred hD7, ?_⟩⟩
    refine ⟨.bool true, by simp [results, Tryd.results7, go_sem, hcR], rfl, ?_⟩
    have hb := (HBY.out.two.l.2.1.trans (HB6.out.mono (Nat.le_of_lt (by have := HBY.out.r.lt; omega)))).setCell (p := ⟨w.heap.size, 0, none⟩) (Nat.le_refl _) (.bool true)
    exact hb.trans (belowK_b (w := w) (Nat.le_refl _) _ D _ _ (by omega) hD7 rfl rfl)
  case stop =>
    rintro D c ps W _ hp ⟨a', b', rfl, hle⟩ _
    have := rising_all HX.out a' b' hp
    omega

set_option maxRecDepth 100000 in
set_option maxHeartbeats 1000000 in
theorem setsRuns_any (ms : List Int) (a : Option Addr) (ca : Nat) (w : World) (hT : TabW w) (hm : IntsAt w (.slice a ms.length ca) ms) :
    Calls Tryd.prog 7 #[.slice a ms.length ca] w fun e w' => e = .returned (.bool true) ∧ Below w.heap.size w w' := by
  by_cases l1 : ms.length ≤ 2000
  · exact callsIn_wide.1 (setsRuns_in 3 (Nat.le_refl _) ms a ca w hT hm l1)
  · have i1 : (2000 : Int) < (ms.length : Int) := by omega
    have hb1 : Below w.heap.size w (w.alloc (.cells #[.bool false] 4)) := (Below.refl _ w).alloc (Nat.le_refl _) _
    have HB1 := hi hb1
    have HT := hi hT
    clear hT hm l1 hb1
    refine (callsIn_wide (n := 3)).1 ?_
    refine callsIn_of_wp_marks Tryd.func7 rfl trivial ?_ rfl
    simp only [Tryd.ntmps7, List.size_toArray, List.length_cons, List.length_nil, Nat.reduceAdd, Nat.reduceSub, Array.replicate_succ, Array.replicate_zero, List.push_toArray, List.append_toArray, List.nil_append, List.cons_append]
    gi_wp2_with (first
      | (refine ⟨trivial, ?_⟩; gi_at_call 9; refine (callsIn_wide.2 (awake_any _ (HT.out.below HB1.out))).mono ?_; rintro e W2 ⟨rfl, hb2⟩; have hB := Boxed.kept (Boxed.new w 4 (.bool false)) (Below.grew hb2) (by simp); have HB2 := hi (HB1.out.trans (hb2.mono HB1.out.size)); have hc2 := hB.cell; have hf2 := hB.frozen; clear hb2 hB)
      | gi_in)
    have hcR := World.cell?_setCell_same' W2 ⟨w.heap.size, 0, none⟩ (.bool true) (by rw [hc2]; rfl)
    exact ⟨.bool true, by simp [results, Tryd.results7, go_sem, hcR], rfl, HB2.out.setCell (p := ⟨w.heap.size, 0, none⟩) (Nat.le_refl _) _⟩

end Go.Proofs.YtmdlknddlmpddaaDoor
