/-
  The members from any number on: what From's iterator gives where the number lies beyond all members, too; and the laws' from: the first ones of them, so many at most.
-/
import Derived.Test.YtmdlknddlmpddaaDoorSetN
import Derived.Test.YtmdlknddlmpddaaDoorKept
namespace Go.Proofs.YtmdlknddlmpddaaDoor
open Go.ChangeShapes Go.WideShapes Go.ChangeAt Go.RowKit Go.Shelf
set_option linter.unusedVariables false
attribute [local go_sem] Oper.semAt_some

/-- xs lists the members from f on, in increasing order (f from 0 on). -/
def ListFrom (S : Words) (f : Int) (xs : List Int) : Prop := 0 ≤ f ∧ ((f ≤ 16384 ∧ MemFrom S f.toNat xs) ∨ (16384 < f ∧ xs = []))
theorem listFrom_ex (S : Words) (f : Int) (h : 0 ≤ f) : ∃ xs, ListFrom S f xs := by
  by_cases e : f ≤ 16384
  · obtain ⟨l, hl⟩ := memFrom_ex S 16384 f.toNat (by omega) (by omega)
    exact ⟨l, h, .inl ⟨e, hl⟩⟩
  · exact ⟨[], h, .inr ⟨by omega, rfl⟩⟩
theorem listFrom_len {S : Words} {f : Int} {xs : List Int} (h : ListFrom S f xs) : xs.length ≤ 16384 := by
  rcases h.2 with ⟨_, h⟩ | ⟨_, rfl⟩
  · have := memFrom_len h; omega
  · simp

set_option maxRecDepth 100000 in
set_option maxHeartbeats 1000000 in
theorem from1_far (n : Nat) (hn : 1 ≤ n) (l b : Nat) (S : Words) (f : Int) (hf : 16384 < f) (J : List Int → World → Prop) (W : World) (hB : FromAt W b S f) (h0 : J [] W) (Jx : List Int → World → Prop) :
    CallsIn Fence.wide n Tryd.prog 49 #[.func (.yield l) #[] #[], .pointer (some ⟨b, 0, none⟩), .pointer (some ⟨b + 1, 0, none⟩)] W fun e W' => (∃ v, e = .returned v) ∧
      ((∃ ys, ys = [] ∧ J ys W') ∨ (∃ pre, pre <+: [] ∧ Jx pre W')) := by
  have c1 := cell_of_box hB.2 0
  simp at c1
  have HNX := hi (next_far (some ⟨b, 0, none⟩) f W (by omega))
  clear hB
  refine callsIn_of_wp Tryd.func49 rfl trivial ?_ rfl
  simp only [Tryd.ntmps49, List.size_toArray, List.length_cons, List.length_nil, Nat.reduceAdd, Nat.reduceSub, Array.replicate_succ, Array.replicate_zero, List.push_toArray, List.append_toArray, List.nil_append, List.cons_append]
  gi_wp2_with (first
    | (refine ⟨trivial, ?_⟩; gi_at_call 50; ((with_reducible refine (callsIn_wide.2 HNX.out).mono ?_); rintro e w1 ⟨rfl, rfl⟩))
    | gi_in)
  gi_loopw [4] (fun p wr => p = .int .i64 16384 ∧ wr = W) (fun p _ => 0)
  case atStart => exact ⟨rfl, rfl⟩
  case round =>
    obtain ⟨rfl, rfl⟩ := hrel
    gi_wp2
    go_end0
    exact ⟨⟨_, rfl⟩, .inl ⟨[], rfl, h0⟩⟩

theorem listFrom_stops (n : Nat) (hn : 1 ≤ n) (b : Nat) (S : Words) (f : Int) (xs : List Int) (hxs : ListFrom S f xs) (w : World) (hB : FromAt w b S f) (hT : TabW w) :
    SeqStopsK Fence.wide n Tryd.prog 49 #[.pointer (some ⟨b, 0, none⟩), .pointer (some ⟨b + 1, 0, none⟩)] (fun x : Int => #[Value.int .i64 x]) (KpS b) (fun ys => ys = xs) (fun pre => pre <+: xs) xs.length w := by
  obtain ⟨h0, ⟨h1, h2⟩ | ⟨h1, rfl⟩⟩ := hxs
  · have e : f = ((f.toNat : Nat) : Int) := by omega
    rw [e] at hB
    exact from_stops n hn b S f.toNat xs (by omega) h2 w hB hT
  · exact fun l J Jx W hW hJ hJx hY h0 => from1_far n hn l b S f h1 J W (hB.below hW) h0 Jx

theorem take_all {xs : List Int} {k : Nat} (h : xs.length ≤ k) : xs.take k = xs := List.take_of_length_le h
theorem take_pre {xs pre : List Int} {x : Int} {k : Nat} (h : pre ++ [x] <+: xs) (h1 : pre.length = k) : xs.take k = pre := by
  obtain ⟨r, rfl⟩ := h
  subst h1
  simp

set_option maxRecDepth 100000 in
set_option maxHeartbeats 2000000 in
theorem from_in (n : Nat) (hn : 3 ≤ n) (b : Nat) (S : Words) (m most : Int) (xs : List Int) (w : World) (hR : RowAt 58 w b S) (hT : TabW w) (hm : 0 ≤ most) (hxs : ListFrom S (max m 0) xs) :
    CallsIn Fence.wide n Tryd.prog 23 #[.pointer (some ⟨b, 0, none⟩), .int .i64 m, .int .i64 most] w fun e W' => ∃ o, e = .returned o ∧ OwnsInts w W' o (xs.take most.toNat) ∧ Below w.heap.size w W' := by
  have h1 : 1 ≤ n := by omega
  have hmax := listFrom_len hxs
  have h0w := hT.lt
  have hb1 : Below w.heap.size w ((w.alloc (.cells #[.int .i64 most] 3)).alloc (.cells #[.slice none 0 0] 22)) := ((Below.refl _ w).alloc (Nat.le_refl _) _).alloc (by simp) _
  have hall := from_any b S m ((w.alloc (.cells #[.int .i64 most] 3)).alloc (.cells #[.slice none 0 0] 22)) (hR.below hb1)
  have HALL := hi hall
  have HT := hi hT
  have HX := hi hxs
  clear hall hR hT hxs
  obtain ⟨i0, hi', hz0, hz1, hz2⟩ := info_parts info_int
  refine callsIn_of_wp_marks Tryd.func23 rfl trivial ?_ rfl
  simp only [Tryd.ntmps23, List.size_toArray, List.length_cons, List.length_nil, Nat.reduceAdd, Nat.reduceSub, Array.replicate_succ, Array.replicate_zero, List.push_toArray, List.append_toArray, List.nil_append, List.cons_append]
  gi_wp2_with (first
    | (refine ⟨trivial, ?_⟩; gi_at_call 34; refine (callsIn_wide.2 HALL.out).mono ?_; rintro e W3 ⟨rfl, hF, hb3, hz3⟩)
    | gi_in)
  rw [World.size_alloc, World.size_alloc] at hF hz3
  have bM1 : Boxed ((w.alloc (.cells #[.int .i64 most] 3)).alloc (.cells #[.slice none 0 0] 22)) w.heap.size 3 (.int .i64 most) := (Boxed.new w 3 (.int .i64 most)).alloc _
  have bO1 := Boxed.new (w.alloc (.cells #[.int .i64 most] 3)) 22 (.slice none 0 0)
  rw [World.size_alloc] at bO1
  have bM := bM1.kept (Below.grew hb3) (by simp)
  have bO := bO1.kept (Below.grew hb3) (by simp)
  have hB3 : Below w.heap.size w W3 := hb1.trans (hb3.mono (by simp; omega))
  have hT3 := (HT.out.below hb1).below hb3
  clear hb3 bM1 bO1
  obtain ⟨I, hIe⟩ : ∃ I : List Int → World → Prop, I = fun pre W => (∃ o, Boxed W (w.heap.size + 1) 22 o ∧ W.ownsRow (w.heap.size + 1 + 1 + 2) 3 1 o pre.length (pre.map (Value.int .i64)) ∧ (o = .slice none 0 0 ↔ pre = [])) ∧ (Kept (fun k => k = w.heap.size + 1) W3 W ∧ (pre.length : Int) ≤ most) := ⟨_, rfl⟩
  have hI : OwnFrom W3.heap.size I := by
    rw [hIe]
    exact OwnFrom.and (Own.from (holdsRow_own (w.heap.size + 1 + 1 + 2) (w.heap.size + 1) 22 3 1 (fun pre => pre.length) (fun pre => pre.map (Value.int .i64)) (fun pre o => o = .slice none 0 0 ↔ pre = [])) _) (OwnFrom.and (Kept.ownFrom (Nat.le_refl _)) (ownFrom_pure _ _))
  have hI0 : I [] W3 := by
    rw [hIe]
    exact ⟨⟨_, bO, World.ownsRow_nil _ _ _ _, by simp⟩, Kept.refl _ _, by simpa using hm⟩
  refine wpIn_rangeFunc_ownG rfl h1 (gf := 49) (lb := #[.pointer (some ⟨w.heap.size + 1 + 1, 0, none⟩), .pointer (some ⟨w.heap.size + 1 + 1 + 1, 0, none⟩)]) rfl trivial (enters_of Tryd.func49 (by kernel_rfl) rfl)
    (listFrom_stops (n - 1) (by omega) (w.heap.size + 1 + 1) S (max m 0) xs HX.out W3 hF hT3) (fun h k => kpS_t h k) (kpS_b (by omega) (by omega)) (Below.refl _ _) (fun _ => rfl)
    I (fun c ps W => c = .exit 0 ∧ ∃ pre x, ps = pre ++ [x] ∧ I pre W ∧ most ≤ (pre.length : Int))
    hI (fun c s W W' row hs hg hr => by obtain ⟨hc, pre, x, e, h, hl⟩ := hs; exact ⟨hc, pre, x, e, hI pre W W' row h hg hr, hl⟩) hI0
    (fun x => { tmps := #[.pointer (some ⟨b, 0, none⟩), .int .i64 m, .int .i64 most, undef, undef, .pointer (some ⟨w.heap.size, 0, none⟩), .slice none 0 0, .pointer (some ⟨w.heap.size + 1, 0, none⟩), .int .i64 x, .pointer (some ⟨b, 0, none⟩), .int .i64 m, .func (.func 49) #[] #[.pointer (some ⟨w.heap.size + 1 + 1, 0, none⟩), .pointer (some ⟨w.heap.size + 1 + 1 + 1, 0, none⟩)], .int .i64 x, undef, undef, undef, undef, undef, undef, undef, undef, undef], defers := [] }) ?assign ?body ?done ?stop
  case assign =>
    intro l x W K hK
    gi_wp2
    exact hK
  case body =>
    rintro l pre x W hIW hlt
    have hIW' := hi hIW
    rw [hIe] at hIW
    obtain ⟨⟨o, hv, hrow, hnil⟩, hKp, hpl⟩ := hIW
    have hc := hv.cell
    have hcM := (hKp.boxed bM (by omega)).cell
    have hsz := hKp.size
    have hlen : pre.length + 1 ≤ 16384 := by omega
    obtain ⟨ad, cap, rfl⟩ : ∃ (ad : Option Addr) (cap : Nat), o = .slice ad pre.length cap := by
      rcases hrow.2 with ⟨rfl, h0⟩ | ⟨g, cap, cur, rfl, _⟩
      · exact ⟨none, 0, by rw [h0]⟩
      · exact ⟨_, _, rfl⟩
    have HE := hi hIe
    clear hIe
    by_cases hge : most ≤ (pre.length : Int)
    · gi_wp2
      exact ⟨KeepsFrom.refl _ _, rfl, pre, x, rfl, hIW'.out, hge⟩
    · have hlt' : (pre.length : Int) < most := by omega
      gi_wp2_with (first
        | (gi_at_builtin; refine wpListIn_append_own _ rfl _ _ 22 rfl (w.heap.size + 1 + 1 + 2) 3 i0 (.int .i64 0) 1 8 Tryd.underlying22 hi' hz0 hz1 hz2 rfl (by decide) _ _ _ rfl (hrow.alloc _) ⟨W.heap.size, 0, none⟩ 1 1 [.int .i64 x] rfl rfl (cell_one_new _ _ _) (by simp [Value.oneCell']) (by unfold maxLen; omega) (by omega) (by simp; omega) ?_; intro v' w1 hown' hgrow _; obtain ⟨g', cap', rfl⟩ := ownsRow_succ hown'; obtain ⟨hv1, hv2, hr2, hk2, hb2, hs2⟩ := boxed_appended (lo := w.heap.size + 1) hv (by decide) hrow (by omega) (Nat.le_refl _) (by omega) hown' hgrow; have hc1 := hv1.cell; have hf1 := hv1.frozen; have hc2 := hv2.cell)
        | gi_in)
      rw [HE.out]
      exact ⟨hk2.from _, ⟨fun i _ h => hb2.block i (by omega), fun i h1 h2 => hs2 i (by omega) (by omega)⟩, ⟨_, hv2, by simpa using hr2, by simp⟩, hKp.of_append hb2 hs2 (by omega) rfl, by simp; omega⟩
  case done =>
    rintro D ys W hD rfl hIW hK
    rw [hIe] at hIW
    obtain ⟨⟨o, hv, hrow, hnil⟩, hKp, hpl⟩ := hIW
    have hc := hv.cell
    gi_wp2
    refine ⟨by simp, .inl ⟨_, _, rfl, run_takeDeferred hK, ?_⟩⟩
    exact ⟨_, results_tmp rfl _ _ _, o, rfl, by rw [take_all (by omega)]; exact ⟨ownsRow_putObj (ownsRow_base hrow (by omega)) _ hK rfl, hnil⟩, (hB3.trans (hKp.toBelow (by omega) (by intro k hk; omega))).trans (belowK_b (w := w) (Nat.le_refl _) W D _ _ (by omega) hK rfl rfl)⟩
  case stop =>
    rintro D c ps W hD hp ⟨rfl, pre, x, rfl, hIW, hle⟩ hK
    rw [hIe] at hIW
    obtain ⟨⟨o, hv, hrow, hnil⟩, hKp, hpl⟩ := hIW
    have hc := hv.cell
    gi_wp2
    refine ⟨by simp, .inl ⟨_, _, rfl, run_takeDeferred hK, ?_⟩⟩
    exact ⟨_, results_tmp rfl _ _ _, o, rfl, by rw [take_pre hp (by omega)]; exact ⟨ownsRow_putObj (ownsRow_base hrow (by omega)) _ hK rfl, hnil⟩, (hB3.trans (hKp.toBelow (by omega) (by intro k hk; omega))).trans (belowK_b (w := w) (Nat.le_refl _) W D _ _ (by omega) hK rfl rfl)⟩

end Go.Proofs.YtmdlknddlmpddaaDoor
