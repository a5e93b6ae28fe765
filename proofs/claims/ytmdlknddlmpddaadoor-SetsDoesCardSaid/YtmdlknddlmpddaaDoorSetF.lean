/-
  The laws' List: all members in increasing order, in a slice of its own.
-/
import Derived.Test.YtmdlknddlmpddaaDoorSetE
namespace Go.Proofs.YtmdlknddlmpddaaDoor
open Go.ChangeShapes Go.WideShapes Go.ChangeAt Go.RowKit Go.Shelf
set_option linter.unusedVariables false
attribute [local go_sem] Oper.semAt_some

theorem info_int : (Tryd.prog.info? 3).map (fun i => (i.zero, i.size, i.bytes)) = some (some (.int .i64 0), 1, 8) := by kernel_rfl
def OwnsInts (w W' : World) (v : Value) (xs : List Int) : Prop := W'.ownsRow w.heap.size 3 1 v xs.length (xs.map (Value.int .i64)) ∧ (v = .slice none 0 0 ↔ xs = [])

theorem RowAt.below {T : TypeId} {W W' : World} {b : Nat} {S : Words} (h : RowAt T W b S) (k : Below W.heap.size W W') : RowAt T W' b S := ⟨(k.block b h.lt).trans h.1, h.2⟩

theorem memFrom_len {S : Words} : ∀ {l : List Int} {m : Nat}, MemFrom S m l → l.length ≤ 16384 - m
  | [], _, _ => Nat.zero_le _
  | x :: r, m, h => by
    obtain ⟨k, _, hk, h1, h2⟩ := h
    have := memFrom_len h2
    have := h1.1
    simp only [List.length_cons]; omega

theorem from_stops (n : Nat) (hn : 1 ≤ n) (b : Nat) (S : Words) (f : Nat) (xs : List Int) (hf : f ≤ 16384) (hxs : MemFrom S f xs) (w : World) (hB : FromAt w b S f) (hT : TabW w) :
    SeqStopsK Fence.wide n Tryd.prog 49 #[.pointer (some ⟨b, 0, none⟩), .pointer (some ⟨b + 1, 0, none⟩)] (fun x : Int => #[Value.int .i64 x]) (KpS b) (fun ys => ys = xs) (fun pre => pre <+: xs) xs.length w := fun l J Jx W hW hJ hJx hY h0 =>
  from1_in n hn l b S f xs hf hxs J Jx W hJ hY (hB.below hW) (hT.below hW) h0

theorem kpS_t {b : Nat} {A B C : World} (h : KpS b A B) (k : KpS b B C) : KpS b A C := ⟨h.1.trans k.1, h.2.trans k.2⟩
theorem kpS_b {b : Nat} {w : World} (h0 : 1 ≤ w.heap.size) (hn : b + 2 ≤ w.heap.size) (W : World) (l : Nat) (o o' : Obj) (hl : w.heap.size ≤ l) (h : W.heap[l]? = some o) (h1 : o.isCells = false) (h2 : o.isWalk = false) : KpS b W (W.putObj l o') :=
  ⟨stays_b h0 W l o o' hl h h1 h2, stays_b hn W l o o' hl h h1 h2⟩

set_option maxRecDepth 100000 in
set_option maxHeartbeats 2000000 in
theorem list_in (n : Nat) (hn : 3 ≤ n) (b : Nat) (S : Words) (xs : List Int) (w : World) (hR : RowAt 58 w b S) (hT : TabW w) (hxs : MemFrom S 0 xs) :
    CallsIn Fence.wide n Tryd.prog 33 #[.pointer (some ⟨b, 0, none⟩)] w fun e W' => ∃ o, e = .returned o ∧ OwnsInts w W' o xs ∧ Below w.heap.size w W' := by
  have h1 : 1 ≤ n := by omega
  have hmax := memFrom_len hxs
  have h0w := hT.lt
  have hb1 : Below w.heap.size w (w.alloc (.cells #[.slice none 0 0] 22)) := (Below.refl _ w).alloc (Nat.le_refl _) _
  have hall := all_any b S (w.alloc (.cells #[.slice none 0 0] 22)) (hR.below hb1)
  have HALL := Lib.hid hall
  have HT := Lib.hid hT
  have HX := Lib.hid hxs
  clear hall hR hT hxs
  obtain ⟨i0, hi, hz0, hz1, hz2⟩ := info_parts info_int
  refine callsIn_of_wp_marks Tryd.func33 rfl trivial ?_ rfl
  simp only [Tryd.ntmps33, List.size_toArray, List.length_cons, List.length_nil, Nat.reduceAdd, Nat.reduceSub, Array.replicate_succ, Array.replicate_zero, List.push_toArray, List.append_toArray, List.nil_append, List.cons_append]
  gi_wp2_with (first
    | (refine ⟨trivial, ?_⟩; gi_at_call 48; refine (callsIn_wide.2 HALL.out).mono ?_; rintro e W3 ⟨rfl, hF, hb3, hz3⟩)
    | gi_in)
  rw [World.size_alloc] at hF hz3
  have bO := (Boxed.new w 22 (.slice none 0 0)).kept (Below.grew hb3) (by simp)
  have hB3 : Below w.heap.size w W3 := hb1.trans (hb3.mono (by simp))
  have hT3 := (HT.out.below hb1).below hb3
  clear hb3
  refine wpIn_rangeFunc_ownG rfl h1 (gf := 49) (lb := #[.pointer (some ⟨w.heap.size + 1, 0, none⟩), .pointer (some ⟨w.heap.size + 1 + 1, 0, none⟩)]) rfl trivial (enters_of Tryd.func49 (by kernel_rfl) rfl)
    (from_stops (n - 1) (by omega) (w.heap.size + 1) S 0 xs (by omega) HX.out W3 hF hT3) (fun h k => kpS_t h k) (kpS_b (by omega) (by omega)) (Below.refl _ _) (fun _ => rfl)
    (fun pre W => (∃ o, Boxed W w.heap.size 22 o ∧ W.ownsRow (w.heap.size + 1 + 2) 3 1 o pre.length (pre.map (Value.int .i64)) ∧ (o = .slice none 0 0 ↔ pre = [])) ∧ Below w.heap.size W3 W)
    (fun _ _ _ => False)
    (OwnFrom.and (Own.from (holdsRow_own (w.heap.size + 1 + 2) w.heap.size 22 3 1 (fun pre => pre.length) (fun pre => pre.map (Value.int .i64)) (fun pre o => o = .slice none 0 0 ↔ pre = [])) _) (ownFrom_below (by omega) (by omega)))
    (fun _ _ _ _ _ hs _ _ => hs)
    ⟨⟨_, bO, World.ownsRow_nil _ _ _ _, by simp⟩, Below.refl _ _⟩
    (fun x => { tmps := #[.pointer (some ⟨b, 0, none⟩), undef, .slice none 0 0, .pointer (some ⟨w.heap.size, 0, none⟩), .int .i64 x, .pointer (some ⟨b, 0, none⟩), .func (.func 49) #[] #[.pointer (some ⟨w.heap.size + 1, 0, none⟩), .pointer (some ⟨w.heap.size + 1 + 1, 0, none⟩)], .int .i64 x, undef, undef, undef, undef, undef, undef, undef, undef], defers := [] }) ?assign ?body ?done ?stop
  case assign =>
    intro l x W K hK
    gi_wp2
    exact hK
  case body =>
    rintro l pre x W ⟨⟨o, hv, hrow, hnil⟩, hB⟩ hlt
    have hc := hv.cell
    have hsz := hB.size
    have hlen : pre.length + 1 ≤ 16384 := by omega
    gi_wp2_with (first
      | (gi_at_builtin; refine wpListIn_append_own _ rfl _ _ 22 rfl (w.heap.size + 1 + 2) 3 i0 (.int .i64 0) 1 8 Tryd.underlying22 hi hz0 hz1 hz2 rfl (by decide) _ _ _ rfl (hrow.alloc _) ⟨W.heap.size, 0, none⟩ 1 1 [.int .i64 x] rfl rfl (cell_one_new _ _ _) (by simp [Value.oneCell']) (by unfold maxLen; omega) (by omega) (by simp; omega) ?_; intro v' w1 hown' hgrow _; obtain ⟨g', cap', rfl⟩ := ownsRow_succ hown'; obtain ⟨hv1, hv2, hr2, hk2, hb2, hs2⟩ := boxed_appended (lo := w.heap.size) hv (by decide) hrow (by omega) (Nat.le_refl _) (by omega) hown' hgrow; have hc1 := hv1.cell; have hf1 := hv1.frozen; have hc2 := hv2.cell)
      | gi_in)
    exact ⟨hk2.from _, ⟨fun i _ h => hb2.block i (by omega), hs2⟩, ⟨_, hv2, by simpa using hr2, by simp⟩, hB.trans hb2⟩
  case done =>
    rintro D ys W hD rfl ⟨⟨o, hv, hrow, hnil⟩, hB⟩ hK
    have hc := hv.cell
    gi_wp2
    refine ⟨by simp, .inl ⟨_, _, rfl, run_takeDeferred hK, ?_⟩⟩
    exact ⟨_, results_tmp rfl _ _ _, o, rfl, ⟨ownsRow_putObj (ownsRow_base hrow (by omega)) _ hK rfl, hnil⟩, (hB3.trans hB).trans (belowK_b (w := w) (Nat.le_refl _) W D _ _ (by omega) hK rfl rfl)⟩
  case stop =>
    rintro D c pre W _ _ h _
    exact h.elim

end Go.Proofs.YtmdlknddlmpddaaDoor
