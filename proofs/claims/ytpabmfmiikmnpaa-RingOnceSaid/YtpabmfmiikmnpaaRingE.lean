/-
  The law's Each: all that a loop over ring.Each yields, in a slice of its own, at every input.
-/
import Derived.Test.YtpabmfmiikmnpaaRingD
namespace Go.Proofs.Ytpabmfmiikmnpaa
open Go.ChangeShapes Go.WideShapes Go.ChangeAt Go.RowKit Go.Shelf
set_option linter.unusedVariables false
attribute [local go_sem] Oper.semAt_some

theorem info_int : (Try.prog.info? 3).map (fun i => (i.zero, i.size, i.bytes)) = some (some (.int .i64 0), 1, 8) := by kernel_rfl

theorem xsR_len (s t r v : Int) : (xsR s t r v).length ≤ 1024 := by
  unfold xsR
  split
  · rename_i h
    obtain ⟨hr, hv⟩ := mayB_out2 h
    have := leftR_bd hr hv
    rw [xsV_len]; omega
  · simp

/-- What the law's Each answers: a slice that owns these numbers, in a row of the call's own; nil just where there are none. -/
def OwnsInts (w W' : World) (v : Value) (xs : List Int) : Prop := W'.ownsRow w.heap.size 3 1 v xs.length (xs.map (Value.int .i64)) ∧ (v = .slice none 0 0 ↔ xs = [])

set_option maxRecDepth 100000 in
set_option maxHeartbeats 2000000 in
theorem lawEach_in (n : Nat) (hn : 3 ≤ n) (s t r v : Int) (hs : s ≤ 9223372036854775807) (w : World) :
    CallsIn Fence.wide n Try.prog 22 #[.agg #[.int .i64 s, .int .i64 t], .int .i64 r, .int .i64 v] w fun e W' => ∃ o, e = .returned o ∧ OwnsInts w W' o (xsR s t r v) ∧ Below w.heap.size w W' := by
  have h1 : 1 ≤ n := by omega
  have hmax := xsR_len s t r v
  obtain ⟨i0, hi, hz0, hz1, hz2⟩ := info_parts info_int
  refine callsIn_of_wp_marks Try.func22 rfl trivial ?_ rfl
  simp only [Try.ntmps22, List.size_toArray, List.length_cons, List.length_nil, Nat.reduceAdd, Nat.reduceSub, Array.replicate_succ, Array.replicate_zero, List.push_toArray, List.append_toArray, List.nil_append, List.cons_append]
  gi_wp2_with (first
    | (refine ⟨trivial, ?_⟩; gi_at_call 27; refine (each_in (n - 1) s t r v _).mono ?_; rintro e w' ⟨rfl, rfl⟩)
    | gi_in)
  have bO := Boxed.new (w.alloc (.cells #[.int .i64 s, .int .i64 t] 23)) 33 (.slice none 0 0)
  obtain ⟨W2, hW2⟩ : ∃ W2, ((w.alloc (.cells #[.int .i64 s, .int .i64 t] 23)).alloc (.cells #[.slice none 0 0] 33)) = W2 := ⟨_, rfl⟩
  have hz : W2.heap.size = w.heap.size + 2 := by rw [← hW2]; simp
  have hb2 : Below w.heap.size w W2 := by rw [← hW2]; exact ((Below.refl _ w).alloc (Nat.le_refl _) _).alloc (by simp) _
  rw [hW2, World.size_alloc] at bO
  rw [hW2]
  have b3 := box3_new W2 s t r v
  obtain ⟨W5, hW5⟩ : ∃ W5, ((W2.alloc (.cells #[.int .i64 s, .int .i64 t] 23)).alloc (.cells #[.int .i64 r] 3)).alloc (.cells #[.int .i64 v] 3) = W5 := ⟨_, rfl⟩
  have hz5 : W5.heap.size = w.heap.size + 5 := by rw [← hW5]; simp [hz]
  have hb5 : Below W2.heap.size W2 W5 := by rw [← hW5]; exact (((Below.refl _ W2).alloc (Nat.le_refl _) _).alloc (by simp) _).alloc (by simp; omega) _
  have bO5 : Boxed W5 (w.heap.size + 1) 33 (.slice none 0 0) := bO.kept (Below.grew hb5) (by simp)
  have hB5 : Below w.heap.size w W5 := hb2.trans (hb5.mono (by omega))
  rw [hW5] at b3 ⊢
  rw [show W2.heap.size = w.heap.size + 1 + 1 from hz] at b3
  clear hW5 hW2 hb2 hb5 bO hz
  refine wpIn_rangeFunc_ownG rfl h1 (gf := 28) (lb := #[.pointer (some ⟨w.heap.size + 1 + 1, 0, none⟩), .pointer (some ⟨w.heap.size + 1 + 1 + 1, 0, none⟩), .pointer (some ⟨w.heap.size + 1 + 1 + 2, 0, none⟩)]) rfl trivial (enters_of Try.func28 (by kernel_rfl) rfl)
    (each_stops (n - 1) (by omega) (w.heap.size + 1 + 1) s t r v hs W5 b3) (fun h k => Stays.trans h k) (stays_b (by omega)) (Below.refl _ _) (fun _ => rfl)
    (fun pre W => (∃ o, Boxed W (w.heap.size + 1) 33 o ∧ W.ownsRow (w.heap.size + 1 + 1 + 3) 3 1 o pre.length (pre.map (Value.int .i64)) ∧ (o = .slice none 0 0 ↔ pre = [])) ∧ Below w.heap.size W5 W)
    (fun _ _ _ => False)
    (OwnFrom.and (Own.from (holdsRow_own (w.heap.size + 1 + 1 + 3) (w.heap.size + 1) 33 3 1 (fun pre => pre.length) (fun pre => pre.map (Value.int .i64)) (fun pre o => o = .slice none 0 0 ↔ pre = [])) _) (ownFrom_below (by omega) (by omega)))
    (fun _ _ _ _ _ hs _ _ => hs)
    ⟨⟨_, bO5, World.ownsRow_nil _ _ _ _, by simp⟩, Below.refl _ _⟩
    (fun x => { tmps := #[.agg #[.int .i64 s, .int .i64 t], .int .i64 r, .int .i64 v, .pointer (some ⟨w.heap.size, 0, none⟩), undef, undef, .slice none 0 0, .pointer (some ⟨w.heap.size + 1, 0, none⟩), .int .i64 x, .agg #[.int .i64 s, .int .i64 t], .int .i64 r, .int .i64 v, .func (.func 28) #[] #[.pointer (some ⟨w.heap.size + 1 + 1, 0, none⟩), .pointer (some ⟨w.heap.size + 1 + 1 + 1, 0, none⟩), .pointer (some ⟨w.heap.size + 1 + 1 + 2, 0, none⟩)], .int .i64 x, undef, undef, undef, undef, undef, undef, undef, undef], defers := [] }) ?assign ?body ?done ?stop
  case assign =>
    intro l x W K hK
    gi_wp2
    exact hK
  case body =>
    rintro l pre x W ⟨⟨o, hv, hrow, hnil⟩, hB⟩ hlt
    have hc := hv.cell
    have hsz := hB.size
    have hlen : pre.length + 1 ≤ 1024 := by omega
    gi_wp2_with (first
      | (gi_at_builtin; refine wpListIn_append_own _ rfl _ _ 33 rfl (w.heap.size + 1 + 1 + 3) 3 i0 (.int .i64 0) 1 8 Try.underlying33 hi hz0 hz1 hz2 rfl (by decide) _ _ _ rfl (hrow.alloc _) ⟨W.heap.size, 0, none⟩ 1 1 [.int .i64 x] rfl rfl (cell_one_new _ _ _) (by simp [Value.oneCell']) (by unfold maxLen; omega) (by omega) (by simp; omega) ?_; intro v' w1 hown' hgrow _; obtain ⟨g', cap', rfl⟩ := ownsRow_succ hown'; obtain ⟨hv1, hv2, hr2, hk2, hb2, hs2⟩ := boxed_appended (lo := w.heap.size) hv (by decide) hrow (by omega) (by omega) (by omega) hown' hgrow; have hc1 := hv1.cell; have hf1 := hv1.frozen; have hc2 := hv2.cell)
      | gi_in)
    exact ⟨hk2.from _, hs2, ⟨_, hv2, by simpa using hr2, by simp⟩, hB.trans hb2⟩
  case done =>
    rintro D ys W hD rfl ⟨⟨o, hv, hrow, hnil⟩, hB⟩ hK
    have hc := hv.cell
    gi_wp2
    refine ⟨by simp, .inl ⟨_, _, rfl, run_takeDeferred hK, ?_⟩⟩
    exact ⟨_, results_tmp rfl _ _ _, o, rfl, ⟨ownsRow_putObj (ownsRow_base hrow (by omega)) _ hK rfl, hnil⟩, (hB5.trans hB).trans (belowK_b (w := w) (Nat.le_refl _) W D _ _ (by omega) hK rfl rfl)⟩
  case stop =>
    rintro D c pre W _ _ h _
    exact h.elim

end Go.Proofs.Ytpabmfmiikmnpaa
