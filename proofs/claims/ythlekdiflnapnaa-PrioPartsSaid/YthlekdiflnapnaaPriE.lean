/-
  The law's levels: all that a loop over prio.Levels yields, in a slice of its own, at every input; and Points, which counts them.
-/
import Derived.Test.YthlekdiflnapnaaPriD
import Derived.Test.YthlekdiflnapnaaInts
namespace Go.Proofs.Ythlekdiflnapnaa
open Go.ChangeShapes Go.WideShapes Go.ChangeAt Go.RowKit Go.Shelf
set_option linter.unusedVariables false
attribute [local go_sem] Oper.semAt_some

theorem info_int : (Try.prog.info? 3).map (fun i => (i.zero, i.size, i.bytes)) = some (some (.int .i64 0), 1, 8) := by kernel_rfl

theorem ownsRow_base {W : World} {base base' : Nat} {e : TypeId} {size : Nat} {v : Value} {k : Nat} {xs : List Value} (h : W.ownsRow base e size v k xs) (hb : base' ≤ base) : W.ownsRow base' e size v k xs := by
  refine ⟨h.1, ?_⟩
  rcases h.2 with hn | ⟨g, cap, cur, hv, hbg, rest⟩
  · exact .inl hn
  · exact .inr ⟨g, cap, cur, hv, Nat.le_trans hb hbg, rest⟩

/-- As 'Boxed.appended', where the row lies behind what stays. -/
theorem boxed_appended {W w1 : World} {lo hi B : Nat} {t e : TypeId} {size : Nat} {v v' : Value} {k m : Nat} {xs ys : List Value} {tmp : Obj}
    (hv : Boxed W B t v) (hte : t ≠ e) (hrow : W.ownsRow hi e size v k xs) (hhi : hi ≤ W.heap.size) (hlo : lo ≤ B) (hBh : B < hi)
    (hown' : w1.ownsRow hi e size v' m ys) (hgrow : (W.alloc tmp).grownBy w1 v.ownBlock) :
    Boxed w1 B t v ∧ Boxed (w1.setCell ⟨B, 0, none⟩ v') B t v' ∧ (w1.setCell ⟨B, 0, none⟩ v').ownsRow hi e size v' m ys ∧ KeepsOthers W (w1.setCell ⟨B, 0, none⟩ v') ∧ Below lo W (w1.setCell ⟨B, 0, none⟩ v') ∧ Stays (B + 1) hi W (w1.setCell ⟨B, 0, none⟩ v') := by
  obtain ⟨a1, a2, _, a4, a5⟩ := hv.appended hte (ownsRow_base hrow (show lo ≤ hi by omega)) (show lo ≤ W.heap.size by omega) hlo (ownsRow_base hown' (show lo ≤ hi by omega)) hgrow
  refine ⟨a1, a2, hown'.kept (grownBy_setCell' w1 B v') (.inr (a1.not_row hte hown').symm), a4, a5, fun i h1 h2 => ?_⟩
  refine (Below.heap_setCell _ _ _ i (by simp; omega)).trans ((hgrow.block i (by simp; omega) fun e' => ?_).trans (Below.heap_alloc _ _ _ (by omega)))
  rcases hrow.2 with ⟨rfl, _⟩ | ⟨g, cap, cur, rfl, hb, _, _⟩
  · simp [Value.ownBlock] at e'
  · simp [Value.ownBlock] at e'
    omega

/-- A slice that owns these numbers, in a row of the call's own; nil just where there are none. -/
def OwnsInts (w W' : World) (v : Value) (xs : List Int) : Prop := W'.ownsRow w.heap.size 3 1 v xs.length (xs.map (Value.int .i64)) ∧ (v = .slice none 0 0 ↔ xs = [])

theorem lvs_len (m : Int) : (lvs m).length ≤ 32 := lvUp_len m 32

set_option maxRecDepth 100000 in
set_option maxHeartbeats 2000000 in
theorem lawLevels_in (n : Nat) (hn : 3 ≤ n) (m : Int) (w : World) :
    CallsIn Fence.wide n Try.prog 21 #[.int .i64 m] w fun e W' => ∃ o, e = .returned o ∧ OwnsInts w W' o (lvs m) ∧ Below w.heap.size w W' := by
  have h1 : 1 ≤ n := by omega
  have hmax := lvs_len m
  obtain ⟨i0, hi, hz0, hz1, hz2⟩ := info_parts info_int
  refine callsIn_of_wp_marks Try.func21 rfl trivial ?_ rfl
  simp only [Try.ntmps21, List.size_toArray, List.length_cons, List.length_nil, Nat.reduceAdd, Nat.reduceSub, Array.replicate_succ, Array.replicate_zero, List.push_toArray, List.append_toArray, List.nil_append, List.cons_append]
  gi_wp2_with (first
    | (refine ⟨trivial, ?_⟩; gi_at_call 28; refine (levels_in (n - 1) m _).mono ?_; rintro e w' ⟨rfl, rfl⟩)
    | gi_in)
  have bO := Boxed.new w 28 (.slice none 0 0)
  have hb2 : Below w.heap.size w (w.alloc (.cells #[.slice none 0 0] 28)) := (Below.refl _ w).alloc (Nat.le_refl _) _
  obtain ⟨W2, hW2⟩ : ∃ W2, (w.alloc (.cells #[.slice none 0 0] 28)) = W2 := ⟨_, rfl⟩
  have hz : W2.heap.size = w.heap.size + 1 := by rw [← hW2]; simp
  rw [hW2] at bO hb2 ⊢
  have b3 : Box1 (W2.alloc (.cells #[.int .i64 m] 3)) W2.heap.size m := World.alloc_heap_new W2 _
  obtain ⟨W5, hW5⟩ : ∃ W5, (W2.alloc (.cells #[.int .i64 m] 3)) = W5 := ⟨_, rfl⟩
  have hz5 : W5.heap.size = w.heap.size + 2 := by rw [← hW5]; simp [hz]
  have hb5 : Below W2.heap.size W2 W5 := by rw [← hW5]; exact ((Below.refl _ W2).alloc (Nat.le_refl _) _)
  have bO5 : Boxed W5 w.heap.size 28 (.slice none 0 0) := bO.kept (Below.grew hb5) (by simp)
  have hB5 : Below w.heap.size w W5 := hb2.trans (hb5.mono (by omega))
  rw [hW5] at b3 ⊢
  rw [hz] at b3
  clear hW5 hW2 hb2 hb5 bO hz
  refine wpIn_rangeFunc_ownG rfl h1 (gf := 30) (lb := #[.pointer (some ⟨w.heap.size + 1, 0, none⟩)]) rfl trivial (enters_of Try.func30 (by kernel_rfl) rfl)
    (levels_stops (n - 1) (by omega) (w.heap.size + 1) m W5 b3) (fun h k => Stays.trans h k) (stays_b (by omega)) (Below.refl _ _) (fun _ => rfl)
    (fun pre W => (∃ o, Boxed W w.heap.size 28 o ∧ W.ownsRow (w.heap.size + 2) 3 1 o pre.length (pre.map (Value.int .i64)) ∧ (o = .slice none 0 0 ↔ pre = [])) ∧ Below w.heap.size W5 W)
    (fun _ _ _ => False)
    (OwnFrom.and (Own.from (holdsRow_own (w.heap.size + 2) w.heap.size 28 3 1 (fun pre => pre.length) (fun pre => pre.map (Value.int .i64)) (fun pre o => o = .slice none 0 0 ↔ pre = [])) _) (ownFrom_below (by omega) (by omega)))
    (fun _ _ _ _ _ hs _ _ => hs)
    ⟨⟨_, bO5, World.ownsRow_nil _ _ _ _, by simp⟩, Below.refl _ _⟩
    (fun x => { tmps := #[.int .i64 m, undef, .slice none 0 0, .pointer (some ⟨w.heap.size, 0, none⟩), .int .i64 x, .int .i64 m, .func (.func 30) #[] #[.pointer (some ⟨w.heap.size + 1, 0, none⟩)], .int .i64 x, undef, undef, undef, undef, undef, undef, undef, undef], defers := [] }) ?assign ?body ?done ?stop
  case assign =>
    intro l x W K hK
    gi_wp2
    exact hK
  case body =>
    rintro l pre x W ⟨⟨o, hv, hrow, hnil⟩, hB⟩ hlt
    have hc := hv.cell
    have hsz := hB.size
    have hlen : pre.length + 1 ≤ 32 := by omega
    gi_wp2_with (first
      | (gi_at_builtin; refine wpListIn_append_own _ rfl _ _ 28 rfl (w.heap.size + 2) 3 i0 (.int .i64 0) 1 8 Try.underlying28 hi hz0 hz1 hz2 rfl (by decide) _ _ _ rfl (hrow.alloc _) ⟨W.heap.size, 0, none⟩ 1 1 [.int .i64 x] rfl rfl (cell_one_new _ _ _) (by simp [Value.oneCell']) (by unfold maxLen; omega) (by omega) (by simp; omega) ?_; intro v' w1 hown' hgrow _; obtain ⟨g', cap', rfl⟩ := ownsRow_succ hown'; obtain ⟨hv1, hv2, hr2, hk2, hb2, hs2⟩ := boxed_appended (lo := w.heap.size) hv (by decide) hrow (by omega) (by omega) (by omega) hown' hgrow; have hc1 := hv1.cell; have hf1 := hv1.frozen; have hc2 := hv2.cell)
      | gi_in)
    exact ⟨hk2.from _, hs2, ⟨_, hv2, by simpa using hr2, by simp⟩, hB.trans hb2⟩
  case done =>
    rintro D ys W hD rfl ⟨⟨o, hv, hrow, hnil⟩, hB⟩ hK
    have hc := hv.cell
    gi_wp2
    refine ⟨by simp, .inl ⟨_, _, rfl, run_takeDeferred hK, ?_⟩⟩
    exact ⟨_, results_tmp rfl _ _ _, o, rfl, ⟨ownsRow_putObj (ownsRow_base hrow (by omega)) _ hK rfl, hnil⟩, (hB5.trans hB).trans (belowK_b (w := w) (Nat.le_refl _) W D _ _ (by omega) hK rfl rfl)⟩
  case stop =>
    rintro D c pre W _ _ h _
    exact h.elim

theorem zip_one (i : Nat) (v : Value) (t : Array Value) : Array.foldl (fun t x => t.setIfInBounds x.fst x.snd) t ((#[i] : Array Nat).zip #[v]) = t.setIfInBounds i v := by simp

def pointsV (g p : Int) : Int := ((lvs (maskV g p)).length : Int)

set_option maxRecDepth 100000 in
set_option maxHeartbeats 2000000 in
theorem points_in (n : Nat) (hn : 3 ≤ n) (g p : Int) (w : World) :
    CallsIn Fence.wide n Try.prog 23 #[.int .i64 g, .int .i64 p] w fun e W' => e = .returned (.int .i64 (pointsV g p)) ∧ Below w.heap.size w W' := by
  have h1 : 1 ≤ n := by omega
  have hmax := lvs_len (maskV g p)
  refine callsIn_of_wp_marks Try.func23 rfl trivial ?_ rfl
  simp only [Try.ntmps23, List.size_toArray, List.length_cons, List.length_nil, Nat.reduceAdd, Nat.reduceSub, Array.replicate_succ, Array.replicate_zero, List.push_toArray, List.append_toArray, List.nil_append, List.cons_append]
  gi_wp2_with (first
    | (refine ⟨trivial, ?_⟩; gi_at_call 13; ((with_reducible refine (callsIn_wide.2 (mask_any g p _)).mono ?_); rintro e w1 ⟨rfl, rfl⟩))
    | (refine ⟨trivial, ?_⟩; gi_at_call 28; refine (levels_in (n - 1) (maskV g p) _).mono ?_; rintro e w' ⟨rfl, rfl⟩)
    | gi_in)
  have bO := Boxed.new w 3 (.int .i64 0)
  have hb2 : Below w.heap.size w (w.alloc (.cells #[.int .i64 0] 3)) := (Below.refl _ w).alloc (Nat.le_refl _) _
  obtain ⟨W2, hW2⟩ : ∃ W2, (w.alloc (.cells #[.int .i64 0] 3)) = W2 := ⟨_, rfl⟩
  have hz : W2.heap.size = w.heap.size + 1 := by rw [← hW2]; simp
  rw [hW2] at bO hb2 ⊢
  have b3 : Box1 (W2.alloc (.cells #[.int .i64 (maskV g p)] 3)) W2.heap.size (maskV g p) := World.alloc_heap_new W2 _
  obtain ⟨W5, hW5⟩ : ∃ W5, (W2.alloc (.cells #[.int .i64 (maskV g p)] 3)) = W5 := ⟨_, rfl⟩
  have hz5 : W5.heap.size = w.heap.size + 2 := by rw [← hW5]; simp [hz]
  have hb5 : Below W2.heap.size W2 W5 := by rw [← hW5]; exact ((Below.refl _ W2).alloc (Nat.le_refl _) _)
  have bO5 : Boxed W5 w.heap.size 3 (.int .i64 0) := bO.kept (Below.grew hb5) (by simp)
  have hB5 : Below w.heap.size w W5 := hb2.trans (hb5.mono (by omega))
  rw [hW5] at b3 ⊢
  rw [hz] at b3
  clear hW5 hW2 hb2 hb5 bO hz
  refine wpIn_rangeFunc_ownG rfl h1 (gf := 30) (lb := #[.pointer (some ⟨w.heap.size + 1, 0, none⟩)]) rfl trivial (enters_of Try.func30 (by kernel_rfl) rfl)
    (levels_stops (n - 1) (by omega) (w.heap.size + 1) (maskV g p) W5 b3) (fun h k => Stays.trans h k) (stays_b (by omega)) (Below.refl _ _) (fun _ => rfl)
    (fun pre W => Boxed W w.heap.size 3 (.int .i64 (pre.length : Int)) ∧ Below w.heap.size W5 W)
    (fun _ _ _ => False)
    (OwnFrom.and (Own.from (boxed_own _ _ _) _) (ownFrom_below (by omega) (by omega)))
    (fun _ _ _ _ _ hs _ _ => hs)
    ⟨bO5, Below.refl _ _⟩
    (fun x => { tmps := #[.int .i64 g, .int .i64 p, undef, undef, .int .i64 0, .pointer (some ⟨w.heap.size, 0, none⟩), .int .i64 g, .int .i64 p, .int .i64 (maskV g p), .func (.func 30) #[] #[.pointer (some ⟨w.heap.size + 1, 0, none⟩)], .int .i64 x, undef, undef, undef], defers := [] }) ?assign ?body ?done ?stop
  case assign =>
    intro l x W K hK
    gi_wp2
    rw [zip_one]
    exact hK
  case body =>
    rintro l pre x W ⟨hv, hB⟩ hlt
    have hc := hv.cell
    have hf := hv.frozen
    have hsz := hB.size
    have hlen : pre.length + 1 ≤ 32 := by omega
    gi_wp2
    exact ⟨(KeepsOthers.setCell _ _ _).from _, fun k h1 h2 => Below.heap_setCell _ _ _ k (by simp; omega), by have := hv.set (.int .i64 ((pre.length : Int) + 1)); simpa using this, hB.setCell (p := ⟨w.heap.size, 0, none⟩) (by simp) _⟩
  case done =>
    rintro D ys W hD rfl ⟨hv, hB⟩ hK
    have hc := hv.cell
    gi_wp2
    refine ⟨by simp, .inl ⟨_, _, rfl, run_takeDeferred hK, ?_⟩⟩
    exact ⟨_, results_tmp rfl _ _ _, rfl, (hB5.trans hB).trans (belowK_b (w := w) (Nat.le_refl _) W D _ _ (by omega) hK rfl rfl)⟩
  case stop =>
    rintro D c pre W _ _ h _
    exact h.elim

theorem points_any (g p : Int) (w : World) : Calls Try.prog 23 #[.int .i64 g, .int .i64 p] w fun e W' => e = .returned (.int .i64 (pointsV g p)) ∧ Below w.heap.size w W' :=
  callsIn_wide.1 (points_in 3 (Nat.le_refl _) g p w)

/-- The slice that comes is some value that holds the numbers. -/
def SomeInts (w : World) (xs : List Int) (e : Ending) (W' : World) : Prop := ∃ a cap, e = .returned (.slice a xs.length cap) ∧ IntsAt W' (.slice a xs.length cap) xs ∧ Below w.heap.size w W'
theorem someInts_of {w W' : World} {xs : List Int} {o : Value} (h : OwnsInts w W' o xs) (hb : Below w.heap.size w W') : SomeInts w xs (.returned o) W' := by
  obtain ⟨a, cap, rfl, hcap, hc⟩ := intsAt_row h.1
  exact ⟨a, cap, rfl, ⟨a, cap, rfl, hcap, hc⟩, hb⟩
theorem intsAt_grew {W W' : World} {v : Value} {xs : List Int} (h : IntsAt W v xs) (hb : Below W.heap.size W W') : IntsAt W' v xs := by
  obtain ⟨a, cap, hv, hcap, hc⟩ := h
  refine ⟨a, cap, hv, hcap, fun hx => ?_⟩
  obtain ⟨b, off, ha, hcs⟩ := hc hx
  exact ⟨b, off, ha, fun j hj => cell_kept (hcs j hj) (Below.grew hb) (fun r e => by cases e)⟩

theorem lawLevels_any (m : Int) (w : World) : Calls Try.prog 21 #[.int .i64 m] w (SomeInts w (lvs m)) :=
  (callsIn_wide.1 (lawLevels_in 3 (Nat.le_refl _) m w)).mono fun e W' ⟨o, he, ho, hb⟩ => by subst he; exact someInts_of ho hb

end Go.Proofs.Ythlekdiflnapnaa
