/-
  The law's Each (all that a loop over ring.Each yields, in a slice of its own) and ring.Waits, at every input.
-/
import Derived.Test.YtpabmfmiikmnpaaRingC
namespace Go.Proofs.Ytpabmfmiikmnpaa
open Go.ChangeShapes Go.WideShapes Go.ChangeAt Go.RowKit Go.Shelf
set_option linter.unusedVariables false
attribute [local go_sem] Oper.semAt_some

theorem mayB_out2 {s t r v : Int} (h : (mayB s t r && mayB s t v) = true) : mayB s t r = true ∧ mayB s t v = true := by simpa using h

set_option maxRecDepth 100000 in
set_option maxHeartbeats 1000000 in
theorem each0_in (n : Nat) (hn : 1 ≤ n) (l b : Nat) (s t r v : Int) (hrv : (mayB s t r && mayB s t v) = false) (hs : s ≤ 9223372036854775807) (J : List Int → World → Prop) (W : World) (hJ : AbidesFrom W.heap.size J)
    (hB : Box3 W b s t r v) (h0 : J [] W) :
    CallsIn Fence.wide n Try.prog 28 #[.func (.yield l) #[] #[], .pointer (some ⟨b, 0, none⟩), .pointer (some ⟨b + 1, 0, none⟩), .pointer (some ⟨b + 2, 0, none⟩)] W fun e W' => (∃ v, e = .returned v) ∧ J [] W' := by
  obtain ⟨c0, c1, c2, c3⟩ := hB.cells
  cases hr : mayB s t r
  · have HR := Lib.hid hr
    clear hrv hr
    refine callsIn_of_wp Try.func28 rfl trivial ?_ rfl
    simp only [Try.ntmps28, List.size_toArray, List.length_cons, List.length_nil, Nat.reduceAdd, Nat.reduceSub, Array.replicate_succ, Array.replicate_zero, List.push_toArray, List.append_toArray, List.nil_append, List.cons_append]
    gi_wp2_with (first
      | (refine ⟨trivial, ?_⟩; gi_at_call 13; ((with_reducible refine (callsIn_wide.2 (may_no s t r _ HR.out hs)).mono ?_); rintro e w1 ⟨rfl, hb⟩; have hB1 := hB.below hb; have h01 := abides_below hJ h0 hb; obtain ⟨d0, d1, d2, d3⟩ := hB1.cells))
      | (refine ⟨trivial, ?_⟩)
      | gi_in)
    refine bodyPost_ret (results_none rfl _ _ _) rfl ?_
    exact ⟨⟨_, rfl⟩, h01⟩
  · have hv : mayB s t v = false := by simpa [hr] using hrv
    have HR := Lib.hid hr
    have HV := Lib.hid hv
    clear hrv hr hv
    refine callsIn_of_wp Try.func28 rfl trivial ?_ rfl
    simp only [Try.ntmps28, List.size_toArray, List.length_cons, List.length_nil, Nat.reduceAdd, Nat.reduceSub, Array.replicate_succ, Array.replicate_zero, List.push_toArray, List.append_toArray, List.nil_append, List.cons_append]
    gi_wp2_with (first
      | (refine ⟨trivial, ?_⟩; gi_at_call 13; ((with_reducible refine (callsIn_wide.2 (may_yes s t r _ HR.out hs)).mono ?_); rintro e w1 ⟨rfl, hb⟩; have hB1 := hB.below hb; have h01 := abides_below hJ h0 hb; obtain ⟨d0, d1, d2, d3⟩ := hB1.cells))
      | (refine ⟨trivial, ?_⟩; gi_at_call 13; ((with_reducible refine (callsIn_wide.2 (may_no s t v _ HV.out hs)).mono ?_); rintro e w2 ⟨rfl, hb2⟩; have hB2 := hB1.below hb2; have h02 := abides_below hJ h01 hb2; obtain ⟨e0, e1, e2, e3⟩ := hB2.cells))
      | gi_in)
    refine bodyPost_ret (results_none rfl _ _ _) rfl ?_
    exact ⟨⟨_, rfl⟩, h02⟩

theorem each_stops (n : Nat) (hn : 1 ≤ n) (b : Nat) (s t r v : Int) (hs : s ≤ 9223372036854775807) (w : World) (hB : Box3 w b s t r v) :
    SeqStopsK Fence.wide n Try.prog 28 #[.pointer (some ⟨b, 0, none⟩), .pointer (some ⟨b + 1, 0, none⟩), .pointer (some ⟨b + 2, 0, none⟩)] (fun x : Int => #[Value.int .i64 x]) (Stays b (b + 3)) (fun ys => ys = xsR s t r v) (fun pre => pre <+: xsR s t r v) (xsR s t r v).length w := fun l J Jx W hW hJ hJx hY h0 => by
  have hBW : Box3 W b s t r v := hB.below hW
  cases hrv : mayB s t r && mayB s t v
  · refine (each0_in n hn l b s t r v hrv hs J W hJ hBW h0).mono ?_
    rintro e W' ⟨he, hj⟩
    exact ⟨he, .inl ⟨[], by simp [xsR, hrv], hj⟩⟩
  · obtain ⟨hr, hv⟩ := mayB_out2 hrv
    have hx : xsR s t r v = xsV s t r v := by simp only [xsR, hrv]; rfl
    rw [hx] at hY ⊢
    rw [xsV_len] at hY
    exact each1_in n hn l b s t r v hr hv hs J Jx W hJ hY hBW h0

set_option maxHeartbeats 1000000 in
theorem each_in (n : Nat) (s t r v : Int) (w : World) :
    CallsIn Fence.wide n Try.prog 27 #[.agg #[.int .i64 s, .int .i64 t], .int .i64 r, .int .i64 v] w fun e w' =>
      e = .returned (.func (.func 28) #[] #[.pointer (some ⟨w.heap.size, 0, none⟩), .pointer (some ⟨w.heap.size + 1, 0, none⟩), .pointer (some ⟨w.heap.size + 2, 0, none⟩)]) ∧
      w' = ((w.alloc (.cells #[.int .i64 s, .int .i64 t] 23)).alloc (.cells #[.int .i64 r] 3)).alloc (.cells #[.int .i64 v] 3) := by
  refine callsIn_of_wp Try.func27 rfl trivial ?_ rfl
  simp only [Try.ntmps27, List.size_toArray, List.length_cons, List.length_nil, Nat.reduceAdd, Nat.reduceSub, Array.replicate_succ, Array.replicate_zero, List.push_toArray, List.append_toArray, List.nil_append, List.cons_append]
  gi_wp2
  go_ret
  exact ⟨rfl, rfl⟩

theorem box3_new (w : World) (s t r v : Int) : Box3 (((w.alloc (.cells #[.int .i64 s, .int .i64 t] 23)).alloc (.cells #[.int .i64 r] 3)).alloc (.cells #[.int .i64 v] 3)) w.heap.size s t r v := by
  have h1 := World.alloc_heap_new w (.cells #[.int .i64 s, .int .i64 t] 23)
  have h2 := World.alloc_heap_new (w.alloc (.cells #[.int .i64 s, .int .i64 t] 23)) (.cells #[.int .i64 r] 3)
  have h3 := World.alloc_heap_new ((w.alloc (.cells #[.int .i64 s, .int .i64 t] 23)).alloc (.cells #[.int .i64 r] 3)) (.cells #[.int .i64 v] 3)
  simp only [World.size_alloc] at h2 h3
  exact ⟨(Below.heap_alloc _ _ _ (by simp; omega)).trans ((Below.heap_alloc _ _ _ (by simp)).trans h1), (Below.heap_alloc _ _ _ (by simp)).trans h2, h3⟩

theorem ownsRow_base {W : World} {base base' : Nat} {e : TypeId} {size : Nat} {v : Value} {k : Nat} {xs : List Value} (h : W.ownsRow base e size v k xs) (hb : base' ≤ base) : W.ownsRow base' e size v k xs := by
  refine ⟨h.1, ?_⟩
  rcases h.2 with hn | ⟨g, cap, cur, hv, hbg, rest⟩
  · exact .inl hn
  · exact .inr ⟨g, cap, cur, hv, Nat.le_trans hb hbg, rest⟩

/-- As 'Boxed.appended', where the row lies behind what stays. -/
theorem boxed_appended {W w1 : World} {lo hi B : Nat} {t e : TypeId} {size : Nat} {v v' : Value} {k m : Nat} {xs ys : List Value} {tmp : Obj}
    (hv : Boxed W B t v) (hte : t ≠ e) (hrow : W.ownsRow hi e size v k xs) (hhi : hi ≤ W.heap.size) (hlo : lo ≤ B) (hBh : B < hi)
    (hown' : w1.ownsRow hi e size v' m ys) (hgrow : (W.alloc tmp).grownBy w1 v.ownBlock) :
    Boxed w1 B t v ∧ Boxed (w1.setCell ⟨B, 0, none⟩ v') B t v' ∧ (w1.setCell ⟨B, 0, none⟩ v').ownsRow hi e size v' m ys ∧ KeepsOthers W (w1.setCell ⟨B, 0, none⟩ v') ∧ Below lo W (w1.setCell ⟨B, 0, none⟩ v') ∧ Stays (B + 1) hi W (w1.setCell ⟨B, 0, none⟩ v') := by
  obtain ⟨a1, a2, _, a4, a5⟩ := hv.appended hte (ownsRow_base hrow (show lo ≤ hi by omega)) (show lo ≤ W.heap.size by omega) hlo (ownsRow_base hown' (show lo ≤ hi by omega)) hgrow
  refine ⟨a1, a2, hown'.kept (grownBy_setCell' w1 B v') (.inr (a1.not_row hte hown').symm), a4, a5, fun i h1 h2 => ?_⟩
  refine (Below.heap_setCell _ _ _ i (by simp; omega)).trans ((hgrow.block i (by simp; omega) fun e' => ?_).trans (Below.heap_alloc _ _ _ (by omega)))
  rcases hrow.2 with ⟨rfl, _⟩ | ⟨g, cap, cur, rfl, hb, _, _⟩
  · simp [Value.ownBlock] at e'
  · simp [Value.ownBlock] at e'
    omega

end Go.Proofs.Ytpabmfmiikmnpaa
