/-
  Package ring: Each and its iterator, for every loop body, in the window form.
-/
import Derived.Test.YtfnokpajendlmaaMjE
import Derived.Test.YtfnokpajendlmaaCmE
namespace Go.Proofs.Ytfnokpajendlmaa
open Go.ChangeShapes Go.WideShapes Go.ChangeAt Go.RowKit Go.Shelf
set_option linter.unusedVariables false
set_option linter.unusedSimpArgs false
attribute [local go_sem] Oper.semAt_some

/-- What the iterator has captured: the ring, read, write: three boxes in a row. -/
structure Box3 (W : World) (b : Nat) (s t r v : Int) : Prop where
  x : CB W b 75 #[.int .i64 s, .int .i64 t]
  y : CB W (b + 1) 3 #[.int .i64 r]
  z : CB W (b + 2) 3 #[.int .i64 v]
theorem Box3.stays {W W' : World} {b : Nat} {s t r v : Int} (h : Box3 W b s t r v) (k : Stays b (b + 3) W W') : Box3 W' b s t r v :=
  ⟨h.x.stays k (by omega) (by omega), h.y.stays k (by omega) (by omega), h.z.stays k (by omega) (by omega)⟩
theorem Box3.lt {W : World} {b : Nat} {s t r v : Int} (h : Box3 W b s t r v) : b + 3 ≤ W.heap.size := h.z.lt
theorem Box3.below {W W' : World} {b : Nat} {s t r v : Int} (h : Box3 W b s t r v) (k : Below W.heap.size W W') : Box3 W' b s t r v := h.stays (Stays.below k h.lt)
theorem Box3.cells {W : World} {b : Nat} {s t r v : Int} (h : Box3 W b s t r v) :
    W.cell? ⟨b, 0, none⟩ = some (.int .i64 s) ∧ W.cell? ⟨b, 1, none⟩ = some (.int .i64 t) ∧ W.cell? ⟨b + 1, 0, none⟩ = some (.int .i64 r) ∧ W.cell? ⟨b + 2, 0, none⟩ = some (.int .i64 v) :=
  ⟨h.x.cell 0, h.x.cell 1, h.y.cell 0, h.z.cell 0⟩
theorem below_gr {W W' : World} (h : Below W.heap.size W W') : W.grownBy W' none := ⟨h.os, h.tape, h.output, h.size, fun k hk _ => h.block k hk⟩
abbrev encI (x : Int) : Array Value := #[.int .i64 x]

set_option maxRecDepth 100000 in
set_option maxHeartbeats 4000000 in
theorem each1_any (l b : Nat) (s t r v : Int) (hr : mayB s t r = true) (hv : mayB s t v = true) (hs : s ≤ 9223372036854775807) (J Jx : List Int → World → Prop) (W : World) (hJ : AbW W.heap.size 0 J)
    (hY : ∀ pre x W1, J pre W1 → pre ++ [x] <+: xsV s t r v → W.heap.size + 0 ≤ W1.heap.size → ∀ m, YieldAt Fence.wide m Try.prog l (encI x) W1 fun e W' =>
      (e = .returned (.bool true) ∧ J (pre ++ [x]) W' ∧ Stays b (b + 3) W1 W') ∨ (e = .returned (.bool false) ∧ Jx (pre ++ [x]) W' ∧ Stays b (b + 3) W1 W'))
    (hB : Box3 W b s t r v) (h0 : J [] W) :
    Calls Try.prog 63 #[.func (.yield l) #[] #[], .pointer (some ⟨b, 0, none⟩), .pointer (some ⟨b + 1, 0, none⟩), .pointer (some ⟨b + 2, 0, none⟩)] W fun e W' => (∃ v, e = .returned v) ∧
      ((∃ ys, ys = xsV s t r v ∧ J ys W') ∨ (∃ pre, pre <+: xsV s t r v ∧ Jx pre W')) := by
  obtain ⟨c0, c1, c2, c3⟩ := hB.cells
  have HR := hi hr
  have HV := hi hv
  have HYY := hi hY
  have HJ := hi hJ
  have HS0 := hi (And.intro h0 (And.intro hB (Nat.le_refl W.heap.size)))
  clear hr hv hY hJ h0
  refine (callsIn_wide (n := 6)).1 ?_
  refine callsIn_of_wp Try.func63 rfl trivial ?_ rfl
  simp only [Try.ntmps63, List.size_toArray, List.length_cons, List.length_nil, Nat.reduceAdd, Nat.reduceSub, Array.replicate_succ, Array.replicate_zero, List.push_toArray, List.append_toArray, List.nil_append, List.cons_append]
  gi_wp2_with (first
    | (refine ⟨trivial, ?_⟩; gi_at_call 37; ((with_reducible refine (callsIn_wide.2 (may_yes s t r _ HR.out hs)).mono ?_); rintro e w1 ⟨rfl, hb⟩; have HS1 := hi (And.intro (HJ.out.grow HS0.out.1 (below_gr hb)) (And.intro (HS0.out.2.1.below hb) hb.size)); obtain ⟨d0, d1, d2, d3⟩ := HS1.out.2.1.cells; clear hb c0 c1 c2 c3))
    | (refine ⟨trivial, ?_⟩; gi_at_call 37; ((with_reducible refine (callsIn_wide.2 (may_yes s t v _ HV.out hs)).mono ?_); rintro e w2 ⟨rfl, hb2⟩; have HS2 := hi (And.intro (HJ.out.grow HS1.out.1 (below_gr hb2)) (And.intro (HS1.out.2.1.below hb2) (Nat.le_trans HS1.out.2.2 hb2.size))); obtain ⟨e0, e1, e2, e3⟩ := HS2.out.2.1.cells; clear hb2 d0 d1 d2 d3))
    | gi_in)
  gi_loopw [5] (fun p wr => ∃ k : Nat, k ≤ (leftR s t r v).toNat ∧ p = .int .i64 (seqR s t r k) ∧ Hi (J (upR s t r k) wr ∧ Box3 wr b s t r v ∧ W.heap.size ≤ wr.heap.size))
    (fun p _ => (leftR s t (intOf p) v).toNat)
  case atStart => exact ⟨0, Nat.zero_le _, rfl, HS2⟩
  case round =>
    obtain ⟨k, hk, rfl, HJR⟩ := hrel
    obtain ⟨f0, f1, f2, f3⟩ := HJR.out.2.1.cells
    have hbd := leftR_bd HR.out HV.out
    have hls := left_seq HR.out HV.out k (by omega)
    have hm := seqR_may HR.out k
    have hlp := fun e => left_pos hm HV.out e
    by_cases hne : seqR s t r k = v
    · have : k = (leftR s t r v).toNat := by rw [hne, leftR_self] at hls; omega
      have HE := hi hne
      have HK := hi this
      clear hls hlp this hne hm hbd
      have HT : (seqR s t r k != v) = false := by simp [HE.out]
      gi_wp2
      go_end0
      exact ⟨⟨_, rfl⟩, .inl ⟨_, by rw [HK.out]; rfl, HJR.out.1⟩⟩
    · have hlt : k < (leftR s t r v).toNat := by have := hlp hne; omega
      have hnx := left_next hm HV.out hne
      obtain ⟨fn, tmps, assign, body, hy, hR⟩ := HYY.out _ (seqR s t r k) wr HJR.out.1 (by rw [← upR_succ]; exact upR_pre s t r v hlt) (by have := HJR.out.2.2; omega) (6 - 1)
      have HM := hi hm
      have HL := hi hls
      have HX := hi hnx
      have HT : (seqR s t r k != v) = true := by simpa using hne
      have HBD := hi hbd
      clear hls hlp hm hnx hne hbd
      gi_wp2
      refine hR.mono ?_
      rintro e W3 (⟨rfl, hJ3, hk3⟩ | ⟨rfl, hJx3, hk3⟩)
      · have hB3 := HJR.out.2.1.stays hk3
        obtain ⟨g0, g1, g2, g3⟩ := hB3.cells
        have hz3 : W.heap.size ≤ W3.heap.size := Nat.le_trans HJR.out.2.2 hk3.size
        gi_wp2_with (first
          | (refine ⟨trivial, ?_⟩; gi_at_call 64; ((with_reducible refine (callsIn_wide.2 (after_any s t _ _ HM.out hs)).mono ?_); rintro e w4 ⟨rfl, hb4⟩; have hB4 := hB3.below hb4; have h04 := HJ.out.grow hJ3 (below_gr hb4); have hz4 := Nat.le_trans hz3 hb4.size))
          | gi_in)
        go_roundw
        case rel => exact ⟨k + 1, by omega, rfl, hi ⟨by rw [upR_succ]; exact h04, hB4, hz4⟩⟩
        case measure =>
          have := HX.out; have := HL.out; have := HBD.out
          simp only [intOf]; omega
      · gi_wp2
        refine bodyPost_ret (results_none rfl _ _ _) rfl ?_
        exact ⟨⟨_, rfl⟩, .inr ⟨_, upR_succ s t r k ▸ upR_pre s t r v (by omega), hJx3⟩⟩

set_option maxRecDepth 100000 in
set_option maxHeartbeats 4000000 in
theorem each1_none (l b : Nat) (s t r v : Int) (hm : (mayB s t r && mayB s t v) = false) (hs : s ≤ 9223372036854775807) (J : List Int → World → Prop) (W : World) (hJ : AbW W.heap.size 0 J)
    (hB : Box3 W b s t r v) (h0 : J [] W) :
    Calls Try.prog 63 #[.func (.yield l) #[] #[], .pointer (some ⟨b, 0, none⟩), .pointer (some ⟨b + 1, 0, none⟩), .pointer (some ⟨b + 2, 0, none⟩)] W fun e W' => (∃ v, e = .returned v) ∧ J [] W' := by
  obtain ⟨c0, c1, c2, c3⟩ := hB.cells
  have HJ := hi hJ
  have HS0 := hi (And.intro h0 hB)
  clear hJ h0
  cases hr : mayB s t r
  · have HR := hi hr
    clear hr hm
    refine (callsIn_wide (n := 6)).1 ?_
    refine callsIn_of_wp Try.func63 rfl trivial ?_ rfl
    simp only [Try.ntmps63, List.size_toArray, List.length_cons, List.length_nil, Nat.reduceAdd, Nat.reduceSub, Array.replicate_succ, Array.replicate_zero, List.push_toArray, List.append_toArray, List.nil_append, List.cons_append]
    gi_wp2_with (first
      | (refine ⟨trivial, ?_⟩; gi_at_call 37; ((with_reducible refine (callsIn_wide.2 (may_no s t r _ HR.out hs)).mono ?_); rintro e w1 ⟨rfl, hb⟩; have HS1 := hi (HJ.out.grow HS0.out.1 (below_gr hb))))
      | (refine ⟨trivial, ?_⟩)
      | gi_in)
    refine bodyPost_ret (results_none rfl _ _ _) rfl ?_
    exact ⟨⟨_, rfl⟩, HS1.out⟩
  · have hv : mayB s t v = false := by simpa [hr] using hm
    have HR := hi hr
    have HV := hi hv
    clear hr hv hm
    refine (callsIn_wide (n := 6)).1 ?_
    refine callsIn_of_wp Try.func63 rfl trivial ?_ rfl
    simp only [Try.ntmps63, List.size_toArray, List.length_cons, List.length_nil, Nat.reduceAdd, Nat.reduceSub, Array.replicate_succ, Array.replicate_zero, List.push_toArray, List.append_toArray, List.nil_append, List.cons_append]
    gi_wp2_with (first
      | (refine ⟨trivial, ?_⟩; gi_at_call 37; ((with_reducible refine (callsIn_wide.2 (may_yes s t r _ HR.out hs)).mono ?_); rintro e w1 ⟨rfl, hb⟩; have HS1 := hi (And.intro (HJ.out.grow HS0.out.1 (below_gr hb)) (HS0.out.2.below hb)); obtain ⟨d0, d1, d2, d3⟩ := HS1.out.2.cells; clear hb c0 c1 c2 c3))
      | (refine ⟨trivial, ?_⟩; gi_at_call 37; ((with_reducible refine (callsIn_wide.2 (may_no s t v _ HV.out hs)).mono ?_); rintro e w2 ⟨rfl, hb2⟩; have HS2 := hi (HJ.out.grow HS1.out.1 (below_gr hb2))))
      | gi_in)
    refine bodyPost_ret (results_none rfl _ _ _) rfl ?_
    exact ⟨⟨_, rfl⟩, HS2.out⟩

/-- THE ITERATOR's CONTRACT, at every ring. -/
theorem each_stops (b : Nat) (s t r v : Int) (hs : s ≤ 9223372036854775807) (w : World) (hB : Box3 w b s t r v) :
    SeqW 0 Try.prog 63 #[.pointer (some ⟨b, 0, none⟩), .pointer (some ⟨b + 1, 0, none⟩), .pointer (some ⟨b + 2, 0, none⟩)] encI (fun _ => Stays b (b + 3)) (fun ys => ys = xsR s t r v) (fun pre => pre <+: xsR s t r v) (fun pre x => pre ++ [x] <+: xsR s t r v) w := fun l J Jx W hW hJ hJx hY h0 => by
  cases hm : mayB s t r && mayB s t v
  · have e := xsR_no hm
    refine (each1_none l b s t r v hm hs J W hJ (hB.below hW) h0).mono fun e' W' h => ⟨h.1, .inl ⟨[], e.symm, h.2⟩⟩
  · obtain ⟨hr, hv⟩ := mayB_out2 hm
    have e := xsR_yes hr hv
    rw [e] at hY ⊢
    exact each1_any l b s t r v hr hv hs J Jx W hJ hY (hB.below hW) h0
theorem each_any (s t r v : Int) (w : World) : Calls Try.prog 48 #[.agg #[.int .i64 s, .int .i64 t], .int .i64 r, .int .i64 v] w fun e w' =>
    e = .returned (.func (.func 63) #[] #[.pointer (some ⟨w.heap.size, 0, none⟩), .pointer (some ⟨w.heap.size + 1, 0, none⟩), .pointer (some ⟨w.heap.size + 2, 0, none⟩)]) ∧
    w' = ((w.alloc (.cells #[.int .i64 s, .int .i64 t] 75)).alloc (.cells #[.int .i64 r] 3)).alloc (.cells #[.int .i64 v] 3) := by
  go_enter Try.func48, Try.ntmps48
  go_wp2
  go_ret
  exact ⟨rfl, rfl⟩
theorem box3_new (w : World) (s t r v : Int) : Box3 (((w.alloc (.cells #[.int .i64 s, .int .i64 t] 75)).alloc (.cells #[.int .i64 r] 3)).alloc (.cells #[.int .i64 v] 3)) w.heap.size s t r v :=
  ⟨((CB.new w _ _).alloc _).alloc _, cb_second.alloc _, cb_third⟩

end Go.Proofs.Ytfnokpajendlmaa
