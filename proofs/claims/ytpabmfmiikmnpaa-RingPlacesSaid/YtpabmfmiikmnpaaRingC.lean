/-
  Package ring: the contract of Each and of its iterator, for every loop body: the places that wait, in their order; or a first part of them where the body stops.
-/
import Derived.Test.YtpabmfmiikmnpaaRingB
import Derived.RangeFuncBox
import Derived.RangeFuncLeaves
import Derived.RangeFuncCalls
import Derived.RangeFuncNested
import Derived.Shelf.Abstract
import Derived.OwnWalkIn
import Derived.TacticsInMore
import Derived.LoopNIn
import Derived.LoopIn
import Derived.Maps.AppendAt
namespace Go.Proofs.Ytpabmfmiikmnpaa
open Go.ChangeShapes Go.WideShapes Go.ChangeAt Go.RowKit Go.Shelf
set_option linter.unusedVariables false
attribute [local go_sem] Oper.semAt_some

theorem Below.grew {W W' : World} (h : Below W.heap.size W W') : W.grownBy W' none := ⟨h.os, h.tape, h.output, h.size, fun k hk _ => h.block k hk⟩

/-- The blocks from lo on, below hi, lie as they lay. -/
def Stays (lo hi : Nat) (W W' : World) : Prop := ∀ k, lo ≤ k → k < hi → W'.heap[k]? = W.heap[k]?
theorem Stays.refl (lo hi : Nat) (W : World) : Stays lo hi W W := fun _ _ _ => rfl
theorem Stays.trans {lo hi : Nat} {A B C : World} (h : Stays lo hi A B) (k : Stays lo hi B C) : Stays lo hi A C := fun i h1 h2 => (k i h1 h2).trans (h i h1 h2)
theorem Stays.below {lo hi : Nat} {W W' : World} (h : Below W.heap.size W W') (hh : hi ≤ W.heap.size) : Stays lo hi W W' := fun i _ h2 => h.block i (by omega)
theorem stays_b {lo hi : Nat} {w : World} (hn : hi ≤ w.heap.size) (W : World) (l : Nat) (o o' : Obj) (hl : w.heap.size ≤ l) (h : W.heap[l]? = some o) (_ : o.isCells = false) (_ : o.isWalk = false) : Stays lo hi W (W.putObj l o') :=
  fun k _ hk => World.putObj_heap_other (by omega)

/-- The place after k steps. -/
def seqR (s t r : Int) : Nat → Int
  | 0 => r
  | k + 1 => nextR s t (seqR s t r k)
theorem seqR_may {s t r : Int} (h : mayB s t r = true) : ∀ k, mayB s t (seqR s t r k) = true
  | 0 => h
  | k + 1 => next_may (seqR_may h k)

theorem leftR_self {s t a : Int} : leftR s t a a = 0 := by simp [leftR]

theorem dvd_ge {t x : Int} (h1 : 1 ≤ t) (h : x % t = 0) (h0 : 0 < x) : t ≤ x := Int.le_of_dvd h0 (Int.dvd_of_emod_eq_zero h)

theorem left_next {s t a v : Int} (h : mayB s t a = true) (g : mayB s t v = true) (hne : a ≠ v) : leftR s t (nextR s t a) v = leftR s t a v - 1 := by
  have hl := step_le h
  have hl2 := step_le g
  obtain ⟨hr, h1, h2, h3⟩ := mayB_out h
  obtain ⟨_, g1, g2, g3⟩ := mayB_out g
  obtain ⟨k1, k2, k3, _⟩ := rightB_out hr
  have hsub : ∀ x : Int, (x - t) / t = x / t - 1 := fun x => by
    have := Int.add_mul_ediv_right x (-1) (show t ≠ 0 by omega)
    rw [show x + -1 * t = x - t by omega] at this
    rw [this]; omega
  have hd : (v - a) % t = 0 := by rw [Int.sub_emod, g3, h3]; simp
  have hd2 : (a - v) % t = 0 := by rw [Int.sub_emod, g3, h3]; simp
  unfold nextR
  split
  · rename_i e
    -- a is the last place; the next one is 0
    have hv : v < a := by
      by_cases x : v < a
      · exact x
      · have := dvd_ge k1 hd (by omega); omega
    unfold leftR
    rw [if_neg (by omega), if_pos (by omega), ← hsub]
    congr 1
    omega
  · by_cases x : v < a
    · unfold leftR
      rw [if_pos (by omega), if_pos x, ← hsub]
      congr 1
      omega
    · have := dvd_ge k1 hd (by omega)
      unfold leftR
      rw [if_neg (by omega), if_neg x, ← hsub]
      congr 1
      omega

theorem left_pos {s t a v : Int} (h : mayB s t a = true) (g : mayB s t v = true) (hne : a ≠ v) : 1 ≤ leftR s t a v := by
  have hl := step_le h
  have hl2 := step_le g
  obtain ⟨hr, h1, h2, h3⟩ := mayB_out h
  obtain ⟨_, g1, g2, g3⟩ := mayB_out g
  obtain ⟨k1, k2, k3, _⟩ := rightB_out hr
  have hd : (v - a) % t = 0 := by rw [Int.sub_emod, g3, h3]; simp
  unfold leftR
  split
  · exact (Int.le_ediv_iff_mul_le (by omega)).2 (by omega)
  · have := dvd_ge k1 hd (by omega)
    exact (Int.le_ediv_iff_mul_le (by omega)).2 (by omega)

theorem left_seq {s t r v : Int} (h : mayB s t r = true) (g : mayB s t v = true) : ∀ k : Nat, (k : Int) ≤ leftR s t r v → leftR s t (seqR s t r k) v = leftR s t r v - k
  | 0, _ => by simp [seqR]
  | k + 1, hk => by
    have ih := left_seq h g k (by omega)
    have hne : seqR s t r k ≠ v := fun e => by rw [e, leftR_self] at ih; omega
    rw [seqR, left_next (seqR_may h k) g hne, ih]
    omega

/-- The places that wait. -/
def xsV (s t r v : Int) : List Int := (List.range (leftR s t r v).toNat).map (seqR s t r)
def xsR (s t r v : Int) : List Int := if (mayB s t r && mayB s t v) = true then xsV s t r v else []
theorem xsV_len (s t r v : Int) : (xsV s t r v).length = (leftR s t r v).toNat := by simp [xsV]

def upR (s t r : Int) (k : Nat) : List Int := (List.range k).map (seqR s t r)
theorem upR_succ (s t r : Int) (k : Nat) : upR s t r (k + 1) = upR s t r k ++ [seqR s t r k] := by simp [upR, List.range_succ]
theorem upR_len (s t r : Int) (k : Nat) : (upR s t r k).length = k := by simp [upR]
theorem upR_pre (s t r v : Int) {k : Nat} (hk : k ≤ (leftR s t r v).toNat) : upR s t r k <+: xsV s t r v := by
  have : upR s t r k = (xsV s t r v).take k := by
    simp [upR, xsV, ← List.map_take, List.take_range, Nat.min_eq_left hk]
  rw [this]; exact List.take_prefix _ _

theorem cell_of_box {W : World} {B : Nat} {cs : Array Value} {t : TypeId} (h : W.heap[B]? = some (.cells cs t (0, 0))) (j : Nat) : W.cell? ⟨B, j, none⟩ = cs[j]? := by
  simp [World.cell?, h]

/-- What the iterator has captured: the ring, read, write: three boxes in a row. -/
def Box3 (W : World) (b : Nat) (s t r v : Int) : Prop :=
  W.heap[b]? = some (.cells #[.int .i64 s, .int .i64 t] 23 (0, 0)) ∧ W.heap[b + 1]? = some (.cells #[.int .i64 r] 3 (0, 0)) ∧ W.heap[b + 2]? = some (.cells #[.int .i64 v] 3 (0, 0))
theorem Box3.stays {W W' : World} {b : Nat} {s t r v : Int} (h : Box3 W b s t r v) (k : Stays b (b + 3) W W') : Box3 W' b s t r v :=
  ⟨(k b (by omega) (by omega)).trans h.1, (k (b + 1) (by omega) (by omega)).trans h.2.1, (k (b + 2) (by omega) (by omega)).trans h.2.2⟩
theorem Box3.lt {W : World} {b : Nat} {s t r v : Int} (h : Box3 W b s t r v) : b + 3 ≤ W.heap.size := (Array.getElem?_eq_some_iff.1 h.2.2).1
theorem Box3.below {W W' : World} {b : Nat} {s t r v : Int} (h : Box3 W b s t r v) (k : Below W.heap.size W W') : Box3 W' b s t r v := h.stays (Stays.below k h.lt)
theorem Box3.cells {W : World} {b : Nat} {s t r v : Int} (h : Box3 W b s t r v) :
    W.cell? ⟨b, 0, none⟩ = some (.int .i64 s) ∧ W.cell? ⟨b, 1, none⟩ = some (.int .i64 t) ∧ W.cell? ⟨b + 1, 0, none⟩ = some (.int .i64 r) ∧ W.cell? ⟨b + 2, 0, none⟩ = some (.int .i64 v) :=
  ⟨cell_of_box h.1 0, cell_of_box h.1 1, cell_of_box h.2.1 0, cell_of_box h.2.2 0⟩

theorem abides_below {β : Type} {B : Nat} {J : β → World → Prop} (hJ : AbidesFrom B J) {x : β} {W W' : World} (h : J x W) (k : Below W.heap.size W W') : J x W' :=
  hJ x W W' none h (Below.grew k) (fun r e => by cases e)

set_option maxRecDepth 100000 in
set_option maxHeartbeats 1000000 in
theorem each1_in (n : Nat) (hn : 1 ≤ n) (l b : Nat) (s t r v : Int) (hr : mayB s t r = true) (hv : mayB s t v = true) (hs : s ≤ 9223372036854775807) (J Jx : List Int → World → Prop) (W : World) (hJ : AbidesFrom W.heap.size J)
    (hY : ∀ pre x W1, J pre W1 → pre.length < (leftR s t r v).toNat → YieldAt Fence.wide (n - 1) Try.prog l #[.int .i64 x] W1 fun e W' =>
      (e = .returned (.bool true) ∧ J (pre ++ [x]) W' ∧ Stays b (b + 3) W1 W') ∨ (e = .returned (.bool false) ∧ Jx (pre ++ [x]) W'))
    (hB : Box3 W b s t r v) (h0 : J [] W) :
    CallsIn Fence.wide n Try.prog 28 #[.func (.yield l) #[] #[], .pointer (some ⟨b, 0, none⟩), .pointer (some ⟨b + 1, 0, none⟩), .pointer (some ⟨b + 2, 0, none⟩)] W fun e W' => (∃ v, e = .returned v) ∧
      ((∃ ys, ys = xsV s t r v ∧ J ys W') ∨ (∃ pre, pre <+: xsV s t r v ∧ Jx pre W')) := by
  obtain ⟨c0, c1, c2, c3⟩ := hB.cells
  have HR := Lib.hid hr
  have HV := Lib.hid hv
  clear hr hv
  refine callsIn_of_wp Try.func28 rfl trivial ?_ rfl
  simp only [Try.ntmps28, List.size_toArray, List.length_cons, List.length_nil, Nat.reduceAdd, Nat.reduceSub, Array.replicate_succ, Array.replicate_zero, List.push_toArray, List.append_toArray, List.nil_append, List.cons_append]
  gi_wp2_with (first
    | (refine ⟨trivial, ?_⟩; gi_at_call 13; ((with_reducible refine (callsIn_wide.2 (may_yes s t r _ HR.out hs)).mono ?_); rintro e w1 ⟨rfl, hb⟩; have hB1 := hB.below hb; have h01 := abides_below hJ h0 hb; obtain ⟨d0, d1, d2, d3⟩ := hB1.cells))
    | (refine ⟨trivial, ?_⟩; gi_at_call 13; ((with_reducible refine (callsIn_wide.2 (may_yes s t v _ HV.out hs)).mono ?_); rintro e w2 ⟨rfl, hb2⟩; have hB2 := hB1.below hb2; have h02 := abides_below hJ h01 hb2; obtain ⟨e0, e1, e2, e3⟩ := hB2.cells))
    | gi_in)
  gi_loopw [5] (fun p wr => ∃ k : Nat, k ≤ (leftR s t r v).toNat ∧ p = .int .i64 (seqR s t r k) ∧ J (upR s t r k) wr ∧ Box3 wr b s t r v)
    (fun p _ => (leftR s t (intOf p) v).toNat)
  case atStart => exact ⟨0, Nat.zero_le _, rfl, h02, hB2⟩
  case round =>
    obtain ⟨k, hk, rfl, hJs, hBr⟩ := hrel
    obtain ⟨f0, f1, f2, f3⟩ := hBr.cells
    have hbd := leftR_bd HR.out HV.out
    have hls := left_seq HR.out HV.out k (by omega)
    have hm := seqR_may HR.out k
    have hlp := fun e => left_pos hm HV.out e
    by_cases hne : seqR s t r k = v
    · have : k = (leftR s t r v).toNat := by rw [hne, leftR_self] at hls; omega
      have HE := Lib.hid hne
      have HK := Lib.hid this
      clear hls hlp this hne hm hbd
      have HT : (seqR s t r k != v) = false := by simp [HE.out]
      gi_wp2
      go_end0
      exact ⟨⟨_, rfl⟩, .inl ⟨_, by rw [HK.out]; rfl, hJs⟩⟩
    · have hlt : k < (leftR s t r v).toNat := by have := hlp hne; omega
      have hnx := left_next hm HV.out hne
      obtain ⟨fn, tmps, assign, body, hy, hR⟩ := hY _ (seqR s t r k) wr hJs (by rw [upR_len]; exact hlt)
      have HM := Lib.hid hm
      have HL := Lib.hid hls
      have HX := Lib.hid hnx
      have HT : (seqR s t r k != v) = true := by simpa using hne
      have HBD := Lib.hid hbd
      clear hls hlp hm hnx hne hbd
      gi_wp2
      refine hR.mono ?_
      rintro e W3 (⟨rfl, hJ3, hk3⟩ | ⟨rfl, hJx3⟩)
      · have hB3 := hBr.stays hk3
        obtain ⟨g0, g1, g2, g3⟩ := hB3.cells
        gi_wp2_with (first
          | (refine ⟨trivial, ?_⟩; gi_at_call 26; ((with_reducible refine (callsIn_wide.2 (after_any s t _ _ HM.out hs)).mono ?_); rintro e w4 ⟨rfl, hb4⟩; have hB4 := hB3.below hb4; have h04 := abides_below hJ hJ3 hb4))
          | gi_in)
        go_roundw
        case rel => exact ⟨k + 1, by omega, rfl, by rw [upR_succ]; exact h04, hB4⟩
        case measure =>
          have := HX.out; have := HL.out; have := HBD.out
          simp only [intOf]; omega
      · gi_wp2
        refine bodyPost_ret (results_none rfl _ _ _) rfl ?_
        exact ⟨⟨_, rfl⟩, .inr ⟨_, upR_succ s t r k ▸ upR_pre s t r v (by omega), hJx3⟩⟩

end Go.Proofs.Ytpabmfmiikmnpaa
