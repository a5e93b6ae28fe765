/-
  The iterator of sets.From: for every loop body: the members from there on, in increasing order; or a first part of them where the body stops.
-/
import Derived.Test.YtmdlknddlmpddaaDoorIter
namespace Go.Proofs.YtmdlknddlmpddaaDoor
open Go.ChangeShapes Go.WideShapes Go.ChangeAt Go.RowKit Go.Shelf
set_option linter.unusedVariables false
attribute [local go_sem] Oper.semAt_some

/-- l lists the members from m on, in increasing order. -/
def MemFrom (S : Words) : Nat → List Int → Prop
  | m, [] => IsNx (memS S) m 16384
  | m, x :: r => ∃ k : Nat, x = (k : Int) ∧ k < 16384 ∧ IsNx (memS S) m k ∧ MemFrom S (k + 1) r
theorem memFrom_ex (S : Words) : ∀ (n m : Nat), m ≤ 16384 → 16384 - m ≤ n → ∃ l, MemFrom S m l
  | 0, m, h, hn => ⟨[], by omega, Nat.le_refl _, fun j h1 h2 => by omega, fun h => by omega⟩
  | n + 1, m, h, hn => by
    have hx := nx_spec (memS S) h
    by_cases hk : nx (memS S) m < 16384
    · obtain ⟨l, hl⟩ := memFrom_ex S n (nx (memS S) m + 1) (by omega) (by have := hx.1; omega)
      exact ⟨_ :: l, _, rfl, hk, hx, hl⟩
    · have e : nx (memS S) m = 16384 := by have := hx.2.1; omega
      rw [e] at hx
      exact ⟨[], hx⟩

theorem TabW.stays {W W' : World} (h : TabW W) (k : Stays 0 1 W W') : TabW W' := fun j hj => by
  have := h j hj
  rw [← this]
  exact World.cell?_of_block (w := W) (k 0 (Nat.le_refl _) (by omega))
theorem TabW.lt {W : World} (h : TabW W) : 0 < W.heap.size := World.block_lt_of_cell? W _ (h 0 (by decide))
theorem TabW.below {W W' : World} (h : TabW W) (k : Below W.heap.size W W') : TabW W' := h.stays (fun i _ h2 => k.block i (by have := h.lt; omega))
theorem FromAt.stays {W W' : World} {b : Nat} {S : Words} {f : Int} (h : FromAt W b S f) (k : Stays b (b + 2) W W') : FromAt W' b S f :=
  ⟨⟨(k b (Nat.le_refl _) (by omega)).trans h.1.1, h.1.2⟩, (k (b + 1) (by omega) (by omega)).trans h.2⟩
theorem FromAt.lt {W : World} {b : Nat} {S : Words} {f : Int} (h : FromAt W b S f) : b + 2 ≤ W.heap.size := (Array.getElem?_eq_some_iff.1 h.2).1
theorem FromAt.below {W W' : World} {b : Nat} {S : Words} {f : Int} (h : FromAt W b S f) (k : Below W.heap.size W W') : FromAt W' b S f := h.stays (fun i _ h2 => k.block i (by have := h.lt; omega))

/-- What a round keeps: the library's table, and the iterator's own two blocks. -/
def KpS (b : Nat) (W W' : World) : Prop := Stays 0 1 W W' ∧ Stays b (b + 2) W W'

/-- Where the loop stands: k is the next one. -/
def AtM (S : Words) (k : Nat) (rest : List Int) : Prop := (rest = [] ∧ k = 16384) ∨ ∃ r, rest = (k : Int) :: r ∧ k < 16384 ∧ MemFrom S (k + 1) r
theorem atM_of {S : Words} {m : Nat} {l : List Int} (h : MemFrom S m l) : ∃ k, IsNx (memS S) m k ∧ AtM S k l := by
  cases l with
  | nil => exact ⟨16384, h, .inl ⟨rfl, rfl⟩⟩
  | cons x r => obtain ⟨k, rfl, h1, h2, h3⟩ := h; exact ⟨k, h2, .inr ⟨r, rfl, h1, h3⟩⟩

set_option maxRecDepth 100000 in
set_option maxHeartbeats 1000000 in
theorem from1_in (n : Nat) (hn : 1 ≤ n) (l b : Nat) (S : Words) (f : Nat) (xs : List Int) (hf : f ≤ 16384) (hxs : MemFrom S f xs) (J Jx : List Int → World → Prop) (W : World) (hJ : AbidesFrom W.heap.size J)
    (hY : ∀ pre x W1, J pre W1 → pre.length < xs.length → YieldAt Fence.wide (n - 1) Tryd.prog l #[.int .i64 x] W1 fun e W' =>
      (e = .returned (.bool true) ∧ J (pre ++ [x]) W' ∧ KpS b W1 W') ∨ (e = .returned (.bool false) ∧ Jx (pre ++ [x]) W'))
    (hB : FromAt W b S f) (hT : TabW W) (h0 : J [] W) :
    CallsIn Fence.wide n Tryd.prog 49 #[.func (.yield l) #[] #[], .pointer (some ⟨b, 0, none⟩), .pointer (some ⟨b + 1, 0, none⟩)] W fun e W' => (∃ v, e = .returned v) ∧
      ((∃ ys, ys = xs ∧ J ys W') ∨ (∃ pre, pre <+: xs ∧ Jx pre W')) := by
  obtain ⟨k0, hk0, ha0⟩ := atM_of hxs
  have c1 := cell_of_box hB.2 0
  simp at c1
  have hnx := next_near _ b S f k0 W hB.1 hT hf hk0
  have HNX := Lib.hid hnx
  have HB := Lib.hid hB
  have HT := Lib.hid hT
  have HX := Lib.hid hxs
  have HK := Lib.hid hk0
  have HA := Lib.hid ha0
  clear hnx hB hT hxs hk0 ha0
  refine callsIn_of_wp Tryd.func49 rfl trivial ?_ rfl
  simp only [Tryd.ntmps49, List.size_toArray, List.length_cons, List.length_nil, Nat.reduceAdd, Nat.reduceSub, Array.replicate_succ, Array.replicate_zero, List.push_toArray, List.append_toArray, List.nil_append, List.cons_append]
  gi_wp2_with (first
    | (refine ⟨trivial, ?_⟩; gi_at_call 50; ((with_reducible refine (callsIn_wide.2 HNX.out).mono ?_); rintro e w1 ⟨rfl, rfl⟩))
    | gi_in)
  gi_loopw [4] (fun p wr => ∃ (k : Nat) (pre rest : List Int), p = .int .i64 k ∧ Hid (xs = pre ++ rest ∧ AtM S k rest ∧ FromAt wr b S f ∧ TabW wr) ∧ J pre wr)
    (fun p _ => 16384 - (intOf p).toNat)
  case atStart => exact ⟨k0, [], xs, rfl, Lib.hid ⟨rfl, HA.out, HB.out, HT.out⟩, h0⟩
  case round =>
    obtain ⟨k, pre, rest, rfl, HH, hJs⟩ := hrel
    obtain ⟨hx, ha, hFr, hTr⟩ := HH.out
    rcases ha with ⟨rfl, rfl⟩ | ⟨r, rfl, hlt, hm⟩
    · have HE := Lib.hid hx
      clear hx hFr hTr
      gi_wp2
      go_end0
      exact ⟨⟨_, rfl⟩, .inl ⟨pre, by rw [HE.out]; simp, hJs⟩⟩
    · obtain ⟨k2, hk2, ha2⟩ := atM_of hm
      obtain ⟨fn, tmps, assign, body, hy, hR⟩ := hY pre (k : Int) wr hJs (by rw [hx]; simp)
      have hki : (k : Int) < 16384 := by omega
      have HE := Lib.hid hx
      have HFR := Lib.hid hFr
      have HTR := Lib.hid hTr
      have HK2 := Lib.hid hk2
      have HA2 := Lib.hid ha2
      have HLT := Lib.hid hlt
      clear hx hFr hTr hm hk2 ha2 hlt
      gi_wp2
      refine hR.mono ?_
      rintro e W3 (⟨rfl, hJ3, hk3⟩ | ⟨rfl, hJx3⟩)
      · have hF3 := HFR.out.stays hk3.2
        have hT3 := HTR.out.stays hk3.1
        have hnx2 := next_near _ b S (k + 1) k2 W3 hF3.1 hT3 (by have := HLT.out; omega) HK2.out
        rw [show ((k + 1 : Nat) : Int) = (k : Int) + 1 by simp] at hnx2
        have HNX2 := Lib.hid hnx2
        have HF3 := Lib.hid hF3
        have HT3 := Lib.hid hT3
        clear hF3 hT3 hnx2
        gi_wp2_with (first
          | (refine ⟨trivial, ?_⟩; gi_at_call 50; ((with_reducible refine (callsIn_wide.2 HNX2.out).mono ?_); rintro e w4 ⟨rfl, rfl⟩))
          | gi_in)
        go_roundw
        case rel => exact ⟨k2, pre ++ [(k : Int)], r, rfl, Lib.hid ⟨by rw [HE.out]; simp, HA2.out, HF3.out, HT3.out⟩, hJ3⟩
        case measure =>
          have h1 := HLT.out
          have h2 := HK2.out.1
          simp only [intOf]; omega
      · gi_wp2
        refine bodyPost_ret (results_none rfl _ _ _) rfl ?_
        exact ⟨⟨_, rfl⟩, .inr ⟨pre ++ [(k : Int)], ⟨r, by rw [HE.out]; simp⟩, hJx3⟩⟩

end Go.Proofs.YtmdlknddlmpddaaDoor
