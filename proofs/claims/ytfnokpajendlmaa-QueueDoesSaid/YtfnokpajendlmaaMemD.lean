/-
  Writing a number, by the program, at every access.
-/
import Derived.Test.YtfnokpajendlmaaMemC
import Derived.Lib.SmallJoins
namespace Go.Proofs.Ytfnokpajendlmaa
open Go.ChangeShapes Go.WideShapes Go.ChangeAt Go.RowKit
set_option linter.unusedVariables false
set_option linter.unusedSimpArgs false

/-- The k least significant bytes of v. -/
def le (k v : Nat) : List Nat := (List.range k).map fun i => v / 256 ^ i % 256
theorem le_len (k v : Nat) : (le k v).length = k := by simp [le]
theorem le_succ (k v : Nat) : le (k + 1) v = le k v ++ [v / 256 ^ k % 256] := by simp [le, List.range_succ]
theorem le_mem (k v : Nat) : ∀ x ∈ le k v, x < 256 := by
  intro x hx
  simp only [le, List.mem_map] at hx
  obtain ⟨i, _, rfl⟩ := hx
  exact Nat.mod_lt _ (by omega)

theorem splice_nil (bs : List Nat) (o : Nat) : splice bs o [] = bs := by simp [splice]
theorem splice_set (bs cs : List Nat) (o x : Nat) (h : o + cs.length < bs.length) : (splice bs o cs).set (o + cs.length) x = splice bs o (cs ++ [x]) := by
  have h1 : (bs.take o).length = o := by simp; omega
  simp only [splice]
  rw [List.set_append_right _ _ (by omega), h1, List.set_append_right _ _ (by omega)]
  have e : o + cs.length - o - cs.length = 0 := by omega
  rw [e, List.drop_eq_getElem_cons h, List.set_cons_zero, List.length_append, List.length_singleton, List.append_assoc, List.singleton_append, Nat.add_assoc]
theorem splice_len (bs cs : List Nat) (o : Nat) (h : o + cs.length ≤ bs.length) : (splice bs o cs).length = bs.length := length_splice bs o cs h

theorem BytesAt.set {W : World} {g : Nat} {bs : List Nat} (h : BytesAt W g bs) (i x : Nat) (hi : i < bs.length) (hx : x < 256) : BytesAt (W.setCell ⟨g, i, none⟩ (.int .u8 (x : Int))) g (bs.set i x) := by
  obtain ⟨⟨r, e⟩, hm⟩ := h
  refine ⟨⟨r, ?_⟩, fun y hy => ?_⟩
  · rw [Joins.block_setCell e]
    congr 2
    simp only [List.setIfInBounds_toArray]
    congr 1
    rw [List.set_append_left _ _ (by rw [u8s_len]; exact hi)]
    simp [u8s, List.map_set]
  · rcases List.mem_or_eq_of_mem_set hy with a | a
    · exact hm y a
    · omega
theorem kept_setCell (W : World) (g i : Nat) (v : Value) : Kept (· = g) W (W.setCell ⟨g, i, none⟩ v) :=
  ⟨rfl, rfl, rfl, by simp [World.setCell], fun k _ hn => Below.heap_setCell _ _ _ k (fun e => hn e)⟩

set_option maxHeartbeats 1000000 in
theorem write_yes (p g cap : Nat) (bs : List Nat) (A S o k v : Nat) (w : World) (hM : MemAt 73 w p g cap bs)
    (hA : A + S ≤ bs.length) (ho : o + k ≤ S) (hm : mayE S o k = 0) (hk : k ≤ 8) (hv : v < 18446744073709551616) :
    Calls Try.prog 23 #[.pointer (some ⟨p, 0, none⟩), win A S, .int .i64 o, .int .i64 k, .int .u64 v] w fun e w' => e = .returned (.int .i64 0) ∧ MemAt 73 w' p g cap (splice bs (A + o) (le k v)) ∧ Kept (· = g) w w' := by
  have HA := hi (at_yes p g cap bs A S o k (w.alloc (.cells #[.int .i64 A, .int .i64 S] 23)) (hM.below (bal w _)) hA ho hm)
  have HM := hi hM
  have HL := hi (show A + o + k ≤ bs.length by omega)
  clear hM hm hA ho
  unfold tup win at HA
  unfold win
  go_enter Try.func23, Try.ntmps23
  go_wp2_with (go_at_call 42; ((with_reducible refine HA.out.mono ?_); rintro e w1 ⟨sv, rfl, hsv, hb1⟩; obtain ⟨ad, c, rfl, had, hc⟩ := hsv))
  have hbw := (bal w (.cells #[.int .i64 A, .int .i64 S] 23)).trans (hb1.mono (by simp))
  have HM1 := hi (HM.out.below hbw)
  have HB := hi hbw
  have HC := hi hc
  clear hb1 hbw hc
  go_loopw [24] (fun i wr => ∃ j : Nat, i = .int .i64 j ∧ Hi (j ≤ k ∧ BytesAt wr g (splice bs (A + o) (le j v)) ∧ Kept (· = g) w1 wr)) (fun i _ => k - (intOf i).toNat)
  case atStart => exact ⟨0, rfl, hi ⟨Nat.zero_le _, by rw [show le 0 v = [] from rfl, splice_nil]; exact HM1.out.bytes, Kept.refl _ _⟩⟩
  case round =>
    obtain ⟨j, rfl, HJ⟩ := hrel
    have hj := HJ.out.1
    by_cases hlt : j < k
    · obtain rfl := had (by omega)
      have hsl := splice_len bs (le j v) (A + o) (by rw [le_len]; have := HL.out; omega)
      have hcell := HJ.out.2.1.cell (A + o + j) (by rw [hsl]; have := HL.out; omega)
      have hfr := HJ.out.2.1.frozen (A + o + j)
      obtain ⟨x, hx⟩ : ∃ x, (splice bs (A + o) (le j v))[A + o + j]?.getD 0 = x := ⟨_, rfl⟩
      rw [hx] at hcell
      clear hx
      have HS := hi hsl
      clear hsl
      go_wp2
      go_roundw
      case rel =>
        refine ⟨j + 1, by go_num, hi ⟨hlt, ?_, HJ.out.2.2.trans (kept_setCell _ _ _ _)⟩⟩
        have e0 : ((2 : Int) ^ (8 * j)) = ((256 ^ j : Nat) : Int) := by rw [Int.pow_mul]; simp
        have e1 : (v : Int) / 2 ^ (8 * j) % 256 = ((v / 256 ^ j % 256 : Nat) : Int) := by rw [e0]; simp
        rw [e1, le_succ]
        have h1 := HJ.out.2.1.set (A + o + j) (v / 256 ^ j % 256) (by rw [HS.out]; have := HL.out; omega) (Nat.mod_lt _ (by omega))
        have h2 := splice_set bs (le j v) (A + o) (v / 256 ^ j % 256) (by rw [le_len]; have := HL.out; omega)
        rw [le_len] at h2
        rw [← h2]
        exact h1
      case measure => simp [intOf]; omega
    · have e : j = k := by omega
      subst e
      go_wp2
      go_ret
      exact ⟨rfl, HM.out.set (((Kept.of HB.out)).trans HJ.out.2.2) HJ.out.2.1 (by rw [splice_len]; rw [le_len]; exact HL.out), (Kept.of HB.out).trans HJ.out.2.2⟩

set_option maxHeartbeats 1000000 in
theorem write_no (p g cap : Nat) (bs : List Nat) (a s off width : Int) (v : Nat) (w : World) (hM : MemAt 73 w p g cap bs)
    (ha0 : -9223372036854775808 ≤ a) (ha1 : a ≤ 9223372036854775807) (hs0 : -9223372036854775808 ≤ s) (hs1 : s ≤ 9223372036854775807) (hn : accE bs.length a s off width ≠ 0) :
    Calls Try.prog 23 #[.pointer (some ⟨p, 0, none⟩), win a s, .int .i64 off, .int .i64 width, .int .u64 v] w fun e w' => e = .returned (.int .i64 (accE bs.length a s off width)) ∧ Below w.heap.size w w' := by
  have HA := hi (at_no p g cap bs a s off width (w.alloc (.cells #[.int .i64 a, .int .i64 s] 23)) (hM.below (bal w _)) ha0 ha1 hs0 hs1 hn)
  obtain ⟨m, hm⟩ : ∃ m, accE bs.length a s off width = m := ⟨_, rfl⟩
  rw [hm] at HA hn ⊢
  clear hM ha0 ha1 hs0 hs1 hn hm
  unfold tup win at HA
  unfold win
  go_enter Try.func23, Try.ntmps23
  go_wp2_with (go_at_call 42; ((with_reducible refine HA.out.mono ?_); rintro e w1 ⟨rfl, hb1⟩))
  have HB := hi ((bal w (.cells #[.int .i64 a, .int .i64 s] 23)).trans (hb1.mono (by simp)))
  clear hb1
  go_loopw [24] (fun i wr => i = .int .i64 0 ∧ Hi (Below w.heap.size w wr)) (fun i _ => 0)
  case atStart => exact ⟨rfl, HB⟩
  case round =>
    obtain ⟨rfl, HJ⟩ := hrel
    go_wp2
    go_ret
    exact ⟨rfl, HJ.out⟩

/-- The bytes behind a write. -/
def wrB (bs : List Nat) (a s off width : Int) (v : Nat) : List Nat := if accE bs.length a s off width = 0 then splice bs (a.toNat + off.toNat) (le width.toNat v) else bs
theorem wrB_len {bs : List Nat} {a s off width : Int} {v : Nat} (hl : bs.length ≤ 131072) : (wrB bs a s off width v).length = bs.length := by
  unfold wrB
  split
  · rename_i h
    obtain ⟨A, S, o, k, rfl, rfl, rfl, rfl, hA, ho, hm, hk⟩ := accE_out hl h
    exact splice_len _ _ _ (by rw [le_len]; simp; omega)
  · rfl

/-- Writing at every access. -/
theorem write_any (p g cap : Nat) (bs : List Nat) (a s off width : Int) (v : Nat) (w : World) (hM : MemAt 73 w p g cap bs)
    (ha0 : -9223372036854775808 ≤ a) (ha1 : a ≤ 9223372036854775807) (hs0 : -9223372036854775808 ≤ s) (hs1 : s ≤ 9223372036854775807) (hv : v < 18446744073709551616) :
    Calls Try.prog 23 #[.pointer (some ⟨p, 0, none⟩), win a s, .int .i64 off, .int .i64 width, .int .u64 v] w fun e w' => e = .returned (.int .i64 (accE bs.length a s off width)) ∧ MemAt 73 w' p g cap (wrB bs a s off width v) ∧ Kept (· = g) w w' := by
  by_cases h : accE bs.length a s off width = 0
  · obtain ⟨A, S, o, k, rfl, rfl, rfl, rfl, hA, ho, hm, hk⟩ := accE_out hM.len h
    have e : wrB bs A S o k v = splice bs (A + o) (le k v) := by simp [wrB, h]
    rw [h, e]
    exact write_yes p g cap bs A S o k v w hM hA ho hm (by omega) hv
  · have e : wrB bs a s off width v = bs := by simp [wrB, h]
    rw [e]
    refine (write_no p g cap bs a s off width v w hM ha0 ha1 hs0 hs1 h).mono ?_
    rintro e w' ⟨rfl, hb⟩
    exact ⟨rfl, hM.below hb, Kept.of hb⟩

end Go.Proofs.Ytfnokpajendlmaa
