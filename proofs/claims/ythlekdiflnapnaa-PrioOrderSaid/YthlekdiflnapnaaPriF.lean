/-
  The document's Levels: the same levels, in a slice of its own. Awake: the document's examples.
-/
import Derived.Test.YthlekdiflnapnaaPriE
import Derived.Test.YthlekdiflnapnaaHi
namespace Go.Proofs.Ythlekdiflnapnaa
open Go.ChangeShapes Go.WideShapes Go.ChangeAt Go.RowKit Go.Shelf
set_option linter.unusedVariables false

theorem bcell {W w1 : World} (hb : Below W.heap.size W w1) : (∀ b o, b < W.heap.size → w1.cell? ⟨b, o, none⟩ = W.cell? ⟨b, o, none⟩) ∧ (∀ b o, b < W.heap.size → w1.frozen? ⟨b, o, none⟩ = W.frozen? ⟨b, o, none⟩) :=
  ⟨fun b o h => hb.cell (p := ⟨b, o, none⟩) h, fun b o h => hb.frozen (p := ⟨b, o, none⟩) h⟩
theorem Below.drewN {n m : Nat} {A B : World} (h : Below n A B) : Below n A (B.drewN m) := ⟨h.os, h.tape, h.output, h.size, h.block⟩

theorem ownI_grown {W w1 : World} {tmp : Obj} {base n₀ : Nat} {v : Value} {n : Nat} {cs : List Value} (h : W.ownsRow base 3 1 v n cs) (hg : (W.alloc tmp).grownBy w1 v.ownBlock) (hn : n₀ ≤ base) (hW : n₀ ≤ W.heap.size) : Below n₀ W w1 := by
  refine ((Below.refl n₀ W).alloc hW tmp).grown hg (by simp; omega) fun j ej => ?_
  have := h.lt j ej
  omega

def ints (xs : List Int) : List Value := xs.map (Value.int .i64)

/-- Where the reference's loop stands behind k priorities. -/
structure LvAt (w : World) (m : Int) (k n : Nat) (o : Value) (wr : World) : Prop where
  len : n = (lvUp m k).length
  row : wr.ownsRow w.heap.size 3 1 o n (ints (lvUp m k))
  below : Below w.heap.size w wr
  zero : k = 0 → n = 0
  pos : 0 < k → 0 < n

theorem lvUp_pos (m : Int) {k : Nat} (h : 0 < k) : 0 < (lvUp m k).length := by
  have := lvUp_last m k h
  cases hx : lvUp m k with
  | nil => rw [hx] at this; simp at this
  | cons a r => simp
theorem LvAt.cell {w wr : World} {m : Int} {k n : Nat} {oa : Option Addr} {oc : Nat} (h : LvAt w m k (n + 1) (.slice oa (n + 1) oc) wr) (hk : 0 < k) : ∃ g : Nat, oa = some ⟨g, 0, none⟩ ∧ wr.cell? ⟨g, n, none⟩ = some (.int .i64 (lastL m k)) := by
  have hr := h.row
  have hl := lvUp_last m k hk
  rw [List.getLast?_eq_getElem?, ← h.len] at hl
  simp only [Nat.add_sub_cancel] at hl
  have hi := intsAt_row (xs := lvUp m k) (by rw [← h.len]; exact hr)
  obtain ⟨a, cap, hv, _, hc⟩ := hi
  obtain ⟨b, off, ha, hcs⟩ := hc (fun e => by rw [e] at hl; simp at hl)
  have hcn := hcs n (by rw [← h.len]; omega)
  rw [hl] at hcn
  injection hv with e1 e2 e3
  rcases hr.2 with ⟨e, _⟩ | ⟨g, cap', cur, e, _⟩
  · injection e with e1 e2; omega
  · injection e with e4
    rw [e4] at e1
    rw [← e1] at ha
    simp only [Option.some.injEq, Addr.mk.injEq] at ha
    obtain ⟨rfl, rfl, _⟩ := ha
    exact ⟨g, e4, by simpa using hcn⟩

theorem LvAt.skip {w wr : World} {m : Int} {k n : Nat} {o : Value} (h : LvAt w m k n o wr) (hk : 0 < k) (he : lvl m k = lastL m k) : LvAt w m (k + 1) n o wr :=
  ⟨by rw [lvUp_eq he]; exact h.len, by rw [lvUp_eq he]; exact h.row, h.below, fun e => by omega, fun _ => h.pos hk⟩
theorem LvAt.more {w wr w9 : World} {m : Int} {k n : Nat} {o o' : Value} {tmp : Obj} (h : LvAt w m k n o wr) (he : lvl m k ≠ lastL m k) (ho : w9.ownsRow w.heap.size 3 1 o' (n + 1) (ints (lvUp m k) ++ [.int .i64 (lvl m k)])) (hg : (wr.alloc tmp).grownBy w9 o.ownBlock) : LvAt w m (k + 1) (n + 1) o' w9 :=
  ⟨by rw [lvUp_ne he]; simp [h.len], by rw [lvUp_ne he]; simpa [ints] using ho, h.below.trans (ownI_grown h.row hg (Nat.le_refl _) h.below.size), fun e => by omega, fun _ => by omega⟩

set_option maxRecDepth 100000 in
set_option maxHeartbeats 2000000 in
theorem refLevels_any (m : Int) (w : World) :
    Calls Try.prog 22 #[.int .i64 m] w fun e W' => ∃ o, e = .returned o ∧ W'.ownsRow w.heap.size 3 1 o (lvs m).length (ints (lvs m)) ∧ Below w.heap.size w W' := by
  obtain ⟨i0, hi2, hz0, hz1, hz2⟩ := info_parts info_int
  go_enter Try.func22, Try.ntmps22
  go_wp2
  go_loopw [3, 4] (fun out p wr => ∃ (k n : Nat) (oa : Option Addr) (oc : Nat), out = .slice oa n oc ∧ p = .int .i64 (8 * (k : Int)) ∧ k ≤ 32 ∧ n ≤ 32 ∧ Hi (LvAt w m k n (.slice oa n oc) wr)) (fun _ p _ => 256 - (intOf p).toNat)
  case atStart => exact ⟨0, 0, none, 0, rfl, rfl, by omega, by omega, hi ⟨rfl, World.ownsRow_nil _ _ _ _, Below.refl _ _, fun _ => rfl, fun e => by omega⟩⟩
  case round =>
    obtain ⟨k, n, oa, oc, rfl, rfl, hk, hn, HA⟩ := hrel
    by_cases hlt : k < 32
    · have hla := lvl_and m k hlt
      have hln : n ≤ k := by rw [HA.out.len]; exact lvUp_len m k
      by_cases h0 : k = 0
      · obtain rfl : n = 0 := HA.out.zero h0
        have hne : lvl m k ≠ lastL m k := by rw [h0]; have := lvl_bd m 0; simp only [lastL]; omega
        have HE := hi hne
        clear hne h0
        go_wp2_with (first
          | (at_builtin; refine wpList_append_own _ rfl _ _ 28 rfl w.heap.size 3 i0 (.int .i64 0) 1 8 Try.underlying28 hi2 hz0 hz1 hz2 rfl (by decide) _ _ _ rfl ((HA.out.row).alloc _) ⟨wr.heap.size, 0, none⟩ 1 1 [.int .i64 (lvl m k)] rfl rfl (cell_one_new _ _ _) (by simp [Value.oneCell']) (by unfold maxLen; omega) (by omega) (by have := HA.out.below.size; simp; omega) ?_; intro v9 w9 hown9 hgrow9 _; obtain ⟨g9, cap9, rfl⟩ := ownsRow_succ hown9; have HA9 := hi (HA.out.more HE.out hown9 hgrow9); clear hown9 hgrow9))
        go_roundw
        case rel => exact ⟨k + 1, 0 + 1, _, _, rfl, by go_num, by omega, by omega, HA9⟩
        case measure => simp only [intOf]; omega
      · obtain ⟨n, rfl⟩ : ∃ q, n = q + 1 := ⟨n - 1, by have := HA.out.pos (by omega); omega⟩
        obtain ⟨g, rfl, hc⟩ := HA.out.cell (by omega)
        by_cases he : lvl m k = lastL m k
        · have HE := hi he
          have HT : (lastL m k != lvl m k) = false := by simp [he]
          have h00 := hi h0
          clear he h0
          go_wp2
          go_roundw
          case rel => exact ⟨k + 1, n + 1, _, _, rfl, by go_num, by omega, by omega, hi (HA.out.skip (by have := h00.out; omega) HE.out)⟩
          case measure => simp only [intOf]; omega
        · have HE := hi he
          have HT : (lastL m k != lvl m k) = true := by simpa using fun e => he e.symm
          clear he h0
          go_wp2_with (first
            | (at_builtin; refine wpList_append_own _ rfl _ _ 28 rfl w.heap.size 3 i0 (.int .i64 0) 1 8 Try.underlying28 hi2 hz0 hz1 hz2 rfl (by decide) _ _ _ rfl ((HA.out.row).alloc _) ⟨wr.heap.size, 0, none⟩ 1 1 [.int .i64 (lvl m k)] rfl rfl (cell_one_new _ _ _) (by simp [Value.oneCell']) (by unfold maxLen; omega) (by omega) (by have := HA.out.below.size; simp; omega) ?_; intro v9 w9 hown9 hgrow9 _; obtain ⟨g9, cap9, rfl⟩ := ownsRow_succ hown9; have HA9 := hi (HA.out.more HE.out hown9 hgrow9); clear hown9 hgrow9))
          go_roundw
          case rel => exact ⟨k + 1, n + 1 + 1, _, _, rfl, by go_num, by omega, by omega, HA9⟩
          case measure => simp only [intOf]; omega
    · obtain rfl : k = 32 := by omega
      go_wp2
      go_ret
      refine ⟨_, rfl, ?_, HA.out.below⟩
      show wr.ownsRow w.heap.size 3 1 (.slice oa n oc) (lvs m).length (ints (lvs m))
      rw [← show n = (lvs m).length from HA.out.len]
      exact HA.out.row

end Go.Proofs.Ythlekdiflnapnaa
