/-
  The document's All, Running.
-/
import Derived.Test.YtnnlimjbmfpalaaLadS
namespace Go.Proofs.Ytnnlimjbmfpalaa
open Go.ChangeShapes Go.WideShapes Go.ChangeAt Go.RowKit Go.Shelf
set_option linter.unusedVariables false

theorem ownI_grown {W w1 : World} {tmp : Obj} {base n₀ : Nat} {v : Value} {n : Nat} {cs : List Value} (h : W.ownsRow base 3 1 v n cs) (hg : (W.alloc tmp).grownBy w1 v.ownBlock) (hn : n₀ ≤ base) (hW : n₀ ≤ W.heap.size) : Below n₀ W w1 := by
  refine ((Below.refl n₀ W).alloc hW tmp).grown hg (by simp; omega) fun j ej => ?_
  have := h.lt j ej
  omega

/-- Where the loop stands. -/
structure RaI (w : World) (f : Rg) (k n : Nat) (o : Value) (W : World) : Prop where
  len : n = 2 * (upto f k).length
  row : W.ownsRow (w.heap.size + 1) 3 1 o n (ints (flat (upto f k)))
  box : CB W w.heap.size 34 (bsA f)
  below : Below w.heap.size w W
theorem RaI.skip {w W : World} {f : Rg} {k n : Nat} {o : Value} (h : RaI w f k n o W) (hf : f k = false) : RaI w f (k + 1) n o W :=
  ⟨by rw [upto_neg hf]; exact h.len, by rw [upto_neg hf]; exact h.row, h.box, h.below⟩
theorem RaI.more {w W w9 : World} {f : Rg} {k n : Nat} {o o' : Value} {tmp : Obj} (h : RaI w f k n o W) (hf : f k = true) (hb : w.heap.size + 1 ≤ W.heap.size)
    (ho : w9.ownsRow (w.heap.size + 1) 3 1 o' (n + 2) (ints (flat (upto f k)) ++ [.int .i64 (8 * ((k : Int) / 2)), .int .i64 ((k : Int) % 2)])) (hg : (W.alloc tmp).grownBy w9 o.ownBlock) : RaI w f (k + 1) (n + 2) o' w9 := by
  have hB := ownI_grown h.row hg (Nat.le_refl _) hb
  refine ⟨by rw [upto_pos hf, h.len]; simp; omega, ?_, (hB.block _ (Nat.lt_succ_self _)).trans h.box, h.below.trans (hB.mono (Nat.le_succ _))⟩
  rw [upto_pos hf, flat_append, flat_one, ints_append]
  exact ho

set_option maxRecDepth 100000 in
set_option maxHeartbeats 2000000 in
theorem rall_own (f : Rg) (w : World) : Calls Try.prog 54 #[rv f] w fun e W' => ∃ o, e = .returned o ∧ OwnsInts w W' o (flat (rungs f)) ∧ Below w.heap.size w W' := by
  obtain ⟨i0, hi2, hz0, hz1, hz2⟩ := info_parts info_i
  have HI := hi (show RaI w f 0 0 (.slice none 0 0) (w.alloc (.cells (bsA f) 34)) from ⟨rfl, World.ownsRow_nil _ _ _ _, CB.new w _ _, bal w _⟩)
  unfold rv
  go_enter Try.func54, Try.ntmps54
  go_wp2
  go_loopw [3, 4] (fun out i wr => ∃ (k n : Nat) (oa : Option Addr) (oc : Nat), out = .slice oa n oc ∧ i = .int .i64 (k : Int) ∧ k ≤ 64 ∧ n ≤ 2 * k ∧ Hi (RaI w f k n (.slice oa n oc) wr)) (fun _ i _ => 64 - (intOf i).toNat)
  case atStart => exact ⟨0, 0, none, 0, rfl, rfl, by omega, by omega, HI⟩
  case round =>
    obtain ⟨k, n, oa, oc, rfl, rfl, hk, hn, HA⟩ := hrel
    clear HI
    by_cases hlt : k < 64
    · have c0 := HA.out.box.bit hlt
      have hsz := HA.out.box.lt
      cases hf : f k
      · rw [hf] at c0
        have HS := hi (HA.out.skip hf)
        clear hf
        go_wp2
        go_roundw
        case rel => exact ⟨k + 1, n, _, _, rfl, by go_num, by omega, by omega, HS⟩
        case measure => simp only [intOf]; omega
      · rw [hf] at c0
        have HF := hi hf
        clear hf
        go_wp2_with (first
          | (at_builtin; refine wpList_append_own _ rfl _ _ 90 rfl (w.heap.size + 1) 3 i0 (.int .i64 0) 1 8 Try.underlying90 hi2 hz0 hz1 hz2 rfl (by decide) _ _ _ rfl ((HA.out.row).alloc _) ⟨wr.heap.size, 0, none⟩ 2 2 [.int .i64 (8 * ((k : Int) / 2)), .int .i64 ((k : Int) % 2)] rfl rfl (cell_two_new _ _ _ _) (by simp [Value.oneCell']) (by unfold maxLen; omega) (by omega) (by simp; omega) ?_; intro v9 w9 hown9 hgrow9 _; obtain ⟨g9, cap9, rfl⟩ := ownsRow_succ hown9; have HA9 := hi (HA.out.more HF.out hsz hown9 hgrow9); clear hown9 hgrow9))
        go_roundw
        case rel => exact ⟨k + 1, n + 2, _, _, rfl, by go_num, by omega, by omega, HA9⟩
        case measure => simp only [intOf]; omega
    · obtain rfl : k = 64 := by omega
      go_wp2
      go_ret
      refine ⟨_, rfl, ?_, HA.out.below⟩
      unfold OwnsInts
      rw [flat_len, show 2 * (rungs f).length = n from HA.out.len.symm]
      exact ownI_base HA.out.row (Nat.le_succ _)
theorem rall_any (f : Rg) (w : World) : Calls Try.prog 54 #[rv f] w (SomeInts w (flat (rungs f))) := (rall_own f w).mono fun e W' ⟨o, he, ho, hb⟩ => by subst he; exact someInts_of ho hb

/-- The first two numbers of a slice that holds places. -/
theorem IntsAt.cells2 {W : World} {a : Option Addr} {n cap x : Nat} {r : List Nat} (h : IntsAt W (.slice a n cap) (flat (x :: r))) : ∃ b o : Nat, a = some ⟨b, o, none⟩ ∧ W.cell? ⟨b, o, none⟩ = some (.int .i64 (8 * ((x : Int) / 2))) ∧ W.cell? ⟨b, o + 1, none⟩ = some (.int .i64 ((x : Int) % 2)) := by
  obtain ⟨a', cap', e, _, hc⟩ := h
  injection e with e1 e2 e3
  subst e1
  obtain ⟨b, o, ha, hcs⟩ := hc (by simp [flat])
  have h0 := hcs 0 (by rw [flat_len, List.length_cons]; omega)
  have h1 := hcs 1 (by rw [flat_len, List.length_cons]; omega)
  exact ⟨b, o, ha, h0, h1⟩

set_option maxRecDepth 100000 in
set_option maxHeartbeats 2000000 in
theorem rrunning_any (f : Rg) (w : World) : Calls Try.prog 37 #[rv f] w fun e w' => e = .returned (.tuple #[.int .i64 (runV f).1, .int .i64 (runV f).2]) ∧ Below w.heap.size w w' := by
  have HS := hi (CB.rangeB (CB.new w 34 (bsA f)))
  have HZ := hi (size_ref f)
  have CA := hi (fun W => rall_any f W)
  unfold rv bsA at *
  cases hr : rungs f with
  | nil =>
    have HR := hi (runV_none (f := f) (by rw [top, hr]; rfl))
    rw [hr] at CA
    rw [HR.out]
    unfold SomeInts at CA
    dsimp only [flat, List.length_nil] at CA
    clear hr
    go_enter Try.func37, Try.ntmps37
    go_wp2_with (first
      | (refine wpList_load_mid rfl 34 (.tmp 1) rfl w.heap.size 0 rfl (bsL f) _ HS.out Try.underlying34 rfl HZ.out ?_)
      | (go_at_call 54; ((with_reducible refine (CA.out _).mono ?_); rintro e w1 ⟨va, vc, rfl, hI, hb⟩; have HB := hi (((bal w _).trans (hb.mono (by simp)))); clear hI hb)))
    refine bodyPost_ret (results_tmp2 rfl _ _ _) rfl ⟨rfl, HB.out⟩
  | cons x r =>
    have HR := hi (runV_some (f := f) (top_of_cons hr))
    rw [hr] at CA
    rw [HR.out]
    unfold SomeInts at CA
    have hl : (flat (x :: r)).length = 2 * r.length + 2 := by rw [flat_len]; simp; omega
    have hlen : (r.length : Nat) ≤ 64 := by have := rungs_len f; rw [hr] at this; simp at this; omega
    rw [hl] at CA
    obtain ⟨n, hn⟩ : ∃ n, 2 * r.length + 2 = n := ⟨_, rfl⟩
    rw [hn] at CA
    have hn2 : 2 ≤ n := by omega
    have hn3 : n ≤ 130 := by omega
    have hne : ((n : Int) == 0) = false := by simp; omega
    clear hr hn hl hlen
    go_enter Try.func37, Try.ntmps37
    go_wp2_with (first
      | (refine wpList_load_mid rfl 34 (.tmp 1) rfl w.heap.size 0 rfl (bsL f) _ HS.out Try.underlying34 rfl HZ.out ?_)
      | (go_at_call 54; ((with_reducible refine (CA.out _).mono ?_); rintro e w1 ⟨va, vc, rfl, hI, hb⟩; have HB := hi (((bal w _).trans (hb.mono (by simp)))); obtain ⟨g, o, rfl, hc⟩ := hI.cells2; obtain ⟨c0, c1⟩ := hc; clear hI hb)))
    go_quiet (fail)
    go_wp2
    refine bodyPost_ret (results_tmp2 rfl _ _ _) rfl ⟨rfl, Below.drewN HB.out⟩

end Go.Proofs.Ytnnlimjbmfpalaa
