/-
  The document's rows of neighbours of a list: the reference's Runs.
-/
import Derived.Test.YtmdlknddlmpddaaDoorRefB
import Derived.IntWalk
namespace Go.Proofs.YtmdlknddlmpddaaDoor
open Go.ChangeShapes Go.WideShapes Go.ChangeAt Go.RowKit Go.Shelf
set_option linter.unusedVariables false

def at0 (l : List Int) (i : Nat) : Int := l[i]?.getD 0
def firstAt (l : List Int) (i : Nat) : Bool := decide (i = 0 ∨ at0 l i ≠ at0 l (i - 1) + 1)
def lastAt (l : List Int) (i : Nat) : Bool := decide (i + 1 = l.length ∨ at0 l (i + 1) ≠ at0 l i + 1)
def runsTo (l : List Int) : Nat → List Int
  | 0 => []
  | k + 1 => runsTo l k ++ (if firstAt l k = true then [at0 l k] else []) ++ (if lastAt l k = true then [at0 l k] else [])
theorem runsTo_len (l : List Int) : ∀ k, (runsTo l k).length ≤ 2 * k
  | 0 => Nat.le_refl _
  | k + 1 => by
    have := runsTo_len l k
    rw [runsTo, List.length_append, List.length_append]
    split <;> split <;> simp <;> omega

theorem col_drew {w W : World} {o : Value} {xs : List Int} (h : Col w o xs W) (n : Nat) : Col w o xs (W.drewN n) := h.later (below_drewN (Below.refl _ _) n)

set_option maxRecDepth 100000 in
set_option maxHeartbeats 4000000 in
theorem runsL_any (l : List Int) (a : Option Addr) (ca : Nat) (w : World) (hv : IntsAt w (.slice a l.length ca) l) (hl : l.length ≤ 20000) (hbd : ∀ i, i < l.length → 0 ≤ at0 l i ∧ at0 l i < 16384) :
    Calls Tryd.prog 38 #[.slice a l.length ca] w (GivesCol w (runsTo l l.length)) := by
  obtain ⟨i0, hi', hz0, hz1, hz2⟩ := info_parts info_int
  have HV := hi hv
  have HL := hi hl
  have HBD := hi hbd
  clear hv hl hbd
  go_enter Tryd.func38, Tryd.ntmps38
  go_wp2
  go_loopw [3, 4] (fun o i wr => ∃ k : Nat, i = .int .i64 k ∧ Hi (k ≤ l.length ∧ Col w o (runsTo l k) wr)) (fun _ i _ => l.length - (intOf i).toNat)
  case atStart => exact ⟨0, rfl, hi ⟨Nat.zero_le _, Col.nil _ _ (Below.refl _ _)⟩⟩
  case round =>
    obtain ⟨k, rfl, HH⟩ := hrel
    obtain ⟨hk, hC⟩ := HH.out
    obtain ⟨ao, co, rfl⟩ := hC.slice
    by_cases hlt : k < l.length
    · obtain ⟨b, off, rfl, hbl, hx0, hx⟩ := intsAt_read HV.out hC.below hlt
      obtain ⟨x, ex⟩ : ∃ x, at0 l k = x := ⟨_, rfl⟩
      have hxb := HBD.out k hlt
      rw [show l[k]?.getD 0 = at0 l k from rfl, ex] at hx0 hx
      rw [ex] at hxb
      have hql := runsTo_len l k
      obtain ⟨q, eq⟩ : ∃ q, runsTo l k = q := ⟨_, rfl⟩
      rw [eq] at hC hql ⊢
      have hq9 : q.length ≤ 40000 := by have := HL.out; omega
      have HC := hi hC
      have hki : (k : Int) < (l.length : Int) := by omega
      have hk9 : (k : Int) ≤ 20000 := by have := HL.out; omega
      have HLT := hi hlt
      -- what is read beside it
      have hY : ∃ y : Int, (1 ≤ k → at0 l (k - 1) = y ∧ 0 ≤ y ∧ y < 16384 ∧ ∀ W, Below w.heap.size w W → W.cell? ⟨b, off + (k - 1), none⟩ = some (.int .i64 y)) := by
        by_cases h1 : 1 ≤ k
        · obtain ⟨b', off', e, hbl', hy0, _⟩ := intsAt_read HV.out (Below.refl _ _) (show k - 1 < l.length by omega)
          simp only [Option.some.injEq, Addr.mk.injEq, and_true] at e
          obtain ⟨rfl, rfl⟩ := e
          exact ⟨at0 l (k - 1), fun _ => ⟨rfl, (HBD.out _ (by omega)).1, (HBD.out _ (by omega)).2, fun W hW => (hW.cell (p := ⟨b, off + (k - 1), none⟩) hbl).trans hy0⟩⟩
        · exact ⟨0, fun h => absurd h h1⟩
      have hZ : ∃ z : Int, (k + 1 < l.length → at0 l (k + 1) = z ∧ ∀ W, Below w.heap.size w W → W.cell? ⟨b, off + (k + 1), none⟩ = some (.int .i64 z)) := by
        by_cases h1 : k + 1 < l.length
        · obtain ⟨b', off', e, hbl', hy0, _⟩ := intsAt_read HV.out (Below.refl _ _) h1
          simp only [Option.some.injEq, Addr.mk.injEq, and_true] at e
          obtain ⟨rfl, rfl⟩ := e
          exact ⟨at0 l (k + 1), fun _ => ⟨rfl, fun W hW => (hW.cell (p := ⟨b, off + (k + 1), none⟩) hbl).trans hy0⟩⟩
        · exact ⟨0, fun h => absurd h h1⟩
      obtain ⟨y, hY⟩ := hY
      obtain ⟨z, hZ⟩ := hZ
      have HXX := hi (fun (W : World) (hW : Below w.heap.size w W) => (hW.cell (p := ⟨b, off + k, none⟩) hbl).trans hx0)
      have HYY := hi hY
      have HZZ := hi hZ
      have hCw := hC.below
      have hs : runsTo l (k + 1) = q ++ (if firstAt l k = true then [x] else []) ++ (if lastAt l k = true then [x] else []) := by rw [runsTo, eq, ex]
      have hF : (k = 0 ∧ firstAt l k = true) ∨ (1 ≤ k ∧ x ≠ y + 1 ∧ firstAt l k = true) ∨ (1 ≤ k ∧ x = y + 1 ∧ firstAt l k = false) := by
        by_cases h0 : k = 0
        · exact .inl ⟨h0, decide_eq_true (.inl h0)⟩
        · have hy := (HYY.out (by omega)).1
          by_cases h1 : x = y + 1
          · exact .inr (.inr ⟨by omega, h1, decide_eq_false (by rw [ex, hy]; rintro (a | a); exact h0 a; exact a h1)⟩)
          · exact .inr (.inl ⟨by omega, h1, decide_eq_true (.inr (by rw [ex, hy]; exact h1))⟩)
      have hL : (k + 1 = l.length ∧ lastAt l k = true) ∨ (k + 1 < l.length ∧ z ≠ x + 1 ∧ lastAt l k = true) ∨ (k + 1 < l.length ∧ z = x + 1 ∧ lastAt l k = false) := by
        by_cases h0 : k + 1 = l.length
        · exact .inl ⟨h0, decide_eq_true (.inl h0)⟩
        · have hz := (HZZ.out (by omega)).1
          by_cases h1 : z = x + 1
          · exact .inr (.inr ⟨by omega, h1, decide_eq_false (by rw [ex, hz]; rintro (a | a); exact h0 a; exact a h1)⟩)
          · exact .inr (.inl ⟨by omega, h1, decide_eq_true (.inr (by rw [ex, hz]; exact h1))⟩)
      obtain ⟨hxb0, hxb1⟩ := hxb
      have HCW := hi hCw
      clear hY hZ hC hx0 ex eq hCw hk HH hql hlt
      rcases hF with ⟨h0, hf⟩ | ⟨h0, h1, hf⟩ | ⟨h0, h1, hf⟩
      · rcases hL with ⟨h2, hl'⟩ | ⟨h2, h3, hl'⟩ | ⟨h2, h3, hl'⟩
        · have HK2 := hi h2
          have HS2 := hi (show runsTo l (k + 1) = q ++ [x] ++ [x] by rw [hs, hf, hl']; rfl)
          have hk0 : ((k : Int) == 0) = true := by simp [h0]
          clear hs hf hl' h2
          clear h0
          go_wp2
          go_quiet (fail)
          clear hk0
          go_wp2_with (first
          | (at_builtin; refine wpList_append_own _ rfl (.tmp 26) (.tmp 31) 22 rfl w.heap.size 3 i0 (.int .i64 0) 1 8 Tryd.underlying22 hi' hz0 hz1 hz2 rfl (by decide) _ _ _ rfl ((col_drew HC.out _).own.alloc _) _ 1 1 [.int .i64 x] rfl rfl (cell_one_new _ _ _) (by simp [Value.oneCell']) (by unfold maxLen; first | omega | (simp; omega)) (by first | omega | (simp; omega)) (by have := HC.out.sz; simp; omega) ?_; intro v' w1 hown' hgrow _; obtain ⟨hc1, g', cap', rfl⟩ := (col_drew HC.out _).app hown' hgrow; replace HC := hi hc1; have hx1 := HXX.out w1 hc1.below; clear hown' hgrow hc1))
          have hkl : ((k : Int) + 1 == (l.length : Int)) = true := by have := HK2.out; simp; omega
          have hw3 : IntKind.i64.wrap ((k : Int) + 1) = (k : Int) + 1 := IntWalk.i64_in _ (by omega)
          go_quiet (fail)
          clear hkl hw3
          go_wp2_with (first
          | (at_builtin; refine wpList_append_own _ rfl (.tmp 51) (.tmp 56) 22 rfl w.heap.size 3 i0 (.int .i64 0) 1 8 Tryd.underlying22 hi' hz0 hz1 hz2 rfl (by decide) _ _ _ rfl ((col_drew HC.out _).own.alloc _) _ 1 1 [.int .i64 x] rfl rfl (cell_one_new _ _ _) (by simp [Value.oneCell']) (by unfold maxLen; first | omega | (simp; omega)) (by first | omega | (simp; omega)) (by have := HC.out.sz; simp; omega) ?_; intro v' w1 hown' hgrow _; obtain ⟨hc1, g', cap', rfl⟩ := (col_drew HC.out _).app hown' hgrow; replace HC := hi hc1; have hx1 := HXX.out w1 hc1.below; clear hown' hgrow hc1))
          go_roundw
          case rel => exact ⟨k + 1, by go_num, hi ⟨HLT.out, by rw [HS2.out]; first | (have h := HC.out; simpa using h) | (have h := col_drew HC.out; simpa using h _)⟩⟩
          case measure => have := HLT.out; simp only [intOf]; omega
        · have H3 := hi h3
          clear h3
          have HK2 := hi h2
          have HS2 := hi (show runsTo l (k + 1) = q ++ [x] ++ [x] by rw [hs, hf, hl']; rfl)
          have hk0 : ((k : Int) == 0) = true := by simp [h0]
          clear hs hf hl' h2
          clear h0
          go_wp2
          go_quiet (fail)
          clear hk0
          go_wp2_with (first
          | (at_builtin; refine wpList_append_own _ rfl (.tmp 26) (.tmp 31) 22 rfl w.heap.size 3 i0 (.int .i64 0) 1 8 Tryd.underlying22 hi' hz0 hz1 hz2 rfl (by decide) _ _ _ rfl ((col_drew HC.out _).own.alloc _) _ 1 1 [.int .i64 x] rfl rfl (cell_one_new _ _ _) (by simp [Value.oneCell']) (by unfold maxLen; first | omega | (simp; omega)) (by first | omega | (simp; omega)) (by have := HC.out.sz; simp; omega) ?_; intro v' w1 hown' hgrow _; obtain ⟨hc1, g', cap', rfl⟩ := (col_drew HC.out _).app hown' hgrow; replace HC := hi hc1; have hx1 := HXX.out w1 hc1.below; have hzc1 := (HZZ.out HK2.out).2 w1 hc1.below; clear hown' hgrow hc1))
          have hkl : ((k : Int) + 1 == (l.length : Int)) = false := by have := HK2.out; simp; omega
          have hkp : (k : Int) + 1 < (l.length : Int) := by have := HK2.out; omega
          have hkt : ((k : Int) + 1).toNat = k + 1 := by omega
          have hne2 : (z != x + 1) = true := by simp; exact H3.out
          have hw3 : IntKind.i64.wrap ((k : Int) + 1) = (k : Int) + 1 := IntWalk.i64_in _ (by omega)
          have hw4 : IntKind.i64.wrap (x + 1) = x + 1 := IntWalk.i64_in _ (by omega)
          go_quiet (fail)
          clear hkl hw3 hw4 hne2 hkt
          go_wp2_with (first
          | (at_builtin; refine wpList_append_own _ rfl (.tmp 51) (.tmp 56) 22 rfl w.heap.size 3 i0 (.int .i64 0) 1 8 Tryd.underlying22 hi' hz0 hz1 hz2 rfl (by decide) _ _ _ rfl ((col_drew HC.out _).own.alloc _) _ 1 1 [.int .i64 x] rfl rfl (cell_one_new _ _ _) (by simp [Value.oneCell']) (by unfold maxLen; first | omega | (simp; omega)) (by first | omega | (simp; omega)) (by have := HC.out.sz; simp; omega) ?_; intro v' w1 hown' hgrow _; obtain ⟨hc1, g', cap', rfl⟩ := (col_drew HC.out _).app hown' hgrow; replace HC := hi hc1; have hx1 := HXX.out w1 hc1.below; clear hown' hgrow hc1))
          go_roundw
          case rel => exact ⟨k + 1, by go_num, hi ⟨HLT.out, by rw [HS2.out]; first | (have h := HC.out; simpa using h) | (have h := col_drew HC.out; simpa using h _)⟩⟩
          case measure => have := HLT.out; simp only [intOf]; omega
        · have H3 := hi h3
          clear h3
          have HK2 := hi h2
          have HS2 := hi (show runsTo l (k + 1) = q ++ [x] ++ [] by rw [hs, hf, hl']; rfl)
          have hk0 : ((k : Int) == 0) = true := by simp [h0]
          clear hs hf hl' h2
          clear h0
          go_wp2
          go_quiet (fail)
          clear hk0
          go_wp2_with (first
          | (at_builtin; refine wpList_append_own _ rfl (.tmp 26) (.tmp 31) 22 rfl w.heap.size 3 i0 (.int .i64 0) 1 8 Tryd.underlying22 hi' hz0 hz1 hz2 rfl (by decide) _ _ _ rfl ((col_drew HC.out _).own.alloc _) _ 1 1 [.int .i64 x] rfl rfl (cell_one_new _ _ _) (by simp [Value.oneCell']) (by unfold maxLen; first | omega | (simp; omega)) (by first | omega | (simp; omega)) (by have := HC.out.sz; simp; omega) ?_; intro v' w1 hown' hgrow _; obtain ⟨hc1, g', cap', rfl⟩ := (col_drew HC.out _).app hown' hgrow; replace HC := hi hc1; have hx1 := HXX.out w1 hc1.below; have hzc1 := (HZZ.out HK2.out).2 w1 hc1.below; clear hown' hgrow hc1))
          have hkl : ((k : Int) + 1 == (l.length : Int)) = false := by have := HK2.out; simp; omega
          have hkp : (k : Int) + 1 < (l.length : Int) := by have := HK2.out; omega
          have hkt : ((k : Int) + 1).toNat = k + 1 := by omega
          have hne2 : (z != x + 1) = false := by simp; exact H3.out
          have hw3 : IntKind.i64.wrap ((k : Int) + 1) = (k : Int) + 1 := IntWalk.i64_in _ (by omega)
          have hw4 : IntKind.i64.wrap (x + 1) = x + 1 := IntWalk.i64_in _ (by omega)
          go_quiet (fail)
          clear hkl hw3 hw4 hne2 hkt
          go_wp2
          go_roundw
          case rel => exact ⟨k + 1, by go_num, hi ⟨HLT.out, by rw [HS2.out]; first | (have h := HC.out; simpa using h) | (have h := col_drew HC.out; simpa using h _)⟩⟩
          case measure => have := HLT.out; simp only [intOf]; omega
      · rcases hL with ⟨h2, hl'⟩ | ⟨h2, h3, hl'⟩ | ⟨h2, h3, hl'⟩
        · have HK2 := hi h2
          have HS2 := hi (show runsTo l (k + 1) = q ++ [x] ++ [x] by rw [hs, hf, hl']; rfl)
          have hk0 : ((k : Int) == 0) = false := by simp; omega
          have hyy := (HYY.out h0).2.2.2 wr HCW.out
          obtain ⟨-, hy0, hy1, -⟩ := HYY.out h0
          have hkm1 : ((k - 1 : Nat) : Int) < (l.length : Int) := by omega
          have hne : (x != y + 1) = true := by simp; omega
          have hw1 : IntKind.i64.wrap ((k : Int) - 1) = ((k - 1 : Nat) : Int) := by rw [IntWalk.i64_in _ (by omega)]; omega
          have hw2 : IntKind.i64.wrap (y + 1) = y + 1 := IntWalk.i64_in _ (by omega)
          clear hs hf hl' h2
          clear h0 h1
          go_wp2
          go_quiet (fail)
          clear hk0 hw1 hw2 hne hyy
          go_wp2_with (first
          | (at_builtin; refine wpList_append_own _ rfl (.tmp 26) (.tmp 31) 22 rfl w.heap.size 3 i0 (.int .i64 0) 1 8 Tryd.underlying22 hi' hz0 hz1 hz2 rfl (by decide) _ _ _ rfl ((col_drew HC.out _).own.alloc _) _ 1 1 [.int .i64 x] rfl rfl (cell_one_new _ _ _) (by simp [Value.oneCell']) (by unfold maxLen; first | omega | (simp; omega)) (by first | omega | (simp; omega)) (by have := HC.out.sz; simp; omega) ?_; intro v' w1 hown' hgrow _; obtain ⟨hc1, g', cap', rfl⟩ := (col_drew HC.out _).app hown' hgrow; replace HC := hi hc1; have hx1 := HXX.out w1 hc1.below; clear hown' hgrow hc1))
          have hkl : ((k : Int) + 1 == (l.length : Int)) = true := by have := HK2.out; simp; omega
          have hw3 : IntKind.i64.wrap ((k : Int) + 1) = (k : Int) + 1 := IntWalk.i64_in _ (by omega)
          go_quiet (fail)
          clear hkl hw3
          go_wp2_with (first
          | (at_builtin; refine wpList_append_own _ rfl (.tmp 51) (.tmp 56) 22 rfl w.heap.size 3 i0 (.int .i64 0) 1 8 Tryd.underlying22 hi' hz0 hz1 hz2 rfl (by decide) _ _ _ rfl ((col_drew HC.out _).own.alloc _) _ 1 1 [.int .i64 x] rfl rfl (cell_one_new _ _ _) (by simp [Value.oneCell']) (by unfold maxLen; first | omega | (simp; omega)) (by first | omega | (simp; omega)) (by have := HC.out.sz; simp; omega) ?_; intro v' w1 hown' hgrow _; obtain ⟨hc1, g', cap', rfl⟩ := (col_drew HC.out _).app hown' hgrow; replace HC := hi hc1; have hx1 := HXX.out w1 hc1.below; clear hown' hgrow hc1))
          go_roundw
          case rel => exact ⟨k + 1, by go_num, hi ⟨HLT.out, by rw [HS2.out]; first | (have h := HC.out; simpa using h) | (have h := col_drew HC.out; simpa using h _)⟩⟩
          case measure => have := HLT.out; simp only [intOf]; omega
        · have H3 := hi h3
          clear h3
          have HK2 := hi h2
          have HS2 := hi (show runsTo l (k + 1) = q ++ [x] ++ [x] by rw [hs, hf, hl']; rfl)
          have hk0 : ((k : Int) == 0) = false := by simp; omega
          have hyy := (HYY.out h0).2.2.2 wr HCW.out
          obtain ⟨-, hy0, hy1, -⟩ := HYY.out h0
          have hkm1 : ((k - 1 : Nat) : Int) < (l.length : Int) := by omega
          have hne : (x != y + 1) = true := by simp; omega
          have hw1 : IntKind.i64.wrap ((k : Int) - 1) = ((k - 1 : Nat) : Int) := by rw [IntWalk.i64_in _ (by omega)]; omega
          have hw2 : IntKind.i64.wrap (y + 1) = y + 1 := IntWalk.i64_in _ (by omega)
          clear hs hf hl' h2
          clear h0 h1
          go_wp2
          go_quiet (fail)
          clear hk0 hw1 hw2 hne hyy
          go_wp2_with (first
          | (at_builtin; refine wpList_append_own _ rfl (.tmp 26) (.tmp 31) 22 rfl w.heap.size 3 i0 (.int .i64 0) 1 8 Tryd.underlying22 hi' hz0 hz1 hz2 rfl (by decide) _ _ _ rfl ((col_drew HC.out _).own.alloc _) _ 1 1 [.int .i64 x] rfl rfl (cell_one_new _ _ _) (by simp [Value.oneCell']) (by unfold maxLen; first | omega | (simp; omega)) (by first | omega | (simp; omega)) (by have := HC.out.sz; simp; omega) ?_; intro v' w1 hown' hgrow _; obtain ⟨hc1, g', cap', rfl⟩ := (col_drew HC.out _).app hown' hgrow; replace HC := hi hc1; have hx1 := HXX.out w1 hc1.below; have hzc1 := (HZZ.out HK2.out).2 w1 hc1.below; clear hown' hgrow hc1))
          have hkl : ((k : Int) + 1 == (l.length : Int)) = false := by have := HK2.out; simp; omega
          have hkp : (k : Int) + 1 < (l.length : Int) := by have := HK2.out; omega
          have hkt : ((k : Int) + 1).toNat = k + 1 := by omega
          have hne2 : (z != x + 1) = true := by simp; exact H3.out
          have hw3 : IntKind.i64.wrap ((k : Int) + 1) = (k : Int) + 1 := IntWalk.i64_in _ (by omega)
          have hw4 : IntKind.i64.wrap (x + 1) = x + 1 := IntWalk.i64_in _ (by omega)
          go_quiet (fail)
          clear hkl hw3 hw4 hne2 hkt
          go_wp2_with (first
          | (at_builtin; refine wpList_append_own _ rfl (.tmp 51) (.tmp 56) 22 rfl w.heap.size 3 i0 (.int .i64 0) 1 8 Tryd.underlying22 hi' hz0 hz1 hz2 rfl (by decide) _ _ _ rfl ((col_drew HC.out _).own.alloc _) _ 1 1 [.int .i64 x] rfl rfl (cell_one_new _ _ _) (by simp [Value.oneCell']) (by unfold maxLen; first | omega | (simp; omega)) (by first | omega | (simp; omega)) (by have := HC.out.sz; simp; omega) ?_; intro v' w1 hown' hgrow _; obtain ⟨hc1, g', cap', rfl⟩ := (col_drew HC.out _).app hown' hgrow; replace HC := hi hc1; have hx1 := HXX.out w1 hc1.below; clear hown' hgrow hc1))
          go_roundw
          case rel => exact ⟨k + 1, by go_num, hi ⟨HLT.out, by rw [HS2.out]; first | (have h := HC.out; simpa using h) | (have h := col_drew HC.out; simpa using h _)⟩⟩
          case measure => have := HLT.out; simp only [intOf]; omega
        · have H3 := hi h3
          clear h3
          have HK2 := hi h2
          have HS2 := hi (show runsTo l (k + 1) = q ++ [x] ++ [] by rw [hs, hf, hl']; rfl)
          have hk0 : ((k : Int) == 0) = false := by simp; omega
          have hyy := (HYY.out h0).2.2.2 wr HCW.out
          obtain ⟨-, hy0, hy1, -⟩ := HYY.out h0
          have hkm1 : ((k - 1 : Nat) : Int) < (l.length : Int) := by omega
          have hne : (x != y + 1) = true := by simp; omega
          have hw1 : IntKind.i64.wrap ((k : Int) - 1) = ((k - 1 : Nat) : Int) := by rw [IntWalk.i64_in _ (by omega)]; omega
          have hw2 : IntKind.i64.wrap (y + 1) = y + 1 := IntWalk.i64_in _ (by omega)
          clear hs hf hl' h2
          clear h0 h1
          go_wp2
          go_quiet (fail)
          clear hk0 hw1 hw2 hne hyy
          go_wp2_with (first
          | (at_builtin; refine wpList_append_own _ rfl (.tmp 26) (.tmp 31) 22 rfl w.heap.size 3 i0 (.int .i64 0) 1 8 Tryd.underlying22 hi' hz0 hz1 hz2 rfl (by decide) _ _ _ rfl ((col_drew HC.out _).own.alloc _) _ 1 1 [.int .i64 x] rfl rfl (cell_one_new _ _ _) (by simp [Value.oneCell']) (by unfold maxLen; first | omega | (simp; omega)) (by first | omega | (simp; omega)) (by have := HC.out.sz; simp; omega) ?_; intro v' w1 hown' hgrow _; obtain ⟨hc1, g', cap', rfl⟩ := (col_drew HC.out _).app hown' hgrow; replace HC := hi hc1; have hx1 := HXX.out w1 hc1.below; have hzc1 := (HZZ.out HK2.out).2 w1 hc1.below; clear hown' hgrow hc1))
          have hkl : ((k : Int) + 1 == (l.length : Int)) = false := by have := HK2.out; simp; omega
          have hkp : (k : Int) + 1 < (l.length : Int) := by have := HK2.out; omega
          have hkt : ((k : Int) + 1).toNat = k + 1 := by omega
          have hne2 : (z != x + 1) = false := by simp; exact H3.out
          have hw3 : IntKind.i64.wrap ((k : Int) + 1) = (k : Int) + 1 := IntWalk.i64_in _ (by omega)
          have hw4 : IntKind.i64.wrap (x + 1) = x + 1 := IntWalk.i64_in _ (by omega)
          go_quiet (fail)
          clear hkl hw3 hw4 hne2 hkt
          go_wp2
          go_roundw
          case rel => exact ⟨k + 1, by go_num, hi ⟨HLT.out, by rw [HS2.out]; first | (have h := HC.out; simpa using h) | (have h := col_drew HC.out; simpa using h _)⟩⟩
          case measure => have := HLT.out; simp only [intOf]; omega
      · rcases hL with ⟨h2, hl'⟩ | ⟨h2, h3, hl'⟩ | ⟨h2, h3, hl'⟩
        · have HK2 := hi h2
          have HS2 := hi (show runsTo l (k + 1) = q ++ [] ++ [x] by rw [hs, hf, hl']; rfl)
          have hk0 : ((k : Int) == 0) = false := by simp; omega
          have hyy := (HYY.out h0).2.2.2 wr HCW.out
          obtain ⟨-, hy0, hy1, -⟩ := HYY.out h0
          have hkm1 : ((k - 1 : Nat) : Int) < (l.length : Int) := by omega
          have hne : (x != y + 1) = false := by simp; omega
          have hw1 : IntKind.i64.wrap ((k : Int) - 1) = ((k - 1 : Nat) : Int) := by rw [IntWalk.i64_in _ (by omega)]; omega
          have hw2 : IntKind.i64.wrap (y + 1) = y + 1 := IntWalk.i64_in _ (by omega)
          clear hs hf hl' h2
          clear h0 h1
          go_wp2
          go_quiet (fail)
          clear hk0 hw1 hw2 hne hyy
          go_wp2
          have hkl : ((k : Int) + 1 == (l.length : Int)) = true := by have := HK2.out; simp; omega
          have hw3 : IntKind.i64.wrap ((k : Int) + 1) = (k : Int) + 1 := IntWalk.i64_in _ (by omega)
          go_quiet (fail)
          clear hkl hw3
          go_wp2_with (first
          | (at_builtin; refine wpList_append_own _ rfl (.tmp 51) (.tmp 56) 22 rfl w.heap.size 3 i0 (.int .i64 0) 1 8 Tryd.underlying22 hi' hz0 hz1 hz2 rfl (by decide) _ _ _ rfl ((col_drew HC.out _).own.alloc _) _ 1 1 [.int .i64 x] rfl rfl (cell_one_new _ _ _) (by simp [Value.oneCell']) (by unfold maxLen; first | omega | (simp; omega)) (by first | omega | (simp; omega)) (by have := HC.out.sz; simp; omega) ?_; intro v' w1 hown' hgrow _; obtain ⟨hc1, g', cap', rfl⟩ := (col_drew HC.out _).app hown' hgrow; replace HC := hi hc1; have hx1 := HXX.out w1 hc1.below; clear hown' hgrow hc1))
          go_roundw
          case rel => exact ⟨k + 1, by go_num, hi ⟨HLT.out, by rw [HS2.out]; first | (have h := HC.out; simpa using h) | (have h := col_drew HC.out; simpa using h _)⟩⟩
          case measure => have := HLT.out; simp only [intOf]; omega
        · have H3 := hi h3
          clear h3
          have HK2 := hi h2
          have HS2 := hi (show runsTo l (k + 1) = q ++ [] ++ [x] by rw [hs, hf, hl']; rfl)
          have hk0 : ((k : Int) == 0) = false := by simp; omega
          have hyy := (HYY.out h0).2.2.2 wr HCW.out
          obtain ⟨-, hy0, hy1, -⟩ := HYY.out h0
          have hkm1 : ((k - 1 : Nat) : Int) < (l.length : Int) := by omega
          have hne : (x != y + 1) = false := by simp; omega
          have hw1 : IntKind.i64.wrap ((k : Int) - 1) = ((k - 1 : Nat) : Int) := by rw [IntWalk.i64_in _ (by omega)]; omega
          have hw2 : IntKind.i64.wrap (y + 1) = y + 1 := IntWalk.i64_in _ (by omega)
          clear hs hf hl' h2
          clear h0 h1
          go_wp2
          go_quiet (fail)
          clear hk0 hw1 hw2 hne hyy
          go_wp2
          have hkl : ((k : Int) + 1 == (l.length : Int)) = false := by have := HK2.out; simp; omega
          have hkp : (k : Int) + 1 < (l.length : Int) := by have := HK2.out; omega
          have hkt : ((k : Int) + 1).toNat = k + 1 := by omega
          have hne2 : (z != x + 1) = true := by simp; exact H3.out
          have hzz := (HZZ.out HK2.out).2 wr HCW.out
          have hw3 : IntKind.i64.wrap ((k : Int) + 1) = (k : Int) + 1 := IntWalk.i64_in _ (by omega)
          have hw4 : IntKind.i64.wrap (x + 1) = x + 1 := IntWalk.i64_in _ (by omega)
          go_quiet (fail)
          clear hkl hw3 hw4 hne2 hkt
          go_wp2_with (first
          | (at_builtin; refine wpList_append_own _ rfl (.tmp 51) (.tmp 56) 22 rfl w.heap.size 3 i0 (.int .i64 0) 1 8 Tryd.underlying22 hi' hz0 hz1 hz2 rfl (by decide) _ _ _ rfl ((col_drew HC.out _).own.alloc _) _ 1 1 [.int .i64 x] rfl rfl (cell_one_new _ _ _) (by simp [Value.oneCell']) (by unfold maxLen; first | omega | (simp; omega)) (by first | omega | (simp; omega)) (by have := HC.out.sz; simp; omega) ?_; intro v' w1 hown' hgrow _; obtain ⟨hc1, g', cap', rfl⟩ := (col_drew HC.out _).app hown' hgrow; replace HC := hi hc1; have hx1 := HXX.out w1 hc1.below; clear hown' hgrow hc1))
          go_roundw
          case rel => exact ⟨k + 1, by go_num, hi ⟨HLT.out, by rw [HS2.out]; first | (have h := HC.out; simpa using h) | (have h := col_drew HC.out; simpa using h _)⟩⟩
          case measure => have := HLT.out; simp only [intOf]; omega
        · have H3 := hi h3
          clear h3
          have HK2 := hi h2
          have HS2 := hi (show runsTo l (k + 1) = q ++ [] ++ [] by rw [hs, hf, hl']; rfl)
          have hk0 : ((k : Int) == 0) = false := by simp; omega
          have hyy := (HYY.out h0).2.2.2 wr HCW.out
          obtain ⟨-, hy0, hy1, -⟩ := HYY.out h0
          have hkm1 : ((k - 1 : Nat) : Int) < (l.length : Int) := by omega
          have hne : (x != y + 1) = false := by simp; omega
          have hw1 : IntKind.i64.wrap ((k : Int) - 1) = ((k - 1 : Nat) : Int) := by rw [IntWalk.i64_in _ (by omega)]; omega
          have hw2 : IntKind.i64.wrap (y + 1) = y + 1 := IntWalk.i64_in _ (by omega)
          clear hs hf hl' h2
          clear h0 h1
          go_wp2
          go_quiet (fail)
          clear hk0 hw1 hw2 hne hyy
          go_wp2
          have hkl : ((k : Int) + 1 == (l.length : Int)) = false := by have := HK2.out; simp; omega
          have hkp : (k : Int) + 1 < (l.length : Int) := by have := HK2.out; omega
          have hkt : ((k : Int) + 1).toNat = k + 1 := by omega
          have hne2 : (z != x + 1) = false := by simp; exact H3.out
          have hzz := (HZZ.out HK2.out).2 wr HCW.out
          have hw3 : IntKind.i64.wrap ((k : Int) + 1) = (k : Int) + 1 := IntWalk.i64_in _ (by omega)
          have hw4 : IntKind.i64.wrap (x + 1) = x + 1 := IntWalk.i64_in _ (by omega)
          go_quiet (fail)
          clear hkl hw3 hw4 hne2 hkt
          go_wp2
          go_roundw
          case rel => exact ⟨k + 1, by go_num, hi ⟨HLT.out, by rw [HS2.out]; first | (have h := HC.out; simpa using h) | (have h := col_drew HC.out; simpa using h _)⟩⟩
          case measure => have := HLT.out; simp only [intOf]; omega
    · have ek : k = l.length := by omega
      subst ek
      have HC := hi hC
      clear hC hlt hk HH
      go_wp2
      go_ret
      exact gives HC.out rfl

end Go.Proofs.YtmdlknddlmpddaaDoor
