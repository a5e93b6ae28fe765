/-
  The document's Of, Drop, Bits.
-/
import Derived.Test.YtnnlimjbmfpalaaLadR
import Derived.Test.YtnnlimjbmfpalaaLadK
namespace Go.Proofs.Ytnnlimjbmfpalaa
open Go.ChangeShapes Go.WideShapes Go.ChangeAt Go.RowKit
set_option linter.unusedVariables false

/-! ### Drop -/
theorem dropR_first {f : Rg} {i : Nat} (hi : f i = true) (h64 : i < 64) (hl : ∀ j, j < i → f j = false) : dropR f = put f i false ∧ dropB f = true :=
  ⟨dropR_some (top_first hi h64 hl), dropB_some (top_first hi h64 hl)⟩
theorem dropR_empty {f : Rg} (hl : ∀ j, j < 64 → f j = false) : dropR f = f ∧ dropB f = false := by
  have h : top f = none := by rw [top, rungs, upto_nil 64 hl]; rfl
  exact ⟨dropR_none h, dropB_none h⟩

set_option maxRecDepth 20000 in
set_option maxHeartbeats 4000000 in
theorem rdrop_any (f : Rg) (w : World) : Calls Try.prog 52 #[rv f] w fun e w' => e = .returned (.tuple #[rv (dropR f), .bool (dropB f)]) ∧ Below w.heap.size w w' := by
  have hb : CB ((w.alloc (.cells (bsA f) 34)).alloc (.cells (bsA f0) 34)) w.heap.size 34 (bsA f) := (CB.new w _ _).alloc _
  have hc : CB ((w.alloc (.cells (bsA f) 34)).alloc (.cells (bsA f0) 34)) (w.heap.size + 1) 34 (bsA f0) := cb_second
  have hB : Below w.heap.size w ((w.alloc (.cells (bsA f) 34)).alloc (.cells (bsA f0) 34)) := bal_two _ _ _
  have HS := hi hb
  have HC := hi hc
  have HB := hi hB
  clear hb hc hB
  unfold rv
  go_enter Try.func52, Try.ntmps52
  go_wp2_with (refine wpList_alloc_ref rfl rfl ?_)
  obtain ⟨W2, hW2⟩ : ∃ W2, (w.alloc (.cells (bsA f) 34)).alloc (.cells (bsA f0) 34) = W2 := ⟨_, rfl⟩
  rw [hW2] at HS HC HB ⊢
  clear hW2
  go_loopw [4] (fun i wr => ∃ k : Nat, k ≤ 64 ∧ i = .int .i64 k ∧ wr = W2 ∧ Hi (∀ j, j < k → f j = false)) (fun i _ => 64 - (intOf i).toNat)
  case atStart => exact ⟨0, Nat.zero_le _, rfl, rfl, hi (fun j hj => by omega)⟩
  case round =>
    obtain ⟨k, hk, rfl, rfl, HF⟩ := hrel
    by_cases hlt : k < 64
    · have c0 := HS.out.bit hlt
      cases hf : f k
      · rw [hf] at c0
        have HN := hi (show ∀ j, j < k + 1 → f j = false from fun j hj => by
          by_cases e : j = k
          · rw [e]; exact hf
          · exact HF.out j (by omega))
        clear hf
        go_wp2
        go_roundw
        case rel => exact ⟨k + 1, by omega, by go_num, trivial, HN⟩
        case measure => simp [intOf]; omega
      · rw [hf] at c0
        have HD := hi (dropR_first hf hlt HF.out)
        have fr := HS.out.frozen
        have hs := HS.out.set k (.bool false)
        rw [bsA_set f hlt] at hs
        have hs2 := HC.out.other w.heap.size k (.bool false) (by omega)
        have HB2 := hi (below_set HB.out (Nat.le_refl _) (.bool false) (o := k))
        have HS1 := hi hs.rangeB
        have HT := hi (show World.there _ (w.heap.size + 1) 0 (bsA (put f k false)).size by rw [bsA_size]; exact hs2.thereB (bsA_size _))
        have HR := hi (hs2.whole (bsA_size _) (put f k false))
        have HB3 := hi (below_cells (b := w.heap.size + 1) (by omega) (bsL (put f k false)) 0 _ HB2.out)
        have H1 := hi (bsA_one (put f k false))
        have HZ := hi (size_ref (put f k false))
        have HZA := hi (size_refA (put f k false))
        clear hf hs hs2
        go_wp2_with (first
          | (refine wpList_load_mid rfl 34 (.tmp 1) rfl w.heap.size 0 rfl (bsL (put f k false)) _ HS1.out Try.underlying34 rfl HZ.out ?_)
          | (refine wpList_store_mid rfl 34 (.tmp 2) (.tmp 16) rfl (w.heap.size + 1) 0 (bsA (put f k false)) rfl rfl HT.out HZA.out H1.out ?_))
        exact bodyPost_ret (results_refdrop rfl _ _ (w.heap.size + 1) (put f k false) (.bool true) rfl rfl HR.out) rfl ⟨by rw [HD.out.1, HD.out.2], HB3.out⟩
    · obtain rfl : k = 64 := by omega
      have HD := hi (dropR_empty HF.out)
      have HS1 := hi HS.out.rangeB
      have HT := hi (show World.there _ (w.heap.size + 1) 0 (bsA f).size by rw [bsA_size]; exact HC.out.thereB (bsA_size _))
      have HR := hi (HC.out.whole (bsA_size _) f)
      have HB3 := hi (below_cells (b := w.heap.size + 1) (by omega) (bsL f) 0 _ HB.out)
      have H1 := hi (bsA_one f)
      have HZ := hi (size_ref f)
      have HZA := hi (size_refA f)
      go_wp2_with (first
        | (refine wpList_load_mid rfl 34 (.tmp 1) rfl w.heap.size 0 rfl (bsL f) _ HS1.out Try.underlying34 rfl HZ.out ?_)
        | (refine wpList_store_mid rfl 34 (.tmp 2) (.tmp 17) rfl (w.heap.size + 1) 0 (bsA f) rfl rfl HT.out HZA.out H1.out ?_))
      exact bodyPost_ret (results_refdrop rfl _ _ (w.heap.size + 1) f (.bool false) rfl rfl HR.out) rfl ⟨by rw [HD.out.1, HD.out.2], HB3.out⟩

/-! ### Bits -/
theorem bits_step (f : Rg) (g j : Nat) (hj : j < 32) : wd f g / 2 ^ (31 - j) = wd f g / 2 ^ (32 - j) * 2 + (if f (2 * (31 - j) + g) then 1 else 0) := by
  have hb := wd_bit f g (31 - j) (by omega)
  rw [Nat.testBit_eq_decide_div_mod_eq] at hb
  have e : wd f g / 2 ^ (32 - j) = wd f g / 2 ^ (31 - j) / 2 := by
    rw [show 32 - j = (31 - j) + 1 by omega, Nat.pow_succ, Nat.div_div_eq_div_mul]
  rw [e]
  cases hf : f (2 * (31 - j) + g)
  · rw [hf] at hb
    have : ¬ wd f g / 2 ^ (31 - j) % 2 = 1 := by simpa using hb
    simp; omega
  · rw [hf] at hb
    have : wd f g / 2 ^ (31 - j) % 2 = 1 := by simpa using hb
    simp; omega

set_option maxHeartbeats 2000000 in
theorem rbits_any (f : Rg) (g : Nat) (hg : g < 2) (w : World) : Calls Try.prog 38 #[rv f, .int .i64 (g : Int)] w fun e w' => e = .returned (.int .u32 (wd f g : Int)) ∧ Below w.heap.size w w' := by
  have HS := hi (CB.new w 34 (bsA f))
  have HB := hi (bal w (.cells (bsA f) 34))
  have HST := hi (bits_step f g)
  have hx := wd_lt f g
  have h0 : wd f g / 2 ^ 32 = 0 := Nat.div_eq_of_lt hx
  have h32 : wd f g / 2 ^ 0 = wd f g := by simp
  obtain ⟨X, hX⟩ : ∃ X, wd f g = X := ⟨_, rfl⟩
  rw [hX] at HST hx h0 h32 ⊢
  unfold rv
  clear hX
  go_enter Try.func38, Try.ntmps38
  go_wp2
  obtain ⟨W2, hW2⟩ : ∃ W2, w.alloc (.cells (bsA f) 34) = W2 := ⟨_, rfl⟩
  rw [hW2] at HS HB ⊢
  clear hW2
  go_loopw [5, 6] (fun n i wr => ∃ j : Nat, j ≤ 32 ∧ n = .int .u32 ((X / 2 ^ (32 - j) : Nat) : Int) ∧ i = .int .i64 (31 - (j : Int)) ∧ wr = W2) (fun _ i _ => (intOf i + 1).toNat)
  case atStart => exact ⟨0, Nat.zero_le _, by rw [Nat.sub_zero, h0]; rfl, rfl, rfl⟩
  case round =>
    obtain ⟨j, hj, rfl, rfl, rfl⟩ := hrel
    by_cases hlt : j < 32
    · have hst := HST.out j hlt
      obtain ⟨q, hq⟩ : ∃ q, 31 - j = q := ⟨_, rfl⟩
      have c0 := HS.out.bit (show 2 * q + g < 64 by omega)
      rw [hq] at hst
      have HQ := hi (show 32 - (j + 1) = q by omega)
      have hqI : 31 - (j : Int) = (q : Int) := by omega
      obtain ⟨Y, hY⟩ : ∃ Y, X / 2 ^ (32 - j) = Y := ⟨_, rfl⟩
      obtain ⟨Z, hZ⟩ : ∃ Y, X / 2 ^ q = Y := ⟨_, rfl⟩
      rw [hY, hZ] at hst
      have hZX : Z ≤ X := by rw [← hZ]; exact Nat.div_le_self _ _
      rw [hY, hqI]
      have HZ := hi hZ
      cases hf : f (2 * q + g)
      · rw [hf] at c0 hst
        have hw : ((Y : Int) * 2) % 4294967296 = (Z : Int) := by simp at hst; omega
        clear hf hst hY hZ
        go_wp2
        exact ⟨⟨j + 1, by omega, congrArg (Value.int .u32) (by rw [HQ.out, HZ.out]; exact hw), congrArg (Value.int .i64) (by omega), trivial⟩, by simp only [intOf]; omega⟩
      · rw [hf] at c0 hst
        have hw : ((Y : Int) * 2) % 4294967296 = (Z : Int) - 1 := by simp at hst; omega
        clear hf hst hY hZ
        go_wp2
        exact ⟨⟨j + 1, by omega, congrArg (Value.int .u32) (by rw [HQ.out, HZ.out]), congrArg (Value.int .i64) (by omega), trivial⟩, by simp only [intOf]; omega⟩
    · obtain rfl : j = 32 := by omega
      rw [show 32 - 32 = 0 from rfl, h32]
      go_wp2
      go_ret
      exact ⟨rfl, HB.out⟩

/-! ### Of -/
/-- The first places of a ladder. -/
def firstK (f : Rg) (k : Nat) : Rg := fun i => decide (i < k) && f i
theorem firstK_zero (f : Rg) : firstK f 0 = f0 := by funext i; simp [firstK, f0]
theorem firstK_succ (f : Rg) (k : Nat) : put (firstK f k) k (f k) = firstK f (k + 1) := by
  funext i
  unfold put firstK
  by_cases h : i = k
  · subst h; simp
  · have : (i < k + 1) ↔ (i < k) := by omega
    simp [h, this]
theorem firstK_all (f : Rg) : bsA (firstK f 64) = bsA f := bsA_congr (fun i hi => by simp [firstK, hi])
theorem ofW_even (a b k : Nat) : ofW a b (2 * k) = decide (a / 2 ^ k % 2 = 1) := by
  rw [ofW, if_pos (by omega), show 2 * k / 2 = k by omega, Nat.testBit_eq_decide_div_mod_eq]
theorem ofW_odd (a b k : Nat) : ofW a b (2 * k + 1) = decide (b / 2 ^ k % 2 = 1) := by
  rw [ofW, if_neg (by omega), show (2 * k + 1) / 2 = k by omega, Nat.testBit_eq_decide_div_mod_eq]

/-- Where the loop stands. -/
structure OfI (w : World) (f : Rg) (k : Nat) (W : World) : Prop where
  l : CB W (w.heap.size + 1) 34 (bsA (firstK f (2 * k)))
  r : CB W w.heap.size 34 (bsA f0)
  below : Below w.heap.size w W

set_option maxRecDepth 20000 in
set_option maxHeartbeats 4000000 in
theorem rof_any (a b : Nat) (w : World) (ha : a < 4294967296) (hb : b < 4294967296) : Calls Try.prog 31 #[.int .u32 (a : Int), .int .u32 (b : Int)] w fun e w' => e = .returned (rv (ofW a b)) ∧ Below w.heap.size w w' := by
  have HI := hi (show OfI w (ofW a b) 0 ((w.alloc (.cells (bsA f0) 34)).alloc (.cells (bsA f0) 34)) from
    ⟨by rw [Nat.mul_zero, firstK_zero]; exact cb_second, (CB.new w _ _).alloc _, bal_two _ _ _⟩)
  go_enter Try.func31, Try.ntmps31
  go_wp2_with (refine wpList_alloc_ref rfl rfl ?_)
  go_loopw [0, 1, 6] (fun x y i wr => ∃ k : Nat, k ≤ 32 ∧ x = .int .u32 ((a / 2 ^ k : Nat) : Int) ∧ y = .int .u32 ((b / 2 ^ k : Nat) : Int) ∧ i = .int .i64 k ∧ Hi (OfI w (ofW a b) k wr)) (fun _ _ i _ => 32 - (intOf i).toNat)
  case atStart => exact ⟨0, Nat.zero_le _, by simp, by simp, rfl, HI⟩
  case round =>
    obtain ⟨k, hk, rfl, rfl, rfl, HP⟩ := hrel
    clear HI
    by_cases hlt : k < 32
    · have hx := ofW_even a b k
      have hy := ofW_odd a b k
      have ex : a / 2 ^ (k + 1) = a / 2 ^ k / 2 := by rw [Nat.pow_succ, Nat.div_div_eq_div_mul]
      have ey : b / 2 ^ (k + 1) = b / 2 ^ k / 2 := by rw [Nat.pow_succ, Nat.div_div_eq_div_mul]
      have hXa : a / 2 ^ k ≤ a := Nat.div_le_self _ _
      have hYb : b / 2 ^ k ≤ b := Nat.div_le_self _ _
      obtain ⟨X, hX⟩ : ∃ X, a / 2 ^ k = X := ⟨_, rfl⟩
      obtain ⟨Y, hY⟩ : ∃ X, b / 2 ^ k = X := ⟨_, rfl⟩
      rw [hX] at hx ex hXa ⊢
      rw [hY] at hy ey hYb ⊢
      have HEX := hi ex
      have HEY := hi ey
      have l0 := HP.out.l.bit (show 2 * k < 64 by omega)
      have l1 := HP.out.l.bit (show 2 * k + 1 < 64 by omega)
      have fr := HP.out.l.frozen
      have hxv : ((X : Int) % 2 == 1) = ofW a b (2 * k) := by
        rw [hx]
        by_cases h : X % 2 = 1
        · have : (X : Int) % 2 = 1 := by omega
          simp [h, this]
        · have : ¬ (X : Int) % 2 = 1 := by omega
          simp [h, this]
      have hyv : ((Y : Int) % 2 == 1) = ofW a b (2 * k + 1) := by
        rw [hy]
        by_cases h : Y % 2 = 1
        · have : (Y : Int) % 2 = 1 := by omega
          simp [h, this]
        · have : ¬ (Y : Int) % 2 = 1 := by omega
          simp [h, this]
      have HX := hi (show OfI w (ofW a b) (k + 1) ((wr.setCell ⟨w.heap.size + 1, 2 * k, none⟩ (.bool (ofW a b (2 * k)))).setCell ⟨w.heap.size + 1, 2 * k + 1, none⟩ (.bool (ofW a b (2 * k + 1)))) from
        ⟨by have h := (HP.out.l.set (2 * k) (.bool (ofW a b (2 * k)))).set (2 * k + 1) (.bool (ofW a b (2 * k + 1)))
            rw [bsA_set _ (show 2 * k < 64 by omega), firstK_succ, bsA_set _ (show 2 * k + 1 < 64 by omega), firstK_succ] at h
            exact h, (HP.out.r.other _ _ _ (by omega)).other _ _ _ (by omega), below_set (below_set HP.out.below (by omega) _) (by omega) _⟩)
      clear hx hy ex ey hX hY HP
      obtain ⟨v1, h1⟩ : ∃ v, ofW a b (2 * k) = v := ⟨_, rfl⟩
      obtain ⟨v2, h2⟩ : ∃ v, ofW a b (2 * k + 1) = v := ⟨_, rfl⟩
      rw [h1] at hxv HX
      rw [h2] at hyv HX
      clear h1 h2
      go_wp2
      exact ⟨⟨k + 1, by omega, congrArg (Value.int .u32) (by rw [HEX.out]; omega), congrArg (Value.int .u32) (by rw [HEY.out]; omega), by go_num, HX⟩, by simp only [intOf]; omega⟩
    · obtain rfl : k = 32 := by omega
      have hl := HP.out.l
      rw [show 2 * 32 = 64 from rfl, firstK_all] at hl
      have HS1 := hi hl.rangeB
      have HT := hi (show World.there _ w.heap.size 0 (bsA (ofW a b)).size by rw [bsA_size]; exact HP.out.r.thereB (bsA_size _))
      have HR := hi (HP.out.r.whole (bsA_size _) (ofW a b))
      have HB3 := hi (below_cells (b := w.heap.size) (Nat.le_refl _) (bsL (ofW a b)) 0 _ HP.out.below)
      have H1 := hi (bsA_one (ofW a b))
      have HZ := hi (size_ref (ofW a b))
      have HZA := hi (size_refA (ofW a b))
      clear hl
      go_wp2_with (first
        | (refine wpList_load_mid rfl 34 (.tmp 5) rfl (w.heap.size + 1) 0 rfl (bsL (ofW a b)) _ HS1.out Try.underlying34 rfl HZ.out ?_)
        | (refine wpList_store_mid rfl 34 (.tmp 4) (.tmp 30) rfl w.heap.size 0 (bsA (ofW a b)) rfl rfl HT.out HZA.out H1.out ?_))
      exact bodyPost_ret (results_ref rfl _ _ w.heap.size (ofW a b) rfl HR.out) rfl ⟨rfl, HB3.out⟩

end Go.Proofs.Ytnnlimjbmfpalaa
