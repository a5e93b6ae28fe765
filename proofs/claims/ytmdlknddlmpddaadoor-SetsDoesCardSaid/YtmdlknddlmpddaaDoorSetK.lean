/-
  sets.Union, Meet, Less: the sets of the words joined word by word.
-/
import Derived.Test.YtmdlknddlmpddaaDoorSetI
import Derived.Deep.RegionHeld3
namespace Go.Proofs.YtmdlknddlmpddaaDoor
open Go.ChangeShapes Go.WideShapes Go.ChangeAt Go.RowKit Go.Shelf
set_option linter.unusedVariables false

def joinTo (g : Nat → Nat → Nat) (S T : Words) (k : Nat) : Words := fun i => if i < k then g (S i) (T i) else 0
theorem joinTo_0 (g : Nat → Nat → Nat) (S T : Words) : joinTo g S T 0 = S0 := by funext i; simp [joinTo, S0]
theorem RowAt.put1 {T : TypeId} {W : World} {b : Nat} {S : Words} (h : RowAt T W b S) (k x : Nat) (hk : k < 256) (hx : x < 18446744073709551616) (S' : Words) (hS : ∀ i, S' i = if i = k then x else S i) :
    RowAt T (W.setCell ⟨b, k, none⟩ (.int .u64 (x : Int))) b S' := by
  refine ⟨?_, fun i => by rw [hS]; split; exact hx; exact h.2 i⟩
  obtain ⟨hlt, hq⟩ := Array.getElem?_eq_some_iff.1 h.1
  show (W.heap.modify b _)[b]? = _
  rw [Array.getElem?_eq_getElem (by rw [Array.size_modify]; exact hlt), Array.getElem_modify_self, hq]
  have e : (rowCells S).setIfInBounds k (.int .u64 (x : Int)) = rowCells S' := by
    apply Array.ext
    · rw [Array.size_setIfInBounds, rowCells_size, rowCells_size]
    · intro i h1 h2
      have hi : i < 256 := by rw [rowCells_size] at h2; exact h2
      rw [Array.getElem_setIfInBounds (by rw [rowCells_size]; exact hi), rowCells_at S i hi, rowCells_at S' i hi, hS]
      by_cases e : k = i
      · rw [if_pos e, if_pos e.symm]
      · rw [if_neg e, if_neg (fun x => e x.symm)]
  rw [← e]
  rfl

def orG : Nat → Nat → Nat := fun x y => x ||| y
theorem orG_lt {x y : Nat} (hx : x < 18446744073709551616) (hy : y < 18446744073709551616) : orG x y < 18446744073709551616 := by
  unfold orG
  exact Nat.or_lt_two_pow (n := 64) hx hy
set_option maxHeartbeats 400000 in
theorem or_fn (x y z : Nat) (w : World) (hx : x < 18446744073709551616) (hy : y < 18446744073709551616) (e : orG x y = z) :
    Calls Tryd.prog 44 #[.int .u64 (x : Int), .int .u64 (y : Int)] w fun e w' => e = .returned (.int .u64 (z : Int)) ∧ w = w' := by
  have hr : bits .or .u64 (x : Int) (y : Int) = (z : Int) := by rw [← e]; exact u64_or_nat x y hx hy
  have HE := Lib.hid e
  clear hx hy e
  go_enter Tryd.func44, Tryd.ntmps44
  go_wp2
  go_ret
  exact ⟨rfl, rfl⟩

def meetG : Nat → Nat → Nat := fun x y => x &&& y
theorem meetG_lt {x y : Nat} (hx : x < 18446744073709551616) (hy : y < 18446744073709551616) : meetG x y < 18446744073709551616 := by
  unfold meetG
  exact Nat.lt_of_le_of_lt Nat.and_le_left hx
set_option maxHeartbeats 400000 in
theorem meet_fn (x y z : Nat) (w : World) (hx : x < 18446744073709551616) (hy : y < 18446744073709551616) (e : meetG x y = z) :
    Calls Tryd.prog 45 #[.int .u64 (x : Int), .int .u64 (y : Int)] w fun e w' => e = .returned (.int .u64 (z : Int)) ∧ w = w' := by
  have hr : bits .and .u64 (x : Int) (y : Int) = (z : Int) := by rw [← e]; exact u64_and_nat x y hx hy
  have HE := Lib.hid e
  clear hx hy e
  go_enter Tryd.func45, Tryd.ntmps45
  go_wp2
  go_ret
  exact ⟨rfl, rfl⟩

def lessG : Nat → Nat → Nat := fun x y => x &&& (18446744073709551615 - y)
theorem lessG_lt {x y : Nat} (hx : x < 18446744073709551616) (hy : y < 18446744073709551616) : lessG x y < 18446744073709551616 := by
  unfold lessG
  exact Nat.lt_of_le_of_lt Nat.and_le_left hx
set_option maxHeartbeats 400000 in
theorem less_fn (x y z : Nat) (w : World) (hx : x < 18446744073709551616) (hy : y < 18446744073709551616) (e : lessG x y = z) :
    Calls Tryd.prog 46 #[.int .u64 (x : Int), .int .u64 (y : Int)] w fun e w' => e = .returned (.int .u64 (z : Int)) ∧ w = w' := by
  have hr : bits .andNot .u64 (x : Int) (y : Int) = (z : Int) := by rw [← e]; exact u64_andNot_nat x y hx hy
  have HE := Lib.hid e
  clear hx hy e
  go_enter Tryd.func46, Tryd.ntmps46
  go_wp2
  go_ret
  exact ⟨rfl, rfl⟩

set_option maxRecDepth 100000 in
set_option maxHeartbeats 1000000 in
theorem combine_or (b c : Nat) (S T : Words) (w : World) (hS : RowAt 58 w b S) (hT : RowAt 58 w c T) :
    Calls Tryd.prog 43 #[.pointer (some ⟨b, 0, none⟩), .pointer (some ⟨c, 0, none⟩), .func (.func 44) #[] #[]] w (NewSet (joinTo orG S T 256) w) := by
  obtain ⟨Z, eZ⟩ : ∃ Z, zeroRow = Z := ⟨_, rfl⟩
  have hR0 : RowAt 58 (w.alloc (.cells Z 58)) w.heap.size S0 := ⟨(World.alloc_heap_new w _).trans (by rw [← eZ]; rfl), fun i => by simp [S0]⟩
  have hB0 : Below w.heap.size w (w.alloc (.cells Z 58)) := (Below.refl _ w).alloc (Nat.le_refl _) _
  have HR0 := Lib.hid hR0
  have HB0 := Lib.hid hB0
  have HS := Lib.hid hS
  have HT := Lib.hid hT
  have EZ := Lib.hid eZ
  obtain ⟨J, eJ⟩ : ∃ J, joinTo orG S T 256 = J := ⟨_, rfl⟩
  rw [eJ]
  have EJ := Lib.hid eJ
  clear hR0 hB0 hS hT eZ eJ
  go_enter Tryd.func43, Tryd.ntmps43
  go_wp2_with (refine wpList_build_zero rfl rfl ?_; rw [EZ.out])
  go_loopw [11] (fun i wr => ∃ k : Nat, i = .int .i64 k ∧ Hid (k ≤ 256 ∧ RowAt 58 wr w.heap.size (joinTo orG S T k) ∧ Below w.heap.size w wr)) (fun i _ => 256 - (intOf i).toNat)
  case atStart => exact ⟨0, rfl, Lib.hid ⟨by omega, by rw [joinTo_0]; exact HR0.out, HB0.out⟩⟩
  case round =>
    obtain ⟨k, rfl, HH⟩ := hrel
    by_cases hlt : k < 256
    · have hc1 := ((HH.out.2.2.cell (p := ⟨b, k, none⟩) HS.out.lt).trans (HS.out.cell k hlt))
      have hc2 := ((HH.out.2.2.cell (p := ⟨c, k, none⟩) HT.out.lt).trans (HT.out.cell k hlt))
      have hc3 := HH.out.2.1.cell k hlt
      have hf3 := HH.out.2.1.frozen k
      have hb0 := ((HH.out.2.2.cell (p := ⟨b, 0, none⟩) HS.out.lt).trans (HS.out.cell 0 (by omega)))
      have hc0 := ((HH.out.2.2.cell (p := ⟨c, 0, none⟩) HT.out.lt).trans (HT.out.cell 0 (by omega)))
      have hd0 := HH.out.2.1.cell 0 (by omega)
      obtain ⟨x, ex⟩ : ∃ x, S k = x := ⟨_, rfl⟩
      obtain ⟨y, ey⟩ : ∃ y, T k = y := ⟨_, rfl⟩
      obtain ⟨o, eo⟩ : ∃ o, joinTo orG S T k k = o := ⟨_, rfl⟩
      obtain ⟨o', eo'⟩ : ∃ o, joinTo orG S T k 0 = o := ⟨_, rfl⟩
      obtain ⟨z, ez⟩ : ∃ z, orG x y = z := ⟨_, rfl⟩
      have hxl := HS.out.2 k
      have hyl := HT.out.2 k
      rw [ex] at hc1 hxl
      rw [ey] at hc2 hyl
      rw [eo] at hc3
      rw [eo'] at hd0
      have HX := Lib.hid hxl
      have HY := Lib.hid hyl
      have EX := Lib.hid ex
      have EY := Lib.hid ey
      have EZ2 := Lib.hid ez
      have HLT := Lib.hid hlt
      have hki : (k : Int) < 256 := by omega
      have hk0 : (0 : Int) ≤ (k : Int) := by omega
      have hk1 : ∀ u, (wr.setCell ⟨w.heap.size, k, none⟩ u).cell? ⟨b, k, none⟩ = some (.int .u64 x) := fun u => (World.cell?_of_block (w := wr) (Below.heap_setCell _ _ _ _ (by have := HS.out.lt; simp; omega))).trans hc1
      have hk2 : ∀ u, (wr.setCell ⟨w.heap.size, k, none⟩ u).cell? ⟨c, k, none⟩ = some (.int .u64 y) := fun u => (World.cell?_of_block (w := wr) (Below.heap_setCell _ _ _ _ (by have := HT.out.lt; simp; omega))).trans hc2
      clear ex ey eo eo' ez hxl hyl hlt
      go_wp2
      go_region_held3 (fun w' => w'.cell? ⟨b, k, none⟩ = some (.int .u64 x) ∧ w'.cell? ⟨c, k, none⟩ = some (.int .u64 y))
        (go_keep)
        (first
          | (go_at_call 44; refine (or_fn x y z _ HX.out HY.out EZ2.out).mono ?_; rintro e w1 ⟨rfl, rfl⟩))
      have hp := HH.out.2.1.put1 k z HLT.out (by rw [← EZ2.out]; exact orG_lt HX.out HY.out) (joinTo orG S T (k + 1)) (fun i => by
        unfold joinTo
        by_cases e : i = k
        · subst e; rw [if_pos (by omega), if_pos rfl, EX.out, EY.out, EZ2.out]
        · by_cases h : i < k
          · rw [if_pos (by omega), if_neg e, if_pos h]
          · rw [if_neg (by omega), if_neg e, if_neg h])
      have HP := Lib.hid hp
      clear hp
      go_wp2
      go_roundw
      case rel => exact ⟨k + 1, by go_num, Lib.hid ⟨HLT.out, ⟨HP.out.1, HP.out.2⟩, (HH.out.2.2.setCell (p := ⟨w.heap.size, k, none⟩) (Nat.le_refl _) _).drew⟩⟩
      case measure => have := HLT.out; simp only [intOf]; omega
    · have ek : k = 256 := by have := HH.out.1; omega
      subst ek
      have hR := HH.out.2.1
      rw [EJ.out] at hR
      have HR := Lib.hid hR
      clear hR hlt
      go_wp2
      go_ret
      exact ⟨rfl, HR.out, HH.out.2.2⟩

set_option maxRecDepth 100000 in
set_option maxHeartbeats 1000000 in
theorem combine_meet (b c : Nat) (S T : Words) (w : World) (hS : RowAt 58 w b S) (hT : RowAt 58 w c T) :
    Calls Tryd.prog 43 #[.pointer (some ⟨b, 0, none⟩), .pointer (some ⟨c, 0, none⟩), .func (.func 45) #[] #[]] w (NewSet (joinTo meetG S T 256) w) := by
  obtain ⟨Z, eZ⟩ : ∃ Z, zeroRow = Z := ⟨_, rfl⟩
  have hR0 : RowAt 58 (w.alloc (.cells Z 58)) w.heap.size S0 := ⟨(World.alloc_heap_new w _).trans (by rw [← eZ]; rfl), fun i => by simp [S0]⟩
  have hB0 : Below w.heap.size w (w.alloc (.cells Z 58)) := (Below.refl _ w).alloc (Nat.le_refl _) _
  have HR0 := Lib.hid hR0
  have HB0 := Lib.hid hB0
  have HS := Lib.hid hS
  have HT := Lib.hid hT
  have EZ := Lib.hid eZ
  obtain ⟨J, eJ⟩ : ∃ J, joinTo meetG S T 256 = J := ⟨_, rfl⟩
  rw [eJ]
  have EJ := Lib.hid eJ
  clear hR0 hB0 hS hT eZ eJ
  go_enter Tryd.func43, Tryd.ntmps43
  go_wp2_with (refine wpList_build_zero rfl rfl ?_; rw [EZ.out])
  go_loopw [11] (fun i wr => ∃ k : Nat, i = .int .i64 k ∧ Hid (k ≤ 256 ∧ RowAt 58 wr w.heap.size (joinTo meetG S T k) ∧ Below w.heap.size w wr)) (fun i _ => 256 - (intOf i).toNat)
  case atStart => exact ⟨0, rfl, Lib.hid ⟨by omega, by rw [joinTo_0]; exact HR0.out, HB0.out⟩⟩
  case round =>
    obtain ⟨k, rfl, HH⟩ := hrel
    by_cases hlt : k < 256
    · have hc1 := ((HH.out.2.2.cell (p := ⟨b, k, none⟩) HS.out.lt).trans (HS.out.cell k hlt))
      have hc2 := ((HH.out.2.2.cell (p := ⟨c, k, none⟩) HT.out.lt).trans (HT.out.cell k hlt))
      have hc3 := HH.out.2.1.cell k hlt
      have hf3 := HH.out.2.1.frozen k
      have hb0 := ((HH.out.2.2.cell (p := ⟨b, 0, none⟩) HS.out.lt).trans (HS.out.cell 0 (by omega)))
      have hc0 := ((HH.out.2.2.cell (p := ⟨c, 0, none⟩) HT.out.lt).trans (HT.out.cell 0 (by omega)))
      have hd0 := HH.out.2.1.cell 0 (by omega)
      obtain ⟨x, ex⟩ : ∃ x, S k = x := ⟨_, rfl⟩
      obtain ⟨y, ey⟩ : ∃ y, T k = y := ⟨_, rfl⟩
      obtain ⟨o, eo⟩ : ∃ o, joinTo meetG S T k k = o := ⟨_, rfl⟩
      obtain ⟨o', eo'⟩ : ∃ o, joinTo meetG S T k 0 = o := ⟨_, rfl⟩
      obtain ⟨z, ez⟩ : ∃ z, meetG x y = z := ⟨_, rfl⟩
      have hxl := HS.out.2 k
      have hyl := HT.out.2 k
      rw [ex] at hc1 hxl
      rw [ey] at hc2 hyl
      rw [eo] at hc3
      rw [eo'] at hd0
      have HX := Lib.hid hxl
      have HY := Lib.hid hyl
      have EX := Lib.hid ex
      have EY := Lib.hid ey
      have EZ2 := Lib.hid ez
      have HLT := Lib.hid hlt
      have hki : (k : Int) < 256 := by omega
      have hk0 : (0 : Int) ≤ (k : Int) := by omega
      have hk1 : ∀ u, (wr.setCell ⟨w.heap.size, k, none⟩ u).cell? ⟨b, k, none⟩ = some (.int .u64 x) := fun u => (World.cell?_of_block (w := wr) (Below.heap_setCell _ _ _ _ (by have := HS.out.lt; simp; omega))).trans hc1
      have hk2 : ∀ u, (wr.setCell ⟨w.heap.size, k, none⟩ u).cell? ⟨c, k, none⟩ = some (.int .u64 y) := fun u => (World.cell?_of_block (w := wr) (Below.heap_setCell _ _ _ _ (by have := HT.out.lt; simp; omega))).trans hc2
      clear ex ey eo eo' ez hxl hyl hlt
      go_wp2
      go_region_held3 (fun w' => w'.cell? ⟨b, k, none⟩ = some (.int .u64 x) ∧ w'.cell? ⟨c, k, none⟩ = some (.int .u64 y))
        (go_keep)
        (first
          | (go_at_call 45; refine (meet_fn x y z _ HX.out HY.out EZ2.out).mono ?_; rintro e w1 ⟨rfl, rfl⟩))
      have hp := HH.out.2.1.put1 k z HLT.out (by rw [← EZ2.out]; exact meetG_lt HX.out HY.out) (joinTo meetG S T (k + 1)) (fun i => by
        unfold joinTo
        by_cases e : i = k
        · subst e; rw [if_pos (by omega), if_pos rfl, EX.out, EY.out, EZ2.out]
        · by_cases h : i < k
          · rw [if_pos (by omega), if_neg e, if_pos h]
          · rw [if_neg (by omega), if_neg e, if_neg h])
      have HP := Lib.hid hp
      clear hp
      go_wp2
      go_roundw
      case rel => exact ⟨k + 1, by go_num, Lib.hid ⟨HLT.out, ⟨HP.out.1, HP.out.2⟩, (HH.out.2.2.setCell (p := ⟨w.heap.size, k, none⟩) (Nat.le_refl _) _).drew⟩⟩
      case measure => have := HLT.out; simp only [intOf]; omega
    · have ek : k = 256 := by have := HH.out.1; omega
      subst ek
      have hR := HH.out.2.1
      rw [EJ.out] at hR
      have HR := Lib.hid hR
      clear hR hlt
      go_wp2
      go_ret
      exact ⟨rfl, HR.out, HH.out.2.2⟩

set_option maxRecDepth 100000 in
set_option maxHeartbeats 1000000 in
theorem combine_less (b c : Nat) (S T : Words) (w : World) (hS : RowAt 58 w b S) (hT : RowAt 58 w c T) :
    Calls Tryd.prog 43 #[.pointer (some ⟨b, 0, none⟩), .pointer (some ⟨c, 0, none⟩), .func (.func 46) #[] #[]] w (NewSet (joinTo lessG S T 256) w) := by
  obtain ⟨Z, eZ⟩ : ∃ Z, zeroRow = Z := ⟨_, rfl⟩
  have hR0 : RowAt 58 (w.alloc (.cells Z 58)) w.heap.size S0 := ⟨(World.alloc_heap_new w _).trans (by rw [← eZ]; rfl), fun i => by simp [S0]⟩
  have hB0 : Below w.heap.size w (w.alloc (.cells Z 58)) := (Below.refl _ w).alloc (Nat.le_refl _) _
  have HR0 := Lib.hid hR0
  have HB0 := Lib.hid hB0
  have HS := Lib.hid hS
  have HT := Lib.hid hT
  have EZ := Lib.hid eZ
  obtain ⟨J, eJ⟩ : ∃ J, joinTo lessG S T 256 = J := ⟨_, rfl⟩
  rw [eJ]
  have EJ := Lib.hid eJ
  clear hR0 hB0 hS hT eZ eJ
  go_enter Tryd.func43, Tryd.ntmps43
  go_wp2_with (refine wpList_build_zero rfl rfl ?_; rw [EZ.out])
  go_loopw [11] (fun i wr => ∃ k : Nat, i = .int .i64 k ∧ Hid (k ≤ 256 ∧ RowAt 58 wr w.heap.size (joinTo lessG S T k) ∧ Below w.heap.size w wr)) (fun i _ => 256 - (intOf i).toNat)
  case atStart => exact ⟨0, rfl, Lib.hid ⟨by omega, by rw [joinTo_0]; exact HR0.out, HB0.out⟩⟩
  case round =>
    obtain ⟨k, rfl, HH⟩ := hrel
    by_cases hlt : k < 256
    · have hc1 := ((HH.out.2.2.cell (p := ⟨b, k, none⟩) HS.out.lt).trans (HS.out.cell k hlt))
      have hc2 := ((HH.out.2.2.cell (p := ⟨c, k, none⟩) HT.out.lt).trans (HT.out.cell k hlt))
      have hc3 := HH.out.2.1.cell k hlt
      have hf3 := HH.out.2.1.frozen k
      have hb0 := ((HH.out.2.2.cell (p := ⟨b, 0, none⟩) HS.out.lt).trans (HS.out.cell 0 (by omega)))
      have hc0 := ((HH.out.2.2.cell (p := ⟨c, 0, none⟩) HT.out.lt).trans (HT.out.cell 0 (by omega)))
      have hd0 := HH.out.2.1.cell 0 (by omega)
      obtain ⟨x, ex⟩ : ∃ x, S k = x := ⟨_, rfl⟩
      obtain ⟨y, ey⟩ : ∃ y, T k = y := ⟨_, rfl⟩
      obtain ⟨o, eo⟩ : ∃ o, joinTo lessG S T k k = o := ⟨_, rfl⟩
      obtain ⟨o', eo'⟩ : ∃ o, joinTo lessG S T k 0 = o := ⟨_, rfl⟩
      obtain ⟨z, ez⟩ : ∃ z, lessG x y = z := ⟨_, rfl⟩
      have hxl := HS.out.2 k
      have hyl := HT.out.2 k
      rw [ex] at hc1 hxl
      rw [ey] at hc2 hyl
      rw [eo] at hc3
      rw [eo'] at hd0
      have HX := Lib.hid hxl
      have HY := Lib.hid hyl
      have EX := Lib.hid ex
      have EY := Lib.hid ey
      have EZ2 := Lib.hid ez
      have HLT := Lib.hid hlt
      have hki : (k : Int) < 256 := by omega
      have hk0 : (0 : Int) ≤ (k : Int) := by omega
      have hk1 : ∀ u, (wr.setCell ⟨w.heap.size, k, none⟩ u).cell? ⟨b, k, none⟩ = some (.int .u64 x) := fun u => (World.cell?_of_block (w := wr) (Below.heap_setCell _ _ _ _ (by have := HS.out.lt; simp; omega))).trans hc1
      have hk2 : ∀ u, (wr.setCell ⟨w.heap.size, k, none⟩ u).cell? ⟨c, k, none⟩ = some (.int .u64 y) := fun u => (World.cell?_of_block (w := wr) (Below.heap_setCell _ _ _ _ (by have := HT.out.lt; simp; omega))).trans hc2
      clear ex ey eo eo' ez hxl hyl hlt
      go_wp2
      go_region_held3 (fun w' => w'.cell? ⟨b, k, none⟩ = some (.int .u64 x) ∧ w'.cell? ⟨c, k, none⟩ = some (.int .u64 y))
        (go_keep)
        (first
          | (go_at_call 46; refine (less_fn x y z _ HX.out HY.out EZ2.out).mono ?_; rintro e w1 ⟨rfl, rfl⟩))
      have hp := HH.out.2.1.put1 k z HLT.out (by rw [← EZ2.out]; exact lessG_lt HX.out HY.out) (joinTo lessG S T (k + 1)) (fun i => by
        unfold joinTo
        by_cases e : i = k
        · subst e; rw [if_pos (by omega), if_pos rfl, EX.out, EY.out, EZ2.out]
        · by_cases h : i < k
          · rw [if_pos (by omega), if_neg e, if_pos h]
          · rw [if_neg (by omega), if_neg e, if_neg h])
      have HP := Lib.hid hp
      clear hp
      go_wp2
      go_roundw
      case rel => exact ⟨k + 1, by go_num, Lib.hid ⟨HLT.out, ⟨HP.out.1, HP.out.2⟩, (HH.out.2.2.setCell (p := ⟨w.heap.size, k, none⟩) (Nat.le_refl _) _).drew⟩⟩
      case measure => have := HLT.out; simp only [intOf]; omega
    · have ek : k = 256 := by have := HH.out.1; omega
      subst ek
      have hR := HH.out.2.1
      rw [EJ.out] at hR
      have HR := Lib.hid hR
      clear hR hlt
      go_wp2
      go_ret
      exact ⟨rfl, HR.out, HH.out.2.2⟩

set_option maxHeartbeats 400000 in
theorem union_any (b c : Nat) (S T : Words) (w : World) (hS : RowAt 58 w b S) (hT : RowAt 58 w c T) :
    Calls Tryd.prog 25 #[.pointer (some ⟨b, 0, none⟩), .pointer (some ⟨c, 0, none⟩)] w (NewSet (joinTo orG S T 256) w) := by
  have h := combine_or b c S T w hS hT
  obtain ⟨J, eJ⟩ : ∃ J, joinTo orG S T 256 = J := ⟨_, rfl⟩
  rw [eJ] at h ⊢
  have HH := Lib.hid h
  clear h hS hT eJ
  go_enter Tryd.func25, Tryd.ntmps25
  go_wp2_with (go_at_call 43; refine HH.out.mono ?_; rintro e w' ⟨rfl, hR, hB⟩)
  go_ret
  exact ⟨rfl, hR, hB⟩

set_option maxHeartbeats 400000 in
theorem meet_any (b c : Nat) (S T : Words) (w : World) (hS : RowAt 58 w b S) (hT : RowAt 58 w c T) :
    Calls Tryd.prog 26 #[.pointer (some ⟨b, 0, none⟩), .pointer (some ⟨c, 0, none⟩)] w (NewSet (joinTo meetG S T 256) w) := by
  have h := combine_meet b c S T w hS hT
  obtain ⟨J, eJ⟩ : ∃ J, joinTo meetG S T 256 = J := ⟨_, rfl⟩
  rw [eJ] at h ⊢
  have HH := Lib.hid h
  clear h hS hT eJ
  go_enter Tryd.func26, Tryd.ntmps26
  go_wp2_with (go_at_call 43; refine HH.out.mono ?_; rintro e w' ⟨rfl, hR, hB⟩)
  go_ret
  exact ⟨rfl, hR, hB⟩

set_option maxHeartbeats 400000 in
theorem less_any (b c : Nat) (S T : Words) (w : World) (hS : RowAt 58 w b S) (hT : RowAt 58 w c T) :
    Calls Tryd.prog 27 #[.pointer (some ⟨b, 0, none⟩), .pointer (some ⟨c, 0, none⟩)] w (NewSet (joinTo lessG S T 256) w) := by
  have h := combine_less b c S T w hS hT
  obtain ⟨J, eJ⟩ : ∃ J, joinTo lessG S T 256 = J := ⟨_, rfl⟩
  rw [eJ] at h ⊢
  have HH := Lib.hid h
  clear h hS hT eJ
  go_enter Tryd.func27, Tryd.ntmps27
  go_wp2_with (go_at_call 43; refine HH.out.mono ?_; rintro e w' ⟨rfl, hR, hB⟩)
  go_ret
  exact ⟨rfl, hR, hB⟩

end Go.Proofs.YtmdlknddlmpddaaDoor
