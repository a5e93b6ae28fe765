import Derived.Test.YtieedhdmpabfkaaGreatMg11
set_option linter.unusedSimpArgs false
namespace Go.Proofs.YtieedhdmpabfkaaGreat
open Go.ChangeShapes Go.WideShapes Go.ChangeAt Go.RowKit Go.Shelf
set_option linter.unusedVariables false
attribute [local go_sem] Oper.semAt_some
theorem flR_bitsG (at0 size step : Int) (k : Nat) : flR (bitRowsG at0 size step (k + 1)) = flR (bitRowsG at0 size step k) ++ (bitRowG at0 size step k).cs := by
 rw [bitRowsG, List.range_succ, List.map_append, flR, flat_append]
 rfl
structure BWG (at0 size step : Int) (w : World) (k : Nat) (v : Value) (W : World) : Prop where
 rg : CB W w.heap.size 68 regsA
 o : W.ownsRow (w.heap.size + 1) 184 7 v k (flR (bitRowsG at0 size step k))
 below : Below w.heap.size w W
theorem BWG.next {at0 size step : Int} {w W w9 : World} {k : Nat} {v v' : Value} {tmp : Obj} (h : BWG at0 size step w k v W) (ho : w9.ownsRow (w.heap.size + 1) 184 7 v' (k + 1) (flR (bitRowsG at0 size step k) ++ (bitRowG at0 size step k).cs)) (hg : (W.alloc tmp).grownBy w9 v.ownBlock) : BWG at0 size step w (k + 1) v' w9 :=
 ⟨CB.kept (h.rg.alloc tmp) hg (own_above h.o (by omega)), by rw [flR_bitsG]; exact ho, (h.below.alloc h.below.size tmp).grown hg (by have := h.below.size; simp; omega) (fun j e => by have := (h.o.lt j e).1; omega)⟩
set_option maxRecDepth 100000 in
set_option maxHeartbeats 4000000 in
theorem bitsG_any (at0 size step : Int) (ha : 0 ≤ at0 ∧ at0 ≤ 100000) (hz : 0 ≤ size ∧ size ≤ 1000) (ht : 0 ≤ step ∧ step ≤ 1000) (w : World) : Calls Tryz.prog 130 #[.int .i64 at0, .int .i64 size, .int .i64 step] w (Rowed w 7 (bitRowsG at0 size step 7)) := by
 obtain ⟨i0, hi2, hz0, hz1, hz2⟩ := info_parts info_rr
 have H0 := hi (show BWG at0 size step w 0 (.slice none 0 0) (w.alloc (.cells regsA 68)) from ⟨CB.new _ _ _, World.ownsRow_nil _ _ _ _, bal w _⟩)
 go_enter Tryz.func130, Tryz.ntmps130
 go_wp2
 go_loopw [8, 9] (fun o i wr => ∃ k : Nat, k ≤ 7 ∧ i = .int .i64 k ∧ Hi (BWG at0 size step w k o wr)) (fun _ i _ => 7 - (intOf i).toNat)
 case atStart => exact ⟨0, Nat.zero_le _, rfl, H0⟩
 case round =>
  obtain ⟨k, hk, rfl, HX⟩ := hrel
  clear H0
  by_cases hlt : k < 7
  ·have hX := HX.out
   have hl := hX.o
   have hbs := hX.below.size
   have hrg := regs_at hX.rg hlt
   have hwl := hX.rg.lt
   have hsk0 : 0 ≤ step * (k : Int) := Int.mul_nonneg ht.1 (by omega)
   have hsk1 : step * (k : Int) ≤ 1000 * (k : Int) := Int.mul_le_mul_of_nonneg_right ht.2 (by omega)
   have hw1 : IntKind.i64.wrap (step * (k : Int)) = step * k := by rw [IntKind.wrap_i64]; omega
   have hw2 : IntKind.i64.wrap (at0 + step * (k : Int)) = at0 + step * k := by rw [IntKind.wrap_i64]; omega
   have hw3 : IntKind.i64.wrap (at0 + step * (k : Int) + size) = at0 + step * k + size := by rw [IntKind.wrap_i64]; omega
   obtain ⟨va, vc, rfl⟩ := own_slice hl
   clear hX
   go_wp2_with (first
    | (at_builtin; refine wpList_append_own _ rfl _ _ 147 rfl (w.heap.size + 1) 184 i0 (.agg #[.int .i64 0, .int .i64 0, .int .i64 0, .int .i64 0, .int .i64 0, .int .i64 0, .int .i64 0]) 7 56 Tryz.underlying147 hi2 hz0 hz1 hz2 rfl (by decide) _ _ _ rfl (hl.alloc _) ⟨wr.heap.size, 0, none⟩ 1 1 (bitRowG at0 size step k).cs rfl rfl (cells_new _ _ _) (rr_one _) (by unfold maxLen; omega) (by omega) (by simp; omega) ?_; intro v' w9 hown' hgrow _; have HM := hi (HX.out.next hown' hgrow)))
   go_roundw
   case rel => exact ⟨k + 1, by omega, by go_num, HM⟩
   case measure => simp only [intOf]; omega
  ·obtain rfl : k = 7 := by omega
   go_wp2
   go_ret
   exact ⟨_, rfl, own_base HX.out.o (by omega), HX.out.below⟩
end Go.Proofs.YtieedhdmpabfkaaGreat
namespace Go.Proofs.YtieedhdmpabfkaaGreat
open Go.ChangeShapes Go.WideShapes Go.ChangeAt Go.RowKit Go.Shelf
set_option linter.unusedVariables false
attribute [local go_sem] Oper.semAt_some
theorem bitsG7_len (a s t : Int) : (bitRowsG a s t 7).length = 7 := by simp [bitRowsG]
set_option maxRecDepth 100000 in
set_option maxHeartbeats 4000000 in
theorem redist_any (w : World) : Calls Tryz.prog 93 #[] w (Rowed w 17 redRows) := by
 obtain ⟨i0, hi2, hz0, hz1, hz2⟩ := info_parts info_rr
 have CB0 := hi (fun W => bitsG_any 65664 4 128 (by omega) (by omega) (by omega) W)
 have HA := hi (own_new w redA 8 rfl (by unfold maxLen; omega))
 have HBA := hi (bal w (.cells (flR redA).toArray 184))
 have HFA : (flR redA).toArray = #[.int .i64 0, .int .i64 4, .int .i64 4, .int .i64 1, .int .i64 0, .int .i64 0, .int .i64 1, .int .i64 8, .int .i64 16, .int .i64 8, .int .i64 2, .int .i64 0, .int .i64 0, .int .i64 1, .int .i64 20, .int .i64 24, .int .i64 4, .int .i64 3, .int .i64 0, .int .i64 0, .int .i64 1, .int .i64 112, .int .i64 120, .int .i64 8, .int .i64 14, .int .i64 0, .int .i64 0, .int .i64 1, .int .i64 120, .int .i64 128, .int .i64 8, .int .i64 15, .int .i64 0, .int .i64 0, .int .i64 1, .int .i64 160, .int .i64 168, .int .i64 8, .int .i64 16, .int .i64 0, .int .i64 0, .int .i64 1, .int .i64 176, .int .i64 184, .int .i64 8, .int .i64 17, .int .i64 0, .int .i64 0, .int .i64 1, .int .i64 192, .int .i64 196, .int .i64 4, .int .i64 18, .int .i64 0, .int .i64 0, .int .i64 1] := rfl
 rw [HFA] at HA HBA
 clear HFA
 go_enter Tryz.func93, Tryz.ntmps93
 go_wp2_with (first
  | (go_at_call 130; ((with_reducible refine (CB0.out _).mono ?_); rintro e w2 ⟨v7, rfl, ho7, hb7⟩; obtain ⟨g7, c7, rfl⟩ := ownsRow_succ ho7; have HO7 := hi ho7; have HA2 := hi (own_later HA.out hb7); have HB2 := hi (HBA.out.trans (hb7.mono HBA.out.size)); clear ho7 hb7))
  | (at_builtin; refine wpList_append_own _ rfl _ _ 147 rfl w.heap.size 184 i0 (.agg #[.int .i64 0, .int .i64 0, .int .i64 0, .int .i64 0, .int .i64 0, .int .i64 0, .int .i64 0]) 7 56 Tryz.underlying147 hi2 hz0 hz1 hz2 rfl (by decide) _ _ _ rfl HA2.out ⟨g7, 0, none⟩ 7 c7 (flR (bitRowsG 65664 4 128 7)) rfl (by rw [flR_len, bitsG7_len]) (own_cells HO7.out) (flR_one _) (by unfold maxLen; omega) (by omega) HB2.out.size ?_; intro v' w9 hown' hgrow _; obtain ⟨g9, c9, rfl⟩ := ownsRow_succ hown'; have HO9 := hi hown'; have HB9 := hi (HB2.out.grown hgrow HB2.out.size (fun j e => by cases e; exact Nat.le_refl _)); clear hown' hgrow)
  | (at_builtin; refine wpList_append_own _ rfl _ _ 147 rfl w.heap.size 184 i0 (.agg #[.int .i64 0, .int .i64 0, .int .i64 0, .int .i64 0, .int .i64 0, .int .i64 0, .int .i64 0]) 7 56 Tryz.underlying147 hi2 hz0 hz1 hz2 rfl (by decide) _ _ _ rfl (HO9.out.alloc _) ⟨w9.heap.size, 0, none⟩ 2 2 (flR redB) rfl rfl (cells_new _ _ _) (flR_one _) (by unfold maxLen; omega) (by omega) (by have := HB9.out.size; simp; omega) ?_; intro v'' w8 hown8 hgrow8 _; have HO8 := hi hown8; have HB8 := hi ((HB9.out.alloc HB9.out.size _).grown hgrow8 (by have := HB9.out.size; simp; omega) (fun j e => (HO9.out.lt j e).1)); clear hown8 hgrow8))
 go_ret
 refine ⟨_, rfl, ?_, HB8.out⟩
 have h8 := HO8.out
 rw [show flR redRows = (flR redA ++ flR (bitRowsG 65664 4 128 7)) ++ flR redB by rw [redRows, flR, flat_append, flat_append]]
 exact h8
theorem red_len : redRows.length = 17 := by decide
def frV (off wd : Int) : Pl × Int := findV redRows 131072 off wd
theorem fr_few (off wd : Int) : ∃ c, PlOk (frV off wd).1 c := findV_few red_ok red_few _ _ _
set_option maxHeartbeats 4000000 in
theorem refRedist_any (off wd : Int) (w : World) (ho : Int64 off) : Calls Tryz.prog 47 #[.int .i64 off, .int .i64 wd] w (Finds w (frV off wd)) := by
 unfold frV
 have CD := hi (fun W => redist_any W)
 have CF := hi (fun g cap W (h : Row W g 184 (flR redRows)) => find_exact g cap redRows 131072 off wd W h red_ok (by rw [red_len]; decide) (by decide) (by decide) ho)
 rw [red_len] at CF
 have H0 := hi (CB.new w 70 #[.int .i64 0, .int .i64 0, .int .i64 0])
 have HB0 := hi (bal w (.cells #[.int .i64 0, .int .i64 0, .int .i64 0] 70))
 obtain ⟨R, hR⟩ : ∃ R, findV redRows 131072 off wd = R := ⟨_, rfl⟩
 rw [hR] at CF ⊢
 clear hR
 obtain ⟨⟨r, f, c⟩, er⟩ := R
 go_enter Tryz.func47, Tryz.ntmps47
 go_wp2_with (first
  | (go_at_call 93; ((with_reducible refine (CD.out _).mono ?_); rintro e w2 ⟨v, rfl, ho2, hb2⟩; obtain ⟨g, cap, rfl⟩ := ownsRow_succ ho2; have HR := hi (Row.own ho2); have HF2 := hi (show FZ w w2 from ⟨H0.out.below hb2, HB0.out.trans (hb2.mono HB0.out.size)⟩); clear ho2 hb2))
  | (go_at_call 92; ((with_reducible refine (CF.out _ _ _ HR.out).mono ?_); rintro e w3 ⟨rfl, hb3⟩; have HF3 := hi (HF2.out.later hb3); have z0 := HF3.out.z.cell 0; have z1 := HF3.out.z.cell 1; have z2 := HF3.out.z.cell 2; have zf := HF3.out.z.frozen; clear hb3)))
 exact bodyPost_ret (results_pl rfl _ _ w.heap.size ⟨r, f, c⟩ (.int .i64 er) rfl rfl (CB.put3 HF3.out.z _ _ _)) rfl ⟨rfl, below_put3 HF3.out.below (Nat.le_refl _) _ _ _⟩
end Go.Proofs.YtieedhdmpabfkaaGreat
