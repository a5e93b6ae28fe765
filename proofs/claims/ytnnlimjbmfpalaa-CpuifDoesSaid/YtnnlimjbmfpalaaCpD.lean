/-
  Interfaces compared with themselves; awake: the document's examples.
-/
import Derived.Test.YtnnlimjbmfpalaaCpC
import Derived.Laws.StructEq
namespace Go.Proofs.Ytnnlimjbmfpalaa
open Go.ChangeShapes Go.WideShapes Go.ChangeAt Go.RowKit Go.Shelf
set_option linter.unusedVariables false
attribute [local go_sem] Oper.semAt_some

/-! ### Awake, plain -/
def aF0 : Fc := ⟨0, 0, 0, false, false, false, f0⟩
def aF1 : Fc := ⟨248, 0, 0, true, true, false, f0⟩
def aF2 : Fc := (takeV aF1 ⟨40, 160, 1, true⟩ 1).1
def aF3 : Fc := (dropV aF2 0).1
def aF4 : Fc := (dropV aF3 1).1
def aF5 : Fc := (writeC aF4 8 0).1
theorem aw_take : (takeV aF1 ⟨40, 160, 1, true⟩ 1).2 = (40, true) := by decide +kernel
theorem aw_may1 : mayV aF2 ⟨0, 168, 1, true⟩ = false := by decide +kernel
theorem aw_may2 : mayV aF2 ⟨0, 152, 1, true⟩ = true := by decide +kernel
theorem aw_drop0 : (dropV aF2 0).2 = false := by decide +kernel
theorem aw_drop1 : (dropV aF3 1).2 = true := by decide +kernel
theorem aw_run : runV aF4.r = (255, 0) := by decide +kernel
theorem aw_write : (writeC aF4 8 0).2 = true := by decide +kernel
theorem aw_read : readC aF5 8 = (1, true) := by decide +kernel
theorem results_if {fn : Func} {c : Tmp} (h : fn.results = #[.cell c 29]) (tmps : Array Value) (w : World) (b : Nat) (v0 v1 v2 v3 v4 v5 v6 v7 : Value) (hp : tmps.getD c undef = .pointer (some ⟨b, 0, none⟩)) (hb : CB w b 29 #[v0, v1, v2, v3, v4, v5, v6, v7]) :
    (results fn tmps).run Try.prog w = .ok (.agg #[v0, v1, v2, v3, v4, v5, v6, v7]) w := by
  have hp' : tmps[c]?.getD undef = .pointer (some ⟨b, 0, none⟩) := by simpa using hp
  have c0 := hb.cell 0
  have c1 := hb.cell 1
  have c2 := hb.cell 2
  have c3 := hb.cell 3
  have c4 := hb.cell 4
  have c5 := hb.cell 5
  have c6 := hb.cell 6
  have c7 := hb.cell 7
  unfold results
  rw [h]
  go_simp
theorem new_if (w : World) : Calls Try.prog 23 #[] w fun e w' => e = .returned (.agg #[.int .i64 0, .int .i64 0, .int .i64 0, .bool false, .bool false, .bool false, .int .u32 0, .int .u32 0]) ∧ Below w.heap.size w w' := by
  go_enter Try.func23, Try.ntmps23
  go_wp2
  exact bodyPost_ret (results_if rfl _ _ w.heap.size _ _ _ _ _ _ _ _ rfl (CB.new w 29 _)) rfl ⟨rfl, bal w _⟩
theorem aF1_at (W : World) : CB (W.alloc (.cells #[.int .i64 248, .int .i64 0, .int .i64 0, .bool true, .bool true, .bool false, .int .u32 0, .int .u32 0] 29)) W.heap.size 29 aF1.cs := by
  have e : aF1.cs = #[.int .i64 248, .int .i64 0, .int .i64 0, .bool true, .bool true, .bool false, .int .u32 0, .int .u32 0] := by
    show #[Value.int .i64 248, .int .i64 0, .int .i64 0, .bool true, .bool true, .bool false, .int .u32 (wd f0 0), .int .u32 (wd f0 1)] = _
    rw [wd_f0, wd_f0]
    rfl
  rw [e]
  exact CB.new _ _ _
set_option maxRecDepth 100000 in
set_option maxHeartbeats 8000000 in
theorem awake_if (w : World) : Calls Try.prog 9 #[] w fun e w' => e = .returned (.bool true) ∧ Below w.heap.size w w' := by
  have HN := hi (fun W => new_if W)
  have HT := hi (fun b W (z : CB W b 29 aF1.cs) => show Calls Try.prog 26 #[.pointer (some ⟨b, 0, none⟩), .agg #[.int .i64 40, .int .i64 160, .int .i64 1, .bool true], .int .i64 1] W fun e w' => e = .returned (.tuple #[.int .i64 40, .bool true]) ∧ FcAf W b aF2 w' from
    (take_any b aF1 ⟨40, 160, 1, true⟩ 1 W z).mono fun e w' ⟨h1, h2⟩ => ⟨by rw [h1, aw_take], h2⟩)
  have HM1 := hi (fun W => show Calls Try.prog 15 #[.agg #[.int .i64 aF2.m, .int .i64 aF2.p0, .int .i64 aF2.p1, .bool aF2.o0, .bool aF2.o1, .bool aF2.sp, .int .u32 (wd aF2.r 0), .int .u32 (wd aF2.r 1)], .agg #[.int .i64 0, .int .i64 168, .int .i64 1, .bool true]] W fun e w' => e = .returned (.bool false) ∧ Below W.heap.size W w' from
    (may_any aF2 ⟨0, 168, 1, true⟩ W).mono fun e w' ⟨h1, h2⟩ => ⟨by rw [h1, aw_may1], h2⟩)
  have HM2 := hi (fun W => show Calls Try.prog 15 #[.agg #[.int .i64 aF2.m, .int .i64 aF2.p0, .int .i64 aF2.p1, .bool aF2.o0, .bool aF2.o1, .bool aF2.sp, .int .u32 (wd aF2.r 0), .int .u32 (wd aF2.r 1)], .agg #[.int .i64 0, .int .i64 152, .int .i64 1, .bool true]] W fun e w' => e = .returned (.bool true) ∧ Below W.heap.size W w' from
    (may_any aF2 ⟨0, 152, 1, true⟩ W).mono fun e w' ⟨h1, h2⟩ => ⟨by rw [h1, aw_may2], h2⟩)
  have HD0 := hi (fun b W (z : CB W b 29 aF2.cs) => show Calls Try.prog 29 #[.pointer (some ⟨b, 0, none⟩), .int .i64 0] W fun e w' => e = .returned (.bool false) ∧ FcAf W b aF3 w' from
    (drop_if b aF2 0 W z).mono fun e w' ⟨h1, h2⟩ => ⟨by rw [h1, aw_drop0], h2⟩)
  have HD1 := hi (fun b W (z : CB W b 29 aF3.cs) => show Calls Try.prog 29 #[.pointer (some ⟨b, 0, none⟩), .int .i64 1] W fun e w' => e = .returned (.bool true) ∧ FcAf W b aF4 w' from
    (drop_if b aF3 1 W z).mono fun e w' ⟨h1, h2⟩ => ⟨by rw [h1, aw_drop1], h2⟩)
  have HR := hi (fun W => show Calls Try.prog 28 #[.agg #[.int .i64 aF4.m, .int .i64 aF4.p0, .int .i64 aF4.p1, .bool aF4.o0, .bool aF4.o1, .bool aF4.sp, .int .u32 (wd aF4.r 0), .int .u32 (wd aF4.r 1)]] W fun e w' => e = .returned (.tuple #[.int .i64 255, .int .i64 0]) ∧ Below W.heap.size W w' from
    (ifrun_any aF4 W).mono fun e w' ⟨h1, h2⟩ => ⟨by rw [h1, aw_run], h2⟩)
  have HW := hi (fun b W (z : CB W b 29 aF4.cs) => show Calls Try.prog 30 #[.pointer (some ⟨b, 0, none⟩), .int .i64 8, .int .u64 0] W fun e w' => e = .returned (.bool true) ∧ FcAf W b aF5 w' from
    (write_any b aF4 8 0 (by decide) W z).mono fun e w' ⟨h1, h2⟩ => ⟨by rw [h1, aw_write], h2⟩)
  have HE := hi (fun W => show Calls Try.prog 12 #[.agg #[.int .i64 aF5.m, .int .i64 aF5.p0, .int .i64 aF5.p1, .bool aF5.o0, .bool aF5.o1, .bool aF5.sp, .int .u32 (wd aF5.r 0), .int .u32 (wd aF5.r 1)], .int .i64 8] W fun e w' => e = .returned (.tuple #[.int .u64 1, .bool true]) ∧ Below W.heap.size W w' from
    (read_any aF5 8 W).mono fun e w' ⟨h1, h2⟩ => ⟨by rw [h1, aw_read], h2⟩)
  go_enter Try.func9, Try.ntmps9
  go_wp2_with (first
    | (go_at_call 23; ((with_reducible refine (HN.out _).mono ?_); rintro e w1 ⟨rfl, hb⟩; have X1 := hi (aF1_at w1); have B1 := hi (hb.alloc hb.size (.cells #[.int .i64 248, .int .i64 0, .int .i64 0, .bool true, .bool true, .bool false, .int .u32 0, .int .u32 0] 29)); have LO := hi hb.size; clear hb))
    | (go_at_call 26; ((with_reducible refine (HT.out _ _ X1.out).mono ?_); rintro e w2 ⟨rfl, hA⟩; have X2 := hi hA.bx; have B2 := hi (B1.out.trans (hA.kept.toBelow B1.out.size (fun i z => by subst z; exact LO.out))); clear hA)))
  refine wp_region_noPanic ?_
  refine wp_region_last_drew (S := (fun W' => CB W' w1.heap.size 29 aF2.cs)) [] (by kernel_rfl) X2.out.drew (fun hHeld => ?_)
  (try simp only [Array.replicate_succ, Array.replicate_zero, List.push_toArray, List.nil_append, List.cons_append])
  refine wpAnyF_take (i := 0) (v := ?_) (by kernel_rfl) (by kernel_rfl) rfl (by kernel_rfl) (by kernel_rfl) (by kernel_rfl) (fun _ _ _ h => h) (Or.inl ⟨by rfl, ?_⟩) (by assumption) ?_
  rotate_left
  · intro w' hSw; (try dsimp only at hSw); have f0 := hSw.cell 0; have f1 := hSw.cell 1; have f2 := hSw.cell 2; have f3 := hSw.cell 3; have f4 := hSw.cell 4; have f5 := hSw.cell 5; have f6 := hSw.cell 6; have f7 := hSw.cell 7; go_simp; (try with_reducible rfl)
  (try simp only [Act.put, List.getElem_toArray, List.getElem_cons_zero, List.setIfInBounds_toArray, List.set_cons_zero, List.set_cons_succ])
  refine wpAnyF_take (i := 1) (v := ?_) (by kernel_rfl) (by kernel_rfl) rfl (by kernel_rfl) (by kernel_rfl) (by kernel_rfl) (fun _ _ _ h => h) (Or.inl ⟨by rfl, ?_⟩) (by assumption) ?_
  rotate_left
  · intro w' hSw; (try dsimp only at hSw); have f0 := hSw.cell 0; have f1 := hSw.cell 1; have f2 := hSw.cell 2; have f3 := hSw.cell 3; have f4 := hSw.cell 4; have f5 := hSw.cell 5; have f6 := hSw.cell 6; have f7 := hSw.cell 7; go_simp; (try with_reducible rfl)
  (try simp only [Act.put, List.getElem_toArray, List.getElem_cons_zero, List.getElem_cons_succ, List.setIfInBounds_toArray, List.set_cons_zero, List.set_cons_succ])
  refine wpAnyF_take (i := 3) (v := ?_) (by kernel_rfl) (by kernel_rfl) rfl (by kernel_rfl) (by kernel_rfl) (by kernel_rfl) (fun _ _ _ h => h) (Or.inl ⟨by rfl, ?_⟩) (by assumption) ?_
  rotate_left
  · intro w' hSw; (try dsimp only at hSw); have f0 := hSw.cell 0; have f1 := hSw.cell 1; have f2 := hSw.cell 2; have f3 := hSw.cell 3; have f4 := hSw.cell 4; have f5 := hSw.cell 5; have f6 := hSw.cell 6; have f7 := hSw.cell 7; go_simp; (try with_reducible rfl)
  (try simp only [Act.put, List.getElem_toArray, List.getElem_cons_zero, List.getElem_cons_succ, List.setIfInBounds_toArray, List.set_cons_zero, List.set_cons_succ])
  refine wpAnyF_take (i := 4) (v := ?_) (by kernel_rfl) (by kernel_rfl) rfl (by kernel_rfl) (by kernel_rfl) (by kernel_rfl) (fun _ _ _ h => h) (Or.inl ⟨by rfl, ?_⟩) (by assumption) ?_
  rotate_left
  · intro w' hSw; (try dsimp only at hSw); have f0 := hSw.cell 0; have f1 := hSw.cell 1; have f2 := hSw.cell 2; have f3 := hSw.cell 3; have f4 := hSw.cell 4; have f5 := hSw.cell 5; have f6 := hSw.cell 6; have f7 := hSw.cell 7; go_simp; (try with_reducible rfl)
  (try simp only [Act.put, List.getElem_toArray, List.getElem_cons_zero, List.getElem_cons_succ, List.setIfInBounds_toArray, List.set_cons_zero, List.set_cons_succ])
  refine wpAnyF_ready (rs := [2]) (by kernel_rfl) (by simp) ?_
  refine AllReadyF.cons rfl (fun KK hKK => ?_) AllReadyF.nil
  go_simp
  ((with_reducible refine (HM1.out _).mono ?_); rintro e' w3 ⟨rfl, hb⟩; have B3 := hi hb; have hSS := hHeld.below hb; clear hb)
  (try go_simp)
  refine hKK.out _ _ hSS (fun hHeld => ?_)
  clear hKK KK
  (try simp only [Act.put, List.getElem_toArray, List.getElem_cons_zero, List.getElem_cons_succ, List.setIfInBounds_toArray, List.set_cons_zero, List.set_cons_succ])
  refine wpAnyF_ready (rs := [5]) (by kernel_rfl) (by simp) ?_
  refine AllReadyF.cons rfl (fun KK hKK => ?_) AllReadyF.nil
  go_simp
  ((with_reducible refine (HM2.out _).mono ?_); rintro e' w4 ⟨rfl, hb⟩; have B4 := hi hb; have hSS := hHeld.below hb; clear hb)
  (try go_simp)
  refine hKK.out _ _ hSS (fun hHeld => ?_)
  clear hKK KK
  (try simp only [Act.put, List.getElem_toArray, List.getElem_cons_zero, List.getElem_cons_succ, List.setIfInBounds_toArray, List.set_cons_zero, List.set_cons_succ])
  refine wpAnyF_take (i := 6) (v := ?_) (by kernel_rfl) (by kernel_rfl) rfl (by kernel_rfl) (by kernel_rfl) (by kernel_rfl) (fun _ _ _ h => h) (Or.inl ⟨by rfl, ?_⟩) (by assumption) ?_
  rotate_left
  · intro w' hSw; (try dsimp only at hSw); have f0 := hSw.cell 0; have f1 := hSw.cell 1; have f2 := hSw.cell 2; have f3 := hSw.cell 3; have f4 := hSw.cell 4; have f5 := hSw.cell 5; have f6 := hSw.cell 6; have f7 := hSw.cell 7; go_simp; (try with_reducible rfl)
  (try simp only [Act.put, List.getElem_toArray, List.getElem_cons_zero, List.getElem_cons_succ, List.setIfInBounds_toArray, List.set_cons_zero, List.set_cons_succ])
  refine wpAnyF_take (i := 7) (v := ?_) (by kernel_rfl) (by kernel_rfl) rfl (by kernel_rfl) (by kernel_rfl) (by kernel_rfl) (fun _ _ _ h => h) (Or.inl ⟨by rfl, ?_⟩) (by assumption) ?_
  rotate_left
  · intro w' hSw; (try dsimp only at hSw); have f0 := hSw.cell 0; have f1 := hSw.cell 1; have f2 := hSw.cell 2; have f3 := hSw.cell 3; have f4 := hSw.cell 4; have f5 := hSw.cell 5; have f6 := hSw.cell 6; have f7 := hSw.cell 7; go_simp; (try with_reducible rfl)
  (try simp only [Act.put, List.getElem_toArray, List.getElem_cons_zero, List.getElem_cons_succ, List.setIfInBounds_toArray, List.set_cons_zero, List.set_cons_succ])
  refine wpAnyF_done (by kernel_rfl) ?_ _
  refine NoPanic.normal ?_
  have X4 := hi hHeld
  have B5 := hi (((Below.drewN (m := 1) B2.out).trans (B3.out.mono (Below.drewN (m := 1) B2.out).size)).trans (B4.out.mono ((Below.drewN (m := 1) B2.out).trans (B3.out.mono (Below.drewN (m := 1) B2.out).size)).size))
  go_wp2_with (first
    | (go_at_call 29; ((with_reducible refine (HD0.out _ _ X4.out).mono ?_); rintro e w5 ⟨rfl, hA⟩; have X5 := hi hA.bx; have B6 := hi (B5.out.trans (hA.kept.toBelow B5.out.size (fun i z => by subst z; exact LO.out))); clear hA))
    | (go_at_call 29; ((with_reducible refine (HD1.out _ _ X5.out).mono ?_); rintro e w6 ⟨rfl, hA⟩; have X6 := hi hA.bx; have B7 := hi (B6.out.trans (hA.kept.toBelow B6.out.size (fun i z => by subst z; exact LO.out))); have k0 := X6.out.cell 0; have k1 := X6.out.cell 1; have k2 := X6.out.cell 2; have k3 := X6.out.cell 3; have k4 := X6.out.cell 4; have k5 := X6.out.cell 5; have k6 := X6.out.cell 6; have k7 := X6.out.cell 7; clear hA))
    | (go_at_call 28; ((with_reducible refine (HR.out _).mono ?_); rintro e w7 ⟨rfl, hb⟩; have X7 := hi (X6.out.below hb); have B8 := hi (B7.out.trans (hb.mono B7.out.size)); clear hb))
    | (go_at_call 30; ((with_reducible refine (HW.out _ _ X7.out).mono ?_); rintro e w8 ⟨rfl, hA⟩; have X8 := hi hA.bx; have B8b := hi (B8.out.trans (hA.kept.toBelow B8.out.size (fun i z => by subst z; exact LO.out))); have k0 := X8.out.cell 0; have k1 := X8.out.cell 1; have k2 := X8.out.cell 2; have k3 := X8.out.cell 3; have k4 := X8.out.cell 4; have k5 := X8.out.cell 5; have k6 := X8.out.cell 6; have k7 := X8.out.cell 7; clear hA))
    | (go_at_call 12; ((with_reducible refine (HE.out _).mono ?_); rintro e w9 ⟨rfl, hb⟩; have B9 := hi (B8b.out.trans (hb.mono B8b.out.size)); clear hb)))
  go_ret
  exact ⟨rfl, B9.out⟩

end Go.Proofs.Ytnnlimjbmfpalaa
