/-
  Package cpuif: an interface, plain and in memory; index, levels, Running, Depth, May, Real, New.
-/
import Derived.Test.YtnnlimjbmfpalaaLadT
import Derived.Test.YtnnlimjbmfpalaaLadJ
import Derived.Test.YtnnlimjbmfpalaaPriC
import Derived.Test.YtnnlimjbmfpalaaLast
namespace Go.Proofs.Ytnnlimjbmfpalaa
open Go.ChangeShapes Go.WideShapes Go.ChangeAt Go.RowKit Go.Shelf
set_option linter.unusedVariables false
attribute [local go_sem] Oper.semAt_some

/-- An interface. -/
structure Fc where
  m : Int
  p0 : Int
  p1 : Int
  o0 : Bool
  o1 : Bool
  sp : Bool
  r : Rg
abbrev Fc.cs (x : Fc) : Array Value := #[.int .i64 x.m, .int .i64 x.p0, .int .i64 x.p1, .bool x.o0, .bool x.o1, .bool x.sp, .int .u32 (wd x.r 0), .int .u32 (wd x.r 1)]
abbrev Fc.v (x : Fc) : Value := .agg x.cs
def Fc.on (x : Fc) (g : Int) : Bool := if gO g = 0 then x.o0 else x.o1
def Fc.pt (x : Fc) (g : Int) : Int := if gO g = 0 then x.p0 else x.p1
/-- A candidate. -/
structure Cd where
  id : Int
  p : Int
  g : Int
  is : Bool
deriving DecidableEq, Inhabited
abbrev Cd.cs (c : Cd) : Array Value := #[.int .i64 c.id, .int .i64 c.p, .int .i64 c.g, .bool c.is]
abbrev Cd.v (c : Cd) : Value := .agg c.cs
def Cd.zero : Cd := ⟨0, 0, 0, false⟩
def levV (x : Fc) (g : Int) : Int := maskV (gO g) (x.pt g)
def mayV (x : Fc) (c : Cd) : Bool := c.is && (x.on c.g && (decide (c.p < x.m) && decide (bits .and .i64 c.p (levV x c.g) < (runV x.r).1)))
def realIdV (id : Int) : Bool := (decide (0 ≤ id) && decide (id < 1020)) || (decide (8192 ≤ id) && decide (id < 16384))

theorem gO_int (g : Int) : (gO g : Int) = g % 2 := by unfold gO; omega
theorem index_any (g : Int) (w : World) : Calls Try.prog 39 #[.int .i64 g] w fun e w' => e = .returned (.int .i64 (gO g)) ∧ w = w' := by
  have h := i64_and1 g
  rw [gO_int]
  go_enter Try.func39, Try.ntmps39
  go_wp2
  go_ret
  exact ⟨by first | rfl | rw [h], rfl⟩
theorem levels_any (x : Fc) (g : Int) (w : World) : Calls Try.prog 42 #[x.v, .int .i64 g] w fun e w' => e = .returned (.int .i64 (levV x g)) ∧ Below w.heap.size w w' := by
  have HI := hi (fun W => index_any g W)
  have HM := hi (fun W => mask_any (gO g) (x.pt g) W)
  obtain ⟨m, p0, p1, o0, o1, sp, r⟩ := x
  unfold levV
  have hb := bal w (.cells #[.int .i64 m, .int .i64 p0, .int .i64 p1, .bool o0, .bool o1, .bool sp, .int .u32 (wd r 0), .int .u32 (wd r 1)] 29)
  have hc := CB.new w 29 #[.int .i64 m, .int .i64 p0, .int .i64 p1, .bool o0, .bool o1, .bool sp, .int .u32 (wd r 0), .int .u32 (wd r 1)]
  have c1 := hc.cell 1
  have c2 := hc.cell 2
  have HB := hi hb
  obtain ⟨q, hq⟩ : ∃ q, maskV (gO g) ((⟨m, p0, p1, o0, o1, sp, r⟩ : Fc).pt g) = q := ⟨_, rfl⟩
  rw [hq] at HM ⊢
  unfold Fc.pt at HM
  obtain ⟨z, hz⟩ : ∃ z : Int, ((gO g : Nat) : Int) = z := ⟨_, rfl⟩
  rw [hz] at HI HM
  rcases (show (z = 0 ∧ gO g = 0) ∨ (z = 1 ∧ gO g = 1) from by rcases gO_two g with h | h <;> omega) with ⟨rfl, hg⟩ | ⟨rfl, hg⟩
  all_goals
    rw [hg] at HM
    simp only [if_true, Nat.one_ne_zero, if_false] at HM
    clear hg hq hb hc hz
    go_enter Try.func42, Try.ntmps42
    go_wp2_with (first
      | (go_at_call 39; ((with_reducible refine (HI.out _).mono ?_); rintro e w1 ⟨rfl, rfl⟩))
      | (go_at_call 27; ((with_reducible refine (HM.out _).mono ?_); rintro e w2 ⟨rfl, rfl⟩)))
    go_ret
    exact ⟨rfl, HB.out⟩
theorem ifrun_any (x : Fc) (w : World) : Calls Try.prog 28 #[x.v] w fun e w' => e = .returned (.tuple #[.int .i64 (runV x.r).1, .int .i64 (runV x.r).2]) ∧ Below w.heap.size w w' := by
  have HR := hi (fun W => running_any x.r W)
  obtain ⟨m, p0, p1, o0, o1, sp, r⟩ := x
  have hb := bal w (.cells #[.int .i64 m, .int .i64 p0, .int .i64 p1, .bool o0, .bool o1, .bool sp, .int .u32 (wd r 0), .int .u32 (wd r 1)] 29)
  have hc := CB.new w 29 #[.int .i64 m, .int .i64 p0, .int .i64 p1, .bool o0, .bool o1, .bool sp, .int .u32 (wd r 0), .int .u32 (wd r 1)]
  have c6 := hc.cell 6
  have c7 := hc.cell 7
  have HB := hi hb
  dsimp only at HR ⊢
  clear hb hc
  go_enter Try.func28, Try.ntmps28
  go_wp2_with (go_at_call 48; ((with_reducible refine (HR.out _).mono ?_); rintro e w1 ⟨rfl, hb⟩; have HB1 := hi hb; clear hb))
  go_ret2
  exact ⟨rfl, HB.out.trans (HB1.out.mono HB.out.size)⟩
theorem depth_any (x : Fc) (w : World) : Calls Try.prog 21 #[x.v] w fun e w' => e = .returned (.int .i64 (rungs x.r).length) ∧ Below w.heap.size w w' := by
  have HR := hi (fun W => len_any x.r W)
  obtain ⟨m, p0, p1, o0, o1, sp, r⟩ := x
  have hb := bal w (.cells #[.int .i64 m, .int .i64 p0, .int .i64 p1, .bool o0, .bool o1, .bool sp, .int .u32 (wd r 0), .int .u32 (wd r 1)] 29)
  have hc := CB.new w 29 #[.int .i64 m, .int .i64 p0, .int .i64 p1, .bool o0, .bool o1, .bool sp, .int .u32 (wd r 0), .int .u32 (wd r 1)]
  have c6 := hc.cell 6
  have c7 := hc.cell 7
  have HB := hi hb
  dsimp only at HR ⊢
  clear hb hc
  go_enter Try.func21, Try.ntmps21
  go_wp2_with (go_at_call 22; ((with_reducible refine (HR.out _).mono ?_); rintro e w1 ⟨rfl, hb⟩; have HB1 := hi hb; clear hb))
  go_ret
  exact ⟨rfl, HB.out.trans (HB1.out.mono HB.out.size)⟩
theorem real_id (id : Int) (w : World) : Calls Try.prog 19 #[.int .i64 id] w fun e w' => e = .returned (.bool (realIdV id)) ∧ w = w' := by
  unfold realIdV
  rcases (show id < 0 ∨ (0 ≤ id ∧ id < 1020) ∨ (1020 ≤ id ∧ id < 8192) ∨ (8192 ≤ id ∧ id < 16384) ∨ 16384 ≤ id by omega) with h | ⟨h, h2⟩ | ⟨h, h2⟩ | ⟨h, h2⟩ | h
  all_goals
    have d1 : decide (0 ≤ id) = decide (0 ≤ id) := rfl
    go_enter Try.func19, Try.ntmps19
    go_wp2
    go_ret
    exact ⟨ret_bool (by first | rfl | (simp; done) | (simp; omega) | (simp <;> omega) | (rw [Bool.eq_iff_iff]; simp; done) | (rw [Bool.eq_iff_iff]; simp; omega) | omega), rfl⟩
theorem rreal_id (id : Int) (w : World) : Calls Try.prog 20 #[.int .i64 id] w fun e w' => e = .returned (.bool (realIdV id)) ∧ w = w' := by
  unfold realIdV
  rcases (show id < 0 ∨ (0 ≤ id ∧ id < 1020) ∨ (1020 ≤ id ∧ id < 8192) ∨ (8192 ≤ id ∧ id < 16384) ∨ 16384 ≤ id by omega) with h | ⟨h, h2⟩ | ⟨h, h2⟩ | ⟨h, h2⟩ | h
  all_goals
    go_enter Try.func20, Try.ntmps20
    go_wp2
    go_ret
    exact ⟨ret_bool (by first | rfl | (simp; done) | (simp; omega) | (simp <;> omega) | (rw [Bool.eq_iff_iff]; simp; done) | (rw [Bool.eq_iff_iff]; simp; omega) | omega), rfl⟩
set_option maxRecDepth 100000 in
set_option maxHeartbeats 8000000 in
theorem may_any (x : Fc) (c : Cd) (w : World) : Calls Try.prog 15 #[x.v, c.v] w fun e w' => e = .returned (.bool (mayV x c)) ∧ Below w.heap.size w w' := by
  have HI := hi (fun W => index_any c.g W)
  have HL := hi (fun W => levels_any x c.g W)
  have HR := hi (fun W => ifrun_any x W)
  have HP := hi (fun W => passes_any c.p x.m W)
  have HE := hi (fun W => preempts_any c.p (runV x.r).1 (levV x c.g) W)
  have HV := hi (show mayV x c = (c.is && (x.on c.g && (decide (c.p < x.m) && decide (bits .and .i64 c.p (levV x c.g) < (runV x.r).1)))) from rfl)
  obtain ⟨V, hV⟩ : ∃ V, mayV x c = V := ⟨_, rfl⟩
  rw [hV] at HV ⊢
  obtain ⟨L, hL⟩ : ∃ L, levV x c.g = L := ⟨_, rfl⟩
  rw [hL] at HL HE HV
  obtain ⟨m, p0, p1, o0, o1, sp, r⟩ := x
  obtain ⟨ci, cp, cg, cis⟩ := c
  dsimp only at HI HL HR HP HE HV
  dsimp only [Fc.on] at HV
  obtain ⟨⟨R1, R2⟩, hR⟩ : ∃ R, runV r = R := ⟨_, rfl⟩
  rw [hR] at HR HE HV
  dsimp only at HR HE HV
  have HB0 := hi (bal_two w (.cells #[.int .i64 m, .int .i64 p0, .int .i64 p1, .bool o0, .bool o1, .bool sp, .int .u32 (wd r 0), .int .u32 (wd r 1)] 29) (.cells #[.int .i64 ci, .int .i64 cp, .int .i64 cg, .bool cis] 39))
  have HF0 := hi ((CB.new w 29 #[.int .i64 m, .int .i64 p0, .int .i64 p1, .bool o0, .bool o1, .bool sp, .int .u32 (wd r 0), .int .u32 (wd r 1)]).alloc (.cells #[.int .i64 ci, .int .i64 cp, .int .i64 cg, .bool cis] 39))
  have HC0 := hi (cb_second (w := w) (o := .cells #[.int .i64 m, .int .i64 p0, .int .i64 p1, .bool o0, .bool o1, .bool sp, .int .u32 (wd r 0), .int .u32 (wd r 1)] 29) (cs := #[.int .i64 ci, .int .i64 cp, .int .i64 cg, .bool cis]) (t := 39))
  obtain ⟨bp, hbp⟩ : ∃ bp, decide (cp < m) = bp := ⟨_, rfl⟩
  obtain ⟨be, hbe⟩ : ∃ be, decide (bits .and .i64 cp L < R1) = be := ⟨_, rfl⟩
  rw [hbp] at HP HV
  rw [hbe] at HE HV
  clear hV hL hR hbp hbe
  rcases gO_two cg with hg | hg
  · rw [hg] at HI HV
    simp only [if_true] at HV
    clear hg
    cases cis
    · go_enter Try.func15, Try.ntmps15
      go_wp2_with (go_at_call 28; ((with_reducible refine (HR.out _).mono ?_); rintro e w1 ⟨rfl, hb⟩; have HF1 := hi (HF0.out.below hb); have HC1 := hi (HC0.out.below hb); have HBX := hi (show Below w.heap.size w w1.drew from Below.drewN (m := 1) (HB0.out.trans (hb.mono HB0.out.size))); clear hb))
      refine wp_region_noPanic ?_
      refine wp_region_last_drew (S := (fun W' => CB W' w.heap.size 29 #[.int .i64 m, .int .i64 p0, .int .i64 p1, .bool o0, .bool o1, .bool sp, .int .u32 (wd r 0), .int .u32 (wd r 1)] ∧ CB W' (w.heap.size + 1) 39 #[.int .i64 ci, .int .i64 cp, .int .i64 cg, .bool false])) [] (by kernel_rfl) ⟨HF1.out.drew, HC1.out.drew⟩ (fun hHeld => ?_)
      (try simp only [Array.replicate_succ, Array.replicate_zero, List.push_toArray, List.nil_append, List.cons_append])
      refine wpAnyF_take (i := 0) (v := ?_) (by kernel_rfl) (by kernel_rfl) rfl (by kernel_rfl) (by kernel_rfl) (by kernel_rfl) (fun _ _ _ h => h) (Or.inl ⟨by rfl, ?_⟩) (by assumption) ?_
      rotate_left
      · intro w' hSw; (try dsimp only at hSw); have f0 := hSw.1.cell 0; have f1 := hSw.1.cell 1; have f2 := hSw.1.cell 2; have f3 := hSw.1.cell 3; have f4 := hSw.1.cell 4; have f5 := hSw.1.cell 5; have f6 := hSw.1.cell 6; have f7 := hSw.1.cell 7; have c1 := hSw.2.cell 1; have c2 := hSw.2.cell 2; have c3 := hSw.2.cell 3; go_simp; (try with_reducible rfl)
      (try simp only [Act.put, List.getElem_toArray, List.getElem_cons_zero, List.setIfInBounds_toArray, List.set_cons_zero, List.set_cons_succ])
      refine wpAnyF_take (i := 1) (v := ?_) (by kernel_rfl) (by kernel_rfl) rfl (by kernel_rfl) (by kernel_rfl) (by kernel_rfl) (fun _ _ _ h => h) (Or.inl ⟨by rfl, ?_⟩) (by assumption) ?_
      rotate_left
      · intro w' hSw; (try dsimp only at hSw); have f0 := hSw.1.cell 0; have f1 := hSw.1.cell 1; have f2 := hSw.1.cell 2; have f3 := hSw.1.cell 3; have f4 := hSw.1.cell 4; have f5 := hSw.1.cell 5; have f6 := hSw.1.cell 6; have f7 := hSw.1.cell 7; have c1 := hSw.2.cell 1; have c2 := hSw.2.cell 2; have c3 := hSw.2.cell 3; go_simp; (try with_reducible rfl)
      (try simp only [Act.put, List.getElem_toArray, List.getElem_cons_zero, List.getElem_cons_succ, List.setIfInBounds_toArray, List.set_cons_zero, List.set_cons_succ])
      refine wpAnyF_take (i := 2) (v := ?_) (by kernel_rfl) (by kernel_rfl) rfl (by kernel_rfl) (by kernel_rfl) (by kernel_rfl) (fun _ _ _ h => h) (Or.inl ⟨by rfl, ?_⟩) (by assumption) ?_
      rotate_left
      · intro w' hSw; (try dsimp only at hSw); have f0 := hSw.1.cell 0; have f1 := hSw.1.cell 1; have f2 := hSw.1.cell 2; have f3 := hSw.1.cell 3; have f4 := hSw.1.cell 4; have f5 := hSw.1.cell 5; have f6 := hSw.1.cell 6; have f7 := hSw.1.cell 7; have c1 := hSw.2.cell 1; have c2 := hSw.2.cell 2; have c3 := hSw.2.cell 3; go_simp; (try with_reducible rfl)
      (try simp only [Act.put, List.getElem_toArray, List.getElem_cons_zero, List.getElem_cons_succ, List.setIfInBounds_toArray, List.set_cons_zero, List.set_cons_succ])
      refine wpAnyF_take (i := 3) (v := undef) (by kernel_rfl) (by kernel_rfl) rfl (by kernel_rfl) (by kernel_rfl) (by kernel_rfl) (fun _ _ _ h => h) (Or.inr ⟨by rfl, rfl⟩) (by assumption) ?_
      (try simp only [Act.put, List.getElem_toArray, List.getElem_cons_zero, List.getElem_cons_succ, List.setIfInBounds_toArray, List.set_cons_zero, List.set_cons_succ])
      refine wpAnyF_take (i := 4) (v := undef) (by kernel_rfl) (by kernel_rfl) rfl (by kernel_rfl) (by kernel_rfl) (by kernel_rfl) (fun _ _ _ h => h) (Or.inr ⟨by rfl, rfl⟩) (by assumption) ?_
      (try simp only [Act.put, List.getElem_toArray, List.getElem_cons_zero, List.getElem_cons_succ, List.setIfInBounds_toArray, List.set_cons_zero, List.set_cons_succ])
      refine wpAnyF_take (i := 5) (v := undef) (by kernel_rfl) (by kernel_rfl) rfl (by kernel_rfl) (by kernel_rfl) (by kernel_rfl) (fun _ _ _ h => h) (Or.inr ⟨by rfl, rfl⟩) (by assumption) ?_
      (try simp only [Act.put, List.getElem_toArray, List.getElem_cons_zero, List.getElem_cons_succ, List.setIfInBounds_toArray, List.set_cons_zero, List.set_cons_succ])
      refine wpAnyF_take (i := 6) (v := undef) (by kernel_rfl) (by kernel_rfl) rfl (by kernel_rfl) (by kernel_rfl) (by kernel_rfl) (fun _ _ _ h => h) (Or.inr ⟨by rfl, rfl⟩) (by assumption) ?_
      (try simp only [Act.put, List.getElem_toArray, List.getElem_cons_zero, List.getElem_cons_succ, List.setIfInBounds_toArray, List.set_cons_zero, List.set_cons_succ])
      refine wpAnyF_take (i := 7) (v := undef) (by kernel_rfl) (by kernel_rfl) rfl (by kernel_rfl) (by kernel_rfl) (by kernel_rfl) (fun _ _ _ h => h) (Or.inr ⟨by rfl, rfl⟩) (by assumption) ?_
      (try simp only [Act.put, List.getElem_toArray, List.getElem_cons_zero, List.getElem_cons_succ, List.setIfInBounds_toArray, List.set_cons_zero, List.set_cons_succ])
      refine wpAnyF_take (i := 8) (v := undef) (by kernel_rfl) (by kernel_rfl) rfl (by kernel_rfl) (by kernel_rfl) (by kernel_rfl) (fun _ _ _ h => h) (Or.inr ⟨by rfl, rfl⟩) (by assumption) ?_
      (try simp only [Act.put, List.getElem_toArray, List.getElem_cons_zero, List.getElem_cons_succ, List.setIfInBounds_toArray, List.set_cons_zero, List.set_cons_succ])
      refine wpAnyF_take (i := 9) (v := ?_) (by kernel_rfl) (by kernel_rfl) rfl (by kernel_rfl) (by kernel_rfl) (by kernel_rfl) (fun _ _ _ h => h) (Or.inl ⟨by rfl, ?_⟩) (by assumption) ?_
      rotate_left
      · intro w' hSw; (try dsimp only at hSw); have f0 := hSw.1.cell 0; have f1 := hSw.1.cell 1; have f2 := hSw.1.cell 2; have f3 := hSw.1.cell 3; have f4 := hSw.1.cell 4; have f5 := hSw.1.cell 5; have f6 := hSw.1.cell 6; have f7 := hSw.1.cell 7; have c1 := hSw.2.cell 1; have c2 := hSw.2.cell 2; have c3 := hSw.2.cell 3; go_simp; (try with_reducible rfl)
      (try simp only [Act.put, List.getElem_toArray, List.getElem_cons_zero, List.getElem_cons_succ, List.setIfInBounds_toArray, List.set_cons_zero, List.set_cons_succ])
      refine wpAnyF_take (i := 10) (v := ?_) (by kernel_rfl) (by kernel_rfl) rfl (by kernel_rfl) (by kernel_rfl) (by kernel_rfl) (fun _ _ _ h => h) (Or.inl ⟨by rfl, ?_⟩) (by assumption) ?_
      rotate_left
      · intro w' hSw; (try dsimp only at hSw); have f0 := hSw.1.cell 0; have f1 := hSw.1.cell 1; have f2 := hSw.1.cell 2; have f3 := hSw.1.cell 3; have f4 := hSw.1.cell 4; have f5 := hSw.1.cell 5; have f6 := hSw.1.cell 6; have f7 := hSw.1.cell 7; have c1 := hSw.2.cell 1; have c2 := hSw.2.cell 2; have c3 := hSw.2.cell 3; go_simp; (try with_reducible rfl)
      (try simp only [Act.put, List.getElem_toArray, List.getElem_cons_zero, List.getElem_cons_succ, List.setIfInBounds_toArray, List.set_cons_zero, List.set_cons_succ])
      refine wpAnyF_take (i := 11) (v := undef) (by kernel_rfl) (by kernel_rfl) rfl (by kernel_rfl) (by kernel_rfl) (by kernel_rfl) (fun _ _ _ h => h) (Or.inr ⟨by rfl, rfl⟩) (by assumption) ?_
      (try simp only [Act.put, List.getElem_toArray, List.getElem_cons_zero, List.getElem_cons_succ, List.setIfInBounds_toArray, List.set_cons_zero, List.set_cons_succ])
      refine wpAnyF_take (i := 12) (v := undef) (by kernel_rfl) (by kernel_rfl) rfl (by kernel_rfl) (by kernel_rfl) (by kernel_rfl) (fun _ _ _ h => h) (Or.inr ⟨by rfl, rfl⟩) (by assumption) ?_
      (try simp only [Act.put, List.getElem_toArray, List.getElem_cons_zero, List.getElem_cons_succ, List.setIfInBounds_toArray, List.set_cons_zero, List.set_cons_succ])
      refine wpAnyF_take (i := 13) (v := undef) (by kernel_rfl) (by kernel_rfl) rfl (by kernel_rfl) (by kernel_rfl) (by kernel_rfl) (fun _ _ _ h => h) (Or.inr ⟨by rfl, rfl⟩) (by assumption) ?_
      (try simp only [Act.put, List.getElem_toArray, List.getElem_cons_zero, List.getElem_cons_succ, List.setIfInBounds_toArray, List.set_cons_zero, List.set_cons_succ])
      refine wpAnyF_take (i := 14) (v := undef) (by kernel_rfl) (by kernel_rfl) rfl (by kernel_rfl) (by kernel_rfl) (by kernel_rfl) (fun _ _ _ h => h) (Or.inr ⟨by rfl, rfl⟩) (by assumption) ?_
      (try simp only [Act.put, List.getElem_toArray, List.getElem_cons_zero, List.getElem_cons_succ, List.setIfInBounds_toArray, List.set_cons_zero, List.set_cons_succ])
      refine wpAnyF_take (i := 15) (v := undef) (by kernel_rfl) (by kernel_rfl) rfl (by kernel_rfl) (by kernel_rfl) (by kernel_rfl) (fun _ _ _ h => h) (Or.inr ⟨by rfl, rfl⟩) (by assumption) ?_
      (try simp only [Act.put, List.getElem_toArray, List.getElem_cons_zero, List.getElem_cons_succ, List.setIfInBounds_toArray, List.set_cons_zero, List.set_cons_succ])
      refine wpAnyF_take (i := 16) (v := ?_) (by kernel_rfl) (by kernel_rfl) rfl (by kernel_rfl) (by kernel_rfl) (by kernel_rfl) (fun _ _ _ h => h) (Or.inl ⟨by rfl, ?_⟩) (by assumption) ?_
      rotate_left
      · intro w' hSw; (try dsimp only at hSw); have f0 := hSw.1.cell 0; have f1 := hSw.1.cell 1; have f2 := hSw.1.cell 2; have f3 := hSw.1.cell 3; have f4 := hSw.1.cell 4; have f5 := hSw.1.cell 5; have f6 := hSw.1.cell 6; have f7 := hSw.1.cell 7; have c1 := hSw.2.cell 1; have c2 := hSw.2.cell 2; have c3 := hSw.2.cell 3; go_simp; (try with_reducible rfl)
      (try simp only [Act.put, List.getElem_toArray, List.getElem_cons_zero, List.getElem_cons_succ, List.setIfInBounds_toArray, List.set_cons_zero, List.set_cons_succ])
      refine wpAnyF_take (i := 17) (v := ?_) (by kernel_rfl) (by kernel_rfl) rfl (by kernel_rfl) (by kernel_rfl) (by kernel_rfl) (fun _ _ _ h => h) (Or.inl ⟨by rfl, ?_⟩) (by assumption) ?_
      rotate_left
      · intro w' hSw; (try dsimp only at hSw); have f0 := hSw.1.cell 0; have f1 := hSw.1.cell 1; have f2 := hSw.1.cell 2; have f3 := hSw.1.cell 3; have f4 := hSw.1.cell 4; have f5 := hSw.1.cell 5; have f6 := hSw.1.cell 6; have f7 := hSw.1.cell 7; have c1 := hSw.2.cell 1; have c2 := hSw.2.cell 2; have c3 := hSw.2.cell 3; go_simp; (try with_reducible rfl)
      (try simp only [Act.put, List.getElem_toArray, List.getElem_cons_zero, List.getElem_cons_succ, List.setIfInBounds_toArray, List.set_cons_zero, List.set_cons_succ])
      refine wpAnyF_take (i := 18) (v := undef) (by kernel_rfl) (by kernel_rfl) rfl (by kernel_rfl) (by kernel_rfl) (by kernel_rfl) (fun _ _ _ h => h) (Or.inr ⟨by rfl, rfl⟩) (by assumption) ?_
      (try simp only [Act.put, List.getElem_toArray, List.getElem_cons_zero, List.getElem_cons_succ, List.setIfInBounds_toArray, List.set_cons_zero, List.set_cons_succ])
      refine wpAnyF_take (i := 19) (v := undef) (by kernel_rfl) (by kernel_rfl) rfl (by kernel_rfl) (by kernel_rfl) (by kernel_rfl) (fun _ _ _ h => h) (Or.inr ⟨by rfl, rfl⟩) (by assumption) ?_
      (try simp only [Act.put, List.getElem_toArray, List.getElem_cons_zero, List.getElem_cons_succ, List.setIfInBounds_toArray, List.set_cons_zero, List.set_cons_succ])
      refine wpAnyF_take (i := 20) (v := undef) (by kernel_rfl) (by kernel_rfl) rfl (by kernel_rfl) (by kernel_rfl) (by kernel_rfl) (fun _ _ _ h => h) (Or.inr ⟨by rfl, rfl⟩) (by assumption) ?_
      (try simp only [Act.put, List.getElem_toArray, List.getElem_cons_zero, List.getElem_cons_succ, List.setIfInBounds_toArray, List.set_cons_zero, List.set_cons_succ])
      refine wpAnyF_take (i := 21) (v := undef) (by kernel_rfl) (by kernel_rfl) rfl (by kernel_rfl) (by kernel_rfl) (by kernel_rfl) (fun _ _ _ h => h) (Or.inr ⟨by rfl, rfl⟩) (by assumption) ?_
      (try simp only [Act.put, List.getElem_toArray, List.getElem_cons_zero, List.getElem_cons_succ, List.setIfInBounds_toArray, List.set_cons_zero, List.set_cons_succ])
      refine wpAnyF_take (i := 22) (v := undef) (by kernel_rfl) (by kernel_rfl) rfl (by kernel_rfl) (by kernel_rfl) (by kernel_rfl) (fun _ _ _ h => h) (Or.inr ⟨by rfl, rfl⟩) (by assumption) ?_
      (try simp only [Act.put, List.getElem_toArray, List.getElem_cons_zero, List.getElem_cons_succ, List.setIfInBounds_toArray, List.set_cons_zero, List.set_cons_succ])
      refine wpAnyF_take (i := 23) (v := undef) (by kernel_rfl) (by kernel_rfl) rfl (by kernel_rfl) (by kernel_rfl) (by kernel_rfl) (fun _ _ _ h => h) (Or.inr ⟨by rfl, rfl⟩) (by assumption) ?_
      (try simp only [Act.put, List.getElem_toArray, List.getElem_cons_zero, List.getElem_cons_succ, List.setIfInBounds_toArray, List.set_cons_zero, List.set_cons_succ])
      refine wpAnyF_take (i := 24) (v := undef) (by kernel_rfl) (by kernel_rfl) rfl (by kernel_rfl) (by kernel_rfl) (by kernel_rfl) (fun _ _ _ h => h) (Or.inr ⟨by rfl, rfl⟩) (by assumption) ?_
      (try simp only [Act.put, List.getElem_toArray, List.getElem_cons_zero, List.getElem_cons_succ, List.setIfInBounds_toArray, List.set_cons_zero, List.set_cons_succ])
      refine wpAnyF_take (i := 25) (v := undef) (by kernel_rfl) (by kernel_rfl) rfl (by kernel_rfl) (by kernel_rfl) (by kernel_rfl) (fun _ _ _ h => h) (Or.inr ⟨by rfl, rfl⟩) (by assumption) ?_
      (try simp only [Act.put, List.getElem_toArray, List.getElem_cons_zero, List.getElem_cons_succ, List.setIfInBounds_toArray, List.set_cons_zero, List.set_cons_succ])
      refine wpAnyF_take (i := 26) (v := ?_) (by kernel_rfl) (by kernel_rfl) rfl (by kernel_rfl) (by kernel_rfl) (by kernel_rfl) (fun _ _ _ h => h) (Or.inl ⟨by rfl, ?_⟩) (by assumption) ?_
      rotate_left
      · intro w' hSw; (try dsimp only at hSw); have f0 := hSw.1.cell 0; have f1 := hSw.1.cell 1; have f2 := hSw.1.cell 2; have f3 := hSw.1.cell 3; have f4 := hSw.1.cell 4; have f5 := hSw.1.cell 5; have f6 := hSw.1.cell 6; have f7 := hSw.1.cell 7; have c1 := hSw.2.cell 1; have c2 := hSw.2.cell 2; have c3 := hSw.2.cell 3; go_simp; (try with_reducible rfl)
      (try simp only [Act.put, List.getElem_toArray, List.getElem_cons_zero, List.getElem_cons_succ, List.setIfInBounds_toArray, List.set_cons_zero, List.set_cons_succ])
      refine wpAnyF_take (i := 27) (v := ?_) (by kernel_rfl) (by kernel_rfl) rfl (by kernel_rfl) (by kernel_rfl) (by kernel_rfl) (fun _ _ _ h => h) (Or.inl ⟨by rfl, ?_⟩) (by assumption) ?_
      rotate_left
      · intro w' hSw; (try dsimp only at hSw); have f0 := hSw.1.cell 0; have f1 := hSw.1.cell 1; have f2 := hSw.1.cell 2; have f3 := hSw.1.cell 3; have f4 := hSw.1.cell 4; have f5 := hSw.1.cell 5; have f6 := hSw.1.cell 6; have f7 := hSw.1.cell 7; have c1 := hSw.2.cell 1; have c2 := hSw.2.cell 2; have c3 := hSw.2.cell 3; go_simp; (try with_reducible rfl)
      (try simp only [Act.put, List.getElem_toArray, List.getElem_cons_zero, List.getElem_cons_succ, List.setIfInBounds_toArray, List.set_cons_zero, List.set_cons_succ])
      refine wpAnyF_done (by kernel_rfl) ?_ _
      refine NoPanic.normal ?_
      go_wp2
      go_ret
      exact ⟨by rw [HV.out]; rfl, HBX.out⟩
    · cases o0
      · go_enter Try.func15, Try.ntmps15
        go_wp2_with (go_at_call 28; ((with_reducible refine (HR.out _).mono ?_); rintro e w1 ⟨rfl, hb⟩; have HF1 := hi (HF0.out.below hb); have HC1 := hi (HC0.out.below hb); have HBX := hi (show Below w.heap.size w w1.drew from Below.drewN (m := 1) (HB0.out.trans (hb.mono HB0.out.size))); clear hb))
        refine wp_region_noPanic ?_
        refine wp_region_last_drew (S := (fun W' => CB W' w.heap.size 29 #[.int .i64 m, .int .i64 p0, .int .i64 p1, .bool false, .bool o1, .bool sp, .int .u32 (wd r 0), .int .u32 (wd r 1)] ∧ CB W' (w.heap.size + 1) 39 #[.int .i64 ci, .int .i64 cp, .int .i64 cg, .bool true])) [] (by kernel_rfl) ⟨HF1.out.drew, HC1.out.drew⟩ (fun hHeld => ?_)
        (try simp only [Array.replicate_succ, Array.replicate_zero, List.push_toArray, List.nil_append, List.cons_append])
        refine wpAnyF_take (i := 0) (v := ?_) (by kernel_rfl) (by kernel_rfl) rfl (by kernel_rfl) (by kernel_rfl) (by kernel_rfl) (fun _ _ _ h => h) (Or.inl ⟨by rfl, ?_⟩) (by assumption) ?_
        rotate_left
        · intro w' hSw; (try dsimp only at hSw); have f0 := hSw.1.cell 0; have f1 := hSw.1.cell 1; have f2 := hSw.1.cell 2; have f3 := hSw.1.cell 3; have f4 := hSw.1.cell 4; have f5 := hSw.1.cell 5; have f6 := hSw.1.cell 6; have f7 := hSw.1.cell 7; have c1 := hSw.2.cell 1; have c2 := hSw.2.cell 2; have c3 := hSw.2.cell 3; go_simp; (try with_reducible rfl)
        (try simp only [Act.put, List.getElem_toArray, List.getElem_cons_zero, List.setIfInBounds_toArray, List.set_cons_zero, List.set_cons_succ])
        refine wpAnyF_take (i := 1) (v := ?_) (by kernel_rfl) (by kernel_rfl) rfl (by kernel_rfl) (by kernel_rfl) (by kernel_rfl) (fun _ _ _ h => h) (Or.inl ⟨by rfl, ?_⟩) (by assumption) ?_
        rotate_left
        · intro w' hSw; (try dsimp only at hSw); have f0 := hSw.1.cell 0; have f1 := hSw.1.cell 1; have f2 := hSw.1.cell 2; have f3 := hSw.1.cell 3; have f4 := hSw.1.cell 4; have f5 := hSw.1.cell 5; have f6 := hSw.1.cell 6; have f7 := hSw.1.cell 7; have c1 := hSw.2.cell 1; have c2 := hSw.2.cell 2; have c3 := hSw.2.cell 3; go_simp; (try with_reducible rfl)
        (try simp only [Act.put, List.getElem_toArray, List.getElem_cons_zero, List.getElem_cons_succ, List.setIfInBounds_toArray, List.set_cons_zero, List.set_cons_succ])
        refine wpAnyF_take (i := 2) (v := ?_) (by kernel_rfl) (by kernel_rfl) rfl (by kernel_rfl) (by kernel_rfl) (by kernel_rfl) (fun _ _ _ h => h) (Or.inl ⟨by rfl, ?_⟩) (by assumption) ?_
        rotate_left
        · intro w' hSw; (try dsimp only at hSw); have f0 := hSw.1.cell 0; have f1 := hSw.1.cell 1; have f2 := hSw.1.cell 2; have f3 := hSw.1.cell 3; have f4 := hSw.1.cell 4; have f5 := hSw.1.cell 5; have f6 := hSw.1.cell 6; have f7 := hSw.1.cell 7; have c1 := hSw.2.cell 1; have c2 := hSw.2.cell 2; have c3 := hSw.2.cell 3; go_simp; (try with_reducible rfl)
        (try simp only [Act.put, List.getElem_toArray, List.getElem_cons_zero, List.getElem_cons_succ, List.setIfInBounds_toArray, List.set_cons_zero, List.set_cons_succ])
        refine wpAnyF_take (i := 3) (v := ?_) (by kernel_rfl) (by kernel_rfl) rfl (by kernel_rfl) (by kernel_rfl) (by kernel_rfl) (fun _ _ _ h => h) (Or.inl ⟨by rfl, ?_⟩) (by assumption) ?_
        rotate_left
        · intro w' hSw; (try dsimp only at hSw); have f0 := hSw.1.cell 0; have f1 := hSw.1.cell 1; have f2 := hSw.1.cell 2; have f3 := hSw.1.cell 3; have f4 := hSw.1.cell 4; have f5 := hSw.1.cell 5; have f6 := hSw.1.cell 6; have f7 := hSw.1.cell 7; have c1 := hSw.2.cell 1; have c2 := hSw.2.cell 2; have c3 := hSw.2.cell 3; go_simp; (try with_reducible rfl)
        (try simp only [Act.put, List.getElem_toArray, List.getElem_cons_zero, List.getElem_cons_succ, List.setIfInBounds_toArray, List.set_cons_zero, List.set_cons_succ])
        refine wpAnyF_take (i := 4) (v := ?_) (by kernel_rfl) (by kernel_rfl) rfl (by kernel_rfl) (by kernel_rfl) (by kernel_rfl) (fun _ _ _ h => h) (Or.inl ⟨by rfl, ?_⟩) (by assumption) ?_
        rotate_left
        · intro w' hSw; (try dsimp only at hSw); have f0 := hSw.1.cell 0; have f1 := hSw.1.cell 1; have f2 := hSw.1.cell 2; have f3 := hSw.1.cell 3; have f4 := hSw.1.cell 4; have f5 := hSw.1.cell 5; have f6 := hSw.1.cell 6; have f7 := hSw.1.cell 7; have c1 := hSw.2.cell 1; have c2 := hSw.2.cell 2; have c3 := hSw.2.cell 3; go_simp; (try with_reducible rfl)
        (try simp only [Act.put, List.getElem_toArray, List.getElem_cons_zero, List.getElem_cons_succ, List.setIfInBounds_toArray, List.set_cons_zero, List.set_cons_succ])
        refine wpAnyF_take (i := 6) (v := ?_) (by kernel_rfl) (by kernel_rfl) rfl (by kernel_rfl) (by kernel_rfl) (by kernel_rfl) (fun _ _ _ h => h) (Or.inl ⟨by rfl, ?_⟩) (by assumption) ?_
        rotate_left
        · intro w' hSw; (try dsimp only at hSw); have f0 := hSw.1.cell 0; have f1 := hSw.1.cell 1; have f2 := hSw.1.cell 2; have f3 := hSw.1.cell 3; have f4 := hSw.1.cell 4; have f5 := hSw.1.cell 5; have f6 := hSw.1.cell 6; have f7 := hSw.1.cell 7; have c1 := hSw.2.cell 1; have c2 := hSw.2.cell 2; have c3 := hSw.2.cell 3; go_simp; (try with_reducible rfl)
        (try simp only [Act.put, List.getElem_toArray, List.getElem_cons_zero, List.getElem_cons_succ, List.setIfInBounds_toArray, List.set_cons_zero, List.set_cons_succ])
        refine wpAnyF_ready (rs := [5]) (by kernel_rfl) (by simp) ?_
        refine AllReadyF.cons rfl (fun KK hKK => ?_) AllReadyF.nil
        go_simp
        ((with_reducible refine (HI.out _).mono ?_); rintro e' w2 ⟨rfl, rfl⟩; have hSS := hHeld)
        (try go_simp)
        refine hKK.out _ _ hSS (fun hHeld => ?_)
        clear hKK KK
        (try simp only [Act.put, List.getElem_toArray, List.getElem_cons_zero, List.getElem_cons_succ, List.setIfInBounds_toArray, List.set_cons_zero, List.set_cons_succ])
        refine wpAnyF_take (i := 7) (v := ?_) (by kernel_rfl) (by kernel_rfl) rfl (by kernel_rfl) (by kernel_rfl) (by kernel_rfl) (fun _ _ _ h => h) (Or.inl ⟨by rfl, ?_⟩) (by assumption) ?_
        rotate_left
        · intro w' hSw; (try dsimp only at hSw); have f0 := hSw.1.cell 0; have f1 := hSw.1.cell 1; have f2 := hSw.1.cell 2; have f3 := hSw.1.cell 3; have f4 := hSw.1.cell 4; have f5 := hSw.1.cell 5; have f6 := hSw.1.cell 6; have f7 := hSw.1.cell 7; have c1 := hSw.2.cell 1; have c2 := hSw.2.cell 2; have c3 := hSw.2.cell 3; go_simp; (try with_reducible rfl)
        (try simp only [Act.put, List.getElem_toArray, List.getElem_cons_zero, List.getElem_cons_succ, List.setIfInBounds_toArray, List.set_cons_zero, List.set_cons_succ])
        refine wpAnyF_take (i := 8) (v := ?_) (by kernel_rfl) (by kernel_rfl) rfl (by kernel_rfl) (by kernel_rfl) (by kernel_rfl) (fun _ _ _ h => h) (Or.inl ⟨by rfl, ?_⟩) (by assumption) ?_
        rotate_left
        · intro w' hSw; (try dsimp only at hSw); have f0 := hSw.1.cell 0; have f1 := hSw.1.cell 1; have f2 := hSw.1.cell 2; have f3 := hSw.1.cell 3; have f4 := hSw.1.cell 4; have f5 := hSw.1.cell 5; have f6 := hSw.1.cell 6; have f7 := hSw.1.cell 7; have c1 := hSw.2.cell 1; have c2 := hSw.2.cell 2; have c3 := hSw.2.cell 3; go_simp; (try with_reducible rfl)
        (try simp only [Act.put, List.getElem_toArray, List.getElem_cons_zero, List.getElem_cons_succ, List.setIfInBounds_toArray, List.set_cons_zero, List.set_cons_succ])
        refine wpAnyF_take (i := 9) (v := ?_) (by kernel_rfl) (by kernel_rfl) rfl (by kernel_rfl) (by kernel_rfl) (by kernel_rfl) (fun _ _ _ h => h) (Or.inl ⟨by rfl, ?_⟩) (by assumption) ?_
        rotate_left
        · intro w' hSw; (try dsimp only at hSw); have f0 := hSw.1.cell 0; have f1 := hSw.1.cell 1; have f2 := hSw.1.cell 2; have f3 := hSw.1.cell 3; have f4 := hSw.1.cell 4; have f5 := hSw.1.cell 5; have f6 := hSw.1.cell 6; have f7 := hSw.1.cell 7; have c1 := hSw.2.cell 1; have c2 := hSw.2.cell 2; have c3 := hSw.2.cell 3; go_simp; (try with_reducible rfl)
        (try simp only [Act.put, List.getElem_toArray, List.getElem_cons_zero, List.getElem_cons_succ, List.setIfInBounds_toArray, List.set_cons_zero, List.set_cons_succ])
        refine wpAnyF_take (i := 10) (v := ?_) (by kernel_rfl) (by kernel_rfl) rfl (by kernel_rfl) (by kernel_rfl) (by kernel_rfl) (fun _ _ _ h => h) (Or.inl ⟨by rfl, ?_⟩) (by assumption) ?_
        rotate_left
        · intro w' hSw; (try dsimp only at hSw); have f0 := hSw.1.cell 0; have f1 := hSw.1.cell 1; have f2 := hSw.1.cell 2; have f3 := hSw.1.cell 3; have f4 := hSw.1.cell 4; have f5 := hSw.1.cell 5; have f6 := hSw.1.cell 6; have f7 := hSw.1.cell 7; have c1 := hSw.2.cell 1; have c2 := hSw.2.cell 2; have c3 := hSw.2.cell 3; go_simp; (try with_reducible rfl)
        (try simp only [Act.put, List.getElem_toArray, List.getElem_cons_zero, List.getElem_cons_succ, List.setIfInBounds_toArray, List.set_cons_zero, List.set_cons_succ])
        refine wpAnyF_take (i := 11) (v := undef) (by kernel_rfl) (by kernel_rfl) rfl (by kernel_rfl) (by kernel_rfl) (by kernel_rfl) (fun _ _ _ h => h) (Or.inr ⟨by rfl, rfl⟩) (by assumption) ?_
        (try simp only [Act.put, List.getElem_toArray, List.getElem_cons_zero, List.getElem_cons_succ, List.setIfInBounds_toArray, List.set_cons_zero, List.set_cons_succ])
        refine wpAnyF_take (i := 12) (v := undef) (by kernel_rfl) (by kernel_rfl) rfl (by kernel_rfl) (by kernel_rfl) (by kernel_rfl) (fun _ _ _ h => h) (Or.inr ⟨by rfl, rfl⟩) (by assumption) ?_
        (try simp only [Act.put, List.getElem_toArray, List.getElem_cons_zero, List.getElem_cons_succ, List.setIfInBounds_toArray, List.set_cons_zero, List.set_cons_succ])
        refine wpAnyF_take (i := 13) (v := undef) (by kernel_rfl) (by kernel_rfl) rfl (by kernel_rfl) (by kernel_rfl) (by kernel_rfl) (fun _ _ _ h => h) (Or.inr ⟨by rfl, rfl⟩) (by assumption) ?_
        (try simp only [Act.put, List.getElem_toArray, List.getElem_cons_zero, List.getElem_cons_succ, List.setIfInBounds_toArray, List.set_cons_zero, List.set_cons_succ])
        refine wpAnyF_take (i := 14) (v := undef) (by kernel_rfl) (by kernel_rfl) rfl (by kernel_rfl) (by kernel_rfl) (by kernel_rfl) (fun _ _ _ h => h) (Or.inr ⟨by rfl, rfl⟩) (by assumption) ?_
        (try simp only [Act.put, List.getElem_toArray, List.getElem_cons_zero, List.getElem_cons_succ, List.setIfInBounds_toArray, List.set_cons_zero, List.set_cons_succ])
        refine wpAnyF_take (i := 15) (v := undef) (by kernel_rfl) (by kernel_rfl) rfl (by kernel_rfl) (by kernel_rfl) (by kernel_rfl) (fun _ _ _ h => h) (Or.inr ⟨by rfl, rfl⟩) (by assumption) ?_
        (try simp only [Act.put, List.getElem_toArray, List.getElem_cons_zero, List.getElem_cons_succ, List.setIfInBounds_toArray, List.set_cons_zero, List.set_cons_succ])
        refine wpAnyF_take (i := 16) (v := ?_) (by kernel_rfl) (by kernel_rfl) rfl (by kernel_rfl) (by kernel_rfl) (by kernel_rfl) (fun _ _ _ h => h) (Or.inl ⟨by rfl, ?_⟩) (by assumption) ?_
        rotate_left
        · intro w' hSw; (try dsimp only at hSw); have f0 := hSw.1.cell 0; have f1 := hSw.1.cell 1; have f2 := hSw.1.cell 2; have f3 := hSw.1.cell 3; have f4 := hSw.1.cell 4; have f5 := hSw.1.cell 5; have f6 := hSw.1.cell 6; have f7 := hSw.1.cell 7; have c1 := hSw.2.cell 1; have c2 := hSw.2.cell 2; have c3 := hSw.2.cell 3; go_simp; (try with_reducible rfl)
        (try simp only [Act.put, List.getElem_toArray, List.getElem_cons_zero, List.getElem_cons_succ, List.setIfInBounds_toArray, List.set_cons_zero, List.set_cons_succ])
        refine wpAnyF_take (i := 17) (v := ?_) (by kernel_rfl) (by kernel_rfl) rfl (by kernel_rfl) (by kernel_rfl) (by kernel_rfl) (fun _ _ _ h => h) (Or.inl ⟨by rfl, ?_⟩) (by assumption) ?_
        rotate_left
        · intro w' hSw; (try dsimp only at hSw); have f0 := hSw.1.cell 0; have f1 := hSw.1.cell 1; have f2 := hSw.1.cell 2; have f3 := hSw.1.cell 3; have f4 := hSw.1.cell 4; have f5 := hSw.1.cell 5; have f6 := hSw.1.cell 6; have f7 := hSw.1.cell 7; have c1 := hSw.2.cell 1; have c2 := hSw.2.cell 2; have c3 := hSw.2.cell 3; go_simp; (try with_reducible rfl)
        (try simp only [Act.put, List.getElem_toArray, List.getElem_cons_zero, List.getElem_cons_succ, List.setIfInBounds_toArray, List.set_cons_zero, List.set_cons_succ])
        refine wpAnyF_take (i := 18) (v := undef) (by kernel_rfl) (by kernel_rfl) rfl (by kernel_rfl) (by kernel_rfl) (by kernel_rfl) (fun _ _ _ h => h) (Or.inr ⟨by rfl, rfl⟩) (by assumption) ?_
        (try simp only [Act.put, List.getElem_toArray, List.getElem_cons_zero, List.getElem_cons_succ, List.setIfInBounds_toArray, List.set_cons_zero, List.set_cons_succ])
        refine wpAnyF_take (i := 19) (v := undef) (by kernel_rfl) (by kernel_rfl) rfl (by kernel_rfl) (by kernel_rfl) (by kernel_rfl) (fun _ _ _ h => h) (Or.inr ⟨by rfl, rfl⟩) (by assumption) ?_
        (try simp only [Act.put, List.getElem_toArray, List.getElem_cons_zero, List.getElem_cons_succ, List.setIfInBounds_toArray, List.set_cons_zero, List.set_cons_succ])
        refine wpAnyF_take (i := 20) (v := undef) (by kernel_rfl) (by kernel_rfl) rfl (by kernel_rfl) (by kernel_rfl) (by kernel_rfl) (fun _ _ _ h => h) (Or.inr ⟨by rfl, rfl⟩) (by assumption) ?_
        (try simp only [Act.put, List.getElem_toArray, List.getElem_cons_zero, List.getElem_cons_succ, List.setIfInBounds_toArray, List.set_cons_zero, List.set_cons_succ])
        refine wpAnyF_take (i := 21) (v := undef) (by kernel_rfl) (by kernel_rfl) rfl (by kernel_rfl) (by kernel_rfl) (by kernel_rfl) (fun _ _ _ h => h) (Or.inr ⟨by rfl, rfl⟩) (by assumption) ?_
        (try simp only [Act.put, List.getElem_toArray, List.getElem_cons_zero, List.getElem_cons_succ, List.setIfInBounds_toArray, List.set_cons_zero, List.set_cons_succ])
        refine wpAnyF_take (i := 22) (v := undef) (by kernel_rfl) (by kernel_rfl) rfl (by kernel_rfl) (by kernel_rfl) (by kernel_rfl) (fun _ _ _ h => h) (Or.inr ⟨by rfl, rfl⟩) (by assumption) ?_
        (try simp only [Act.put, List.getElem_toArray, List.getElem_cons_zero, List.getElem_cons_succ, List.setIfInBounds_toArray, List.set_cons_zero, List.set_cons_succ])
        refine wpAnyF_take (i := 23) (v := undef) (by kernel_rfl) (by kernel_rfl) rfl (by kernel_rfl) (by kernel_rfl) (by kernel_rfl) (fun _ _ _ h => h) (Or.inr ⟨by rfl, rfl⟩) (by assumption) ?_
        (try simp only [Act.put, List.getElem_toArray, List.getElem_cons_zero, List.getElem_cons_succ, List.setIfInBounds_toArray, List.set_cons_zero, List.set_cons_succ])
        refine wpAnyF_take (i := 24) (v := undef) (by kernel_rfl) (by kernel_rfl) rfl (by kernel_rfl) (by kernel_rfl) (by kernel_rfl) (fun _ _ _ h => h) (Or.inr ⟨by rfl, rfl⟩) (by assumption) ?_
        (try simp only [Act.put, List.getElem_toArray, List.getElem_cons_zero, List.getElem_cons_succ, List.setIfInBounds_toArray, List.set_cons_zero, List.set_cons_succ])
        refine wpAnyF_take (i := 25) (v := undef) (by kernel_rfl) (by kernel_rfl) rfl (by kernel_rfl) (by kernel_rfl) (by kernel_rfl) (fun _ _ _ h => h) (Or.inr ⟨by rfl, rfl⟩) (by assumption) ?_
        (try simp only [Act.put, List.getElem_toArray, List.getElem_cons_zero, List.getElem_cons_succ, List.setIfInBounds_toArray, List.set_cons_zero, List.set_cons_succ])
        refine wpAnyF_take (i := 26) (v := ?_) (by kernel_rfl) (by kernel_rfl) rfl (by kernel_rfl) (by kernel_rfl) (by kernel_rfl) (fun _ _ _ h => h) (Or.inl ⟨by rfl, ?_⟩) (by assumption) ?_
        rotate_left
        · intro w' hSw; (try dsimp only at hSw); have f0 := hSw.1.cell 0; have f1 := hSw.1.cell 1; have f2 := hSw.1.cell 2; have f3 := hSw.1.cell 3; have f4 := hSw.1.cell 4; have f5 := hSw.1.cell 5; have f6 := hSw.1.cell 6; have f7 := hSw.1.cell 7; have c1 := hSw.2.cell 1; have c2 := hSw.2.cell 2; have c3 := hSw.2.cell 3; go_simp; (try with_reducible rfl)
        (try simp only [Act.put, List.getElem_toArray, List.getElem_cons_zero, List.getElem_cons_succ, List.setIfInBounds_toArray, List.set_cons_zero, List.set_cons_succ])
        refine wpAnyF_take (i := 27) (v := ?_) (by kernel_rfl) (by kernel_rfl) rfl (by kernel_rfl) (by kernel_rfl) (by kernel_rfl) (fun _ _ _ h => h) (Or.inl ⟨by rfl, ?_⟩) (by assumption) ?_
        rotate_left
        · intro w' hSw; (try dsimp only at hSw); have f0 := hSw.1.cell 0; have f1 := hSw.1.cell 1; have f2 := hSw.1.cell 2; have f3 := hSw.1.cell 3; have f4 := hSw.1.cell 4; have f5 := hSw.1.cell 5; have f6 := hSw.1.cell 6; have f7 := hSw.1.cell 7; have c1 := hSw.2.cell 1; have c2 := hSw.2.cell 2; have c3 := hSw.2.cell 3; go_simp; (try with_reducible rfl)
        (try simp only [Act.put, List.getElem_toArray, List.getElem_cons_zero, List.getElem_cons_succ, List.setIfInBounds_toArray, List.set_cons_zero, List.set_cons_succ])
        refine wpAnyF_done (by kernel_rfl) ?_ _
        refine NoPanic.normal ?_
        go_wp2
        go_ret
        exact ⟨by rw [HV.out]; rfl, HBX.out⟩
      · cases bp
        · go_enter Try.func15, Try.ntmps15
          go_wp2_with (go_at_call 28; ((with_reducible refine (HR.out _).mono ?_); rintro e w1 ⟨rfl, hb⟩; have HF1 := hi (HF0.out.below hb); have HC1 := hi (HC0.out.below hb); have HBX := hi (show Below w.heap.size w w1.drew from Below.drewN (m := 1) (HB0.out.trans (hb.mono HB0.out.size))); clear hb))
          refine wp_region_noPanic ?_
          refine wp_region_last_drew (S := (fun W' => CB W' w.heap.size 29 #[.int .i64 m, .int .i64 p0, .int .i64 p1, .bool true, .bool o1, .bool sp, .int .u32 (wd r 0), .int .u32 (wd r 1)] ∧ CB W' (w.heap.size + 1) 39 #[.int .i64 ci, .int .i64 cp, .int .i64 cg, .bool true])) [] (by kernel_rfl) ⟨HF1.out.drew, HC1.out.drew⟩ (fun hHeld => ?_)
          (try simp only [Array.replicate_succ, Array.replicate_zero, List.push_toArray, List.nil_append, List.cons_append])
          refine wpAnyF_take (i := 0) (v := ?_) (by kernel_rfl) (by kernel_rfl) rfl (by kernel_rfl) (by kernel_rfl) (by kernel_rfl) (fun _ _ _ h => h) (Or.inl ⟨by rfl, ?_⟩) (by assumption) ?_
          rotate_left
          · intro w' hSw; (try dsimp only at hSw); have f0 := hSw.1.cell 0; have f1 := hSw.1.cell 1; have f2 := hSw.1.cell 2; have f3 := hSw.1.cell 3; have f4 := hSw.1.cell 4; have f5 := hSw.1.cell 5; have f6 := hSw.1.cell 6; have f7 := hSw.1.cell 7; have c1 := hSw.2.cell 1; have c2 := hSw.2.cell 2; have c3 := hSw.2.cell 3; go_simp; (try with_reducible rfl)
          (try simp only [Act.put, List.getElem_toArray, List.getElem_cons_zero, List.setIfInBounds_toArray, List.set_cons_zero, List.set_cons_succ])
          refine wpAnyF_take (i := 1) (v := ?_) (by kernel_rfl) (by kernel_rfl) rfl (by kernel_rfl) (by kernel_rfl) (by kernel_rfl) (fun _ _ _ h => h) (Or.inl ⟨by rfl, ?_⟩) (by assumption) ?_
          rotate_left
          · intro w' hSw; (try dsimp only at hSw); have f0 := hSw.1.cell 0; have f1 := hSw.1.cell 1; have f2 := hSw.1.cell 2; have f3 := hSw.1.cell 3; have f4 := hSw.1.cell 4; have f5 := hSw.1.cell 5; have f6 := hSw.1.cell 6; have f7 := hSw.1.cell 7; have c1 := hSw.2.cell 1; have c2 := hSw.2.cell 2; have c3 := hSw.2.cell 3; go_simp; (try with_reducible rfl)
          (try simp only [Act.put, List.getElem_toArray, List.getElem_cons_zero, List.getElem_cons_succ, List.setIfInBounds_toArray, List.set_cons_zero, List.set_cons_succ])
          refine wpAnyF_take (i := 2) (v := ?_) (by kernel_rfl) (by kernel_rfl) rfl (by kernel_rfl) (by kernel_rfl) (by kernel_rfl) (fun _ _ _ h => h) (Or.inl ⟨by rfl, ?_⟩) (by assumption) ?_
          rotate_left
          · intro w' hSw; (try dsimp only at hSw); have f0 := hSw.1.cell 0; have f1 := hSw.1.cell 1; have f2 := hSw.1.cell 2; have f3 := hSw.1.cell 3; have f4 := hSw.1.cell 4; have f5 := hSw.1.cell 5; have f6 := hSw.1.cell 6; have f7 := hSw.1.cell 7; have c1 := hSw.2.cell 1; have c2 := hSw.2.cell 2; have c3 := hSw.2.cell 3; go_simp; (try with_reducible rfl)
          (try simp only [Act.put, List.getElem_toArray, List.getElem_cons_zero, List.getElem_cons_succ, List.setIfInBounds_toArray, List.set_cons_zero, List.set_cons_succ])
          refine wpAnyF_take (i := 3) (v := ?_) (by kernel_rfl) (by kernel_rfl) rfl (by kernel_rfl) (by kernel_rfl) (by kernel_rfl) (fun _ _ _ h => h) (Or.inl ⟨by rfl, ?_⟩) (by assumption) ?_
          rotate_left
          · intro w' hSw; (try dsimp only at hSw); have f0 := hSw.1.cell 0; have f1 := hSw.1.cell 1; have f2 := hSw.1.cell 2; have f3 := hSw.1.cell 3; have f4 := hSw.1.cell 4; have f5 := hSw.1.cell 5; have f6 := hSw.1.cell 6; have f7 := hSw.1.cell 7; have c1 := hSw.2.cell 1; have c2 := hSw.2.cell 2; have c3 := hSw.2.cell 3; go_simp; (try with_reducible rfl)
          (try simp only [Act.put, List.getElem_toArray, List.getElem_cons_zero, List.getElem_cons_succ, List.setIfInBounds_toArray, List.set_cons_zero, List.set_cons_succ])
          refine wpAnyF_take (i := 4) (v := ?_) (by kernel_rfl) (by kernel_rfl) rfl (by kernel_rfl) (by kernel_rfl) (by kernel_rfl) (fun _ _ _ h => h) (Or.inl ⟨by rfl, ?_⟩) (by assumption) ?_
          rotate_left
          · intro w' hSw; (try dsimp only at hSw); have f0 := hSw.1.cell 0; have f1 := hSw.1.cell 1; have f2 := hSw.1.cell 2; have f3 := hSw.1.cell 3; have f4 := hSw.1.cell 4; have f5 := hSw.1.cell 5; have f6 := hSw.1.cell 6; have f7 := hSw.1.cell 7; have c1 := hSw.2.cell 1; have c2 := hSw.2.cell 2; have c3 := hSw.2.cell 3; go_simp; (try with_reducible rfl)
          (try simp only [Act.put, List.getElem_toArray, List.getElem_cons_zero, List.getElem_cons_succ, List.setIfInBounds_toArray, List.set_cons_zero, List.set_cons_succ])
          refine wpAnyF_take (i := 6) (v := ?_) (by kernel_rfl) (by kernel_rfl) rfl (by kernel_rfl) (by kernel_rfl) (by kernel_rfl) (fun _ _ _ h => h) (Or.inl ⟨by rfl, ?_⟩) (by assumption) ?_
          rotate_left
          · intro w' hSw; (try dsimp only at hSw); have f0 := hSw.1.cell 0; have f1 := hSw.1.cell 1; have f2 := hSw.1.cell 2; have f3 := hSw.1.cell 3; have f4 := hSw.1.cell 4; have f5 := hSw.1.cell 5; have f6 := hSw.1.cell 6; have f7 := hSw.1.cell 7; have c1 := hSw.2.cell 1; have c2 := hSw.2.cell 2; have c3 := hSw.2.cell 3; go_simp; (try with_reducible rfl)
          (try simp only [Act.put, List.getElem_toArray, List.getElem_cons_zero, List.getElem_cons_succ, List.setIfInBounds_toArray, List.set_cons_zero, List.set_cons_succ])
          refine wpAnyF_ready (rs := [5]) (by kernel_rfl) (by simp) ?_
          refine AllReadyF.cons rfl (fun KK hKK => ?_) AllReadyF.nil
          go_simp
          ((with_reducible refine (HI.out _).mono ?_); rintro e' w2 ⟨rfl, rfl⟩; have hSS := hHeld)
          (try go_simp)
          refine hKK.out _ _ hSS (fun hHeld => ?_)
          clear hKK KK
          (try simp only [Act.put, List.getElem_toArray, List.getElem_cons_zero, List.getElem_cons_succ, List.setIfInBounds_toArray, List.set_cons_zero, List.set_cons_succ])
          refine wpAnyF_take (i := 7) (v := ?_) (by kernel_rfl) (by kernel_rfl) rfl (by kernel_rfl) (by kernel_rfl) (by kernel_rfl) (fun _ _ _ h => h) (Or.inl ⟨by rfl, ?_⟩) (by assumption) ?_
          rotate_left
          · intro w' hSw; (try dsimp only at hSw); have f0 := hSw.1.cell 0; have f1 := hSw.1.cell 1; have f2 := hSw.1.cell 2; have f3 := hSw.1.cell 3; have f4 := hSw.1.cell 4; have f5 := hSw.1.cell 5; have f6 := hSw.1.cell 6; have f7 := hSw.1.cell 7; have c1 := hSw.2.cell 1; have c2 := hSw.2.cell 2; have c3 := hSw.2.cell 3; go_simp; (try with_reducible rfl)
          (try simp only [Act.put, List.getElem_toArray, List.getElem_cons_zero, List.getElem_cons_succ, List.setIfInBounds_toArray, List.set_cons_zero, List.set_cons_succ])
          refine wpAnyF_take (i := 8) (v := ?_) (by kernel_rfl) (by kernel_rfl) rfl (by kernel_rfl) (by kernel_rfl) (by kernel_rfl) (fun _ _ _ h => h) (Or.inl ⟨by rfl, ?_⟩) (by assumption) ?_
          rotate_left
          · intro w' hSw; (try dsimp only at hSw); have f0 := hSw.1.cell 0; have f1 := hSw.1.cell 1; have f2 := hSw.1.cell 2; have f3 := hSw.1.cell 3; have f4 := hSw.1.cell 4; have f5 := hSw.1.cell 5; have f6 := hSw.1.cell 6; have f7 := hSw.1.cell 7; have c1 := hSw.2.cell 1; have c2 := hSw.2.cell 2; have c3 := hSw.2.cell 3; go_simp; (try with_reducible rfl)
          (try simp only [Act.put, List.getElem_toArray, List.getElem_cons_zero, List.getElem_cons_succ, List.setIfInBounds_toArray, List.set_cons_zero, List.set_cons_succ])
          refine wpAnyF_take (i := 9) (v := ?_) (by kernel_rfl) (by kernel_rfl) rfl (by kernel_rfl) (by kernel_rfl) (by kernel_rfl) (fun _ _ _ h => h) (Or.inl ⟨by rfl, ?_⟩) (by assumption) ?_
          rotate_left
          · intro w' hSw; (try dsimp only at hSw); have f0 := hSw.1.cell 0; have f1 := hSw.1.cell 1; have f2 := hSw.1.cell 2; have f3 := hSw.1.cell 3; have f4 := hSw.1.cell 4; have f5 := hSw.1.cell 5; have f6 := hSw.1.cell 6; have f7 := hSw.1.cell 7; have c1 := hSw.2.cell 1; have c2 := hSw.2.cell 2; have c3 := hSw.2.cell 3; go_simp; (try with_reducible rfl)
          (try simp only [Act.put, List.getElem_toArray, List.getElem_cons_zero, List.getElem_cons_succ, List.setIfInBounds_toArray, List.set_cons_zero, List.set_cons_succ])
          refine wpAnyF_take (i := 10) (v := ?_) (by kernel_rfl) (by kernel_rfl) rfl (by kernel_rfl) (by kernel_rfl) (by kernel_rfl) (fun _ _ _ h => h) (Or.inl ⟨by rfl, ?_⟩) (by assumption) ?_
          rotate_left
          · intro w' hSw; (try dsimp only at hSw); have f0 := hSw.1.cell 0; have f1 := hSw.1.cell 1; have f2 := hSw.1.cell 2; have f3 := hSw.1.cell 3; have f4 := hSw.1.cell 4; have f5 := hSw.1.cell 5; have f6 := hSw.1.cell 6; have f7 := hSw.1.cell 7; have c1 := hSw.2.cell 1; have c2 := hSw.2.cell 2; have c3 := hSw.2.cell 3; go_simp; (try with_reducible rfl)
          (try simp only [Act.put, List.getElem_toArray, List.getElem_cons_zero, List.getElem_cons_succ, List.setIfInBounds_toArray, List.set_cons_zero, List.set_cons_succ])
          refine wpAnyF_take (i := 11) (v := ?_) (by kernel_rfl) (by kernel_rfl) rfl (by kernel_rfl) (by kernel_rfl) (by kernel_rfl) (fun _ _ _ h => h) (Or.inl ⟨by rfl, ?_⟩) (by assumption) ?_
          rotate_left
          · intro w' hSw; (try dsimp only at hSw); have f0 := hSw.1.cell 0; have f1 := hSw.1.cell 1; have f2 := hSw.1.cell 2; have f3 := hSw.1.cell 3; have f4 := hSw.1.cell 4; have f5 := hSw.1.cell 5; have f6 := hSw.1.cell 6; have f7 := hSw.1.cell 7; have c1 := hSw.2.cell 1; have c2 := hSw.2.cell 2; have c3 := hSw.2.cell 3; go_simp; (try with_reducible rfl)
          (try simp only [Act.put, List.getElem_toArray, List.getElem_cons_zero, List.getElem_cons_succ, List.setIfInBounds_toArray, List.set_cons_zero, List.set_cons_succ])
          refine wpAnyF_take (i := 12) (v := ?_) (by kernel_rfl) (by kernel_rfl) rfl (by kernel_rfl) (by kernel_rfl) (by kernel_rfl) (fun _ _ _ h => h) (Or.inl ⟨by rfl, ?_⟩) (by assumption) ?_
          rotate_left
          · intro w' hSw; (try dsimp only at hSw); have f0 := hSw.1.cell 0; have f1 := hSw.1.cell 1; have f2 := hSw.1.cell 2; have f3 := hSw.1.cell 3; have f4 := hSw.1.cell 4; have f5 := hSw.1.cell 5; have f6 := hSw.1.cell 6; have f7 := hSw.1.cell 7; have c1 := hSw.2.cell 1; have c2 := hSw.2.cell 2; have c3 := hSw.2.cell 3; go_simp; (try with_reducible rfl)
          (try simp only [Act.put, List.getElem_toArray, List.getElem_cons_zero, List.getElem_cons_succ, List.setIfInBounds_toArray, List.set_cons_zero, List.set_cons_succ])
          refine wpAnyF_take (i := 13) (v := ?_) (by kernel_rfl) (by kernel_rfl) rfl (by kernel_rfl) (by kernel_rfl) (by kernel_rfl) (fun _ _ _ h => h) (Or.inl ⟨by rfl, ?_⟩) (by assumption) ?_
          rotate_left
          · intro w' hSw; (try dsimp only at hSw); have f0 := hSw.1.cell 0; have f1 := hSw.1.cell 1; have f2 := hSw.1.cell 2; have f3 := hSw.1.cell 3; have f4 := hSw.1.cell 4; have f5 := hSw.1.cell 5; have f6 := hSw.1.cell 6; have f7 := hSw.1.cell 7; have c1 := hSw.2.cell 1; have c2 := hSw.2.cell 2; have c3 := hSw.2.cell 3; go_simp; (try with_reducible rfl)
          (try simp only [Act.put, List.getElem_toArray, List.getElem_cons_zero, List.getElem_cons_succ, List.setIfInBounds_toArray, List.set_cons_zero, List.set_cons_succ])
          refine wpAnyF_take (i := 14) (v := ?_) (by kernel_rfl) (by kernel_rfl) rfl (by kernel_rfl) (by kernel_rfl) (by kernel_rfl) (fun _ _ _ h => h) (Or.inl ⟨by rfl, ?_⟩) (by assumption) ?_
          rotate_left
          · intro w' hSw; (try dsimp only at hSw); have f0 := hSw.1.cell 0; have f1 := hSw.1.cell 1; have f2 := hSw.1.cell 2; have f3 := hSw.1.cell 3; have f4 := hSw.1.cell 4; have f5 := hSw.1.cell 5; have f6 := hSw.1.cell 6; have f7 := hSw.1.cell 7; have c1 := hSw.2.cell 1; have c2 := hSw.2.cell 2; have c3 := hSw.2.cell 3; go_simp; (try with_reducible rfl)
          (try simp only [Act.put, List.getElem_toArray, List.getElem_cons_zero, List.getElem_cons_succ, List.setIfInBounds_toArray, List.set_cons_zero, List.set_cons_succ])
          refine wpAnyF_ready (rs := [15]) (by kernel_rfl) (by simp) ?_
          refine AllReadyF.cons rfl (fun KK hKK => ?_) AllReadyF.nil
          go_simp
          ((with_reducible refine (HP.out _).mono ?_); rintro e' w3 ⟨rfl, rfl⟩; have hSS := hHeld)
          (try go_simp)
          refine hKK.out _ _ hSS (fun hHeld => ?_)
          clear hKK KK
          (try simp only [Act.put, List.getElem_toArray, List.getElem_cons_zero, List.getElem_cons_succ, List.setIfInBounds_toArray, List.set_cons_zero, List.set_cons_succ])
          refine wpAnyF_take (i := 16) (v := ?_) (by kernel_rfl) (by kernel_rfl) rfl (by kernel_rfl) (by kernel_rfl) (by kernel_rfl) (fun _ _ _ h => h) (Or.inl ⟨by rfl, ?_⟩) (by assumption) ?_
          rotate_left
          · intro w' hSw; (try dsimp only at hSw); have f0 := hSw.1.cell 0; have f1 := hSw.1.cell 1; have f2 := hSw.1.cell 2; have f3 := hSw.1.cell 3; have f4 := hSw.1.cell 4; have f5 := hSw.1.cell 5; have f6 := hSw.1.cell 6; have f7 := hSw.1.cell 7; have c1 := hSw.2.cell 1; have c2 := hSw.2.cell 2; have c3 := hSw.2.cell 3; go_simp; (try with_reducible rfl)
          (try simp only [Act.put, List.getElem_toArray, List.getElem_cons_zero, List.getElem_cons_succ, List.setIfInBounds_toArray, List.set_cons_zero, List.set_cons_succ])
          refine wpAnyF_take (i := 17) (v := ?_) (by kernel_rfl) (by kernel_rfl) rfl (by kernel_rfl) (by kernel_rfl) (by kernel_rfl) (fun _ _ _ h => h) (Or.inl ⟨by rfl, ?_⟩) (by assumption) ?_
          rotate_left
          · intro w' hSw; (try dsimp only at hSw); have f0 := hSw.1.cell 0; have f1 := hSw.1.cell 1; have f2 := hSw.1.cell 2; have f3 := hSw.1.cell 3; have f4 := hSw.1.cell 4; have f5 := hSw.1.cell 5; have f6 := hSw.1.cell 6; have f7 := hSw.1.cell 7; have c1 := hSw.2.cell 1; have c2 := hSw.2.cell 2; have c3 := hSw.2.cell 3; go_simp; (try with_reducible rfl)
          (try simp only [Act.put, List.getElem_toArray, List.getElem_cons_zero, List.getElem_cons_succ, List.setIfInBounds_toArray, List.set_cons_zero, List.set_cons_succ])
          refine wpAnyF_take (i := 18) (v := undef) (by kernel_rfl) (by kernel_rfl) rfl (by kernel_rfl) (by kernel_rfl) (by kernel_rfl) (fun _ _ _ h => h) (Or.inr ⟨by rfl, rfl⟩) (by assumption) ?_
          (try simp only [Act.put, List.getElem_toArray, List.getElem_cons_zero, List.getElem_cons_succ, List.setIfInBounds_toArray, List.set_cons_zero, List.set_cons_succ])
          refine wpAnyF_take (i := 19) (v := undef) (by kernel_rfl) (by kernel_rfl) rfl (by kernel_rfl) (by kernel_rfl) (by kernel_rfl) (fun _ _ _ h => h) (Or.inr ⟨by rfl, rfl⟩) (by assumption) ?_
          (try simp only [Act.put, List.getElem_toArray, List.getElem_cons_zero, List.getElem_cons_succ, List.setIfInBounds_toArray, List.set_cons_zero, List.set_cons_succ])
          refine wpAnyF_take (i := 20) (v := undef) (by kernel_rfl) (by kernel_rfl) rfl (by kernel_rfl) (by kernel_rfl) (by kernel_rfl) (fun _ _ _ h => h) (Or.inr ⟨by rfl, rfl⟩) (by assumption) ?_
          (try simp only [Act.put, List.getElem_toArray, List.getElem_cons_zero, List.getElem_cons_succ, List.setIfInBounds_toArray, List.set_cons_zero, List.set_cons_succ])
          refine wpAnyF_take (i := 21) (v := undef) (by kernel_rfl) (by kernel_rfl) rfl (by kernel_rfl) (by kernel_rfl) (by kernel_rfl) (fun _ _ _ h => h) (Or.inr ⟨by rfl, rfl⟩) (by assumption) ?_
          (try simp only [Act.put, List.getElem_toArray, List.getElem_cons_zero, List.getElem_cons_succ, List.setIfInBounds_toArray, List.set_cons_zero, List.set_cons_succ])
          refine wpAnyF_take (i := 22) (v := undef) (by kernel_rfl) (by kernel_rfl) rfl (by kernel_rfl) (by kernel_rfl) (by kernel_rfl) (fun _ _ _ h => h) (Or.inr ⟨by rfl, rfl⟩) (by assumption) ?_
          (try simp only [Act.put, List.getElem_toArray, List.getElem_cons_zero, List.getElem_cons_succ, List.setIfInBounds_toArray, List.set_cons_zero, List.set_cons_succ])
          refine wpAnyF_take (i := 23) (v := undef) (by kernel_rfl) (by kernel_rfl) rfl (by kernel_rfl) (by kernel_rfl) (by kernel_rfl) (fun _ _ _ h => h) (Or.inr ⟨by rfl, rfl⟩) (by assumption) ?_
          (try simp only [Act.put, List.getElem_toArray, List.getElem_cons_zero, List.getElem_cons_succ, List.setIfInBounds_toArray, List.set_cons_zero, List.set_cons_succ])
          refine wpAnyF_take (i := 24) (v := undef) (by kernel_rfl) (by kernel_rfl) rfl (by kernel_rfl) (by kernel_rfl) (by kernel_rfl) (fun _ _ _ h => h) (Or.inr ⟨by rfl, rfl⟩) (by assumption) ?_
          (try simp only [Act.put, List.getElem_toArray, List.getElem_cons_zero, List.getElem_cons_succ, List.setIfInBounds_toArray, List.set_cons_zero, List.set_cons_succ])
          refine wpAnyF_take (i := 25) (v := undef) (by kernel_rfl) (by kernel_rfl) rfl (by kernel_rfl) (by kernel_rfl) (by kernel_rfl) (fun _ _ _ h => h) (Or.inr ⟨by rfl, rfl⟩) (by assumption) ?_
          (try simp only [Act.put, List.getElem_toArray, List.getElem_cons_zero, List.getElem_cons_succ, List.setIfInBounds_toArray, List.set_cons_zero, List.set_cons_succ])
          refine wpAnyF_take (i := 26) (v := ?_) (by kernel_rfl) (by kernel_rfl) rfl (by kernel_rfl) (by kernel_rfl) (by kernel_rfl) (fun _ _ _ h => h) (Or.inl ⟨by rfl, ?_⟩) (by assumption) ?_
          rotate_left
          · intro w' hSw; (try dsimp only at hSw); have f0 := hSw.1.cell 0; have f1 := hSw.1.cell 1; have f2 := hSw.1.cell 2; have f3 := hSw.1.cell 3; have f4 := hSw.1.cell 4; have f5 := hSw.1.cell 5; have f6 := hSw.1.cell 6; have f7 := hSw.1.cell 7; have c1 := hSw.2.cell 1; have c2 := hSw.2.cell 2; have c3 := hSw.2.cell 3; go_simp; (try with_reducible rfl)
          (try simp only [Act.put, List.getElem_toArray, List.getElem_cons_zero, List.getElem_cons_succ, List.setIfInBounds_toArray, List.set_cons_zero, List.set_cons_succ])
          refine wpAnyF_take (i := 27) (v := ?_) (by kernel_rfl) (by kernel_rfl) rfl (by kernel_rfl) (by kernel_rfl) (by kernel_rfl) (fun _ _ _ h => h) (Or.inl ⟨by rfl, ?_⟩) (by assumption) ?_
          rotate_left
          · intro w' hSw; (try dsimp only at hSw); have f0 := hSw.1.cell 0; have f1 := hSw.1.cell 1; have f2 := hSw.1.cell 2; have f3 := hSw.1.cell 3; have f4 := hSw.1.cell 4; have f5 := hSw.1.cell 5; have f6 := hSw.1.cell 6; have f7 := hSw.1.cell 7; have c1 := hSw.2.cell 1; have c2 := hSw.2.cell 2; have c3 := hSw.2.cell 3; go_simp; (try with_reducible rfl)
          (try simp only [Act.put, List.getElem_toArray, List.getElem_cons_zero, List.getElem_cons_succ, List.setIfInBounds_toArray, List.set_cons_zero, List.set_cons_succ])
          refine wpAnyF_done (by kernel_rfl) ?_ _
          refine NoPanic.normal ?_
          go_wp2
          go_ret
          exact ⟨by rw [HV.out]; rfl, HBX.out⟩
        · go_enter Try.func15, Try.ntmps15
          go_wp2_with (go_at_call 28; ((with_reducible refine (HR.out _).mono ?_); rintro e w1 ⟨rfl, hb⟩; have HF1 := hi (HF0.out.below hb); have HC1 := hi (HC0.out.below hb); have HBX := hi (show Below w.heap.size w w1.drew from Below.drewN (m := 1) (HB0.out.trans (hb.mono HB0.out.size))); clear hb))
          refine wp_region_noPanic ?_
          refine wp_region_last_drew (S := (fun W' => CB W' w.heap.size 29 #[.int .i64 m, .int .i64 p0, .int .i64 p1, .bool true, .bool o1, .bool sp, .int .u32 (wd r 0), .int .u32 (wd r 1)] ∧ CB W' (w.heap.size + 1) 39 #[.int .i64 ci, .int .i64 cp, .int .i64 cg, .bool true])) [] (by kernel_rfl) ⟨HF1.out.drew, HC1.out.drew⟩ (fun hHeld => ?_)
          (try simp only [Array.replicate_succ, Array.replicate_zero, List.push_toArray, List.nil_append, List.cons_append])
          refine wpAnyF_take (i := 0) (v := ?_) (by kernel_rfl) (by kernel_rfl) rfl (by kernel_rfl) (by kernel_rfl) (by kernel_rfl) (fun _ _ _ h => h) (Or.inl ⟨by rfl, ?_⟩) (by assumption) ?_
          rotate_left
          · intro w' hSw; (try dsimp only at hSw); have f0 := hSw.1.cell 0; have f1 := hSw.1.cell 1; have f2 := hSw.1.cell 2; have f3 := hSw.1.cell 3; have f4 := hSw.1.cell 4; have f5 := hSw.1.cell 5; have f6 := hSw.1.cell 6; have f7 := hSw.1.cell 7; have c1 := hSw.2.cell 1; have c2 := hSw.2.cell 2; have c3 := hSw.2.cell 3; go_simp; (try with_reducible rfl)
          (try simp only [Act.put, List.getElem_toArray, List.getElem_cons_zero, List.setIfInBounds_toArray, List.set_cons_zero, List.set_cons_succ])
          refine wpAnyF_take (i := 1) (v := ?_) (by kernel_rfl) (by kernel_rfl) rfl (by kernel_rfl) (by kernel_rfl) (by kernel_rfl) (fun _ _ _ h => h) (Or.inl ⟨by rfl, ?_⟩) (by assumption) ?_
          rotate_left
          · intro w' hSw; (try dsimp only at hSw); have f0 := hSw.1.cell 0; have f1 := hSw.1.cell 1; have f2 := hSw.1.cell 2; have f3 := hSw.1.cell 3; have f4 := hSw.1.cell 4; have f5 := hSw.1.cell 5; have f6 := hSw.1.cell 6; have f7 := hSw.1.cell 7; have c1 := hSw.2.cell 1; have c2 := hSw.2.cell 2; have c3 := hSw.2.cell 3; go_simp; (try with_reducible rfl)
          (try simp only [Act.put, List.getElem_toArray, List.getElem_cons_zero, List.getElem_cons_succ, List.setIfInBounds_toArray, List.set_cons_zero, List.set_cons_succ])
          refine wpAnyF_take (i := 2) (v := ?_) (by kernel_rfl) (by kernel_rfl) rfl (by kernel_rfl) (by kernel_rfl) (by kernel_rfl) (fun _ _ _ h => h) (Or.inl ⟨by rfl, ?_⟩) (by assumption) ?_
          rotate_left
          · intro w' hSw; (try dsimp only at hSw); have f0 := hSw.1.cell 0; have f1 := hSw.1.cell 1; have f2 := hSw.1.cell 2; have f3 := hSw.1.cell 3; have f4 := hSw.1.cell 4; have f5 := hSw.1.cell 5; have f6 := hSw.1.cell 6; have f7 := hSw.1.cell 7; have c1 := hSw.2.cell 1; have c2 := hSw.2.cell 2; have c3 := hSw.2.cell 3; go_simp; (try with_reducible rfl)
          (try simp only [Act.put, List.getElem_toArray, List.getElem_cons_zero, List.getElem_cons_succ, List.setIfInBounds_toArray, List.set_cons_zero, List.set_cons_succ])
          refine wpAnyF_take (i := 3) (v := ?_) (by kernel_rfl) (by kernel_rfl) rfl (by kernel_rfl) (by kernel_rfl) (by kernel_rfl) (fun _ _ _ h => h) (Or.inl ⟨by rfl, ?_⟩) (by assumption) ?_
          rotate_left
          · intro w' hSw; (try dsimp only at hSw); have f0 := hSw.1.cell 0; have f1 := hSw.1.cell 1; have f2 := hSw.1.cell 2; have f3 := hSw.1.cell 3; have f4 := hSw.1.cell 4; have f5 := hSw.1.cell 5; have f6 := hSw.1.cell 6; have f7 := hSw.1.cell 7; have c1 := hSw.2.cell 1; have c2 := hSw.2.cell 2; have c3 := hSw.2.cell 3; go_simp; (try with_reducible rfl)
          (try simp only [Act.put, List.getElem_toArray, List.getElem_cons_zero, List.getElem_cons_succ, List.setIfInBounds_toArray, List.set_cons_zero, List.set_cons_succ])
          refine wpAnyF_take (i := 4) (v := ?_) (by kernel_rfl) (by kernel_rfl) rfl (by kernel_rfl) (by kernel_rfl) (by kernel_rfl) (fun _ _ _ h => h) (Or.inl ⟨by rfl, ?_⟩) (by assumption) ?_
          rotate_left
          · intro w' hSw; (try dsimp only at hSw); have f0 := hSw.1.cell 0; have f1 := hSw.1.cell 1; have f2 := hSw.1.cell 2; have f3 := hSw.1.cell 3; have f4 := hSw.1.cell 4; have f5 := hSw.1.cell 5; have f6 := hSw.1.cell 6; have f7 := hSw.1.cell 7; have c1 := hSw.2.cell 1; have c2 := hSw.2.cell 2; have c3 := hSw.2.cell 3; go_simp; (try with_reducible rfl)
          (try simp only [Act.put, List.getElem_toArray, List.getElem_cons_zero, List.getElem_cons_succ, List.setIfInBounds_toArray, List.set_cons_zero, List.set_cons_succ])
          refine wpAnyF_take (i := 6) (v := ?_) (by kernel_rfl) (by kernel_rfl) rfl (by kernel_rfl) (by kernel_rfl) (by kernel_rfl) (fun _ _ _ h => h) (Or.inl ⟨by rfl, ?_⟩) (by assumption) ?_
          rotate_left
          · intro w' hSw; (try dsimp only at hSw); have f0 := hSw.1.cell 0; have f1 := hSw.1.cell 1; have f2 := hSw.1.cell 2; have f3 := hSw.1.cell 3; have f4 := hSw.1.cell 4; have f5 := hSw.1.cell 5; have f6 := hSw.1.cell 6; have f7 := hSw.1.cell 7; have c1 := hSw.2.cell 1; have c2 := hSw.2.cell 2; have c3 := hSw.2.cell 3; go_simp; (try with_reducible rfl)
          (try simp only [Act.put, List.getElem_toArray, List.getElem_cons_zero, List.getElem_cons_succ, List.setIfInBounds_toArray, List.set_cons_zero, List.set_cons_succ])
          refine wpAnyF_ready (rs := [5]) (by kernel_rfl) (by simp) ?_
          refine AllReadyF.cons rfl (fun KK hKK => ?_) AllReadyF.nil
          go_simp
          ((with_reducible refine (HI.out _).mono ?_); rintro e' w2 ⟨rfl, rfl⟩; have hSS := hHeld)
          (try go_simp)
          refine hKK.out _ _ hSS (fun hHeld => ?_)
          clear hKK KK
          (try simp only [Act.put, List.getElem_toArray, List.getElem_cons_zero, List.getElem_cons_succ, List.setIfInBounds_toArray, List.set_cons_zero, List.set_cons_succ])
          refine wpAnyF_take (i := 7) (v := ?_) (by kernel_rfl) (by kernel_rfl) rfl (by kernel_rfl) (by kernel_rfl) (by kernel_rfl) (fun _ _ _ h => h) (Or.inl ⟨by rfl, ?_⟩) (by assumption) ?_
          rotate_left
          · intro w' hSw; (try dsimp only at hSw); have f0 := hSw.1.cell 0; have f1 := hSw.1.cell 1; have f2 := hSw.1.cell 2; have f3 := hSw.1.cell 3; have f4 := hSw.1.cell 4; have f5 := hSw.1.cell 5; have f6 := hSw.1.cell 6; have f7 := hSw.1.cell 7; have c1 := hSw.2.cell 1; have c2 := hSw.2.cell 2; have c3 := hSw.2.cell 3; go_simp; (try with_reducible rfl)
          (try simp only [Act.put, List.getElem_toArray, List.getElem_cons_zero, List.getElem_cons_succ, List.setIfInBounds_toArray, List.set_cons_zero, List.set_cons_succ])
          refine wpAnyF_take (i := 8) (v := ?_) (by kernel_rfl) (by kernel_rfl) rfl (by kernel_rfl) (by kernel_rfl) (by kernel_rfl) (fun _ _ _ h => h) (Or.inl ⟨by rfl, ?_⟩) (by assumption) ?_
          rotate_left
          · intro w' hSw; (try dsimp only at hSw); have f0 := hSw.1.cell 0; have f1 := hSw.1.cell 1; have f2 := hSw.1.cell 2; have f3 := hSw.1.cell 3; have f4 := hSw.1.cell 4; have f5 := hSw.1.cell 5; have f6 := hSw.1.cell 6; have f7 := hSw.1.cell 7; have c1 := hSw.2.cell 1; have c2 := hSw.2.cell 2; have c3 := hSw.2.cell 3; go_simp; (try with_reducible rfl)
          (try simp only [Act.put, List.getElem_toArray, List.getElem_cons_zero, List.getElem_cons_succ, List.setIfInBounds_toArray, List.set_cons_zero, List.set_cons_succ])
          refine wpAnyF_take (i := 9) (v := ?_) (by kernel_rfl) (by kernel_rfl) rfl (by kernel_rfl) (by kernel_rfl) (by kernel_rfl) (fun _ _ _ h => h) (Or.inl ⟨by rfl, ?_⟩) (by assumption) ?_
          rotate_left
          · intro w' hSw; (try dsimp only at hSw); have f0 := hSw.1.cell 0; have f1 := hSw.1.cell 1; have f2 := hSw.1.cell 2; have f3 := hSw.1.cell 3; have f4 := hSw.1.cell 4; have f5 := hSw.1.cell 5; have f6 := hSw.1.cell 6; have f7 := hSw.1.cell 7; have c1 := hSw.2.cell 1; have c2 := hSw.2.cell 2; have c3 := hSw.2.cell 3; go_simp; (try with_reducible rfl)
          (try simp only [Act.put, List.getElem_toArray, List.getElem_cons_zero, List.getElem_cons_succ, List.setIfInBounds_toArray, List.set_cons_zero, List.set_cons_succ])
          refine wpAnyF_take (i := 10) (v := ?_) (by kernel_rfl) (by kernel_rfl) rfl (by kernel_rfl) (by kernel_rfl) (by kernel_rfl) (fun _ _ _ h => h) (Or.inl ⟨by rfl, ?_⟩) (by assumption) ?_
          rotate_left
          · intro w' hSw; (try dsimp only at hSw); have f0 := hSw.1.cell 0; have f1 := hSw.1.cell 1; have f2 := hSw.1.cell 2; have f3 := hSw.1.cell 3; have f4 := hSw.1.cell 4; have f5 := hSw.1.cell 5; have f6 := hSw.1.cell 6; have f7 := hSw.1.cell 7; have c1 := hSw.2.cell 1; have c2 := hSw.2.cell 2; have c3 := hSw.2.cell 3; go_simp; (try with_reducible rfl)
          (try simp only [Act.put, List.getElem_toArray, List.getElem_cons_zero, List.getElem_cons_succ, List.setIfInBounds_toArray, List.set_cons_zero, List.set_cons_succ])
          refine wpAnyF_take (i := 11) (v := ?_) (by kernel_rfl) (by kernel_rfl) rfl (by kernel_rfl) (by kernel_rfl) (by kernel_rfl) (fun _ _ _ h => h) (Or.inl ⟨by rfl, ?_⟩) (by assumption) ?_
          rotate_left
          · intro w' hSw; (try dsimp only at hSw); have f0 := hSw.1.cell 0; have f1 := hSw.1.cell 1; have f2 := hSw.1.cell 2; have f3 := hSw.1.cell 3; have f4 := hSw.1.cell 4; have f5 := hSw.1.cell 5; have f6 := hSw.1.cell 6; have f7 := hSw.1.cell 7; have c1 := hSw.2.cell 1; have c2 := hSw.2.cell 2; have c3 := hSw.2.cell 3; go_simp; (try with_reducible rfl)
          (try simp only [Act.put, List.getElem_toArray, List.getElem_cons_zero, List.getElem_cons_succ, List.setIfInBounds_toArray, List.set_cons_zero, List.set_cons_succ])
          refine wpAnyF_take (i := 12) (v := ?_) (by kernel_rfl) (by kernel_rfl) rfl (by kernel_rfl) (by kernel_rfl) (by kernel_rfl) (fun _ _ _ h => h) (Or.inl ⟨by rfl, ?_⟩) (by assumption) ?_
          rotate_left
          · intro w' hSw; (try dsimp only at hSw); have f0 := hSw.1.cell 0; have f1 := hSw.1.cell 1; have f2 := hSw.1.cell 2; have f3 := hSw.1.cell 3; have f4 := hSw.1.cell 4; have f5 := hSw.1.cell 5; have f6 := hSw.1.cell 6; have f7 := hSw.1.cell 7; have c1 := hSw.2.cell 1; have c2 := hSw.2.cell 2; have c3 := hSw.2.cell 3; go_simp; (try with_reducible rfl)
          (try simp only [Act.put, List.getElem_toArray, List.getElem_cons_zero, List.getElem_cons_succ, List.setIfInBounds_toArray, List.set_cons_zero, List.set_cons_succ])
          refine wpAnyF_take (i := 13) (v := ?_) (by kernel_rfl) (by kernel_rfl) rfl (by kernel_rfl) (by kernel_rfl) (by kernel_rfl) (fun _ _ _ h => h) (Or.inl ⟨by rfl, ?_⟩) (by assumption) ?_
          rotate_left
          · intro w' hSw; (try dsimp only at hSw); have f0 := hSw.1.cell 0; have f1 := hSw.1.cell 1; have f2 := hSw.1.cell 2; have f3 := hSw.1.cell 3; have f4 := hSw.1.cell 4; have f5 := hSw.1.cell 5; have f6 := hSw.1.cell 6; have f7 := hSw.1.cell 7; have c1 := hSw.2.cell 1; have c2 := hSw.2.cell 2; have c3 := hSw.2.cell 3; go_simp; (try with_reducible rfl)
          (try simp only [Act.put, List.getElem_toArray, List.getElem_cons_zero, List.getElem_cons_succ, List.setIfInBounds_toArray, List.set_cons_zero, List.set_cons_succ])
          refine wpAnyF_take (i := 14) (v := ?_) (by kernel_rfl) (by kernel_rfl) rfl (by kernel_rfl) (by kernel_rfl) (by kernel_rfl) (fun _ _ _ h => h) (Or.inl ⟨by rfl, ?_⟩) (by assumption) ?_
          rotate_left
          · intro w' hSw; (try dsimp only at hSw); have f0 := hSw.1.cell 0; have f1 := hSw.1.cell 1; have f2 := hSw.1.cell 2; have f3 := hSw.1.cell 3; have f4 := hSw.1.cell 4; have f5 := hSw.1.cell 5; have f6 := hSw.1.cell 6; have f7 := hSw.1.cell 7; have c1 := hSw.2.cell 1; have c2 := hSw.2.cell 2; have c3 := hSw.2.cell 3; go_simp; (try with_reducible rfl)
          (try simp only [Act.put, List.getElem_toArray, List.getElem_cons_zero, List.getElem_cons_succ, List.setIfInBounds_toArray, List.set_cons_zero, List.set_cons_succ])
          refine wpAnyF_ready (rs := [15]) (by kernel_rfl) (by simp) ?_
          refine AllReadyF.cons rfl (fun KK hKK => ?_) AllReadyF.nil
          go_simp
          ((with_reducible refine (HP.out _).mono ?_); rintro e' w3 ⟨rfl, rfl⟩; have hSS := hHeld)
          (try go_simp)
          refine hKK.out _ _ hSS (fun hHeld => ?_)
          clear hKK KK
          (try simp only [Act.put, List.getElem_toArray, List.getElem_cons_zero, List.getElem_cons_succ, List.setIfInBounds_toArray, List.set_cons_zero, List.set_cons_succ])
          refine wpAnyF_take (i := 16) (v := ?_) (by kernel_rfl) (by kernel_rfl) rfl (by kernel_rfl) (by kernel_rfl) (by kernel_rfl) (fun _ _ _ h => h) (Or.inl ⟨by rfl, ?_⟩) (by assumption) ?_
          rotate_left
          · intro w' hSw; (try dsimp only at hSw); have f0 := hSw.1.cell 0; have f1 := hSw.1.cell 1; have f2 := hSw.1.cell 2; have f3 := hSw.1.cell 3; have f4 := hSw.1.cell 4; have f5 := hSw.1.cell 5; have f6 := hSw.1.cell 6; have f7 := hSw.1.cell 7; have c1 := hSw.2.cell 1; have c2 := hSw.2.cell 2; have c3 := hSw.2.cell 3; go_simp; (try with_reducible rfl)
          (try simp only [Act.put, List.getElem_toArray, List.getElem_cons_zero, List.getElem_cons_succ, List.setIfInBounds_toArray, List.set_cons_zero, List.set_cons_succ])
          refine wpAnyF_take (i := 17) (v := ?_) (by kernel_rfl) (by kernel_rfl) rfl (by kernel_rfl) (by kernel_rfl) (by kernel_rfl) (fun _ _ _ h => h) (Or.inl ⟨by rfl, ?_⟩) (by assumption) ?_
          rotate_left
          · intro w' hSw; (try dsimp only at hSw); have f0 := hSw.1.cell 0; have f1 := hSw.1.cell 1; have f2 := hSw.1.cell 2; have f3 := hSw.1.cell 3; have f4 := hSw.1.cell 4; have f5 := hSw.1.cell 5; have f6 := hSw.1.cell 6; have f7 := hSw.1.cell 7; have c1 := hSw.2.cell 1; have c2 := hSw.2.cell 2; have c3 := hSw.2.cell 3; go_simp; (try with_reducible rfl)
          (try simp only [Act.put, List.getElem_toArray, List.getElem_cons_zero, List.getElem_cons_succ, List.setIfInBounds_toArray, List.set_cons_zero, List.set_cons_succ])
          refine wpAnyF_take (i := 18) (v := ?_) (by kernel_rfl) (by kernel_rfl) rfl (by kernel_rfl) (by kernel_rfl) (by kernel_rfl) (fun _ _ _ h => h) (Or.inl ⟨by rfl, ?_⟩) (by assumption) ?_
          rotate_left
          · intro w' hSw; (try dsimp only at hSw); have f0 := hSw.1.cell 0; have f1 := hSw.1.cell 1; have f2 := hSw.1.cell 2; have f3 := hSw.1.cell 3; have f4 := hSw.1.cell 4; have f5 := hSw.1.cell 5; have f6 := hSw.1.cell 6; have f7 := hSw.1.cell 7; have c1 := hSw.2.cell 1; have c2 := hSw.2.cell 2; have c3 := hSw.2.cell 3; go_simp; (try with_reducible rfl)
          (try simp only [Act.put, List.getElem_toArray, List.getElem_cons_zero, List.getElem_cons_succ, List.setIfInBounds_toArray, List.set_cons_zero, List.set_cons_succ])
          refine wpAnyF_take (i := 19) (v := ?_) (by kernel_rfl) (by kernel_rfl) rfl (by kernel_rfl) (by kernel_rfl) (by kernel_rfl) (fun _ _ _ h => h) (Or.inl ⟨by rfl, ?_⟩) (by assumption) ?_
          rotate_left
          · intro w' hSw; (try dsimp only at hSw); have f0 := hSw.1.cell 0; have f1 := hSw.1.cell 1; have f2 := hSw.1.cell 2; have f3 := hSw.1.cell 3; have f4 := hSw.1.cell 4; have f5 := hSw.1.cell 5; have f6 := hSw.1.cell 6; have f7 := hSw.1.cell 7; have c1 := hSw.2.cell 1; have c2 := hSw.2.cell 2; have c3 := hSw.2.cell 3; go_simp; (try with_reducible rfl)
          (try simp only [Act.put, List.getElem_toArray, List.getElem_cons_zero, List.getElem_cons_succ, List.setIfInBounds_toArray, List.set_cons_zero, List.set_cons_succ])
          refine wpAnyF_take (i := 20) (v := ?_) (by kernel_rfl) (by kernel_rfl) rfl (by kernel_rfl) (by kernel_rfl) (by kernel_rfl) (fun _ _ _ h => h) (Or.inl ⟨by rfl, ?_⟩) (by assumption) ?_
          rotate_left
          · intro w' hSw; (try dsimp only at hSw); have f0 := hSw.1.cell 0; have f1 := hSw.1.cell 1; have f2 := hSw.1.cell 2; have f3 := hSw.1.cell 3; have f4 := hSw.1.cell 4; have f5 := hSw.1.cell 5; have f6 := hSw.1.cell 6; have f7 := hSw.1.cell 7; have c1 := hSw.2.cell 1; have c2 := hSw.2.cell 2; have c3 := hSw.2.cell 3; go_simp; (try with_reducible rfl)
          (try simp only [Act.put, List.getElem_toArray, List.getElem_cons_zero, List.getElem_cons_succ, List.setIfInBounds_toArray, List.set_cons_zero, List.set_cons_succ])
          refine wpAnyF_take (i := 21) (v := ?_) (by kernel_rfl) (by kernel_rfl) rfl (by kernel_rfl) (by kernel_rfl) (by kernel_rfl) (fun _ _ _ h => h) (Or.inl ⟨by rfl, ?_⟩) (by assumption) ?_
          rotate_left
          · intro w' hSw; (try dsimp only at hSw); have f0 := hSw.1.cell 0; have f1 := hSw.1.cell 1; have f2 := hSw.1.cell 2; have f3 := hSw.1.cell 3; have f4 := hSw.1.cell 4; have f5 := hSw.1.cell 5; have f6 := hSw.1.cell 6; have f7 := hSw.1.cell 7; have c1 := hSw.2.cell 1; have c2 := hSw.2.cell 2; have c3 := hSw.2.cell 3; go_simp; (try with_reducible rfl)
          (try simp only [Act.put, List.getElem_toArray, List.getElem_cons_zero, List.getElem_cons_succ, List.setIfInBounds_toArray, List.set_cons_zero, List.set_cons_succ])
          refine wpAnyF_take (i := 22) (v := ?_) (by kernel_rfl) (by kernel_rfl) rfl (by kernel_rfl) (by kernel_rfl) (by kernel_rfl) (fun _ _ _ h => h) (Or.inl ⟨by rfl, ?_⟩) (by assumption) ?_
          rotate_left
          · intro w' hSw; (try dsimp only at hSw); have f0 := hSw.1.cell 0; have f1 := hSw.1.cell 1; have f2 := hSw.1.cell 2; have f3 := hSw.1.cell 3; have f4 := hSw.1.cell 4; have f5 := hSw.1.cell 5; have f6 := hSw.1.cell 6; have f7 := hSw.1.cell 7; have c1 := hSw.2.cell 1; have c2 := hSw.2.cell 2; have c3 := hSw.2.cell 3; go_simp; (try with_reducible rfl)
          (try simp only [Act.put, List.getElem_toArray, List.getElem_cons_zero, List.getElem_cons_succ, List.setIfInBounds_toArray, List.set_cons_zero, List.set_cons_succ])
          refine wpAnyF_take (i := 23) (v := ?_) (by kernel_rfl) (by kernel_rfl) rfl (by kernel_rfl) (by kernel_rfl) (by kernel_rfl) (fun _ _ _ h => h) (Or.inl ⟨by rfl, ?_⟩) (by assumption) ?_
          rotate_left
          · intro w' hSw; (try dsimp only at hSw); have f0 := hSw.1.cell 0; have f1 := hSw.1.cell 1; have f2 := hSw.1.cell 2; have f3 := hSw.1.cell 3; have f4 := hSw.1.cell 4; have f5 := hSw.1.cell 5; have f6 := hSw.1.cell 6; have f7 := hSw.1.cell 7; have c1 := hSw.2.cell 1; have c2 := hSw.2.cell 2; have c3 := hSw.2.cell 3; go_simp; (try with_reducible rfl)
          (try simp only [Act.put, List.getElem_toArray, List.getElem_cons_zero, List.getElem_cons_succ, List.setIfInBounds_toArray, List.set_cons_zero, List.set_cons_succ])
          refine wpAnyF_ready (rs := [24]) (by kernel_rfl) (by simp) ?_
          refine AllReadyF.cons rfl (fun KK hKK => ?_) AllReadyF.nil
          go_simp
          ((with_reducible refine (HL.out _).mono ?_); rintro e' w4 ⟨rfl, hb⟩; have HB4 := hi hb; have hSS := And.intro (hHeld.1.below hb) (hHeld.2.below hb); clear hb)
          (try go_simp)
          refine hKK.out _ _ hSS (fun hHeld => ?_)
          clear hKK KK
          (try simp only [Act.put, List.getElem_toArray, List.getElem_cons_zero, List.getElem_cons_succ, List.setIfInBounds_toArray, List.set_cons_zero, List.set_cons_succ])
          refine wpAnyF_ready (rs := [25]) (by kernel_rfl) (by simp) ?_
          refine AllReadyF.cons rfl (fun KK hKK => ?_) AllReadyF.nil
          go_simp
          ((with_reducible refine (HE.out _).mono ?_); rintro e' w5 ⟨rfl, rfl⟩; have hSS := hHeld)
          (try go_simp)
          refine hKK.out _ _ hSS (fun hHeld => ?_)
          clear hKK KK
          (try simp only [Act.put, List.getElem_toArray, List.getElem_cons_zero, List.getElem_cons_succ, List.setIfInBounds_toArray, List.set_cons_zero, List.set_cons_succ])
          refine wpAnyF_take (i := 26) (v := ?_) (by kernel_rfl) (by kernel_rfl) rfl (by kernel_rfl) (by kernel_rfl) (by kernel_rfl) (fun _ _ _ h => h) (Or.inl ⟨by rfl, ?_⟩) (by assumption) ?_
          rotate_left
          · intro w' hSw; (try dsimp only at hSw); have f0 := hSw.1.cell 0; have f1 := hSw.1.cell 1; have f2 := hSw.1.cell 2; have f3 := hSw.1.cell 3; have f4 := hSw.1.cell 4; have f5 := hSw.1.cell 5; have f6 := hSw.1.cell 6; have f7 := hSw.1.cell 7; have c1 := hSw.2.cell 1; have c2 := hSw.2.cell 2; have c3 := hSw.2.cell 3; go_simp; (try with_reducible rfl)
          (try simp only [Act.put, List.getElem_toArray, List.getElem_cons_zero, List.getElem_cons_succ, List.setIfInBounds_toArray, List.set_cons_zero, List.set_cons_succ])
          refine wpAnyF_take (i := 27) (v := ?_) (by kernel_rfl) (by kernel_rfl) rfl (by kernel_rfl) (by kernel_rfl) (by kernel_rfl) (fun _ _ _ h => h) (Or.inl ⟨by rfl, ?_⟩) (by assumption) ?_
          rotate_left
          · intro w' hSw; (try dsimp only at hSw); have f0 := hSw.1.cell 0; have f1 := hSw.1.cell 1; have f2 := hSw.1.cell 2; have f3 := hSw.1.cell 3; have f4 := hSw.1.cell 4; have f5 := hSw.1.cell 5; have f6 := hSw.1.cell 6; have f7 := hSw.1.cell 7; have c1 := hSw.2.cell 1; have c2 := hSw.2.cell 2; have c3 := hSw.2.cell 3; go_simp; (try with_reducible rfl)
          (try simp only [Act.put, List.getElem_toArray, List.getElem_cons_zero, List.getElem_cons_succ, List.setIfInBounds_toArray, List.set_cons_zero, List.set_cons_succ])
          refine wpAnyF_done (by kernel_rfl) ?_ _
          refine NoPanic.normal ?_
          go_wp2
          go_ret
          exact ⟨by rw [HV.out]; rfl, HBX.out.trans (HB4.out.mono HBX.out.size)⟩
  · rw [hg] at HI HV
    simp only [Nat.one_ne_zero, if_false] at HV
    clear hg
    cases cis
    · go_enter Try.func15, Try.ntmps15
      go_wp2_with (go_at_call 28; ((with_reducible refine (HR.out _).mono ?_); rintro e w1 ⟨rfl, hb⟩; have HF1 := hi (HF0.out.below hb); have HC1 := hi (HC0.out.below hb); have HBX := hi (show Below w.heap.size w w1.drew from Below.drewN (m := 1) (HB0.out.trans (hb.mono HB0.out.size))); clear hb))
      refine wp_region_noPanic ?_
      refine wp_region_last_drew (S := (fun W' => CB W' w.heap.size 29 #[.int .i64 m, .int .i64 p0, .int .i64 p1, .bool o0, .bool o1, .bool sp, .int .u32 (wd r 0), .int .u32 (wd r 1)] ∧ CB W' (w.heap.size + 1) 39 #[.int .i64 ci, .int .i64 cp, .int .i64 cg, .bool false])) [] (by kernel_rfl) ⟨HF1.out.drew, HC1.out.drew⟩ (fun hHeld => ?_)
      (try simp only [Array.replicate_succ, Array.replicate_zero, List.push_toArray, List.nil_append, List.cons_append])
      refine wpAnyF_take (i := 0) (v := ?_) (by kernel_rfl) (by kernel_rfl) rfl (by kernel_rfl) (by kernel_rfl) (by kernel_rfl) (fun _ _ _ h => h) (Or.inl ⟨by rfl, ?_⟩) (by assumption) ?_
      rotate_left
      · intro w' hSw; (try dsimp only at hSw); have f0 := hSw.1.cell 0; have f1 := hSw.1.cell 1; have f2 := hSw.1.cell 2; have f3 := hSw.1.cell 3; have f4 := hSw.1.cell 4; have f5 := hSw.1.cell 5; have f6 := hSw.1.cell 6; have f7 := hSw.1.cell 7; have c1 := hSw.2.cell 1; have c2 := hSw.2.cell 2; have c3 := hSw.2.cell 3; go_simp; (try with_reducible rfl)
      (try simp only [Act.put, List.getElem_toArray, List.getElem_cons_zero, List.setIfInBounds_toArray, List.set_cons_zero, List.set_cons_succ])
      refine wpAnyF_take (i := 1) (v := ?_) (by kernel_rfl) (by kernel_rfl) rfl (by kernel_rfl) (by kernel_rfl) (by kernel_rfl) (fun _ _ _ h => h) (Or.inl ⟨by rfl, ?_⟩) (by assumption) ?_
      rotate_left
      · intro w' hSw; (try dsimp only at hSw); have f0 := hSw.1.cell 0; have f1 := hSw.1.cell 1; have f2 := hSw.1.cell 2; have f3 := hSw.1.cell 3; have f4 := hSw.1.cell 4; have f5 := hSw.1.cell 5; have f6 := hSw.1.cell 6; have f7 := hSw.1.cell 7; have c1 := hSw.2.cell 1; have c2 := hSw.2.cell 2; have c3 := hSw.2.cell 3; go_simp; (try with_reducible rfl)
      (try simp only [Act.put, List.getElem_toArray, List.getElem_cons_zero, List.getElem_cons_succ, List.setIfInBounds_toArray, List.set_cons_zero, List.set_cons_succ])
      refine wpAnyF_take (i := 2) (v := ?_) (by kernel_rfl) (by kernel_rfl) rfl (by kernel_rfl) (by kernel_rfl) (by kernel_rfl) (fun _ _ _ h => h) (Or.inl ⟨by rfl, ?_⟩) (by assumption) ?_
      rotate_left
      · intro w' hSw; (try dsimp only at hSw); have f0 := hSw.1.cell 0; have f1 := hSw.1.cell 1; have f2 := hSw.1.cell 2; have f3 := hSw.1.cell 3; have f4 := hSw.1.cell 4; have f5 := hSw.1.cell 5; have f6 := hSw.1.cell 6; have f7 := hSw.1.cell 7; have c1 := hSw.2.cell 1; have c2 := hSw.2.cell 2; have c3 := hSw.2.cell 3; go_simp; (try with_reducible rfl)
      (try simp only [Act.put, List.getElem_toArray, List.getElem_cons_zero, List.getElem_cons_succ, List.setIfInBounds_toArray, List.set_cons_zero, List.set_cons_succ])
      refine wpAnyF_take (i := 3) (v := undef) (by kernel_rfl) (by kernel_rfl) rfl (by kernel_rfl) (by kernel_rfl) (by kernel_rfl) (fun _ _ _ h => h) (Or.inr ⟨by rfl, rfl⟩) (by assumption) ?_
      (try simp only [Act.put, List.getElem_toArray, List.getElem_cons_zero, List.getElem_cons_succ, List.setIfInBounds_toArray, List.set_cons_zero, List.set_cons_succ])
      refine wpAnyF_take (i := 4) (v := undef) (by kernel_rfl) (by kernel_rfl) rfl (by kernel_rfl) (by kernel_rfl) (by kernel_rfl) (fun _ _ _ h => h) (Or.inr ⟨by rfl, rfl⟩) (by assumption) ?_
      (try simp only [Act.put, List.getElem_toArray, List.getElem_cons_zero, List.getElem_cons_succ, List.setIfInBounds_toArray, List.set_cons_zero, List.set_cons_succ])
      refine wpAnyF_take (i := 5) (v := undef) (by kernel_rfl) (by kernel_rfl) rfl (by kernel_rfl) (by kernel_rfl) (by kernel_rfl) (fun _ _ _ h => h) (Or.inr ⟨by rfl, rfl⟩) (by assumption) ?_
      (try simp only [Act.put, List.getElem_toArray, List.getElem_cons_zero, List.getElem_cons_succ, List.setIfInBounds_toArray, List.set_cons_zero, List.set_cons_succ])
      refine wpAnyF_take (i := 6) (v := undef) (by kernel_rfl) (by kernel_rfl) rfl (by kernel_rfl) (by kernel_rfl) (by kernel_rfl) (fun _ _ _ h => h) (Or.inr ⟨by rfl, rfl⟩) (by assumption) ?_
      (try simp only [Act.put, List.getElem_toArray, List.getElem_cons_zero, List.getElem_cons_succ, List.setIfInBounds_toArray, List.set_cons_zero, List.set_cons_succ])
      refine wpAnyF_take (i := 7) (v := undef) (by kernel_rfl) (by kernel_rfl) rfl (by kernel_rfl) (by kernel_rfl) (by kernel_rfl) (fun _ _ _ h => h) (Or.inr ⟨by rfl, rfl⟩) (by assumption) ?_
      (try simp only [Act.put, List.getElem_toArray, List.getElem_cons_zero, List.getElem_cons_succ, List.setIfInBounds_toArray, List.set_cons_zero, List.set_cons_succ])
      refine wpAnyF_take (i := 8) (v := undef) (by kernel_rfl) (by kernel_rfl) rfl (by kernel_rfl) (by kernel_rfl) (by kernel_rfl) (fun _ _ _ h => h) (Or.inr ⟨by rfl, rfl⟩) (by assumption) ?_
      (try simp only [Act.put, List.getElem_toArray, List.getElem_cons_zero, List.getElem_cons_succ, List.setIfInBounds_toArray, List.set_cons_zero, List.set_cons_succ])
      refine wpAnyF_take (i := 9) (v := ?_) (by kernel_rfl) (by kernel_rfl) rfl (by kernel_rfl) (by kernel_rfl) (by kernel_rfl) (fun _ _ _ h => h) (Or.inl ⟨by rfl, ?_⟩) (by assumption) ?_
      rotate_left
      · intro w' hSw; (try dsimp only at hSw); have f0 := hSw.1.cell 0; have f1 := hSw.1.cell 1; have f2 := hSw.1.cell 2; have f3 := hSw.1.cell 3; have f4 := hSw.1.cell 4; have f5 := hSw.1.cell 5; have f6 := hSw.1.cell 6; have f7 := hSw.1.cell 7; have c1 := hSw.2.cell 1; have c2 := hSw.2.cell 2; have c3 := hSw.2.cell 3; go_simp; (try with_reducible rfl)
      (try simp only [Act.put, List.getElem_toArray, List.getElem_cons_zero, List.getElem_cons_succ, List.setIfInBounds_toArray, List.set_cons_zero, List.set_cons_succ])
      refine wpAnyF_take (i := 10) (v := ?_) (by kernel_rfl) (by kernel_rfl) rfl (by kernel_rfl) (by kernel_rfl) (by kernel_rfl) (fun _ _ _ h => h) (Or.inl ⟨by rfl, ?_⟩) (by assumption) ?_
      rotate_left
      · intro w' hSw; (try dsimp only at hSw); have f0 := hSw.1.cell 0; have f1 := hSw.1.cell 1; have f2 := hSw.1.cell 2; have f3 := hSw.1.cell 3; have f4 := hSw.1.cell 4; have f5 := hSw.1.cell 5; have f6 := hSw.1.cell 6; have f7 := hSw.1.cell 7; have c1 := hSw.2.cell 1; have c2 := hSw.2.cell 2; have c3 := hSw.2.cell 3; go_simp; (try with_reducible rfl)
      (try simp only [Act.put, List.getElem_toArray, List.getElem_cons_zero, List.getElem_cons_succ, List.setIfInBounds_toArray, List.set_cons_zero, List.set_cons_succ])
      refine wpAnyF_take (i := 11) (v := undef) (by kernel_rfl) (by kernel_rfl) rfl (by kernel_rfl) (by kernel_rfl) (by kernel_rfl) (fun _ _ _ h => h) (Or.inr ⟨by rfl, rfl⟩) (by assumption) ?_
      (try simp only [Act.put, List.getElem_toArray, List.getElem_cons_zero, List.getElem_cons_succ, List.setIfInBounds_toArray, List.set_cons_zero, List.set_cons_succ])
      refine wpAnyF_take (i := 12) (v := undef) (by kernel_rfl) (by kernel_rfl) rfl (by kernel_rfl) (by kernel_rfl) (by kernel_rfl) (fun _ _ _ h => h) (Or.inr ⟨by rfl, rfl⟩) (by assumption) ?_
      (try simp only [Act.put, List.getElem_toArray, List.getElem_cons_zero, List.getElem_cons_succ, List.setIfInBounds_toArray, List.set_cons_zero, List.set_cons_succ])
      refine wpAnyF_take (i := 13) (v := undef) (by kernel_rfl) (by kernel_rfl) rfl (by kernel_rfl) (by kernel_rfl) (by kernel_rfl) (fun _ _ _ h => h) (Or.inr ⟨by rfl, rfl⟩) (by assumption) ?_
      (try simp only [Act.put, List.getElem_toArray, List.getElem_cons_zero, List.getElem_cons_succ, List.setIfInBounds_toArray, List.set_cons_zero, List.set_cons_succ])
      refine wpAnyF_take (i := 14) (v := undef) (by kernel_rfl) (by kernel_rfl) rfl (by kernel_rfl) (by kernel_rfl) (by kernel_rfl) (fun _ _ _ h => h) (Or.inr ⟨by rfl, rfl⟩) (by assumption) ?_
      (try simp only [Act.put, List.getElem_toArray, List.getElem_cons_zero, List.getElem_cons_succ, List.setIfInBounds_toArray, List.set_cons_zero, List.set_cons_succ])
      refine wpAnyF_take (i := 15) (v := undef) (by kernel_rfl) (by kernel_rfl) rfl (by kernel_rfl) (by kernel_rfl) (by kernel_rfl) (fun _ _ _ h => h) (Or.inr ⟨by rfl, rfl⟩) (by assumption) ?_
      (try simp only [Act.put, List.getElem_toArray, List.getElem_cons_zero, List.getElem_cons_succ, List.setIfInBounds_toArray, List.set_cons_zero, List.set_cons_succ])
      refine wpAnyF_take (i := 16) (v := ?_) (by kernel_rfl) (by kernel_rfl) rfl (by kernel_rfl) (by kernel_rfl) (by kernel_rfl) (fun _ _ _ h => h) (Or.inl ⟨by rfl, ?_⟩) (by assumption) ?_
      rotate_left
      · intro w' hSw; (try dsimp only at hSw); have f0 := hSw.1.cell 0; have f1 := hSw.1.cell 1; have f2 := hSw.1.cell 2; have f3 := hSw.1.cell 3; have f4 := hSw.1.cell 4; have f5 := hSw.1.cell 5; have f6 := hSw.1.cell 6; have f7 := hSw.1.cell 7; have c1 := hSw.2.cell 1; have c2 := hSw.2.cell 2; have c3 := hSw.2.cell 3; go_simp; (try with_reducible rfl)
      (try simp only [Act.put, List.getElem_toArray, List.getElem_cons_zero, List.getElem_cons_succ, List.setIfInBounds_toArray, List.set_cons_zero, List.set_cons_succ])
      refine wpAnyF_take (i := 17) (v := ?_) (by kernel_rfl) (by kernel_rfl) rfl (by kernel_rfl) (by kernel_rfl) (by kernel_rfl) (fun _ _ _ h => h) (Or.inl ⟨by rfl, ?_⟩) (by assumption) ?_
      rotate_left
      · intro w' hSw; (try dsimp only at hSw); have f0 := hSw.1.cell 0; have f1 := hSw.1.cell 1; have f2 := hSw.1.cell 2; have f3 := hSw.1.cell 3; have f4 := hSw.1.cell 4; have f5 := hSw.1.cell 5; have f6 := hSw.1.cell 6; have f7 := hSw.1.cell 7; have c1 := hSw.2.cell 1; have c2 := hSw.2.cell 2; have c3 := hSw.2.cell 3; go_simp; (try with_reducible rfl)
      (try simp only [Act.put, List.getElem_toArray, List.getElem_cons_zero, List.getElem_cons_succ, List.setIfInBounds_toArray, List.set_cons_zero, List.set_cons_succ])
      refine wpAnyF_take (i := 18) (v := undef) (by kernel_rfl) (by kernel_rfl) rfl (by kernel_rfl) (by kernel_rfl) (by kernel_rfl) (fun _ _ _ h => h) (Or.inr ⟨by rfl, rfl⟩) (by assumption) ?_
      (try simp only [Act.put, List.getElem_toArray, List.getElem_cons_zero, List.getElem_cons_succ, List.setIfInBounds_toArray, List.set_cons_zero, List.set_cons_succ])
      refine wpAnyF_take (i := 19) (v := undef) (by kernel_rfl) (by kernel_rfl) rfl (by kernel_rfl) (by kernel_rfl) (by kernel_rfl) (fun _ _ _ h => h) (Or.inr ⟨by rfl, rfl⟩) (by assumption) ?_
      (try simp only [Act.put, List.getElem_toArray, List.getElem_cons_zero, List.getElem_cons_succ, List.setIfInBounds_toArray, List.set_cons_zero, List.set_cons_succ])
      refine wpAnyF_take (i := 20) (v := undef) (by kernel_rfl) (by kernel_rfl) rfl (by kernel_rfl) (by kernel_rfl) (by kernel_rfl) (fun _ _ _ h => h) (Or.inr ⟨by rfl, rfl⟩) (by assumption) ?_
      (try simp only [Act.put, List.getElem_toArray, List.getElem_cons_zero, List.getElem_cons_succ, List.setIfInBounds_toArray, List.set_cons_zero, List.set_cons_succ])
      refine wpAnyF_take (i := 21) (v := undef) (by kernel_rfl) (by kernel_rfl) rfl (by kernel_rfl) (by kernel_rfl) (by kernel_rfl) (fun _ _ _ h => h) (Or.inr ⟨by rfl, rfl⟩) (by assumption) ?_
      (try simp only [Act.put, List.getElem_toArray, List.getElem_cons_zero, List.getElem_cons_succ, List.setIfInBounds_toArray, List.set_cons_zero, List.set_cons_succ])
      refine wpAnyF_take (i := 22) (v := undef) (by kernel_rfl) (by kernel_rfl) rfl (by kernel_rfl) (by kernel_rfl) (by kernel_rfl) (fun _ _ _ h => h) (Or.inr ⟨by rfl, rfl⟩) (by assumption) ?_
      (try simp only [Act.put, List.getElem_toArray, List.getElem_cons_zero, List.getElem_cons_succ, List.setIfInBounds_toArray, List.set_cons_zero, List.set_cons_succ])
      refine wpAnyF_take (i := 23) (v := undef) (by kernel_rfl) (by kernel_rfl) rfl (by kernel_rfl) (by kernel_rfl) (by kernel_rfl) (fun _ _ _ h => h) (Or.inr ⟨by rfl, rfl⟩) (by assumption) ?_
      (try simp only [Act.put, List.getElem_toArray, List.getElem_cons_zero, List.getElem_cons_succ, List.setIfInBounds_toArray, List.set_cons_zero, List.set_cons_succ])
      refine wpAnyF_take (i := 24) (v := undef) (by kernel_rfl) (by kernel_rfl) rfl (by kernel_rfl) (by kernel_rfl) (by kernel_rfl) (fun _ _ _ h => h) (Or.inr ⟨by rfl, rfl⟩) (by assumption) ?_
      (try simp only [Act.put, List.getElem_toArray, List.getElem_cons_zero, List.getElem_cons_succ, List.setIfInBounds_toArray, List.set_cons_zero, List.set_cons_succ])
      refine wpAnyF_take (i := 25) (v := undef) (by kernel_rfl) (by kernel_rfl) rfl (by kernel_rfl) (by kernel_rfl) (by kernel_rfl) (fun _ _ _ h => h) (Or.inr ⟨by rfl, rfl⟩) (by assumption) ?_
      (try simp only [Act.put, List.getElem_toArray, List.getElem_cons_zero, List.getElem_cons_succ, List.setIfInBounds_toArray, List.set_cons_zero, List.set_cons_succ])
      refine wpAnyF_take (i := 26) (v := ?_) (by kernel_rfl) (by kernel_rfl) rfl (by kernel_rfl) (by kernel_rfl) (by kernel_rfl) (fun _ _ _ h => h) (Or.inl ⟨by rfl, ?_⟩) (by assumption) ?_
      rotate_left
      · intro w' hSw; (try dsimp only at hSw); have f0 := hSw.1.cell 0; have f1 := hSw.1.cell 1; have f2 := hSw.1.cell 2; have f3 := hSw.1.cell 3; have f4 := hSw.1.cell 4; have f5 := hSw.1.cell 5; have f6 := hSw.1.cell 6; have f7 := hSw.1.cell 7; have c1 := hSw.2.cell 1; have c2 := hSw.2.cell 2; have c3 := hSw.2.cell 3; go_simp; (try with_reducible rfl)
      (try simp only [Act.put, List.getElem_toArray, List.getElem_cons_zero, List.getElem_cons_succ, List.setIfInBounds_toArray, List.set_cons_zero, List.set_cons_succ])
      refine wpAnyF_take (i := 27) (v := ?_) (by kernel_rfl) (by kernel_rfl) rfl (by kernel_rfl) (by kernel_rfl) (by kernel_rfl) (fun _ _ _ h => h) (Or.inl ⟨by rfl, ?_⟩) (by assumption) ?_
      rotate_left
      · intro w' hSw; (try dsimp only at hSw); have f0 := hSw.1.cell 0; have f1 := hSw.1.cell 1; have f2 := hSw.1.cell 2; have f3 := hSw.1.cell 3; have f4 := hSw.1.cell 4; have f5 := hSw.1.cell 5; have f6 := hSw.1.cell 6; have f7 := hSw.1.cell 7; have c1 := hSw.2.cell 1; have c2 := hSw.2.cell 2; have c3 := hSw.2.cell 3; go_simp; (try with_reducible rfl)
      (try simp only [Act.put, List.getElem_toArray, List.getElem_cons_zero, List.getElem_cons_succ, List.setIfInBounds_toArray, List.set_cons_zero, List.set_cons_succ])
      refine wpAnyF_done (by kernel_rfl) ?_ _
      refine NoPanic.normal ?_
      go_wp2
      go_ret
      exact ⟨by rw [HV.out]; rfl, HBX.out⟩
    · cases o1
      · go_enter Try.func15, Try.ntmps15
        go_wp2_with (go_at_call 28; ((with_reducible refine (HR.out _).mono ?_); rintro e w1 ⟨rfl, hb⟩; have HF1 := hi (HF0.out.below hb); have HC1 := hi (HC0.out.below hb); have HBX := hi (show Below w.heap.size w w1.drew from Below.drewN (m := 1) (HB0.out.trans (hb.mono HB0.out.size))); clear hb))
        refine wp_region_noPanic ?_
        refine wp_region_last_drew (S := (fun W' => CB W' w.heap.size 29 #[.int .i64 m, .int .i64 p0, .int .i64 p1, .bool o0, .bool false, .bool sp, .int .u32 (wd r 0), .int .u32 (wd r 1)] ∧ CB W' (w.heap.size + 1) 39 #[.int .i64 ci, .int .i64 cp, .int .i64 cg, .bool true])) [] (by kernel_rfl) ⟨HF1.out.drew, HC1.out.drew⟩ (fun hHeld => ?_)
        (try simp only [Array.replicate_succ, Array.replicate_zero, List.push_toArray, List.nil_append, List.cons_append])
        refine wpAnyF_take (i := 0) (v := ?_) (by kernel_rfl) (by kernel_rfl) rfl (by kernel_rfl) (by kernel_rfl) (by kernel_rfl) (fun _ _ _ h => h) (Or.inl ⟨by rfl, ?_⟩) (by assumption) ?_
        rotate_left
        · intro w' hSw; (try dsimp only at hSw); have f0 := hSw.1.cell 0; have f1 := hSw.1.cell 1; have f2 := hSw.1.cell 2; have f3 := hSw.1.cell 3; have f4 := hSw.1.cell 4; have f5 := hSw.1.cell 5; have f6 := hSw.1.cell 6; have f7 := hSw.1.cell 7; have c1 := hSw.2.cell 1; have c2 := hSw.2.cell 2; have c3 := hSw.2.cell 3; go_simp; (try with_reducible rfl)
        (try simp only [Act.put, List.getElem_toArray, List.getElem_cons_zero, List.setIfInBounds_toArray, List.set_cons_zero, List.set_cons_succ])
        refine wpAnyF_take (i := 1) (v := ?_) (by kernel_rfl) (by kernel_rfl) rfl (by kernel_rfl) (by kernel_rfl) (by kernel_rfl) (fun _ _ _ h => h) (Or.inl ⟨by rfl, ?_⟩) (by assumption) ?_
        rotate_left
        · intro w' hSw; (try dsimp only at hSw); have f0 := hSw.1.cell 0; have f1 := hSw.1.cell 1; have f2 := hSw.1.cell 2; have f3 := hSw.1.cell 3; have f4 := hSw.1.cell 4; have f5 := hSw.1.cell 5; have f6 := hSw.1.cell 6; have f7 := hSw.1.cell 7; have c1 := hSw.2.cell 1; have c2 := hSw.2.cell 2; have c3 := hSw.2.cell 3; go_simp; (try with_reducible rfl)
        (try simp only [Act.put, List.getElem_toArray, List.getElem_cons_zero, List.getElem_cons_succ, List.setIfInBounds_toArray, List.set_cons_zero, List.set_cons_succ])
        refine wpAnyF_take (i := 2) (v := ?_) (by kernel_rfl) (by kernel_rfl) rfl (by kernel_rfl) (by kernel_rfl) (by kernel_rfl) (fun _ _ _ h => h) (Or.inl ⟨by rfl, ?_⟩) (by assumption) ?_
        rotate_left
        · intro w' hSw; (try dsimp only at hSw); have f0 := hSw.1.cell 0; have f1 := hSw.1.cell 1; have f2 := hSw.1.cell 2; have f3 := hSw.1.cell 3; have f4 := hSw.1.cell 4; have f5 := hSw.1.cell 5; have f6 := hSw.1.cell 6; have f7 := hSw.1.cell 7; have c1 := hSw.2.cell 1; have c2 := hSw.2.cell 2; have c3 := hSw.2.cell 3; go_simp; (try with_reducible rfl)
        (try simp only [Act.put, List.getElem_toArray, List.getElem_cons_zero, List.getElem_cons_succ, List.setIfInBounds_toArray, List.set_cons_zero, List.set_cons_succ])
        refine wpAnyF_take (i := 3) (v := ?_) (by kernel_rfl) (by kernel_rfl) rfl (by kernel_rfl) (by kernel_rfl) (by kernel_rfl) (fun _ _ _ h => h) (Or.inl ⟨by rfl, ?_⟩) (by assumption) ?_
        rotate_left
        · intro w' hSw; (try dsimp only at hSw); have f0 := hSw.1.cell 0; have f1 := hSw.1.cell 1; have f2 := hSw.1.cell 2; have f3 := hSw.1.cell 3; have f4 := hSw.1.cell 4; have f5 := hSw.1.cell 5; have f6 := hSw.1.cell 6; have f7 := hSw.1.cell 7; have c1 := hSw.2.cell 1; have c2 := hSw.2.cell 2; have c3 := hSw.2.cell 3; go_simp; (try with_reducible rfl)
        (try simp only [Act.put, List.getElem_toArray, List.getElem_cons_zero, List.getElem_cons_succ, List.setIfInBounds_toArray, List.set_cons_zero, List.set_cons_succ])
        refine wpAnyF_take (i := 4) (v := ?_) (by kernel_rfl) (by kernel_rfl) rfl (by kernel_rfl) (by kernel_rfl) (by kernel_rfl) (fun _ _ _ h => h) (Or.inl ⟨by rfl, ?_⟩) (by assumption) ?_
        rotate_left
        · intro w' hSw; (try dsimp only at hSw); have f0 := hSw.1.cell 0; have f1 := hSw.1.cell 1; have f2 := hSw.1.cell 2; have f3 := hSw.1.cell 3; have f4 := hSw.1.cell 4; have f5 := hSw.1.cell 5; have f6 := hSw.1.cell 6; have f7 := hSw.1.cell 7; have c1 := hSw.2.cell 1; have c2 := hSw.2.cell 2; have c3 := hSw.2.cell 3; go_simp; (try with_reducible rfl)
        (try simp only [Act.put, List.getElem_toArray, List.getElem_cons_zero, List.getElem_cons_succ, List.setIfInBounds_toArray, List.set_cons_zero, List.set_cons_succ])
        refine wpAnyF_take (i := 6) (v := ?_) (by kernel_rfl) (by kernel_rfl) rfl (by kernel_rfl) (by kernel_rfl) (by kernel_rfl) (fun _ _ _ h => h) (Or.inl ⟨by rfl, ?_⟩) (by assumption) ?_
        rotate_left
        · intro w' hSw; (try dsimp only at hSw); have f0 := hSw.1.cell 0; have f1 := hSw.1.cell 1; have f2 := hSw.1.cell 2; have f3 := hSw.1.cell 3; have f4 := hSw.1.cell 4; have f5 := hSw.1.cell 5; have f6 := hSw.1.cell 6; have f7 := hSw.1.cell 7; have c1 := hSw.2.cell 1; have c2 := hSw.2.cell 2; have c3 := hSw.2.cell 3; go_simp; (try with_reducible rfl)
        (try simp only [Act.put, List.getElem_toArray, List.getElem_cons_zero, List.getElem_cons_succ, List.setIfInBounds_toArray, List.set_cons_zero, List.set_cons_succ])
        refine wpAnyF_ready (rs := [5]) (by kernel_rfl) (by simp) ?_
        refine AllReadyF.cons rfl (fun KK hKK => ?_) AllReadyF.nil
        go_simp
        ((with_reducible refine (HI.out _).mono ?_); rintro e' w2 ⟨rfl, rfl⟩; have hSS := hHeld)
        (try go_simp)
        refine hKK.out _ _ hSS (fun hHeld => ?_)
        clear hKK KK
        (try simp only [Act.put, List.getElem_toArray, List.getElem_cons_zero, List.getElem_cons_succ, List.setIfInBounds_toArray, List.set_cons_zero, List.set_cons_succ])
        refine wpAnyF_take (i := 7) (v := ?_) (by kernel_rfl) (by kernel_rfl) rfl (by kernel_rfl) (by kernel_rfl) (by kernel_rfl) (fun _ _ _ h => h) (Or.inl ⟨by rfl, ?_⟩) (by assumption) ?_
        rotate_left
        · intro w' hSw; (try dsimp only at hSw); have f0 := hSw.1.cell 0; have f1 := hSw.1.cell 1; have f2 := hSw.1.cell 2; have f3 := hSw.1.cell 3; have f4 := hSw.1.cell 4; have f5 := hSw.1.cell 5; have f6 := hSw.1.cell 6; have f7 := hSw.1.cell 7; have c1 := hSw.2.cell 1; have c2 := hSw.2.cell 2; have c3 := hSw.2.cell 3; go_simp; (try with_reducible rfl)
        (try simp only [Act.put, List.getElem_toArray, List.getElem_cons_zero, List.getElem_cons_succ, List.setIfInBounds_toArray, List.set_cons_zero, List.set_cons_succ])
        refine wpAnyF_take (i := 8) (v := ?_) (by kernel_rfl) (by kernel_rfl) rfl (by kernel_rfl) (by kernel_rfl) (by kernel_rfl) (fun _ _ _ h => h) (Or.inl ⟨by rfl, ?_⟩) (by assumption) ?_
        rotate_left
        · intro w' hSw; (try dsimp only at hSw); have f0 := hSw.1.cell 0; have f1 := hSw.1.cell 1; have f2 := hSw.1.cell 2; have f3 := hSw.1.cell 3; have f4 := hSw.1.cell 4; have f5 := hSw.1.cell 5; have f6 := hSw.1.cell 6; have f7 := hSw.1.cell 7; have c1 := hSw.2.cell 1; have c2 := hSw.2.cell 2; have c3 := hSw.2.cell 3; go_simp; (try with_reducible rfl)
        (try simp only [Act.put, List.getElem_toArray, List.getElem_cons_zero, List.getElem_cons_succ, List.setIfInBounds_toArray, List.set_cons_zero, List.set_cons_succ])
        refine wpAnyF_take (i := 9) (v := ?_) (by kernel_rfl) (by kernel_rfl) rfl (by kernel_rfl) (by kernel_rfl) (by kernel_rfl) (fun _ _ _ h => h) (Or.inl ⟨by rfl, ?_⟩) (by assumption) ?_
        rotate_left
        · intro w' hSw; (try dsimp only at hSw); have f0 := hSw.1.cell 0; have f1 := hSw.1.cell 1; have f2 := hSw.1.cell 2; have f3 := hSw.1.cell 3; have f4 := hSw.1.cell 4; have f5 := hSw.1.cell 5; have f6 := hSw.1.cell 6; have f7 := hSw.1.cell 7; have c1 := hSw.2.cell 1; have c2 := hSw.2.cell 2; have c3 := hSw.2.cell 3; go_simp; (try with_reducible rfl)
        (try simp only [Act.put, List.getElem_toArray, List.getElem_cons_zero, List.getElem_cons_succ, List.setIfInBounds_toArray, List.set_cons_zero, List.set_cons_succ])
        refine wpAnyF_take (i := 10) (v := ?_) (by kernel_rfl) (by kernel_rfl) rfl (by kernel_rfl) (by kernel_rfl) (by kernel_rfl) (fun _ _ _ h => h) (Or.inl ⟨by rfl, ?_⟩) (by assumption) ?_
        rotate_left
        · intro w' hSw; (try dsimp only at hSw); have f0 := hSw.1.cell 0; have f1 := hSw.1.cell 1; have f2 := hSw.1.cell 2; have f3 := hSw.1.cell 3; have f4 := hSw.1.cell 4; have f5 := hSw.1.cell 5; have f6 := hSw.1.cell 6; have f7 := hSw.1.cell 7; have c1 := hSw.2.cell 1; have c2 := hSw.2.cell 2; have c3 := hSw.2.cell 3; go_simp; (try with_reducible rfl)
        (try simp only [Act.put, List.getElem_toArray, List.getElem_cons_zero, List.getElem_cons_succ, List.setIfInBounds_toArray, List.set_cons_zero, List.set_cons_succ])
        refine wpAnyF_take (i := 11) (v := undef) (by kernel_rfl) (by kernel_rfl) rfl (by kernel_rfl) (by kernel_rfl) (by kernel_rfl) (fun _ _ _ h => h) (Or.inr ⟨by rfl, rfl⟩) (by assumption) ?_
        (try simp only [Act.put, List.getElem_toArray, List.getElem_cons_zero, List.getElem_cons_succ, List.setIfInBounds_toArray, List.set_cons_zero, List.set_cons_succ])
        refine wpAnyF_take (i := 12) (v := undef) (by kernel_rfl) (by kernel_rfl) rfl (by kernel_rfl) (by kernel_rfl) (by kernel_rfl) (fun _ _ _ h => h) (Or.inr ⟨by rfl, rfl⟩) (by assumption) ?_
        (try simp only [Act.put, List.getElem_toArray, List.getElem_cons_zero, List.getElem_cons_succ, List.setIfInBounds_toArray, List.set_cons_zero, List.set_cons_succ])
        refine wpAnyF_take (i := 13) (v := undef) (by kernel_rfl) (by kernel_rfl) rfl (by kernel_rfl) (by kernel_rfl) (by kernel_rfl) (fun _ _ _ h => h) (Or.inr ⟨by rfl, rfl⟩) (by assumption) ?_
        (try simp only [Act.put, List.getElem_toArray, List.getElem_cons_zero, List.getElem_cons_succ, List.setIfInBounds_toArray, List.set_cons_zero, List.set_cons_succ])
        refine wpAnyF_take (i := 14) (v := undef) (by kernel_rfl) (by kernel_rfl) rfl (by kernel_rfl) (by kernel_rfl) (by kernel_rfl) (fun _ _ _ h => h) (Or.inr ⟨by rfl, rfl⟩) (by assumption) ?_
        (try simp only [Act.put, List.getElem_toArray, List.getElem_cons_zero, List.getElem_cons_succ, List.setIfInBounds_toArray, List.set_cons_zero, List.set_cons_succ])
        refine wpAnyF_take (i := 15) (v := undef) (by kernel_rfl) (by kernel_rfl) rfl (by kernel_rfl) (by kernel_rfl) (by kernel_rfl) (fun _ _ _ h => h) (Or.inr ⟨by rfl, rfl⟩) (by assumption) ?_
        (try simp only [Act.put, List.getElem_toArray, List.getElem_cons_zero, List.getElem_cons_succ, List.setIfInBounds_toArray, List.set_cons_zero, List.set_cons_succ])
        refine wpAnyF_take (i := 16) (v := ?_) (by kernel_rfl) (by kernel_rfl) rfl (by kernel_rfl) (by kernel_rfl) (by kernel_rfl) (fun _ _ _ h => h) (Or.inl ⟨by rfl, ?_⟩) (by assumption) ?_
        rotate_left
        · intro w' hSw; (try dsimp only at hSw); have f0 := hSw.1.cell 0; have f1 := hSw.1.cell 1; have f2 := hSw.1.cell 2; have f3 := hSw.1.cell 3; have f4 := hSw.1.cell 4; have f5 := hSw.1.cell 5; have f6 := hSw.1.cell 6; have f7 := hSw.1.cell 7; have c1 := hSw.2.cell 1; have c2 := hSw.2.cell 2; have c3 := hSw.2.cell 3; go_simp; (try with_reducible rfl)
        (try simp only [Act.put, List.getElem_toArray, List.getElem_cons_zero, List.getElem_cons_succ, List.setIfInBounds_toArray, List.set_cons_zero, List.set_cons_succ])
        refine wpAnyF_take (i := 17) (v := ?_) (by kernel_rfl) (by kernel_rfl) rfl (by kernel_rfl) (by kernel_rfl) (by kernel_rfl) (fun _ _ _ h => h) (Or.inl ⟨by rfl, ?_⟩) (by assumption) ?_
        rotate_left
        · intro w' hSw; (try dsimp only at hSw); have f0 := hSw.1.cell 0; have f1 := hSw.1.cell 1; have f2 := hSw.1.cell 2; have f3 := hSw.1.cell 3; have f4 := hSw.1.cell 4; have f5 := hSw.1.cell 5; have f6 := hSw.1.cell 6; have f7 := hSw.1.cell 7; have c1 := hSw.2.cell 1; have c2 := hSw.2.cell 2; have c3 := hSw.2.cell 3; go_simp; (try with_reducible rfl)
        (try simp only [Act.put, List.getElem_toArray, List.getElem_cons_zero, List.getElem_cons_succ, List.setIfInBounds_toArray, List.set_cons_zero, List.set_cons_succ])
        refine wpAnyF_take (i := 18) (v := undef) (by kernel_rfl) (by kernel_rfl) rfl (by kernel_rfl) (by kernel_rfl) (by kernel_rfl) (fun _ _ _ h => h) (Or.inr ⟨by rfl, rfl⟩) (by assumption) ?_
        (try simp only [Act.put, List.getElem_toArray, List.getElem_cons_zero, List.getElem_cons_succ, List.setIfInBounds_toArray, List.set_cons_zero, List.set_cons_succ])
        refine wpAnyF_take (i := 19) (v := undef) (by kernel_rfl) (by kernel_rfl) rfl (by kernel_rfl) (by kernel_rfl) (by kernel_rfl) (fun _ _ _ h => h) (Or.inr ⟨by rfl, rfl⟩) (by assumption) ?_
        (try simp only [Act.put, List.getElem_toArray, List.getElem_cons_zero, List.getElem_cons_succ, List.setIfInBounds_toArray, List.set_cons_zero, List.set_cons_succ])
        refine wpAnyF_take (i := 20) (v := undef) (by kernel_rfl) (by kernel_rfl) rfl (by kernel_rfl) (by kernel_rfl) (by kernel_rfl) (fun _ _ _ h => h) (Or.inr ⟨by rfl, rfl⟩) (by assumption) ?_
        (try simp only [Act.put, List.getElem_toArray, List.getElem_cons_zero, List.getElem_cons_succ, List.setIfInBounds_toArray, List.set_cons_zero, List.set_cons_succ])
        refine wpAnyF_take (i := 21) (v := undef) (by kernel_rfl) (by kernel_rfl) rfl (by kernel_rfl) (by kernel_rfl) (by kernel_rfl) (fun _ _ _ h => h) (Or.inr ⟨by rfl, rfl⟩) (by assumption) ?_
        (try simp only [Act.put, List.getElem_toArray, List.getElem_cons_zero, List.getElem_cons_succ, List.setIfInBounds_toArray, List.set_cons_zero, List.set_cons_succ])
        refine wpAnyF_take (i := 22) (v := undef) (by kernel_rfl) (by kernel_rfl) rfl (by kernel_rfl) (by kernel_rfl) (by kernel_rfl) (fun _ _ _ h => h) (Or.inr ⟨by rfl, rfl⟩) (by assumption) ?_
        (try simp only [Act.put, List.getElem_toArray, List.getElem_cons_zero, List.getElem_cons_succ, List.setIfInBounds_toArray, List.set_cons_zero, List.set_cons_succ])
        refine wpAnyF_take (i := 23) (v := undef) (by kernel_rfl) (by kernel_rfl) rfl (by kernel_rfl) (by kernel_rfl) (by kernel_rfl) (fun _ _ _ h => h) (Or.inr ⟨by rfl, rfl⟩) (by assumption) ?_
        (try simp only [Act.put, List.getElem_toArray, List.getElem_cons_zero, List.getElem_cons_succ, List.setIfInBounds_toArray, List.set_cons_zero, List.set_cons_succ])
        refine wpAnyF_take (i := 24) (v := undef) (by kernel_rfl) (by kernel_rfl) rfl (by kernel_rfl) (by kernel_rfl) (by kernel_rfl) (fun _ _ _ h => h) (Or.inr ⟨by rfl, rfl⟩) (by assumption) ?_
        (try simp only [Act.put, List.getElem_toArray, List.getElem_cons_zero, List.getElem_cons_succ, List.setIfInBounds_toArray, List.set_cons_zero, List.set_cons_succ])
        refine wpAnyF_take (i := 25) (v := undef) (by kernel_rfl) (by kernel_rfl) rfl (by kernel_rfl) (by kernel_rfl) (by kernel_rfl) (fun _ _ _ h => h) (Or.inr ⟨by rfl, rfl⟩) (by assumption) ?_
        (try simp only [Act.put, List.getElem_toArray, List.getElem_cons_zero, List.getElem_cons_succ, List.setIfInBounds_toArray, List.set_cons_zero, List.set_cons_succ])
        refine wpAnyF_take (i := 26) (v := ?_) (by kernel_rfl) (by kernel_rfl) rfl (by kernel_rfl) (by kernel_rfl) (by kernel_rfl) (fun _ _ _ h => h) (Or.inl ⟨by rfl, ?_⟩) (by assumption) ?_
        rotate_left
        · intro w' hSw; (try dsimp only at hSw); have f0 := hSw.1.cell 0; have f1 := hSw.1.cell 1; have f2 := hSw.1.cell 2; have f3 := hSw.1.cell 3; have f4 := hSw.1.cell 4; have f5 := hSw.1.cell 5; have f6 := hSw.1.cell 6; have f7 := hSw.1.cell 7; have c1 := hSw.2.cell 1; have c2 := hSw.2.cell 2; have c3 := hSw.2.cell 3; go_simp; (try with_reducible rfl)
        (try simp only [Act.put, List.getElem_toArray, List.getElem_cons_zero, List.getElem_cons_succ, List.setIfInBounds_toArray, List.set_cons_zero, List.set_cons_succ])
        refine wpAnyF_take (i := 27) (v := ?_) (by kernel_rfl) (by kernel_rfl) rfl (by kernel_rfl) (by kernel_rfl) (by kernel_rfl) (fun _ _ _ h => h) (Or.inl ⟨by rfl, ?_⟩) (by assumption) ?_
        rotate_left
        · intro w' hSw; (try dsimp only at hSw); have f0 := hSw.1.cell 0; have f1 := hSw.1.cell 1; have f2 := hSw.1.cell 2; have f3 := hSw.1.cell 3; have f4 := hSw.1.cell 4; have f5 := hSw.1.cell 5; have f6 := hSw.1.cell 6; have f7 := hSw.1.cell 7; have c1 := hSw.2.cell 1; have c2 := hSw.2.cell 2; have c3 := hSw.2.cell 3; go_simp; (try with_reducible rfl)
        (try simp only [Act.put, List.getElem_toArray, List.getElem_cons_zero, List.getElem_cons_succ, List.setIfInBounds_toArray, List.set_cons_zero, List.set_cons_succ])
        refine wpAnyF_done (by kernel_rfl) ?_ _
        refine NoPanic.normal ?_
        go_wp2
        go_ret
        exact ⟨by rw [HV.out]; rfl, HBX.out⟩
      · cases bp
        · go_enter Try.func15, Try.ntmps15
          go_wp2_with (go_at_call 28; ((with_reducible refine (HR.out _).mono ?_); rintro e w1 ⟨rfl, hb⟩; have HF1 := hi (HF0.out.below hb); have HC1 := hi (HC0.out.below hb); have HBX := hi (show Below w.heap.size w w1.drew from Below.drewN (m := 1) (HB0.out.trans (hb.mono HB0.out.size))); clear hb))
          refine wp_region_noPanic ?_
          refine wp_region_last_drew (S := (fun W' => CB W' w.heap.size 29 #[.int .i64 m, .int .i64 p0, .int .i64 p1, .bool o0, .bool true, .bool sp, .int .u32 (wd r 0), .int .u32 (wd r 1)] ∧ CB W' (w.heap.size + 1) 39 #[.int .i64 ci, .int .i64 cp, .int .i64 cg, .bool true])) [] (by kernel_rfl) ⟨HF1.out.drew, HC1.out.drew⟩ (fun hHeld => ?_)
          (try simp only [Array.replicate_succ, Array.replicate_zero, List.push_toArray, List.nil_append, List.cons_append])
          refine wpAnyF_take (i := 0) (v := ?_) (by kernel_rfl) (by kernel_rfl) rfl (by kernel_rfl) (by kernel_rfl) (by kernel_rfl) (fun _ _ _ h => h) (Or.inl ⟨by rfl, ?_⟩) (by assumption) ?_
          rotate_left
          · intro w' hSw; (try dsimp only at hSw); have f0 := hSw.1.cell 0; have f1 := hSw.1.cell 1; have f2 := hSw.1.cell 2; have f3 := hSw.1.cell 3; have f4 := hSw.1.cell 4; have f5 := hSw.1.cell 5; have f6 := hSw.1.cell 6; have f7 := hSw.1.cell 7; have c1 := hSw.2.cell 1; have c2 := hSw.2.cell 2; have c3 := hSw.2.cell 3; go_simp; (try with_reducible rfl)
          (try simp only [Act.put, List.getElem_toArray, List.getElem_cons_zero, List.setIfInBounds_toArray, List.set_cons_zero, List.set_cons_succ])
          refine wpAnyF_take (i := 1) (v := ?_) (by kernel_rfl) (by kernel_rfl) rfl (by kernel_rfl) (by kernel_rfl) (by kernel_rfl) (fun _ _ _ h => h) (Or.inl ⟨by rfl, ?_⟩) (by assumption) ?_
          rotate_left
          · intro w' hSw; (try dsimp only at hSw); have f0 := hSw.1.cell 0; have f1 := hSw.1.cell 1; have f2 := hSw.1.cell 2; have f3 := hSw.1.cell 3; have f4 := hSw.1.cell 4; have f5 := hSw.1.cell 5; have f6 := hSw.1.cell 6; have f7 := hSw.1.cell 7; have c1 := hSw.2.cell 1; have c2 := hSw.2.cell 2; have c3 := hSw.2.cell 3; go_simp; (try with_reducible rfl)
          (try simp only [Act.put, List.getElem_toArray, List.getElem_cons_zero, List.getElem_cons_succ, List.setIfInBounds_toArray, List.set_cons_zero, List.set_cons_succ])
          refine wpAnyF_take (i := 2) (v := ?_) (by kernel_rfl) (by kernel_rfl) rfl (by kernel_rfl) (by kernel_rfl) (by kernel_rfl) (fun _ _ _ h => h) (Or.inl ⟨by rfl, ?_⟩) (by assumption) ?_
          rotate_left
          · intro w' hSw; (try dsimp only at hSw); have f0 := hSw.1.cell 0; have f1 := hSw.1.cell 1; have f2 := hSw.1.cell 2; have f3 := hSw.1.cell 3; have f4 := hSw.1.cell 4; have f5 := hSw.1.cell 5; have f6 := hSw.1.cell 6; have f7 := hSw.1.cell 7; have c1 := hSw.2.cell 1; have c2 := hSw.2.cell 2; have c3 := hSw.2.cell 3; go_simp; (try with_reducible rfl)
          (try simp only [Act.put, List.getElem_toArray, List.getElem_cons_zero, List.getElem_cons_succ, List.setIfInBounds_toArray, List.set_cons_zero, List.set_cons_succ])
          refine wpAnyF_take (i := 3) (v := ?_) (by kernel_rfl) (by kernel_rfl) rfl (by kernel_rfl) (by kernel_rfl) (by kernel_rfl) (fun _ _ _ h => h) (Or.inl ⟨by rfl, ?_⟩) (by assumption) ?_
          rotate_left
          · intro w' hSw; (try dsimp only at hSw); have f0 := hSw.1.cell 0; have f1 := hSw.1.cell 1; have f2 := hSw.1.cell 2; have f3 := hSw.1.cell 3; have f4 := hSw.1.cell 4; have f5 := hSw.1.cell 5; have f6 := hSw.1.cell 6; have f7 := hSw.1.cell 7; have c1 := hSw.2.cell 1; have c2 := hSw.2.cell 2; have c3 := hSw.2.cell 3; go_simp; (try with_reducible rfl)
          (try simp only [Act.put, List.getElem_toArray, List.getElem_cons_zero, List.getElem_cons_succ, List.setIfInBounds_toArray, List.set_cons_zero, List.set_cons_succ])
          refine wpAnyF_take (i := 4) (v := ?_) (by kernel_rfl) (by kernel_rfl) rfl (by kernel_rfl) (by kernel_rfl) (by kernel_rfl) (fun _ _ _ h => h) (Or.inl ⟨by rfl, ?_⟩) (by assumption) ?_
          rotate_left
          · intro w' hSw; (try dsimp only at hSw); have f0 := hSw.1.cell 0; have f1 := hSw.1.cell 1; have f2 := hSw.1.cell 2; have f3 := hSw.1.cell 3; have f4 := hSw.1.cell 4; have f5 := hSw.1.cell 5; have f6 := hSw.1.cell 6; have f7 := hSw.1.cell 7; have c1 := hSw.2.cell 1; have c2 := hSw.2.cell 2; have c3 := hSw.2.cell 3; go_simp; (try with_reducible rfl)
          (try simp only [Act.put, List.getElem_toArray, List.getElem_cons_zero, List.getElem_cons_succ, List.setIfInBounds_toArray, List.set_cons_zero, List.set_cons_succ])
          refine wpAnyF_take (i := 6) (v := ?_) (by kernel_rfl) (by kernel_rfl) rfl (by kernel_rfl) (by kernel_rfl) (by kernel_rfl) (fun _ _ _ h => h) (Or.inl ⟨by rfl, ?_⟩) (by assumption) ?_
          rotate_left
          · intro w' hSw; (try dsimp only at hSw); have f0 := hSw.1.cell 0; have f1 := hSw.1.cell 1; have f2 := hSw.1.cell 2; have f3 := hSw.1.cell 3; have f4 := hSw.1.cell 4; have f5 := hSw.1.cell 5; have f6 := hSw.1.cell 6; have f7 := hSw.1.cell 7; have c1 := hSw.2.cell 1; have c2 := hSw.2.cell 2; have c3 := hSw.2.cell 3; go_simp; (try with_reducible rfl)
          (try simp only [Act.put, List.getElem_toArray, List.getElem_cons_zero, List.getElem_cons_succ, List.setIfInBounds_toArray, List.set_cons_zero, List.set_cons_succ])
          refine wpAnyF_ready (rs := [5]) (by kernel_rfl) (by simp) ?_
          refine AllReadyF.cons rfl (fun KK hKK => ?_) AllReadyF.nil
          go_simp
          ((with_reducible refine (HI.out _).mono ?_); rintro e' w2 ⟨rfl, rfl⟩; have hSS := hHeld)
          (try go_simp)
          refine hKK.out _ _ hSS (fun hHeld => ?_)
          clear hKK KK
          (try simp only [Act.put, List.getElem_toArray, List.getElem_cons_zero, List.getElem_cons_succ, List.setIfInBounds_toArray, List.set_cons_zero, List.set_cons_succ])
          refine wpAnyF_take (i := 7) (v := ?_) (by kernel_rfl) (by kernel_rfl) rfl (by kernel_rfl) (by kernel_rfl) (by kernel_rfl) (fun _ _ _ h => h) (Or.inl ⟨by rfl, ?_⟩) (by assumption) ?_
          rotate_left
          · intro w' hSw; (try dsimp only at hSw); have f0 := hSw.1.cell 0; have f1 := hSw.1.cell 1; have f2 := hSw.1.cell 2; have f3 := hSw.1.cell 3; have f4 := hSw.1.cell 4; have f5 := hSw.1.cell 5; have f6 := hSw.1.cell 6; have f7 := hSw.1.cell 7; have c1 := hSw.2.cell 1; have c2 := hSw.2.cell 2; have c3 := hSw.2.cell 3; go_simp; (try with_reducible rfl)
          (try simp only [Act.put, List.getElem_toArray, List.getElem_cons_zero, List.getElem_cons_succ, List.setIfInBounds_toArray, List.set_cons_zero, List.set_cons_succ])
          refine wpAnyF_take (i := 8) (v := ?_) (by kernel_rfl) (by kernel_rfl) rfl (by kernel_rfl) (by kernel_rfl) (by kernel_rfl) (fun _ _ _ h => h) (Or.inl ⟨by rfl, ?_⟩) (by assumption) ?_
          rotate_left
          · intro w' hSw; (try dsimp only at hSw); have f0 := hSw.1.cell 0; have f1 := hSw.1.cell 1; have f2 := hSw.1.cell 2; have f3 := hSw.1.cell 3; have f4 := hSw.1.cell 4; have f5 := hSw.1.cell 5; have f6 := hSw.1.cell 6; have f7 := hSw.1.cell 7; have c1 := hSw.2.cell 1; have c2 := hSw.2.cell 2; have c3 := hSw.2.cell 3; go_simp; (try with_reducible rfl)
          (try simp only [Act.put, List.getElem_toArray, List.getElem_cons_zero, List.getElem_cons_succ, List.setIfInBounds_toArray, List.set_cons_zero, List.set_cons_succ])
          refine wpAnyF_take (i := 9) (v := ?_) (by kernel_rfl) (by kernel_rfl) rfl (by kernel_rfl) (by kernel_rfl) (by kernel_rfl) (fun _ _ _ h => h) (Or.inl ⟨by rfl, ?_⟩) (by assumption) ?_
          rotate_left
          · intro w' hSw; (try dsimp only at hSw); have f0 := hSw.1.cell 0; have f1 := hSw.1.cell 1; have f2 := hSw.1.cell 2; have f3 := hSw.1.cell 3; have f4 := hSw.1.cell 4; have f5 := hSw.1.cell 5; have f6 := hSw.1.cell 6; have f7 := hSw.1.cell 7; have c1 := hSw.2.cell 1; have c2 := hSw.2.cell 2; have c3 := hSw.2.cell 3; go_simp; (try with_reducible rfl)
          (try simp only [Act.put, List.getElem_toArray, List.getElem_cons_zero, List.getElem_cons_succ, List.setIfInBounds_toArray, List.set_cons_zero, List.set_cons_succ])
          refine wpAnyF_take (i := 10) (v := ?_) (by kernel_rfl) (by kernel_rfl) rfl (by kernel_rfl) (by kernel_rfl) (by kernel_rfl) (fun _ _ _ h => h) (Or.inl ⟨by rfl, ?_⟩) (by assumption) ?_
          rotate_left
          · intro w' hSw; (try dsimp only at hSw); have f0 := hSw.1.cell 0; have f1 := hSw.1.cell 1; have f2 := hSw.1.cell 2; have f3 := hSw.1.cell 3; have f4 := hSw.1.cell 4; have f5 := hSw.1.cell 5; have f6 := hSw.1.cell 6; have f7 := hSw.1.cell 7; have c1 := hSw.2.cell 1; have c2 := hSw.2.cell 2; have c3 := hSw.2.cell 3; go_simp; (try with_reducible rfl)
          (try simp only [Act.put, List.getElem_toArray, List.getElem_cons_zero, List.getElem_cons_succ, List.setIfInBounds_toArray, List.set_cons_zero, List.set_cons_succ])
          refine wpAnyF_take (i := 11) (v := ?_) (by kernel_rfl) (by kernel_rfl) rfl (by kernel_rfl) (by kernel_rfl) (by kernel_rfl) (fun _ _ _ h => h) (Or.inl ⟨by rfl, ?_⟩) (by assumption) ?_
          rotate_left
          · intro w' hSw; (try dsimp only at hSw); have f0 := hSw.1.cell 0; have f1 := hSw.1.cell 1; have f2 := hSw.1.cell 2; have f3 := hSw.1.cell 3; have f4 := hSw.1.cell 4; have f5 := hSw.1.cell 5; have f6 := hSw.1.cell 6; have f7 := hSw.1.cell 7; have c1 := hSw.2.cell 1; have c2 := hSw.2.cell 2; have c3 := hSw.2.cell 3; go_simp; (try with_reducible rfl)
          (try simp only [Act.put, List.getElem_toArray, List.getElem_cons_zero, List.getElem_cons_succ, List.setIfInBounds_toArray, List.set_cons_zero, List.set_cons_succ])
          refine wpAnyF_take (i := 12) (v := ?_) (by kernel_rfl) (by kernel_rfl) rfl (by kernel_rfl) (by kernel_rfl) (by kernel_rfl) (fun _ _ _ h => h) (Or.inl ⟨by rfl, ?_⟩) (by assumption) ?_
          rotate_left
          · intro w' hSw; (try dsimp only at hSw); have f0 := hSw.1.cell 0; have f1 := hSw.1.cell 1; have f2 := hSw.1.cell 2; have f3 := hSw.1.cell 3; have f4 := hSw.1.cell 4; have f5 := hSw.1.cell 5; have f6 := hSw.1.cell 6; have f7 := hSw.1.cell 7; have c1 := hSw.2.cell 1; have c2 := hSw.2.cell 2; have c3 := hSw.2.cell 3; go_simp; (try with_reducible rfl)
          (try simp only [Act.put, List.getElem_toArray, List.getElem_cons_zero, List.getElem_cons_succ, List.setIfInBounds_toArray, List.set_cons_zero, List.set_cons_succ])
          refine wpAnyF_take (i := 13) (v := ?_) (by kernel_rfl) (by kernel_rfl) rfl (by kernel_rfl) (by kernel_rfl) (by kernel_rfl) (fun _ _ _ h => h) (Or.inl ⟨by rfl, ?_⟩) (by assumption) ?_
          rotate_left
          · intro w' hSw; (try dsimp only at hSw); have f0 := hSw.1.cell 0; have f1 := hSw.1.cell 1; have f2 := hSw.1.cell 2; have f3 := hSw.1.cell 3; have f4 := hSw.1.cell 4; have f5 := hSw.1.cell 5; have f6 := hSw.1.cell 6; have f7 := hSw.1.cell 7; have c1 := hSw.2.cell 1; have c2 := hSw.2.cell 2; have c3 := hSw.2.cell 3; go_simp; (try with_reducible rfl)
          (try simp only [Act.put, List.getElem_toArray, List.getElem_cons_zero, List.getElem_cons_succ, List.setIfInBounds_toArray, List.set_cons_zero, List.set_cons_succ])
          refine wpAnyF_take (i := 14) (v := ?_) (by kernel_rfl) (by kernel_rfl) rfl (by kernel_rfl) (by kernel_rfl) (by kernel_rfl) (fun _ _ _ h => h) (Or.inl ⟨by rfl, ?_⟩) (by assumption) ?_
          rotate_left
          · intro w' hSw; (try dsimp only at hSw); have f0 := hSw.1.cell 0; have f1 := hSw.1.cell 1; have f2 := hSw.1.cell 2; have f3 := hSw.1.cell 3; have f4 := hSw.1.cell 4; have f5 := hSw.1.cell 5; have f6 := hSw.1.cell 6; have f7 := hSw.1.cell 7; have c1 := hSw.2.cell 1; have c2 := hSw.2.cell 2; have c3 := hSw.2.cell 3; go_simp; (try with_reducible rfl)
          (try simp only [Act.put, List.getElem_toArray, List.getElem_cons_zero, List.getElem_cons_succ, List.setIfInBounds_toArray, List.set_cons_zero, List.set_cons_succ])
          refine wpAnyF_ready (rs := [15]) (by kernel_rfl) (by simp) ?_
          refine AllReadyF.cons rfl (fun KK hKK => ?_) AllReadyF.nil
          go_simp
          ((with_reducible refine (HP.out _).mono ?_); rintro e' w3 ⟨rfl, rfl⟩; have hSS := hHeld)
          (try go_simp)
          refine hKK.out _ _ hSS (fun hHeld => ?_)
          clear hKK KK
          (try simp only [Act.put, List.getElem_toArray, List.getElem_cons_zero, List.getElem_cons_succ, List.setIfInBounds_toArray, List.set_cons_zero, List.set_cons_succ])
          refine wpAnyF_take (i := 16) (v := ?_) (by kernel_rfl) (by kernel_rfl) rfl (by kernel_rfl) (by kernel_rfl) (by kernel_rfl) (fun _ _ _ h => h) (Or.inl ⟨by rfl, ?_⟩) (by assumption) ?_
          rotate_left
          · intro w' hSw; (try dsimp only at hSw); have f0 := hSw.1.cell 0; have f1 := hSw.1.cell 1; have f2 := hSw.1.cell 2; have f3 := hSw.1.cell 3; have f4 := hSw.1.cell 4; have f5 := hSw.1.cell 5; have f6 := hSw.1.cell 6; have f7 := hSw.1.cell 7; have c1 := hSw.2.cell 1; have c2 := hSw.2.cell 2; have c3 := hSw.2.cell 3; go_simp; (try with_reducible rfl)
          (try simp only [Act.put, List.getElem_toArray, List.getElem_cons_zero, List.getElem_cons_succ, List.setIfInBounds_toArray, List.set_cons_zero, List.set_cons_succ])
          refine wpAnyF_take (i := 17) (v := ?_) (by kernel_rfl) (by kernel_rfl) rfl (by kernel_rfl) (by kernel_rfl) (by kernel_rfl) (fun _ _ _ h => h) (Or.inl ⟨by rfl, ?_⟩) (by assumption) ?_
          rotate_left
          · intro w' hSw; (try dsimp only at hSw); have f0 := hSw.1.cell 0; have f1 := hSw.1.cell 1; have f2 := hSw.1.cell 2; have f3 := hSw.1.cell 3; have f4 := hSw.1.cell 4; have f5 := hSw.1.cell 5; have f6 := hSw.1.cell 6; have f7 := hSw.1.cell 7; have c1 := hSw.2.cell 1; have c2 := hSw.2.cell 2; have c3 := hSw.2.cell 3; go_simp; (try with_reducible rfl)
          (try simp only [Act.put, List.getElem_toArray, List.getElem_cons_zero, List.getElem_cons_succ, List.setIfInBounds_toArray, List.set_cons_zero, List.set_cons_succ])
          refine wpAnyF_take (i := 18) (v := undef) (by kernel_rfl) (by kernel_rfl) rfl (by kernel_rfl) (by kernel_rfl) (by kernel_rfl) (fun _ _ _ h => h) (Or.inr ⟨by rfl, rfl⟩) (by assumption) ?_
          (try simp only [Act.put, List.getElem_toArray, List.getElem_cons_zero, List.getElem_cons_succ, List.setIfInBounds_toArray, List.set_cons_zero, List.set_cons_succ])
          refine wpAnyF_take (i := 19) (v := undef) (by kernel_rfl) (by kernel_rfl) rfl (by kernel_rfl) (by kernel_rfl) (by kernel_rfl) (fun _ _ _ h => h) (Or.inr ⟨by rfl, rfl⟩) (by assumption) ?_
          (try simp only [Act.put, List.getElem_toArray, List.getElem_cons_zero, List.getElem_cons_succ, List.setIfInBounds_toArray, List.set_cons_zero, List.set_cons_succ])
          refine wpAnyF_take (i := 20) (v := undef) (by kernel_rfl) (by kernel_rfl) rfl (by kernel_rfl) (by kernel_rfl) (by kernel_rfl) (fun _ _ _ h => h) (Or.inr ⟨by rfl, rfl⟩) (by assumption) ?_
          (try simp only [Act.put, List.getElem_toArray, List.getElem_cons_zero, List.getElem_cons_succ, List.setIfInBounds_toArray, List.set_cons_zero, List.set_cons_succ])
          refine wpAnyF_take (i := 21) (v := undef) (by kernel_rfl) (by kernel_rfl) rfl (by kernel_rfl) (by kernel_rfl) (by kernel_rfl) (fun _ _ _ h => h) (Or.inr ⟨by rfl, rfl⟩) (by assumption) ?_
          (try simp only [Act.put, List.getElem_toArray, List.getElem_cons_zero, List.getElem_cons_succ, List.setIfInBounds_toArray, List.set_cons_zero, List.set_cons_succ])
          refine wpAnyF_take (i := 22) (v := undef) (by kernel_rfl) (by kernel_rfl) rfl (by kernel_rfl) (by kernel_rfl) (by kernel_rfl) (fun _ _ _ h => h) (Or.inr ⟨by rfl, rfl⟩) (by assumption) ?_
          (try simp only [Act.put, List.getElem_toArray, List.getElem_cons_zero, List.getElem_cons_succ, List.setIfInBounds_toArray, List.set_cons_zero, List.set_cons_succ])
          refine wpAnyF_take (i := 23) (v := undef) (by kernel_rfl) (by kernel_rfl) rfl (by kernel_rfl) (by kernel_rfl) (by kernel_rfl) (fun _ _ _ h => h) (Or.inr ⟨by rfl, rfl⟩) (by assumption) ?_
          (try simp only [Act.put, List.getElem_toArray, List.getElem_cons_zero, List.getElem_cons_succ, List.setIfInBounds_toArray, List.set_cons_zero, List.set_cons_succ])
          refine wpAnyF_take (i := 24) (v := undef) (by kernel_rfl) (by kernel_rfl) rfl (by kernel_rfl) (by kernel_rfl) (by kernel_rfl) (fun _ _ _ h => h) (Or.inr ⟨by rfl, rfl⟩) (by assumption) ?_
          (try simp only [Act.put, List.getElem_toArray, List.getElem_cons_zero, List.getElem_cons_succ, List.setIfInBounds_toArray, List.set_cons_zero, List.set_cons_succ])
          refine wpAnyF_take (i := 25) (v := undef) (by kernel_rfl) (by kernel_rfl) rfl (by kernel_rfl) (by kernel_rfl) (by kernel_rfl) (fun _ _ _ h => h) (Or.inr ⟨by rfl, rfl⟩) (by assumption) ?_
          (try simp only [Act.put, List.getElem_toArray, List.getElem_cons_zero, List.getElem_cons_succ, List.setIfInBounds_toArray, List.set_cons_zero, List.set_cons_succ])
          refine wpAnyF_take (i := 26) (v := ?_) (by kernel_rfl) (by kernel_rfl) rfl (by kernel_rfl) (by kernel_rfl) (by kernel_rfl) (fun _ _ _ h => h) (Or.inl ⟨by rfl, ?_⟩) (by assumption) ?_
          rotate_left
          · intro w' hSw; (try dsimp only at hSw); have f0 := hSw.1.cell 0; have f1 := hSw.1.cell 1; have f2 := hSw.1.cell 2; have f3 := hSw.1.cell 3; have f4 := hSw.1.cell 4; have f5 := hSw.1.cell 5; have f6 := hSw.1.cell 6; have f7 := hSw.1.cell 7; have c1 := hSw.2.cell 1; have c2 := hSw.2.cell 2; have c3 := hSw.2.cell 3; go_simp; (try with_reducible rfl)
          (try simp only [Act.put, List.getElem_toArray, List.getElem_cons_zero, List.getElem_cons_succ, List.setIfInBounds_toArray, List.set_cons_zero, List.set_cons_succ])
          refine wpAnyF_take (i := 27) (v := ?_) (by kernel_rfl) (by kernel_rfl) rfl (by kernel_rfl) (by kernel_rfl) (by kernel_rfl) (fun _ _ _ h => h) (Or.inl ⟨by rfl, ?_⟩) (by assumption) ?_
          rotate_left
          · intro w' hSw; (try dsimp only at hSw); have f0 := hSw.1.cell 0; have f1 := hSw.1.cell 1; have f2 := hSw.1.cell 2; have f3 := hSw.1.cell 3; have f4 := hSw.1.cell 4; have f5 := hSw.1.cell 5; have f6 := hSw.1.cell 6; have f7 := hSw.1.cell 7; have c1 := hSw.2.cell 1; have c2 := hSw.2.cell 2; have c3 := hSw.2.cell 3; go_simp; (try with_reducible rfl)
          (try simp only [Act.put, List.getElem_toArray, List.getElem_cons_zero, List.getElem_cons_succ, List.setIfInBounds_toArray, List.set_cons_zero, List.set_cons_succ])
          refine wpAnyF_done (by kernel_rfl) ?_ _
          refine NoPanic.normal ?_
          go_wp2
          go_ret
          exact ⟨by rw [HV.out]; rfl, HBX.out⟩
        · go_enter Try.func15, Try.ntmps15
          go_wp2_with (go_at_call 28; ((with_reducible refine (HR.out _).mono ?_); rintro e w1 ⟨rfl, hb⟩; have HF1 := hi (HF0.out.below hb); have HC1 := hi (HC0.out.below hb); have HBX := hi (show Below w.heap.size w w1.drew from Below.drewN (m := 1) (HB0.out.trans (hb.mono HB0.out.size))); clear hb))
          refine wp_region_noPanic ?_
          refine wp_region_last_drew (S := (fun W' => CB W' w.heap.size 29 #[.int .i64 m, .int .i64 p0, .int .i64 p1, .bool o0, .bool true, .bool sp, .int .u32 (wd r 0), .int .u32 (wd r 1)] ∧ CB W' (w.heap.size + 1) 39 #[.int .i64 ci, .int .i64 cp, .int .i64 cg, .bool true])) [] (by kernel_rfl) ⟨HF1.out.drew, HC1.out.drew⟩ (fun hHeld => ?_)
          (try simp only [Array.replicate_succ, Array.replicate_zero, List.push_toArray, List.nil_append, List.cons_append])
          refine wpAnyF_take (i := 0) (v := ?_) (by kernel_rfl) (by kernel_rfl) rfl (by kernel_rfl) (by kernel_rfl) (by kernel_rfl) (fun _ _ _ h => h) (Or.inl ⟨by rfl, ?_⟩) (by assumption) ?_
          rotate_left
          · intro w' hSw; (try dsimp only at hSw); have f0 := hSw.1.cell 0; have f1 := hSw.1.cell 1; have f2 := hSw.1.cell 2; have f3 := hSw.1.cell 3; have f4 := hSw.1.cell 4; have f5 := hSw.1.cell 5; have f6 := hSw.1.cell 6; have f7 := hSw.1.cell 7; have c1 := hSw.2.cell 1; have c2 := hSw.2.cell 2; have c3 := hSw.2.cell 3; go_simp; (try with_reducible rfl)
          (try simp only [Act.put, List.getElem_toArray, List.getElem_cons_zero, List.setIfInBounds_toArray, List.set_cons_zero, List.set_cons_succ])
          refine wpAnyF_take (i := 1) (v := ?_) (by kernel_rfl) (by kernel_rfl) rfl (by kernel_rfl) (by kernel_rfl) (by kernel_rfl) (fun _ _ _ h => h) (Or.inl ⟨by rfl, ?_⟩) (by assumption) ?_
          rotate_left
          · intro w' hSw; (try dsimp only at hSw); have f0 := hSw.1.cell 0; have f1 := hSw.1.cell 1; have f2 := hSw.1.cell 2; have f3 := hSw.1.cell 3; have f4 := hSw.1.cell 4; have f5 := hSw.1.cell 5; have f6 := hSw.1.cell 6; have f7 := hSw.1.cell 7; have c1 := hSw.2.cell 1; have c2 := hSw.2.cell 2; have c3 := hSw.2.cell 3; go_simp; (try with_reducible rfl)
          (try simp only [Act.put, List.getElem_toArray, List.getElem_cons_zero, List.getElem_cons_succ, List.setIfInBounds_toArray, List.set_cons_zero, List.set_cons_succ])
          refine wpAnyF_take (i := 2) (v := ?_) (by kernel_rfl) (by kernel_rfl) rfl (by kernel_rfl) (by kernel_rfl) (by kernel_rfl) (fun _ _ _ h => h) (Or.inl ⟨by rfl, ?_⟩) (by assumption) ?_
          rotate_left
          · intro w' hSw; (try dsimp only at hSw); have f0 := hSw.1.cell 0; have f1 := hSw.1.cell 1; have f2 := hSw.1.cell 2; have f3 := hSw.1.cell 3; have f4 := hSw.1.cell 4; have f5 := hSw.1.cell 5; have f6 := hSw.1.cell 6; have f7 := hSw.1.cell 7; have c1 := hSw.2.cell 1; have c2 := hSw.2.cell 2; have c3 := hSw.2.cell 3; go_simp; (try with_reducible rfl)
          (try simp only [Act.put, List.getElem_toArray, List.getElem_cons_zero, List.getElem_cons_succ, List.setIfInBounds_toArray, List.set_cons_zero, List.set_cons_succ])
          refine wpAnyF_take (i := 3) (v := ?_) (by kernel_rfl) (by kernel_rfl) rfl (by kernel_rfl) (by kernel_rfl) (by kernel_rfl) (fun _ _ _ h => h) (Or.inl ⟨by rfl, ?_⟩) (by assumption) ?_
          rotate_left
          · intro w' hSw; (try dsimp only at hSw); have f0 := hSw.1.cell 0; have f1 := hSw.1.cell 1; have f2 := hSw.1.cell 2; have f3 := hSw.1.cell 3; have f4 := hSw.1.cell 4; have f5 := hSw.1.cell 5; have f6 := hSw.1.cell 6; have f7 := hSw.1.cell 7; have c1 := hSw.2.cell 1; have c2 := hSw.2.cell 2; have c3 := hSw.2.cell 3; go_simp; (try with_reducible rfl)
          (try simp only [Act.put, List.getElem_toArray, List.getElem_cons_zero, List.getElem_cons_succ, List.setIfInBounds_toArray, List.set_cons_zero, List.set_cons_succ])
          refine wpAnyF_take (i := 4) (v := ?_) (by kernel_rfl) (by kernel_rfl) rfl (by kernel_rfl) (by kernel_rfl) (by kernel_rfl) (fun _ _ _ h => h) (Or.inl ⟨by rfl, ?_⟩) (by assumption) ?_
          rotate_left
          · intro w' hSw; (try dsimp only at hSw); have f0 := hSw.1.cell 0; have f1 := hSw.1.cell 1; have f2 := hSw.1.cell 2; have f3 := hSw.1.cell 3; have f4 := hSw.1.cell 4; have f5 := hSw.1.cell 5; have f6 := hSw.1.cell 6; have f7 := hSw.1.cell 7; have c1 := hSw.2.cell 1; have c2 := hSw.2.cell 2; have c3 := hSw.2.cell 3; go_simp; (try with_reducible rfl)
          (try simp only [Act.put, List.getElem_toArray, List.getElem_cons_zero, List.getElem_cons_succ, List.setIfInBounds_toArray, List.set_cons_zero, List.set_cons_succ])
          refine wpAnyF_take (i := 6) (v := ?_) (by kernel_rfl) (by kernel_rfl) rfl (by kernel_rfl) (by kernel_rfl) (by kernel_rfl) (fun _ _ _ h => h) (Or.inl ⟨by rfl, ?_⟩) (by assumption) ?_
          rotate_left
          · intro w' hSw; (try dsimp only at hSw); have f0 := hSw.1.cell 0; have f1 := hSw.1.cell 1; have f2 := hSw.1.cell 2; have f3 := hSw.1.cell 3; have f4 := hSw.1.cell 4; have f5 := hSw.1.cell 5; have f6 := hSw.1.cell 6; have f7 := hSw.1.cell 7; have c1 := hSw.2.cell 1; have c2 := hSw.2.cell 2; have c3 := hSw.2.cell 3; go_simp; (try with_reducible rfl)
          (try simp only [Act.put, List.getElem_toArray, List.getElem_cons_zero, List.getElem_cons_succ, List.setIfInBounds_toArray, List.set_cons_zero, List.set_cons_succ])
          refine wpAnyF_ready (rs := [5]) (by kernel_rfl) (by simp) ?_
          refine AllReadyF.cons rfl (fun KK hKK => ?_) AllReadyF.nil
          go_simp
          ((with_reducible refine (HI.out _).mono ?_); rintro e' w2 ⟨rfl, rfl⟩; have hSS := hHeld)
          (try go_simp)
          refine hKK.out _ _ hSS (fun hHeld => ?_)
          clear hKK KK
          (try simp only [Act.put, List.getElem_toArray, List.getElem_cons_zero, List.getElem_cons_succ, List.setIfInBounds_toArray, List.set_cons_zero, List.set_cons_succ])
          refine wpAnyF_take (i := 7) (v := ?_) (by kernel_rfl) (by kernel_rfl) rfl (by kernel_rfl) (by kernel_rfl) (by kernel_rfl) (fun _ _ _ h => h) (Or.inl ⟨by rfl, ?_⟩) (by assumption) ?_
          rotate_left
          · intro w' hSw; (try dsimp only at hSw); have f0 := hSw.1.cell 0; have f1 := hSw.1.cell 1; have f2 := hSw.1.cell 2; have f3 := hSw.1.cell 3; have f4 := hSw.1.cell 4; have f5 := hSw.1.cell 5; have f6 := hSw.1.cell 6; have f7 := hSw.1.cell 7; have c1 := hSw.2.cell 1; have c2 := hSw.2.cell 2; have c3 := hSw.2.cell 3; go_simp; (try with_reducible rfl)
          (try simp only [Act.put, List.getElem_toArray, List.getElem_cons_zero, List.getElem_cons_succ, List.setIfInBounds_toArray, List.set_cons_zero, List.set_cons_succ])
          refine wpAnyF_take (i := 8) (v := ?_) (by kernel_rfl) (by kernel_rfl) rfl (by kernel_rfl) (by kernel_rfl) (by kernel_rfl) (fun _ _ _ h => h) (Or.inl ⟨by rfl, ?_⟩) (by assumption) ?_
          rotate_left
          · intro w' hSw; (try dsimp only at hSw); have f0 := hSw.1.cell 0; have f1 := hSw.1.cell 1; have f2 := hSw.1.cell 2; have f3 := hSw.1.cell 3; have f4 := hSw.1.cell 4; have f5 := hSw.1.cell 5; have f6 := hSw.1.cell 6; have f7 := hSw.1.cell 7; have c1 := hSw.2.cell 1; have c2 := hSw.2.cell 2; have c3 := hSw.2.cell 3; go_simp; (try with_reducible rfl)
          (try simp only [Act.put, List.getElem_toArray, List.getElem_cons_zero, List.getElem_cons_succ, List.setIfInBounds_toArray, List.set_cons_zero, List.set_cons_succ])
          refine wpAnyF_take (i := 9) (v := ?_) (by kernel_rfl) (by kernel_rfl) rfl (by kernel_rfl) (by kernel_rfl) (by kernel_rfl) (fun _ _ _ h => h) (Or.inl ⟨by rfl, ?_⟩) (by assumption) ?_
          rotate_left
          · intro w' hSw; (try dsimp only at hSw); have f0 := hSw.1.cell 0; have f1 := hSw.1.cell 1; have f2 := hSw.1.cell 2; have f3 := hSw.1.cell 3; have f4 := hSw.1.cell 4; have f5 := hSw.1.cell 5; have f6 := hSw.1.cell 6; have f7 := hSw.1.cell 7; have c1 := hSw.2.cell 1; have c2 := hSw.2.cell 2; have c3 := hSw.2.cell 3; go_simp; (try with_reducible rfl)
          (try simp only [Act.put, List.getElem_toArray, List.getElem_cons_zero, List.getElem_cons_succ, List.setIfInBounds_toArray, List.set_cons_zero, List.set_cons_succ])
          refine wpAnyF_take (i := 10) (v := ?_) (by kernel_rfl) (by kernel_rfl) rfl (by kernel_rfl) (by kernel_rfl) (by kernel_rfl) (fun _ _ _ h => h) (Or.inl ⟨by rfl, ?_⟩) (by assumption) ?_
          rotate_left
          · intro w' hSw; (try dsimp only at hSw); have f0 := hSw.1.cell 0; have f1 := hSw.1.cell 1; have f2 := hSw.1.cell 2; have f3 := hSw.1.cell 3; have f4 := hSw.1.cell 4; have f5 := hSw.1.cell 5; have f6 := hSw.1.cell 6; have f7 := hSw.1.cell 7; have c1 := hSw.2.cell 1; have c2 := hSw.2.cell 2; have c3 := hSw.2.cell 3; go_simp; (try with_reducible rfl)
          (try simp only [Act.put, List.getElem_toArray, List.getElem_cons_zero, List.getElem_cons_succ, List.setIfInBounds_toArray, List.set_cons_zero, List.set_cons_succ])
          refine wpAnyF_take (i := 11) (v := ?_) (by kernel_rfl) (by kernel_rfl) rfl (by kernel_rfl) (by kernel_rfl) (by kernel_rfl) (fun _ _ _ h => h) (Or.inl ⟨by rfl, ?_⟩) (by assumption) ?_
          rotate_left
          · intro w' hSw; (try dsimp only at hSw); have f0 := hSw.1.cell 0; have f1 := hSw.1.cell 1; have f2 := hSw.1.cell 2; have f3 := hSw.1.cell 3; have f4 := hSw.1.cell 4; have f5 := hSw.1.cell 5; have f6 := hSw.1.cell 6; have f7 := hSw.1.cell 7; have c1 := hSw.2.cell 1; have c2 := hSw.2.cell 2; have c3 := hSw.2.cell 3; go_simp; (try with_reducible rfl)
          (try simp only [Act.put, List.getElem_toArray, List.getElem_cons_zero, List.getElem_cons_succ, List.setIfInBounds_toArray, List.set_cons_zero, List.set_cons_succ])
          refine wpAnyF_take (i := 12) (v := ?_) (by kernel_rfl) (by kernel_rfl) rfl (by kernel_rfl) (by kernel_rfl) (by kernel_rfl) (fun _ _ _ h => h) (Or.inl ⟨by rfl, ?_⟩) (by assumption) ?_
          rotate_left
          · intro w' hSw; (try dsimp only at hSw); have f0 := hSw.1.cell 0; have f1 := hSw.1.cell 1; have f2 := hSw.1.cell 2; have f3 := hSw.1.cell 3; have f4 := hSw.1.cell 4; have f5 := hSw.1.cell 5; have f6 := hSw.1.cell 6; have f7 := hSw.1.cell 7; have c1 := hSw.2.cell 1; have c2 := hSw.2.cell 2; have c3 := hSw.2.cell 3; go_simp; (try with_reducible rfl)
          (try simp only [Act.put, List.getElem_toArray, List.getElem_cons_zero, List.getElem_cons_succ, List.setIfInBounds_toArray, List.set_cons_zero, List.set_cons_succ])
          refine wpAnyF_take (i := 13) (v := ?_) (by kernel_rfl) (by kernel_rfl) rfl (by kernel_rfl) (by kernel_rfl) (by kernel_rfl) (fun _ _ _ h => h) (Or.inl ⟨by rfl, ?_⟩) (by assumption) ?_
          rotate_left
          · intro w' hSw; (try dsimp only at hSw); have f0 := hSw.1.cell 0; have f1 := hSw.1.cell 1; have f2 := hSw.1.cell 2; have f3 := hSw.1.cell 3; have f4 := hSw.1.cell 4; have f5 := hSw.1.cell 5; have f6 := hSw.1.cell 6; have f7 := hSw.1.cell 7; have c1 := hSw.2.cell 1; have c2 := hSw.2.cell 2; have c3 := hSw.2.cell 3; go_simp; (try with_reducible rfl)
          (try simp only [Act.put, List.getElem_toArray, List.getElem_cons_zero, List.getElem_cons_succ, List.setIfInBounds_toArray, List.set_cons_zero, List.set_cons_succ])
          refine wpAnyF_take (i := 14) (v := ?_) (by kernel_rfl) (by kernel_rfl) rfl (by kernel_rfl) (by kernel_rfl) (by kernel_rfl) (fun _ _ _ h => h) (Or.inl ⟨by rfl, ?_⟩) (by assumption) ?_
          rotate_left
          · intro w' hSw; (try dsimp only at hSw); have f0 := hSw.1.cell 0; have f1 := hSw.1.cell 1; have f2 := hSw.1.cell 2; have f3 := hSw.1.cell 3; have f4 := hSw.1.cell 4; have f5 := hSw.1.cell 5; have f6 := hSw.1.cell 6; have f7 := hSw.1.cell 7; have c1 := hSw.2.cell 1; have c2 := hSw.2.cell 2; have c3 := hSw.2.cell 3; go_simp; (try with_reducible rfl)
          (try simp only [Act.put, List.getElem_toArray, List.getElem_cons_zero, List.getElem_cons_succ, List.setIfInBounds_toArray, List.set_cons_zero, List.set_cons_succ])
          refine wpAnyF_ready (rs := [15]) (by kernel_rfl) (by simp) ?_
          refine AllReadyF.cons rfl (fun KK hKK => ?_) AllReadyF.nil
          go_simp
          ((with_reducible refine (HP.out _).mono ?_); rintro e' w3 ⟨rfl, rfl⟩; have hSS := hHeld)
          (try go_simp)
          refine hKK.out _ _ hSS (fun hHeld => ?_)
          clear hKK KK
          (try simp only [Act.put, List.getElem_toArray, List.getElem_cons_zero, List.getElem_cons_succ, List.setIfInBounds_toArray, List.set_cons_zero, List.set_cons_succ])
          refine wpAnyF_take (i := 16) (v := ?_) (by kernel_rfl) (by kernel_rfl) rfl (by kernel_rfl) (by kernel_rfl) (by kernel_rfl) (fun _ _ _ h => h) (Or.inl ⟨by rfl, ?_⟩) (by assumption) ?_
          rotate_left
          · intro w' hSw; (try dsimp only at hSw); have f0 := hSw.1.cell 0; have f1 := hSw.1.cell 1; have f2 := hSw.1.cell 2; have f3 := hSw.1.cell 3; have f4 := hSw.1.cell 4; have f5 := hSw.1.cell 5; have f6 := hSw.1.cell 6; have f7 := hSw.1.cell 7; have c1 := hSw.2.cell 1; have c2 := hSw.2.cell 2; have c3 := hSw.2.cell 3; go_simp; (try with_reducible rfl)
          (try simp only [Act.put, List.getElem_toArray, List.getElem_cons_zero, List.getElem_cons_succ, List.setIfInBounds_toArray, List.set_cons_zero, List.set_cons_succ])
          refine wpAnyF_take (i := 17) (v := ?_) (by kernel_rfl) (by kernel_rfl) rfl (by kernel_rfl) (by kernel_rfl) (by kernel_rfl) (fun _ _ _ h => h) (Or.inl ⟨by rfl, ?_⟩) (by assumption) ?_
          rotate_left
          · intro w' hSw; (try dsimp only at hSw); have f0 := hSw.1.cell 0; have f1 := hSw.1.cell 1; have f2 := hSw.1.cell 2; have f3 := hSw.1.cell 3; have f4 := hSw.1.cell 4; have f5 := hSw.1.cell 5; have f6 := hSw.1.cell 6; have f7 := hSw.1.cell 7; have c1 := hSw.2.cell 1; have c2 := hSw.2.cell 2; have c3 := hSw.2.cell 3; go_simp; (try with_reducible rfl)
          (try simp only [Act.put, List.getElem_toArray, List.getElem_cons_zero, List.getElem_cons_succ, List.setIfInBounds_toArray, List.set_cons_zero, List.set_cons_succ])
          refine wpAnyF_take (i := 18) (v := ?_) (by kernel_rfl) (by kernel_rfl) rfl (by kernel_rfl) (by kernel_rfl) (by kernel_rfl) (fun _ _ _ h => h) (Or.inl ⟨by rfl, ?_⟩) (by assumption) ?_
          rotate_left
          · intro w' hSw; (try dsimp only at hSw); have f0 := hSw.1.cell 0; have f1 := hSw.1.cell 1; have f2 := hSw.1.cell 2; have f3 := hSw.1.cell 3; have f4 := hSw.1.cell 4; have f5 := hSw.1.cell 5; have f6 := hSw.1.cell 6; have f7 := hSw.1.cell 7; have c1 := hSw.2.cell 1; have c2 := hSw.2.cell 2; have c3 := hSw.2.cell 3; go_simp; (try with_reducible rfl)
          (try simp only [Act.put, List.getElem_toArray, List.getElem_cons_zero, List.getElem_cons_succ, List.setIfInBounds_toArray, List.set_cons_zero, List.set_cons_succ])
          refine wpAnyF_take (i := 19) (v := ?_) (by kernel_rfl) (by kernel_rfl) rfl (by kernel_rfl) (by kernel_rfl) (by kernel_rfl) (fun _ _ _ h => h) (Or.inl ⟨by rfl, ?_⟩) (by assumption) ?_
          rotate_left
          · intro w' hSw; (try dsimp only at hSw); have f0 := hSw.1.cell 0; have f1 := hSw.1.cell 1; have f2 := hSw.1.cell 2; have f3 := hSw.1.cell 3; have f4 := hSw.1.cell 4; have f5 := hSw.1.cell 5; have f6 := hSw.1.cell 6; have f7 := hSw.1.cell 7; have c1 := hSw.2.cell 1; have c2 := hSw.2.cell 2; have c3 := hSw.2.cell 3; go_simp; (try with_reducible rfl)
          (try simp only [Act.put, List.getElem_toArray, List.getElem_cons_zero, List.getElem_cons_succ, List.setIfInBounds_toArray, List.set_cons_zero, List.set_cons_succ])
          refine wpAnyF_take (i := 20) (v := ?_) (by kernel_rfl) (by kernel_rfl) rfl (by kernel_rfl) (by kernel_rfl) (by kernel_rfl) (fun _ _ _ h => h) (Or.inl ⟨by rfl, ?_⟩) (by assumption) ?_
          rotate_left
          · intro w' hSw; (try dsimp only at hSw); have f0 := hSw.1.cell 0; have f1 := hSw.1.cell 1; have f2 := hSw.1.cell 2; have f3 := hSw.1.cell 3; have f4 := hSw.1.cell 4; have f5 := hSw.1.cell 5; have f6 := hSw.1.cell 6; have f7 := hSw.1.cell 7; have c1 := hSw.2.cell 1; have c2 := hSw.2.cell 2; have c3 := hSw.2.cell 3; go_simp; (try with_reducible rfl)
          (try simp only [Act.put, List.getElem_toArray, List.getElem_cons_zero, List.getElem_cons_succ, List.setIfInBounds_toArray, List.set_cons_zero, List.set_cons_succ])
          refine wpAnyF_take (i := 21) (v := ?_) (by kernel_rfl) (by kernel_rfl) rfl (by kernel_rfl) (by kernel_rfl) (by kernel_rfl) (fun _ _ _ h => h) (Or.inl ⟨by rfl, ?_⟩) (by assumption) ?_
          rotate_left
          · intro w' hSw; (try dsimp only at hSw); have f0 := hSw.1.cell 0; have f1 := hSw.1.cell 1; have f2 := hSw.1.cell 2; have f3 := hSw.1.cell 3; have f4 := hSw.1.cell 4; have f5 := hSw.1.cell 5; have f6 := hSw.1.cell 6; have f7 := hSw.1.cell 7; have c1 := hSw.2.cell 1; have c2 := hSw.2.cell 2; have c3 := hSw.2.cell 3; go_simp; (try with_reducible rfl)
          (try simp only [Act.put, List.getElem_toArray, List.getElem_cons_zero, List.getElem_cons_succ, List.setIfInBounds_toArray, List.set_cons_zero, List.set_cons_succ])
          refine wpAnyF_take (i := 22) (v := ?_) (by kernel_rfl) (by kernel_rfl) rfl (by kernel_rfl) (by kernel_rfl) (by kernel_rfl) (fun _ _ _ h => h) (Or.inl ⟨by rfl, ?_⟩) (by assumption) ?_
          rotate_left
          · intro w' hSw; (try dsimp only at hSw); have f0 := hSw.1.cell 0; have f1 := hSw.1.cell 1; have f2 := hSw.1.cell 2; have f3 := hSw.1.cell 3; have f4 := hSw.1.cell 4; have f5 := hSw.1.cell 5; have f6 := hSw.1.cell 6; have f7 := hSw.1.cell 7; have c1 := hSw.2.cell 1; have c2 := hSw.2.cell 2; have c3 := hSw.2.cell 3; go_simp; (try with_reducible rfl)
          (try simp only [Act.put, List.getElem_toArray, List.getElem_cons_zero, List.getElem_cons_succ, List.setIfInBounds_toArray, List.set_cons_zero, List.set_cons_succ])
          refine wpAnyF_take (i := 23) (v := ?_) (by kernel_rfl) (by kernel_rfl) rfl (by kernel_rfl) (by kernel_rfl) (by kernel_rfl) (fun _ _ _ h => h) (Or.inl ⟨by rfl, ?_⟩) (by assumption) ?_
          rotate_left
          · intro w' hSw; (try dsimp only at hSw); have f0 := hSw.1.cell 0; have f1 := hSw.1.cell 1; have f2 := hSw.1.cell 2; have f3 := hSw.1.cell 3; have f4 := hSw.1.cell 4; have f5 := hSw.1.cell 5; have f6 := hSw.1.cell 6; have f7 := hSw.1.cell 7; have c1 := hSw.2.cell 1; have c2 := hSw.2.cell 2; have c3 := hSw.2.cell 3; go_simp; (try with_reducible rfl)
          (try simp only [Act.put, List.getElem_toArray, List.getElem_cons_zero, List.getElem_cons_succ, List.setIfInBounds_toArray, List.set_cons_zero, List.set_cons_succ])
          refine wpAnyF_ready (rs := [24]) (by kernel_rfl) (by simp) ?_
          refine AllReadyF.cons rfl (fun KK hKK => ?_) AllReadyF.nil
          go_simp
          ((with_reducible refine (HL.out _).mono ?_); rintro e' w4 ⟨rfl, hb⟩; have HB4 := hi hb; have hSS := And.intro (hHeld.1.below hb) (hHeld.2.below hb); clear hb)
          (try go_simp)
          refine hKK.out _ _ hSS (fun hHeld => ?_)
          clear hKK KK
          (try simp only [Act.put, List.getElem_toArray, List.getElem_cons_zero, List.getElem_cons_succ, List.setIfInBounds_toArray, List.set_cons_zero, List.set_cons_succ])
          refine wpAnyF_ready (rs := [25]) (by kernel_rfl) (by simp) ?_
          refine AllReadyF.cons rfl (fun KK hKK => ?_) AllReadyF.nil
          go_simp
          ((with_reducible refine (HE.out _).mono ?_); rintro e' w5 ⟨rfl, rfl⟩; have hSS := hHeld)
          (try go_simp)
          refine hKK.out _ _ hSS (fun hHeld => ?_)
          clear hKK KK
          (try simp only [Act.put, List.getElem_toArray, List.getElem_cons_zero, List.getElem_cons_succ, List.setIfInBounds_toArray, List.set_cons_zero, List.set_cons_succ])
          refine wpAnyF_take (i := 26) (v := ?_) (by kernel_rfl) (by kernel_rfl) rfl (by kernel_rfl) (by kernel_rfl) (by kernel_rfl) (fun _ _ _ h => h) (Or.inl ⟨by rfl, ?_⟩) (by assumption) ?_
          rotate_left
          · intro w' hSw; (try dsimp only at hSw); have f0 := hSw.1.cell 0; have f1 := hSw.1.cell 1; have f2 := hSw.1.cell 2; have f3 := hSw.1.cell 3; have f4 := hSw.1.cell 4; have f5 := hSw.1.cell 5; have f6 := hSw.1.cell 6; have f7 := hSw.1.cell 7; have c1 := hSw.2.cell 1; have c2 := hSw.2.cell 2; have c3 := hSw.2.cell 3; go_simp; (try with_reducible rfl)
          (try simp only [Act.put, List.getElem_toArray, List.getElem_cons_zero, List.getElem_cons_succ, List.setIfInBounds_toArray, List.set_cons_zero, List.set_cons_succ])
          refine wpAnyF_take (i := 27) (v := ?_) (by kernel_rfl) (by kernel_rfl) rfl (by kernel_rfl) (by kernel_rfl) (by kernel_rfl) (fun _ _ _ h => h) (Or.inl ⟨by rfl, ?_⟩) (by assumption) ?_
          rotate_left
          · intro w' hSw; (try dsimp only at hSw); have f0 := hSw.1.cell 0; have f1 := hSw.1.cell 1; have f2 := hSw.1.cell 2; have f3 := hSw.1.cell 3; have f4 := hSw.1.cell 4; have f5 := hSw.1.cell 5; have f6 := hSw.1.cell 6; have f7 := hSw.1.cell 7; have c1 := hSw.2.cell 1; have c2 := hSw.2.cell 2; have c3 := hSw.2.cell 3; go_simp; (try with_reducible rfl)
          (try simp only [Act.put, List.getElem_toArray, List.getElem_cons_zero, List.getElem_cons_succ, List.setIfInBounds_toArray, List.set_cons_zero, List.set_cons_succ])
          refine wpAnyF_done (by kernel_rfl) ?_ _
          refine NoPanic.normal ?_
          go_wp2
          go_ret
          exact ⟨by rw [HV.out]; rfl, HBX.out.trans (HB4.out.mono HBX.out.size)⟩

end Go.Proofs.Ytnnlimjbmfpalaa
