/-
  Package cpuif: Shows, Take, Drop.
-/
import Derived.Test.YtnnlimjbmfpalaaCpA
namespace Go.Proofs.Ytnnlimjbmfpalaa
open Go.ChangeShapes Go.WideShapes Go.ChangeAt Go.RowKit Go.Shelf
set_option linter.unusedVariables false
attribute [local go_sem] Oper.semAt_some

theorem Kept.set {bs : Nat → Prop} {A W : World} (h : Kept bs A W) (p : Addr) (v : Value) (hb : bs p.block) : Kept bs A (W.setCell p v) :=
  h.trans (by
    have k := (Below.refl p.block W).setCell (p := p) (Nat.le_refl _) v
    exact ⟨k.os, k.tape, k.output, k.size, fun i hi hn => Below.heap_setCell W p v i (fun e => hn (by rw [e]; exact hb))⟩)
def showsV (x : Fc) (c : Cd) (g : Int) : Int := if c.is && (decide (c.g = g) && x.on g) then c.id else 1023
def takeV (x : Fc) (c : Cd) (g : Int) : Fc × Int × Bool :=
  if decide (c.g = g) && mayV x c then ({ x with r := put x.r (plc g (bits .and .i64 c.p (levV x g))) true }, c.id, true) else (x, 1023, false)
def dropV (x : Fc) (g : Int) : Fc × Bool := if dropB x.r && decide ((runV x.r).2 = g) then ({ x with r := dropR x.r }, true) else (x, false)
/-- What an act leaves: the interface in block b. -/
structure FcAf (w : World) (b : Nat) (x : Fc) (W : World) : Prop where
  bx : CB W b 29 x.cs
  kept : Kept (· = b) w W

theorem shows_any (x : Fc) (c : Cd) (g : Int) (w : World) : Calls Try.prog 17 #[x.v, c.v, .int .i64 g] w fun e w' => e = .returned (.int .i64 (showsV x c g)) ∧ Below w.heap.size w w' := by
  have HI := hi (fun W => index_any g W)
  obtain ⟨m, p0, p1, o0, o1, sp, r⟩ := x
  obtain ⟨ci, cp, cg, cis⟩ := c
  unfold showsV Fc.on
  dsimp only
  have HB0 := hi (bal_two w (.cells #[.int .i64 m, .int .i64 p0, .int .i64 p1, .bool o0, .bool o1, .bool sp, .int .u32 (wd r 0), .int .u32 (wd r 1)] 29) (.cells #[.int .i64 ci, .int .i64 cp, .int .i64 cg, .bool cis] 39))
  have HF0 := (CB.new w 29 #[.int .i64 m, .int .i64 p0, .int .i64 p1, .bool o0, .bool o1, .bool sp, .int .u32 (wd r 0), .int .u32 (wd r 1)]).alloc (.cells #[.int .i64 ci, .int .i64 cp, .int .i64 cg, .bool cis] 39)
  have HC0 := cb_second (w := w) (o := .cells #[.int .i64 m, .int .i64 p0, .int .i64 p1, .bool o0, .bool o1, .bool sp, .int .u32 (wd r 0), .int .u32 (wd r 1)] 29) (cs := #[.int .i64 ci, .int .i64 cp, .int .i64 cg, .bool cis]) (t := 39)
  have f3 := HF0.cell 3
  have f4 := HF0.cell 4
  have c0 := HC0.cell 0
  have c2 := HC0.cell 2
  have c3 := HC0.cell 3
  clear HF0 HC0
  obtain ⟨z, hz⟩ : ∃ z : Int, ((gO g : Nat) : Int) = z := ⟨_, rfl⟩
  rw [hz] at HI
  rcases (show (z = 0 ∧ gO g = 0) ∨ (z = 1 ∧ gO g = 1) from by rcases gO_two g with h | h <;> omega) with ⟨rfl, hg⟩ | ⟨rfl, hg⟩
  all_goals
    rw [hg]
    simp only [if_true, Nat.one_ne_zero, if_false]
    clear hg hz
    cases cis
    · go_enter Try.func17, Try.ntmps17
      go_wp2
      go_ret
      exact ⟨rfl, HB0.out⟩
    · by_cases hcg : cg = g
      · subst hcg
        have hd : decide (cg = cg) = true := by simp
        rw [hd]
        cases o0 <;> cases o1
        all_goals
          go_enter Try.func17, Try.ntmps17
          go_wp2_with (go_at_call 39; ((with_reducible refine (HI.out _).mono ?_); rintro e w1 ⟨rfl, rfl⟩))
          go_ret
          exact ⟨rfl, HB0.out⟩
      · have hd : decide (cg = g) = false := by simp [hcg]
        have hd2 : (cg != g) = true := by simp [hcg]
        rw [hd]
        go_enter Try.func17, Try.ntmps17
        go_wp2
        go_ret
        exact ⟨rfl, HB0.out⟩
set_option maxRecDepth 100000 in
set_option maxHeartbeats 8000000 in
theorem take_any (b : Nat) (x : Fc) (c : Cd) (g : Int) (w : World) (h : CB w b 29 x.cs) :
    Calls Try.prog 26 #[.pointer (some ⟨b, 0, none⟩), c.v, .int .i64 g] w fun e w' => e = .returned (.tuple #[.int .i64 (takeV x c g).2.1, .bool (takeV x c g).2.2]) ∧ FcAf w b (takeV x c g).1 w' := by
  have HM := hi (fun W => may_any x c W)
  have HL := hi (fun W => levels_any x g W)
  have HV := hi (fun p q W => level_any p q W)
  have HP := hi (fun p W => push_any x.r g p W)
  unfold takeV
  obtain ⟨V, hV⟩ : ∃ V, mayV x c = V := ⟨_, rfl⟩
  rw [hV] at HM ⊢
  obtain ⟨L, hL⟩ : ∃ L, levV x g = L := ⟨_, rfl⟩
  rw [hL] at HL ⊢
  obtain ⟨m, p0, p1, o0, o1, sp, r⟩ := x
  obtain ⟨ci, cp, cg, cis⟩ := c
  dsimp only at HM HL HP h ⊢
  obtain ⟨Q, hQ⟩ : ∃ Q, bits .and .i64 cp L = Q := ⟨_, rfl⟩
  have HV := hi (fun W => show Calls Try.prog 47 #[.int .i64 cp, .int .i64 L] W fun e w' => e = .returned (.int .i64 Q) ∧ W = w' from by rw [← hQ]; exact HV.out cp L W)
  rw [hQ]
  have HP := hi (fun W => HP.out Q W)
  have HB0 := hi (bal w (.cells #[.int .i64 ci, .int .i64 cp, .int .i64 cg, .bool cis] 39))
  have HF0 := hi (h.alloc (.cells #[.int .i64 ci, .int .i64 cp, .int .i64 cg, .bool cis] 39))
  have HC0 := hi (CB.new w 39 #[.int .i64 ci, .int .i64 cp, .int .i64 cg, .bool cis])
  have HLT := hi h.lt
  clear hV hL hQ h
  by_cases hcg : cg = g
  · subst hcg
    have hd : decide (cg = cg) = true := by simp
    rw [hd, Bool.true_and]
    cases V
    · simp only [Bool.false_eq_true, if_false]
      go_enter Try.func26, Try.ntmps26
      go_wp2
      refine wp_region_noPanic ?_
      refine wp_region_last_drew (S := (fun W' => CB W' b 29 #[.int .i64 m, .int .i64 p0, .int .i64 p1, .bool o0, .bool o1, .bool sp, .int .u32 (wd r 0), .int .u32 (wd r 1)] ∧ CB W' w.heap.size 39 #[.int .i64 ci, .int .i64 cp, .int .i64 cg, .bool cis])) [] (by kernel_rfl) ⟨HF0.out.drew, HC0.out.drew⟩ (fun hHeld => ?_)
      (try simp only [Array.replicate_succ, Array.replicate_zero, List.push_toArray, List.nil_append, List.cons_append])
      refine wpAnyF_take (i := 0) (v := ?_) (by kernel_rfl) (by kernel_rfl) rfl (by kernel_rfl) (by kernel_rfl) (by kernel_rfl) (fun _ _ _ h => h) (Or.inl ⟨by rfl, ?_⟩) (by assumption) ?_
      rotate_left
      · intro w' hSw; (try dsimp only at hSw); have f0 := hSw.1.cell 0; have f1 := hSw.1.cell 1; have f2 := hSw.1.cell 2; have f3 := hSw.1.cell 3; have f4 := hSw.1.cell 4; have f5 := hSw.1.cell 5; have f6 := hSw.1.cell 6; have f7 := hSw.1.cell 7; have c0 := hSw.2.cell 0; have c1 := hSw.2.cell 1; have c2 := hSw.2.cell 2; have c3 := hSw.2.cell 3; go_simp; (try with_reducible rfl)
      (try simp only [Act.put, List.getElem_toArray, List.getElem_cons_zero, List.setIfInBounds_toArray, List.set_cons_zero, List.set_cons_succ])
      refine wpAnyF_take (i := 1) (v := ?_) (by kernel_rfl) (by kernel_rfl) rfl (by kernel_rfl) (by kernel_rfl) (by kernel_rfl) (fun _ _ _ h => h) (Or.inl ⟨by rfl, ?_⟩) (by assumption) ?_
      rotate_left
      · intro w' hSw; (try dsimp only at hSw); have f0 := hSw.1.cell 0; have f1 := hSw.1.cell 1; have f2 := hSw.1.cell 2; have f3 := hSw.1.cell 3; have f4 := hSw.1.cell 4; have f5 := hSw.1.cell 5; have f6 := hSw.1.cell 6; have f7 := hSw.1.cell 7; have c0 := hSw.2.cell 0; have c1 := hSw.2.cell 1; have c2 := hSw.2.cell 2; have c3 := hSw.2.cell 3; go_simp; (try with_reducible rfl)
      (try simp only [Act.put, List.getElem_toArray, List.getElem_cons_zero, List.getElem_cons_succ, List.setIfInBounds_toArray, List.set_cons_zero, List.set_cons_succ])
      refine wpAnyF_take (i := 2) (v := ?_) (by kernel_rfl) (by kernel_rfl) rfl (by kernel_rfl) (by kernel_rfl) (by kernel_rfl) (fun _ _ _ h => h) (Or.inl ⟨by rfl, ?_⟩) (by assumption) ?_
      rotate_left
      · intro w' hSw; (try dsimp only at hSw); have f0 := hSw.1.cell 0; have f1 := hSw.1.cell 1; have f2 := hSw.1.cell 2; have f3 := hSw.1.cell 3; have f4 := hSw.1.cell 4; have f5 := hSw.1.cell 5; have f6 := hSw.1.cell 6; have f7 := hSw.1.cell 7; have c0 := hSw.2.cell 0; have c1 := hSw.2.cell 1; have c2 := hSw.2.cell 2; have c3 := hSw.2.cell 3; go_simp; (try with_reducible rfl)
      (try simp only [Act.put, List.getElem_toArray, List.getElem_cons_zero, List.getElem_cons_succ, List.setIfInBounds_toArray, List.set_cons_zero, List.set_cons_succ])
      refine wpAnyF_take (i := 3) (v := ?_) (by kernel_rfl) (by kernel_rfl) rfl (by kernel_rfl) (by kernel_rfl) (by kernel_rfl) (fun _ _ _ h => h) (Or.inl ⟨by rfl, ?_⟩) (by assumption) ?_
      rotate_left
      · intro w' hSw; (try dsimp only at hSw); have f0 := hSw.1.cell 0; have f1 := hSw.1.cell 1; have f2 := hSw.1.cell 2; have f3 := hSw.1.cell 3; have f4 := hSw.1.cell 4; have f5 := hSw.1.cell 5; have f6 := hSw.1.cell 6; have f7 := hSw.1.cell 7; have c0 := hSw.2.cell 0; have c1 := hSw.2.cell 1; have c2 := hSw.2.cell 2; have c3 := hSw.2.cell 3; go_simp; (try with_reducible rfl)
      (try simp only [Act.put, List.getElem_toArray, List.getElem_cons_zero, List.getElem_cons_succ, List.setIfInBounds_toArray, List.set_cons_zero, List.set_cons_succ])
      refine wpAnyF_take (i := 4) (v := ?_) (by kernel_rfl) (by kernel_rfl) rfl (by kernel_rfl) (by kernel_rfl) (by kernel_rfl) (fun _ _ _ h => h) (Or.inl ⟨by rfl, ?_⟩) (by assumption) ?_
      rotate_left
      · intro w' hSw; (try dsimp only at hSw); have f0 := hSw.1.cell 0; have f1 := hSw.1.cell 1; have f2 := hSw.1.cell 2; have f3 := hSw.1.cell 3; have f4 := hSw.1.cell 4; have f5 := hSw.1.cell 5; have f6 := hSw.1.cell 6; have f7 := hSw.1.cell 7; have c0 := hSw.2.cell 0; have c1 := hSw.2.cell 1; have c2 := hSw.2.cell 2; have c3 := hSw.2.cell 3; go_simp; (try with_reducible rfl)
      (try simp only [Act.put, List.getElem_toArray, List.getElem_cons_zero, List.getElem_cons_succ, List.setIfInBounds_toArray, List.set_cons_zero, List.set_cons_succ])
      refine wpAnyF_take (i := 5) (v := ?_) (by kernel_rfl) (by kernel_rfl) rfl (by kernel_rfl) (by kernel_rfl) (by kernel_rfl) (fun _ _ _ h => h) (Or.inl ⟨by rfl, ?_⟩) (by assumption) ?_
      rotate_left
      · intro w' hSw; (try dsimp only at hSw); have f0 := hSw.1.cell 0; have f1 := hSw.1.cell 1; have f2 := hSw.1.cell 2; have f3 := hSw.1.cell 3; have f4 := hSw.1.cell 4; have f5 := hSw.1.cell 5; have f6 := hSw.1.cell 6; have f7 := hSw.1.cell 7; have c0 := hSw.2.cell 0; have c1 := hSw.2.cell 1; have c2 := hSw.2.cell 2; have c3 := hSw.2.cell 3; go_simp; (try with_reducible rfl)
      (try simp only [Act.put, List.getElem_toArray, List.getElem_cons_zero, List.getElem_cons_succ, List.setIfInBounds_toArray, List.set_cons_zero, List.set_cons_succ])
      refine wpAnyF_take (i := 6) (v := ?_) (by kernel_rfl) (by kernel_rfl) rfl (by kernel_rfl) (by kernel_rfl) (by kernel_rfl) (fun _ _ _ h => h) (Or.inl ⟨by rfl, ?_⟩) (by assumption) ?_
      rotate_left
      · intro w' hSw; (try dsimp only at hSw); have f0 := hSw.1.cell 0; have f1 := hSw.1.cell 1; have f2 := hSw.1.cell 2; have f3 := hSw.1.cell 3; have f4 := hSw.1.cell 4; have f5 := hSw.1.cell 5; have f6 := hSw.1.cell 6; have f7 := hSw.1.cell 7; have c0 := hSw.2.cell 0; have c1 := hSw.2.cell 1; have c2 := hSw.2.cell 2; have c3 := hSw.2.cell 3; go_simp; (try with_reducible rfl)
      (try simp only [Act.put, List.getElem_toArray, List.getElem_cons_zero, List.getElem_cons_succ, List.setIfInBounds_toArray, List.set_cons_zero, List.set_cons_succ])
      refine wpAnyF_take (i := 7) (v := ?_) (by kernel_rfl) (by kernel_rfl) rfl (by kernel_rfl) (by kernel_rfl) (by kernel_rfl) (fun _ _ _ h => h) (Or.inl ⟨by rfl, ?_⟩) (by assumption) ?_
      rotate_left
      · intro w' hSw; (try dsimp only at hSw); have f0 := hSw.1.cell 0; have f1 := hSw.1.cell 1; have f2 := hSw.1.cell 2; have f3 := hSw.1.cell 3; have f4 := hSw.1.cell 4; have f5 := hSw.1.cell 5; have f6 := hSw.1.cell 6; have f7 := hSw.1.cell 7; have c0 := hSw.2.cell 0; have c1 := hSw.2.cell 1; have c2 := hSw.2.cell 2; have c3 := hSw.2.cell 3; go_simp; (try with_reducible rfl)
      (try simp only [Act.put, List.getElem_toArray, List.getElem_cons_zero, List.getElem_cons_succ, List.setIfInBounds_toArray, List.set_cons_zero, List.set_cons_succ])
      refine wpAnyF_take (i := 8) (v := ?_) (by kernel_rfl) (by kernel_rfl) rfl (by kernel_rfl) (by kernel_rfl) (by kernel_rfl) (fun _ _ _ h => h) (Or.inl ⟨by rfl, ?_⟩) (by assumption) ?_
      rotate_left
      · intro w' hSw; (try dsimp only at hSw); have f0 := hSw.1.cell 0; have f1 := hSw.1.cell 1; have f2 := hSw.1.cell 2; have f3 := hSw.1.cell 3; have f4 := hSw.1.cell 4; have f5 := hSw.1.cell 5; have f6 := hSw.1.cell 6; have f7 := hSw.1.cell 7; have c0 := hSw.2.cell 0; have c1 := hSw.2.cell 1; have c2 := hSw.2.cell 2; have c3 := hSw.2.cell 3; go_simp; (try with_reducible rfl)
      (try simp only [Act.put, List.getElem_toArray, List.getElem_cons_zero, List.getElem_cons_succ, List.setIfInBounds_toArray, List.set_cons_zero, List.set_cons_succ])
      refine wpAnyF_take (i := 9) (v := ?_) (by kernel_rfl) (by kernel_rfl) rfl (by kernel_rfl) (by kernel_rfl) (by kernel_rfl) (fun _ _ _ h => h) (Or.inl ⟨by rfl, ?_⟩) (by assumption) ?_
      rotate_left
      · intro w' hSw; (try dsimp only at hSw); have f0 := hSw.1.cell 0; have f1 := hSw.1.cell 1; have f2 := hSw.1.cell 2; have f3 := hSw.1.cell 3; have f4 := hSw.1.cell 4; have f5 := hSw.1.cell 5; have f6 := hSw.1.cell 6; have f7 := hSw.1.cell 7; have c0 := hSw.2.cell 0; have c1 := hSw.2.cell 1; have c2 := hSw.2.cell 2; have c3 := hSw.2.cell 3; go_simp; (try with_reducible rfl)
      (try simp only [Act.put, List.getElem_toArray, List.getElem_cons_zero, List.getElem_cons_succ, List.setIfInBounds_toArray, List.set_cons_zero, List.set_cons_succ])
      refine wpAnyF_take (i := 10) (v := ?_) (by kernel_rfl) (by kernel_rfl) rfl (by kernel_rfl) (by kernel_rfl) (by kernel_rfl) (fun _ _ _ h => h) (Or.inl ⟨by rfl, ?_⟩) (by assumption) ?_
      rotate_left
      · intro w' hSw; (try dsimp only at hSw); have f0 := hSw.1.cell 0; have f1 := hSw.1.cell 1; have f2 := hSw.1.cell 2; have f3 := hSw.1.cell 3; have f4 := hSw.1.cell 4; have f5 := hSw.1.cell 5; have f6 := hSw.1.cell 6; have f7 := hSw.1.cell 7; have c0 := hSw.2.cell 0; have c1 := hSw.2.cell 1; have c2 := hSw.2.cell 2; have c3 := hSw.2.cell 3; go_simp; (try with_reducible rfl)
      (try simp only [Act.put, List.getElem_toArray, List.getElem_cons_zero, List.getElem_cons_succ, List.setIfInBounds_toArray, List.set_cons_zero, List.set_cons_succ])
      refine wpAnyF_take (i := 11) (v := ?_) (by kernel_rfl) (by kernel_rfl) rfl (by kernel_rfl) (by kernel_rfl) (by kernel_rfl) (fun _ _ _ h => h) (Or.inl ⟨by rfl, ?_⟩) (by assumption) ?_
      rotate_left
      · intro w' hSw; (try dsimp only at hSw); have f0 := hSw.1.cell 0; have f1 := hSw.1.cell 1; have f2 := hSw.1.cell 2; have f3 := hSw.1.cell 3; have f4 := hSw.1.cell 4; have f5 := hSw.1.cell 5; have f6 := hSw.1.cell 6; have f7 := hSw.1.cell 7; have c0 := hSw.2.cell 0; have c1 := hSw.2.cell 1; have c2 := hSw.2.cell 2; have c3 := hSw.2.cell 3; go_simp; (try with_reducible rfl)
      (try simp only [Act.put, List.getElem_toArray, List.getElem_cons_zero, List.getElem_cons_succ, List.setIfInBounds_toArray, List.set_cons_zero, List.set_cons_succ])
      refine wpAnyF_take (i := 12) (v := ?_) (by kernel_rfl) (by kernel_rfl) rfl (by kernel_rfl) (by kernel_rfl) (by kernel_rfl) (fun _ _ _ h => h) (Or.inl ⟨by rfl, ?_⟩) (by assumption) ?_
      rotate_left
      · intro w' hSw; (try dsimp only at hSw); have f0 := hSw.1.cell 0; have f1 := hSw.1.cell 1; have f2 := hSw.1.cell 2; have f3 := hSw.1.cell 3; have f4 := hSw.1.cell 4; have f5 := hSw.1.cell 5; have f6 := hSw.1.cell 6; have f7 := hSw.1.cell 7; have c0 := hSw.2.cell 0; have c1 := hSw.2.cell 1; have c2 := hSw.2.cell 2; have c3 := hSw.2.cell 3; go_simp; (try with_reducible rfl)
      (try simp only [Act.put, List.getElem_toArray, List.getElem_cons_zero, List.getElem_cons_succ, List.setIfInBounds_toArray, List.set_cons_zero, List.set_cons_succ])
      refine wpAnyF_ready (rs := [13]) (by kernel_rfl) (by simp) ?_
      refine AllReadyF.cons rfl (fun KK hKK => ?_) AllReadyF.nil
      go_simp
      ((with_reducible refine (HM.out _).mono ?_); rintro e' w2 ⟨rfl, hb⟩; have HB2 := hi hb; have hSS := And.intro (hHeld.1.below hb) (hHeld.2.below hb); clear hb)
      (try go_simp)
      refine hKK.out _ _ hSS (fun hHeld => ?_)
      clear hKK KK
      (try simp only [Act.put, List.getElem_toArray, List.getElem_cons_zero, List.getElem_cons_succ, List.setIfInBounds_toArray, List.set_cons_zero, List.set_cons_succ])
      refine wpAnyF_take (i := 14) (v := ?_) (by kernel_rfl) (by kernel_rfl) rfl (by kernel_rfl) (by kernel_rfl) (by kernel_rfl) (fun _ _ _ h => h) (Or.inl ⟨by rfl, ?_⟩) (by assumption) ?_
      rotate_left
      · intro w' hSw; (try dsimp only at hSw); have f0 := hSw.1.cell 0; have f1 := hSw.1.cell 1; have f2 := hSw.1.cell 2; have f3 := hSw.1.cell 3; have f4 := hSw.1.cell 4; have f5 := hSw.1.cell 5; have f6 := hSw.1.cell 6; have f7 := hSw.1.cell 7; have c0 := hSw.2.cell 0; have c1 := hSw.2.cell 1; have c2 := hSw.2.cell 2; have c3 := hSw.2.cell 3; go_simp; (try with_reducible rfl)
      (try simp only [Act.put, List.getElem_toArray, List.getElem_cons_zero, List.getElem_cons_succ, List.setIfInBounds_toArray, List.set_cons_zero, List.set_cons_succ])
      refine wpAnyF_take (i := 15) (v := ?_) (by kernel_rfl) (by kernel_rfl) rfl (by kernel_rfl) (by kernel_rfl) (by kernel_rfl) (fun _ _ _ h => h) (Or.inl ⟨by rfl, ?_⟩) (by assumption) ?_
      rotate_left
      · intro w' hSw; (try dsimp only at hSw); have f0 := hSw.1.cell 0; have f1 := hSw.1.cell 1; have f2 := hSw.1.cell 2; have f3 := hSw.1.cell 3; have f4 := hSw.1.cell 4; have f5 := hSw.1.cell 5; have f6 := hSw.1.cell 6; have f7 := hSw.1.cell 7; have c0 := hSw.2.cell 0; have c1 := hSw.2.cell 1; have c2 := hSw.2.cell 2; have c3 := hSw.2.cell 3; go_simp; (try with_reducible rfl)
      (try simp only [Act.put, List.getElem_toArray, List.getElem_cons_zero, List.getElem_cons_succ, List.setIfInBounds_toArray, List.set_cons_zero, List.set_cons_succ])
      refine wpAnyF_done (by kernel_rfl) ?_ _
      refine NoPanic.normal ?_
      have HFX := hi hHeld.1
      have HBX := hi ((Below.drewN (m := 1) HB0.out).trans (HB2.out.mono (Below.drewN (m := 1) HB0.out).size))
      go_wp2
      go_ret2
      exact ⟨rfl, ⟨HFX.out, Kept.of HBX.out⟩⟩
    · simp only [if_true]
      go_enter Try.func26, Try.ntmps26
      go_wp2
      refine wp_region_noPanic ?_
      refine wp_region_last_drew (S := (fun W' => CB W' b 29 #[.int .i64 m, .int .i64 p0, .int .i64 p1, .bool o0, .bool o1, .bool sp, .int .u32 (wd r 0), .int .u32 (wd r 1)] ∧ CB W' w.heap.size 39 #[.int .i64 ci, .int .i64 cp, .int .i64 cg, .bool cis])) [] (by kernel_rfl) ⟨HF0.out.drew, HC0.out.drew⟩ (fun hHeld => ?_)
      (try simp only [Array.replicate_succ, Array.replicate_zero, List.push_toArray, List.nil_append, List.cons_append])
      refine wpAnyF_take (i := 0) (v := ?_) (by kernel_rfl) (by kernel_rfl) rfl (by kernel_rfl) (by kernel_rfl) (by kernel_rfl) (fun _ _ _ h => h) (Or.inl ⟨by rfl, ?_⟩) (by assumption) ?_
      rotate_left
      · intro w' hSw; (try dsimp only at hSw); have f0 := hSw.1.cell 0; have f1 := hSw.1.cell 1; have f2 := hSw.1.cell 2; have f3 := hSw.1.cell 3; have f4 := hSw.1.cell 4; have f5 := hSw.1.cell 5; have f6 := hSw.1.cell 6; have f7 := hSw.1.cell 7; have c0 := hSw.2.cell 0; have c1 := hSw.2.cell 1; have c2 := hSw.2.cell 2; have c3 := hSw.2.cell 3; go_simp; (try with_reducible rfl)
      (try simp only [Act.put, List.getElem_toArray, List.getElem_cons_zero, List.setIfInBounds_toArray, List.set_cons_zero, List.set_cons_succ])
      refine wpAnyF_take (i := 1) (v := ?_) (by kernel_rfl) (by kernel_rfl) rfl (by kernel_rfl) (by kernel_rfl) (by kernel_rfl) (fun _ _ _ h => h) (Or.inl ⟨by rfl, ?_⟩) (by assumption) ?_
      rotate_left
      · intro w' hSw; (try dsimp only at hSw); have f0 := hSw.1.cell 0; have f1 := hSw.1.cell 1; have f2 := hSw.1.cell 2; have f3 := hSw.1.cell 3; have f4 := hSw.1.cell 4; have f5 := hSw.1.cell 5; have f6 := hSw.1.cell 6; have f7 := hSw.1.cell 7; have c0 := hSw.2.cell 0; have c1 := hSw.2.cell 1; have c2 := hSw.2.cell 2; have c3 := hSw.2.cell 3; go_simp; (try with_reducible rfl)
      (try simp only [Act.put, List.getElem_toArray, List.getElem_cons_zero, List.getElem_cons_succ, List.setIfInBounds_toArray, List.set_cons_zero, List.set_cons_succ])
      refine wpAnyF_take (i := 2) (v := ?_) (by kernel_rfl) (by kernel_rfl) rfl (by kernel_rfl) (by kernel_rfl) (by kernel_rfl) (fun _ _ _ h => h) (Or.inl ⟨by rfl, ?_⟩) (by assumption) ?_
      rotate_left
      · intro w' hSw; (try dsimp only at hSw); have f0 := hSw.1.cell 0; have f1 := hSw.1.cell 1; have f2 := hSw.1.cell 2; have f3 := hSw.1.cell 3; have f4 := hSw.1.cell 4; have f5 := hSw.1.cell 5; have f6 := hSw.1.cell 6; have f7 := hSw.1.cell 7; have c0 := hSw.2.cell 0; have c1 := hSw.2.cell 1; have c2 := hSw.2.cell 2; have c3 := hSw.2.cell 3; go_simp; (try with_reducible rfl)
      (try simp only [Act.put, List.getElem_toArray, List.getElem_cons_zero, List.getElem_cons_succ, List.setIfInBounds_toArray, List.set_cons_zero, List.set_cons_succ])
      refine wpAnyF_take (i := 3) (v := ?_) (by kernel_rfl) (by kernel_rfl) rfl (by kernel_rfl) (by kernel_rfl) (by kernel_rfl) (fun _ _ _ h => h) (Or.inl ⟨by rfl, ?_⟩) (by assumption) ?_
      rotate_left
      · intro w' hSw; (try dsimp only at hSw); have f0 := hSw.1.cell 0; have f1 := hSw.1.cell 1; have f2 := hSw.1.cell 2; have f3 := hSw.1.cell 3; have f4 := hSw.1.cell 4; have f5 := hSw.1.cell 5; have f6 := hSw.1.cell 6; have f7 := hSw.1.cell 7; have c0 := hSw.2.cell 0; have c1 := hSw.2.cell 1; have c2 := hSw.2.cell 2; have c3 := hSw.2.cell 3; go_simp; (try with_reducible rfl)
      (try simp only [Act.put, List.getElem_toArray, List.getElem_cons_zero, List.getElem_cons_succ, List.setIfInBounds_toArray, List.set_cons_zero, List.set_cons_succ])
      refine wpAnyF_take (i := 4) (v := ?_) (by kernel_rfl) (by kernel_rfl) rfl (by kernel_rfl) (by kernel_rfl) (by kernel_rfl) (fun _ _ _ h => h) (Or.inl ⟨by rfl, ?_⟩) (by assumption) ?_
      rotate_left
      · intro w' hSw; (try dsimp only at hSw); have f0 := hSw.1.cell 0; have f1 := hSw.1.cell 1; have f2 := hSw.1.cell 2; have f3 := hSw.1.cell 3; have f4 := hSw.1.cell 4; have f5 := hSw.1.cell 5; have f6 := hSw.1.cell 6; have f7 := hSw.1.cell 7; have c0 := hSw.2.cell 0; have c1 := hSw.2.cell 1; have c2 := hSw.2.cell 2; have c3 := hSw.2.cell 3; go_simp; (try with_reducible rfl)
      (try simp only [Act.put, List.getElem_toArray, List.getElem_cons_zero, List.getElem_cons_succ, List.setIfInBounds_toArray, List.set_cons_zero, List.set_cons_succ])
      refine wpAnyF_take (i := 5) (v := ?_) (by kernel_rfl) (by kernel_rfl) rfl (by kernel_rfl) (by kernel_rfl) (by kernel_rfl) (fun _ _ _ h => h) (Or.inl ⟨by rfl, ?_⟩) (by assumption) ?_
      rotate_left
      · intro w' hSw; (try dsimp only at hSw); have f0 := hSw.1.cell 0; have f1 := hSw.1.cell 1; have f2 := hSw.1.cell 2; have f3 := hSw.1.cell 3; have f4 := hSw.1.cell 4; have f5 := hSw.1.cell 5; have f6 := hSw.1.cell 6; have f7 := hSw.1.cell 7; have c0 := hSw.2.cell 0; have c1 := hSw.2.cell 1; have c2 := hSw.2.cell 2; have c3 := hSw.2.cell 3; go_simp; (try with_reducible rfl)
      (try simp only [Act.put, List.getElem_toArray, List.getElem_cons_zero, List.getElem_cons_succ, List.setIfInBounds_toArray, List.set_cons_zero, List.set_cons_succ])
      refine wpAnyF_take (i := 6) (v := ?_) (by kernel_rfl) (by kernel_rfl) rfl (by kernel_rfl) (by kernel_rfl) (by kernel_rfl) (fun _ _ _ h => h) (Or.inl ⟨by rfl, ?_⟩) (by assumption) ?_
      rotate_left
      · intro w' hSw; (try dsimp only at hSw); have f0 := hSw.1.cell 0; have f1 := hSw.1.cell 1; have f2 := hSw.1.cell 2; have f3 := hSw.1.cell 3; have f4 := hSw.1.cell 4; have f5 := hSw.1.cell 5; have f6 := hSw.1.cell 6; have f7 := hSw.1.cell 7; have c0 := hSw.2.cell 0; have c1 := hSw.2.cell 1; have c2 := hSw.2.cell 2; have c3 := hSw.2.cell 3; go_simp; (try with_reducible rfl)
      (try simp only [Act.put, List.getElem_toArray, List.getElem_cons_zero, List.getElem_cons_succ, List.setIfInBounds_toArray, List.set_cons_zero, List.set_cons_succ])
      refine wpAnyF_take (i := 7) (v := ?_) (by kernel_rfl) (by kernel_rfl) rfl (by kernel_rfl) (by kernel_rfl) (by kernel_rfl) (fun _ _ _ h => h) (Or.inl ⟨by rfl, ?_⟩) (by assumption) ?_
      rotate_left
      · intro w' hSw; (try dsimp only at hSw); have f0 := hSw.1.cell 0; have f1 := hSw.1.cell 1; have f2 := hSw.1.cell 2; have f3 := hSw.1.cell 3; have f4 := hSw.1.cell 4; have f5 := hSw.1.cell 5; have f6 := hSw.1.cell 6; have f7 := hSw.1.cell 7; have c0 := hSw.2.cell 0; have c1 := hSw.2.cell 1; have c2 := hSw.2.cell 2; have c3 := hSw.2.cell 3; go_simp; (try with_reducible rfl)
      (try simp only [Act.put, List.getElem_toArray, List.getElem_cons_zero, List.getElem_cons_succ, List.setIfInBounds_toArray, List.set_cons_zero, List.set_cons_succ])
      refine wpAnyF_take (i := 8) (v := ?_) (by kernel_rfl) (by kernel_rfl) rfl (by kernel_rfl) (by kernel_rfl) (by kernel_rfl) (fun _ _ _ h => h) (Or.inl ⟨by rfl, ?_⟩) (by assumption) ?_
      rotate_left
      · intro w' hSw; (try dsimp only at hSw); have f0 := hSw.1.cell 0; have f1 := hSw.1.cell 1; have f2 := hSw.1.cell 2; have f3 := hSw.1.cell 3; have f4 := hSw.1.cell 4; have f5 := hSw.1.cell 5; have f6 := hSw.1.cell 6; have f7 := hSw.1.cell 7; have c0 := hSw.2.cell 0; have c1 := hSw.2.cell 1; have c2 := hSw.2.cell 2; have c3 := hSw.2.cell 3; go_simp; (try with_reducible rfl)
      (try simp only [Act.put, List.getElem_toArray, List.getElem_cons_zero, List.getElem_cons_succ, List.setIfInBounds_toArray, List.set_cons_zero, List.set_cons_succ])
      refine wpAnyF_take (i := 9) (v := ?_) (by kernel_rfl) (by kernel_rfl) rfl (by kernel_rfl) (by kernel_rfl) (by kernel_rfl) (fun _ _ _ h => h) (Or.inl ⟨by rfl, ?_⟩) (by assumption) ?_
      rotate_left
      · intro w' hSw; (try dsimp only at hSw); have f0 := hSw.1.cell 0; have f1 := hSw.1.cell 1; have f2 := hSw.1.cell 2; have f3 := hSw.1.cell 3; have f4 := hSw.1.cell 4; have f5 := hSw.1.cell 5; have f6 := hSw.1.cell 6; have f7 := hSw.1.cell 7; have c0 := hSw.2.cell 0; have c1 := hSw.2.cell 1; have c2 := hSw.2.cell 2; have c3 := hSw.2.cell 3; go_simp; (try with_reducible rfl)
      (try simp only [Act.put, List.getElem_toArray, List.getElem_cons_zero, List.getElem_cons_succ, List.setIfInBounds_toArray, List.set_cons_zero, List.set_cons_succ])
      refine wpAnyF_take (i := 10) (v := ?_) (by kernel_rfl) (by kernel_rfl) rfl (by kernel_rfl) (by kernel_rfl) (by kernel_rfl) (fun _ _ _ h => h) (Or.inl ⟨by rfl, ?_⟩) (by assumption) ?_
      rotate_left
      · intro w' hSw; (try dsimp only at hSw); have f0 := hSw.1.cell 0; have f1 := hSw.1.cell 1; have f2 := hSw.1.cell 2; have f3 := hSw.1.cell 3; have f4 := hSw.1.cell 4; have f5 := hSw.1.cell 5; have f6 := hSw.1.cell 6; have f7 := hSw.1.cell 7; have c0 := hSw.2.cell 0; have c1 := hSw.2.cell 1; have c2 := hSw.2.cell 2; have c3 := hSw.2.cell 3; go_simp; (try with_reducible rfl)
      (try simp only [Act.put, List.getElem_toArray, List.getElem_cons_zero, List.getElem_cons_succ, List.setIfInBounds_toArray, List.set_cons_zero, List.set_cons_succ])
      refine wpAnyF_take (i := 11) (v := ?_) (by kernel_rfl) (by kernel_rfl) rfl (by kernel_rfl) (by kernel_rfl) (by kernel_rfl) (fun _ _ _ h => h) (Or.inl ⟨by rfl, ?_⟩) (by assumption) ?_
      rotate_left
      · intro w' hSw; (try dsimp only at hSw); have f0 := hSw.1.cell 0; have f1 := hSw.1.cell 1; have f2 := hSw.1.cell 2; have f3 := hSw.1.cell 3; have f4 := hSw.1.cell 4; have f5 := hSw.1.cell 5; have f6 := hSw.1.cell 6; have f7 := hSw.1.cell 7; have c0 := hSw.2.cell 0; have c1 := hSw.2.cell 1; have c2 := hSw.2.cell 2; have c3 := hSw.2.cell 3; go_simp; (try with_reducible rfl)
      (try simp only [Act.put, List.getElem_toArray, List.getElem_cons_zero, List.getElem_cons_succ, List.setIfInBounds_toArray, List.set_cons_zero, List.set_cons_succ])
      refine wpAnyF_take (i := 12) (v := ?_) (by kernel_rfl) (by kernel_rfl) rfl (by kernel_rfl) (by kernel_rfl) (by kernel_rfl) (fun _ _ _ h => h) (Or.inl ⟨by rfl, ?_⟩) (by assumption) ?_
      rotate_left
      · intro w' hSw; (try dsimp only at hSw); have f0 := hSw.1.cell 0; have f1 := hSw.1.cell 1; have f2 := hSw.1.cell 2; have f3 := hSw.1.cell 3; have f4 := hSw.1.cell 4; have f5 := hSw.1.cell 5; have f6 := hSw.1.cell 6; have f7 := hSw.1.cell 7; have c0 := hSw.2.cell 0; have c1 := hSw.2.cell 1; have c2 := hSw.2.cell 2; have c3 := hSw.2.cell 3; go_simp; (try with_reducible rfl)
      (try simp only [Act.put, List.getElem_toArray, List.getElem_cons_zero, List.getElem_cons_succ, List.setIfInBounds_toArray, List.set_cons_zero, List.set_cons_succ])
      refine wpAnyF_ready (rs := [13]) (by kernel_rfl) (by simp) ?_
      refine AllReadyF.cons rfl (fun KK hKK => ?_) AllReadyF.nil
      go_simp
      ((with_reducible refine (HM.out _).mono ?_); rintro e' w2 ⟨rfl, hb⟩; have HB2 := hi hb; have hSS := And.intro (hHeld.1.below hb) (hHeld.2.below hb); clear hb)
      (try go_simp)
      refine hKK.out _ _ hSS (fun hHeld => ?_)
      clear hKK KK
      (try simp only [Act.put, List.getElem_toArray, List.getElem_cons_zero, List.getElem_cons_succ, List.setIfInBounds_toArray, List.set_cons_zero, List.set_cons_succ])
      refine wpAnyF_take (i := 14) (v := ?_) (by kernel_rfl) (by kernel_rfl) rfl (by kernel_rfl) (by kernel_rfl) (by kernel_rfl) (fun _ _ _ h => h) (Or.inl ⟨by rfl, ?_⟩) (by assumption) ?_
      rotate_left
      · intro w' hSw; (try dsimp only at hSw); have f0 := hSw.1.cell 0; have f1 := hSw.1.cell 1; have f2 := hSw.1.cell 2; have f3 := hSw.1.cell 3; have f4 := hSw.1.cell 4; have f5 := hSw.1.cell 5; have f6 := hSw.1.cell 6; have f7 := hSw.1.cell 7; have c0 := hSw.2.cell 0; have c1 := hSw.2.cell 1; have c2 := hSw.2.cell 2; have c3 := hSw.2.cell 3; go_simp; (try with_reducible rfl)
      (try simp only [Act.put, List.getElem_toArray, List.getElem_cons_zero, List.getElem_cons_succ, List.setIfInBounds_toArray, List.set_cons_zero, List.set_cons_succ])
      refine wpAnyF_take (i := 15) (v := ?_) (by kernel_rfl) (by kernel_rfl) rfl (by kernel_rfl) (by kernel_rfl) (by kernel_rfl) (fun _ _ _ h => h) (Or.inl ⟨by rfl, ?_⟩) (by assumption) ?_
      rotate_left
      · intro w' hSw; (try dsimp only at hSw); have f0 := hSw.1.cell 0; have f1 := hSw.1.cell 1; have f2 := hSw.1.cell 2; have f3 := hSw.1.cell 3; have f4 := hSw.1.cell 4; have f5 := hSw.1.cell 5; have f6 := hSw.1.cell 6; have f7 := hSw.1.cell 7; have c0 := hSw.2.cell 0; have c1 := hSw.2.cell 1; have c2 := hSw.2.cell 2; have c3 := hSw.2.cell 3; go_simp; (try with_reducible rfl)
      (try simp only [Act.put, List.getElem_toArray, List.getElem_cons_zero, List.getElem_cons_succ, List.setIfInBounds_toArray, List.set_cons_zero, List.set_cons_succ])
      refine wpAnyF_done (by kernel_rfl) ?_ _
      refine NoPanic.normal ?_
      have HFX := hi hHeld
      have HBX := hi (show Below w.heap.size w w2.drew from Below.drewN (m := 1) ((Below.drewN (m := 1) HB0.out).trans (HB2.out.mono (Below.drewN (m := 1) HB0.out).size)))
      go_wp2
      refine wp_region_noPanic ?_
      refine wp_region_last_drew (S := (fun W' => CB W' b 29 #[.int .i64 m, .int .i64 p0, .int .i64 p1, .bool o0, .bool o1, .bool sp, .int .u32 (wd r 0), .int .u32 (wd r 1)] ∧ CB W' w.heap.size 39 #[.int .i64 ci, .int .i64 cp, .int .i64 cg, .bool cis])) [15, 16, 17] (by kernel_rfl) ⟨HFX.out.1.drew, HFX.out.2.drew⟩ (fun hHeld => ?_)
      (try simp only [Array.replicate_succ, Array.replicate_zero, List.push_toArray, List.nil_append, List.cons_append])
      refine wpAnyF_take (i := 0) (v := ?_) (by kernel_rfl) (by kernel_rfl) rfl (by kernel_rfl) (by kernel_rfl) (by kernel_rfl) (fun _ _ _ h => h) (Or.inl ⟨by rfl, ?_⟩) (by assumption) ?_
      rotate_left
      · intro w' hSw; (try dsimp only at hSw); have f0 := hSw.1.cell 0; have f1 := hSw.1.cell 1; have f2 := hSw.1.cell 2; have f3 := hSw.1.cell 3; have f4 := hSw.1.cell 4; have f5 := hSw.1.cell 5; have f6 := hSw.1.cell 6; have f7 := hSw.1.cell 7; have c0 := hSw.2.cell 0; have c1 := hSw.2.cell 1; have c2 := hSw.2.cell 2; have c3 := hSw.2.cell 3; go_simp; (try with_reducible rfl)
      (try simp only [Act.put, List.getElem_toArray, List.getElem_cons_zero, List.setIfInBounds_toArray, List.set_cons_zero, List.set_cons_succ])
      refine wpAnyF_take (i := 1) (v := ?_) (by kernel_rfl) (by kernel_rfl) rfl (by kernel_rfl) (by kernel_rfl) (by kernel_rfl) (fun _ _ _ h => h) (Or.inl ⟨by rfl, ?_⟩) (by assumption) ?_
      rotate_left
      · intro w' hSw; (try dsimp only at hSw); have f0 := hSw.1.cell 0; have f1 := hSw.1.cell 1; have f2 := hSw.1.cell 2; have f3 := hSw.1.cell 3; have f4 := hSw.1.cell 4; have f5 := hSw.1.cell 5; have f6 := hSw.1.cell 6; have f7 := hSw.1.cell 7; have c0 := hSw.2.cell 0; have c1 := hSw.2.cell 1; have c2 := hSw.2.cell 2; have c3 := hSw.2.cell 3; go_simp; (try with_reducible rfl)
      (try simp only [Act.put, List.getElem_toArray, List.getElem_cons_zero, List.getElem_cons_succ, List.setIfInBounds_toArray, List.set_cons_zero, List.set_cons_succ])
      refine wpAnyF_take (i := 2) (v := ?_) (by kernel_rfl) (by kernel_rfl) rfl (by kernel_rfl) (by kernel_rfl) (by kernel_rfl) (fun _ _ _ h => h) (Or.inl ⟨by rfl, ?_⟩) (by assumption) ?_
      rotate_left
      · intro w' hSw; (try dsimp only at hSw); have f0 := hSw.1.cell 0; have f1 := hSw.1.cell 1; have f2 := hSw.1.cell 2; have f3 := hSw.1.cell 3; have f4 := hSw.1.cell 4; have f5 := hSw.1.cell 5; have f6 := hSw.1.cell 6; have f7 := hSw.1.cell 7; have c0 := hSw.2.cell 0; have c1 := hSw.2.cell 1; have c2 := hSw.2.cell 2; have c3 := hSw.2.cell 3; go_simp; (try with_reducible rfl)
      (try simp only [Act.put, List.getElem_toArray, List.getElem_cons_zero, List.getElem_cons_succ, List.setIfInBounds_toArray, List.set_cons_zero, List.set_cons_succ])
      refine wpAnyF_take (i := 3) (v := ?_) (by kernel_rfl) (by kernel_rfl) rfl (by kernel_rfl) (by kernel_rfl) (by kernel_rfl) (fun _ _ _ h => h) (Or.inl ⟨by rfl, ?_⟩) (by assumption) ?_
      rotate_left
      · intro w' hSw; (try dsimp only at hSw); have f0 := hSw.1.cell 0; have f1 := hSw.1.cell 1; have f2 := hSw.1.cell 2; have f3 := hSw.1.cell 3; have f4 := hSw.1.cell 4; have f5 := hSw.1.cell 5; have f6 := hSw.1.cell 6; have f7 := hSw.1.cell 7; have c0 := hSw.2.cell 0; have c1 := hSw.2.cell 1; have c2 := hSw.2.cell 2; have c3 := hSw.2.cell 3; go_simp; (try with_reducible rfl)
      (try simp only [Act.put, List.getElem_toArray, List.getElem_cons_zero, List.getElem_cons_succ, List.setIfInBounds_toArray, List.set_cons_zero, List.set_cons_succ])
      refine wpAnyF_take (i := 4) (v := ?_) (by kernel_rfl) (by kernel_rfl) rfl (by kernel_rfl) (by kernel_rfl) (by kernel_rfl) (fun _ _ _ h => h) (Or.inl ⟨by rfl, ?_⟩) (by assumption) ?_
      rotate_left
      · intro w' hSw; (try dsimp only at hSw); have f0 := hSw.1.cell 0; have f1 := hSw.1.cell 1; have f2 := hSw.1.cell 2; have f3 := hSw.1.cell 3; have f4 := hSw.1.cell 4; have f5 := hSw.1.cell 5; have f6 := hSw.1.cell 6; have f7 := hSw.1.cell 7; have c0 := hSw.2.cell 0; have c1 := hSw.2.cell 1; have c2 := hSw.2.cell 2; have c3 := hSw.2.cell 3; go_simp; (try with_reducible rfl)
      (try simp only [Act.put, List.getElem_toArray, List.getElem_cons_zero, List.getElem_cons_succ, List.setIfInBounds_toArray, List.set_cons_zero, List.set_cons_succ])
      refine wpAnyF_take (i := 5) (v := ?_) (by kernel_rfl) (by kernel_rfl) rfl (by kernel_rfl) (by kernel_rfl) (by kernel_rfl) (fun _ _ _ h => h) (Or.inl ⟨by rfl, ?_⟩) (by assumption) ?_
      rotate_left
      · intro w' hSw; (try dsimp only at hSw); have f0 := hSw.1.cell 0; have f1 := hSw.1.cell 1; have f2 := hSw.1.cell 2; have f3 := hSw.1.cell 3; have f4 := hSw.1.cell 4; have f5 := hSw.1.cell 5; have f6 := hSw.1.cell 6; have f7 := hSw.1.cell 7; have c0 := hSw.2.cell 0; have c1 := hSw.2.cell 1; have c2 := hSw.2.cell 2; have c3 := hSw.2.cell 3; go_simp; (try with_reducible rfl)
      (try simp only [Act.put, List.getElem_toArray, List.getElem_cons_zero, List.getElem_cons_succ, List.setIfInBounds_toArray, List.set_cons_zero, List.set_cons_succ])
      refine wpAnyF_take (i := 6) (v := ?_) (by kernel_rfl) (by kernel_rfl) rfl (by kernel_rfl) (by kernel_rfl) (by kernel_rfl) (fun _ _ _ h => h) (Or.inl ⟨by rfl, ?_⟩) (by assumption) ?_
      rotate_left
      · intro w' hSw; (try dsimp only at hSw); have f0 := hSw.1.cell 0; have f1 := hSw.1.cell 1; have f2 := hSw.1.cell 2; have f3 := hSw.1.cell 3; have f4 := hSw.1.cell 4; have f5 := hSw.1.cell 5; have f6 := hSw.1.cell 6; have f7 := hSw.1.cell 7; have c0 := hSw.2.cell 0; have c1 := hSw.2.cell 1; have c2 := hSw.2.cell 2; have c3 := hSw.2.cell 3; go_simp; (try with_reducible rfl)
      (try simp only [Act.put, List.getElem_toArray, List.getElem_cons_zero, List.getElem_cons_succ, List.setIfInBounds_toArray, List.set_cons_zero, List.set_cons_succ])
      refine wpAnyF_take (i := 7) (v := ?_) (by kernel_rfl) (by kernel_rfl) rfl (by kernel_rfl) (by kernel_rfl) (by kernel_rfl) (fun _ _ _ h => h) (Or.inl ⟨by rfl, ?_⟩) (by assumption) ?_
      rotate_left
      · intro w' hSw; (try dsimp only at hSw); have f0 := hSw.1.cell 0; have f1 := hSw.1.cell 1; have f2 := hSw.1.cell 2; have f3 := hSw.1.cell 3; have f4 := hSw.1.cell 4; have f5 := hSw.1.cell 5; have f6 := hSw.1.cell 6; have f7 := hSw.1.cell 7; have c0 := hSw.2.cell 0; have c1 := hSw.2.cell 1; have c2 := hSw.2.cell 2; have c3 := hSw.2.cell 3; go_simp; (try with_reducible rfl)
      (try simp only [Act.put, List.getElem_toArray, List.getElem_cons_zero, List.getElem_cons_succ, List.setIfInBounds_toArray, List.set_cons_zero, List.set_cons_succ])
      refine wpAnyF_take (i := 8) (v := ?_) (by kernel_rfl) (by kernel_rfl) rfl (by kernel_rfl) (by kernel_rfl) (by kernel_rfl) (fun _ _ _ h => h) (Or.inl ⟨by rfl, ?_⟩) (by assumption) ?_
      rotate_left
      · intro w' hSw; (try dsimp only at hSw); have f0 := hSw.1.cell 0; have f1 := hSw.1.cell 1; have f2 := hSw.1.cell 2; have f3 := hSw.1.cell 3; have f4 := hSw.1.cell 4; have f5 := hSw.1.cell 5; have f6 := hSw.1.cell 6; have f7 := hSw.1.cell 7; have c0 := hSw.2.cell 0; have c1 := hSw.2.cell 1; have c2 := hSw.2.cell 2; have c3 := hSw.2.cell 3; go_simp; (try with_reducible rfl)
      (try simp only [Act.put, List.getElem_toArray, List.getElem_cons_zero, List.getElem_cons_succ, List.setIfInBounds_toArray, List.set_cons_zero, List.set_cons_succ])
      refine wpAnyF_take (i := 9) (v := ?_) (by kernel_rfl) (by kernel_rfl) rfl (by kernel_rfl) (by kernel_rfl) (by kernel_rfl) (fun _ _ _ h => h) (Or.inl ⟨by rfl, ?_⟩) (by assumption) ?_
      rotate_left
      · intro w' hSw; (try dsimp only at hSw); have f0 := hSw.1.cell 0; have f1 := hSw.1.cell 1; have f2 := hSw.1.cell 2; have f3 := hSw.1.cell 3; have f4 := hSw.1.cell 4; have f5 := hSw.1.cell 5; have f6 := hSw.1.cell 6; have f7 := hSw.1.cell 7; have c0 := hSw.2.cell 0; have c1 := hSw.2.cell 1; have c2 := hSw.2.cell 2; have c3 := hSw.2.cell 3; go_simp; (try with_reducible rfl)
      (try simp only [Act.put, List.getElem_toArray, List.getElem_cons_zero, List.getElem_cons_succ, List.setIfInBounds_toArray, List.set_cons_zero, List.set_cons_succ])
      refine wpAnyF_take (i := 10) (v := ?_) (by kernel_rfl) (by kernel_rfl) rfl (by kernel_rfl) (by kernel_rfl) (by kernel_rfl) (fun _ _ _ h => h) (Or.inl ⟨by rfl, ?_⟩) (by assumption) ?_
      rotate_left
      · intro w' hSw; (try dsimp only at hSw); have f0 := hSw.1.cell 0; have f1 := hSw.1.cell 1; have f2 := hSw.1.cell 2; have f3 := hSw.1.cell 3; have f4 := hSw.1.cell 4; have f5 := hSw.1.cell 5; have f6 := hSw.1.cell 6; have f7 := hSw.1.cell 7; have c0 := hSw.2.cell 0; have c1 := hSw.2.cell 1; have c2 := hSw.2.cell 2; have c3 := hSw.2.cell 3; go_simp; (try with_reducible rfl)
      (try simp only [Act.put, List.getElem_toArray, List.getElem_cons_zero, List.getElem_cons_succ, List.setIfInBounds_toArray, List.set_cons_zero, List.set_cons_succ])
      refine wpAnyF_take (i := 11) (v := ?_) (by kernel_rfl) (by kernel_rfl) rfl (by kernel_rfl) (by kernel_rfl) (by kernel_rfl) (fun _ _ _ h => h) (Or.inl ⟨by rfl, ?_⟩) (by assumption) ?_
      rotate_left
      · intro w' hSw; (try dsimp only at hSw); have f0 := hSw.1.cell 0; have f1 := hSw.1.cell 1; have f2 := hSw.1.cell 2; have f3 := hSw.1.cell 3; have f4 := hSw.1.cell 4; have f5 := hSw.1.cell 5; have f6 := hSw.1.cell 6; have f7 := hSw.1.cell 7; have c0 := hSw.2.cell 0; have c1 := hSw.2.cell 1; have c2 := hSw.2.cell 2; have c3 := hSw.2.cell 3; go_simp; (try with_reducible rfl)
      (try simp only [Act.put, List.getElem_toArray, List.getElem_cons_zero, List.getElem_cons_succ, List.setIfInBounds_toArray, List.set_cons_zero, List.set_cons_succ])
      refine wpAnyF_ready (rs := [12]) (by kernel_rfl) (by simp) ?_
      refine AllReadyF.cons rfl (fun KK hKK => ?_) AllReadyF.nil
      go_simp
      ((with_reducible refine (HL.out _).mono ?_); rintro e' w4 ⟨rfl, hb⟩; have HB4 := hi hb; have hSS := And.intro (hHeld.1.below hb) (hHeld.2.below hb); clear hb)
      (try go_simp)
      refine hKK.out _ _ hSS (fun hHeld => ?_)
      clear hKK KK
      (try simp only [Act.put, List.getElem_toArray, List.getElem_cons_zero, List.getElem_cons_succ, List.setIfInBounds_toArray, List.set_cons_zero, List.set_cons_succ])
      refine wpAnyF_ready (rs := [13]) (by kernel_rfl) (by simp) ?_
      refine AllReadyF.cons rfl (fun KK hKK => ?_) AllReadyF.nil
      go_simp
      ((with_reducible refine (HV.out _).mono ?_); rintro e' w5 ⟨rfl, rfl⟩; have hSS := hHeld)
      (try go_simp)
      refine hKK.out _ _ hSS (fun hHeld => ?_)
      clear hKK KK
      (try simp only [Act.put, List.getElem_toArray, List.getElem_cons_zero, List.getElem_cons_succ, List.setIfInBounds_toArray, List.set_cons_zero, List.set_cons_succ])
      refine wpAnyF_ready (rs := [14]) (by kernel_rfl) (by simp) ?_
      refine AllReadyF.cons rfl (fun KK hKK => ?_) AllReadyF.nil
      go_simp
      ((with_reducible refine (HP.out _).mono ?_); rintro e' w6 ⟨rfl, hb⟩; have HB6 := hi hb; have hSS := And.intro (hHeld.1.below hb) (hHeld.2.below hb); clear hb)
      (try go_simp)
      refine hKK.out _ _ hSS (fun hHeld => ?_)
      clear hKK KK
      (try simp only [Act.put, List.getElem_toArray, List.getElem_cons_zero, List.getElem_cons_succ, List.setIfInBounds_toArray, List.set_cons_zero, List.set_cons_succ])
      refine wpAnyF_ready (rs := [15]) (by kernel_rfl) (by simp) ?_
      refine AllReadyF.last (by kernel_rfl) rfl (fun KK hKK => ?_) AllReadyF.nil
      go_simp
      refine hKK.out _ _ ?_
      clear hKK KK
      (try simp only [Act.put, List.getElem_toArray, List.getElem_cons_zero, List.getElem_cons_succ, List.setIfInBounds_toArray, List.set_cons_zero, List.set_cons_succ])
      refine wpAnyF_ready (rs := [16]) (by kernel_rfl) (by simp) ?_
      refine AllReadyF.last (by kernel_rfl) rfl (fun KK hKK => ?_) AllReadyF.nil
      go_simp
      refine hKK.out _ _ ?_
      clear hKK KK
      (try simp only [Act.put, List.getElem_toArray, List.getElem_cons_zero, List.getElem_cons_succ, List.setIfInBounds_toArray, List.set_cons_zero, List.set_cons_succ])
      refine wpAnyF_ready (rs := [17]) (by kernel_rfl) (by simp) ?_
      refine AllReadyF.last (by kernel_rfl) rfl (fun KK hKK => ?_) AllReadyF.nil
      have f6 := hHeld.1.cell 6; have f7 := hHeld.1.cell 7; have ff := hHeld.1.frozen
      have HX6 := hi hHeld.1
      have HC6 := hi (hHeld.2)
      go_simp
      refine hKK.out _ _ ?_
      clear hKK KK
      (try simp only [Act.put, List.getElem_toArray, List.getElem_cons_zero, List.getElem_cons_succ, List.setIfInBounds_toArray, List.set_cons_zero, List.set_cons_succ])
      refine wpAnyF_done (by kernel_rfl) ?_ _
      refine NoPanic.normal ?_
      have hcc := (HC6.out.other b 6 (.int .u32 (wd (put r (plc cg Q) true) 0)) (by have := HLT.out; omega)).other b 7 (.int .u32 (wd (put r (plc cg Q) true) 1)) (by have := HLT.out; omega)
      have c0 := hcc.cell 0
      clear hcc
      go_wp2
      go_ret2
      refine ⟨rfl, ⟨?_, ?_⟩⟩
      · have h9 := (HX6.out.set 6 (.int .u32 (wd (put r (plc cg Q) true) 0))).set 7 (.int .u32 (wd (put r (plc cg Q) true) 1))
        simpa only [List.setIfInBounds_toArray, List.set_cons_zero, List.set_cons_succ] using h9
      · exact (Kept.of ((HBX.out.trans (HB4.out.mono HBX.out.size)).trans (HB6.out.mono (HBX.out.trans (HB4.out.mono HBX.out.size)).size))).trans ((Kept.set (bs := (· = b)) (Kept.refl _ _) _ _ rfl).trans (Kept.set (bs := (· = b)) (Kept.refl _ _) _ _ rfl))
  · have hd : decide (cg = g) = false := by simp [hcg]
    have hd2 : (cg != g) = true := by simp [hcg]
    rw [hd, Bool.false_and]
    simp only [Bool.false_eq_true, if_false]
    go_enter Try.func26, Try.ntmps26
    go_wp2
    refine wp_region_noPanic ?_
    refine wp_region_last_drew (S := (fun W' => CB W' b 29 #[.int .i64 m, .int .i64 p0, .int .i64 p1, .bool o0, .bool o1, .bool sp, .int .u32 (wd r 0), .int .u32 (wd r 1)] ∧ CB W' w.heap.size 39 #[.int .i64 ci, .int .i64 cp, .int .i64 cg, .bool cis])) [] (by kernel_rfl) ⟨HF0.out.drew, HC0.out.drew⟩ (fun hHeld => ?_)
    (try simp only [Array.replicate_succ, Array.replicate_zero, List.push_toArray, List.nil_append, List.cons_append])
    refine wpAnyF_take (i := 0) (v := ?_) (by kernel_rfl) (by kernel_rfl) rfl (by kernel_rfl) (by kernel_rfl) (by kernel_rfl) (fun _ _ _ h => h) (Or.inl ⟨by rfl, ?_⟩) (by assumption) ?_
    rotate_left
    · intro w' hSw; (try dsimp only at hSw); have f0 := hSw.1.cell 0; have f1 := hSw.1.cell 1; have f2 := hSw.1.cell 2; have f3 := hSw.1.cell 3; have f4 := hSw.1.cell 4; have f5 := hSw.1.cell 5; have f6 := hSw.1.cell 6; have f7 := hSw.1.cell 7; have c0 := hSw.2.cell 0; have c1 := hSw.2.cell 1; have c2 := hSw.2.cell 2; have c3 := hSw.2.cell 3; go_simp; (try with_reducible rfl)
    (try simp only [Act.put, List.getElem_toArray, List.getElem_cons_zero, List.setIfInBounds_toArray, List.set_cons_zero, List.set_cons_succ])
    refine wpAnyF_take (i := 1) (v := ?_) (by kernel_rfl) (by kernel_rfl) rfl (by kernel_rfl) (by kernel_rfl) (by kernel_rfl) (fun _ _ _ h => h) (Or.inl ⟨by rfl, ?_⟩) (by assumption) ?_
    rotate_left
    · intro w' hSw; (try dsimp only at hSw); have f0 := hSw.1.cell 0; have f1 := hSw.1.cell 1; have f2 := hSw.1.cell 2; have f3 := hSw.1.cell 3; have f4 := hSw.1.cell 4; have f5 := hSw.1.cell 5; have f6 := hSw.1.cell 6; have f7 := hSw.1.cell 7; have c0 := hSw.2.cell 0; have c1 := hSw.2.cell 1; have c2 := hSw.2.cell 2; have c3 := hSw.2.cell 3; go_simp; (try with_reducible rfl)
    (try simp only [Act.put, List.getElem_toArray, List.getElem_cons_zero, List.getElem_cons_succ, List.setIfInBounds_toArray, List.set_cons_zero, List.set_cons_succ])
    refine wpAnyF_take (i := 2) (v := ?_) (by kernel_rfl) (by kernel_rfl) rfl (by kernel_rfl) (by kernel_rfl) (by kernel_rfl) (fun _ _ _ h => h) (Or.inl ⟨by rfl, ?_⟩) (by assumption) ?_
    rotate_left
    · intro w' hSw; (try dsimp only at hSw); have f0 := hSw.1.cell 0; have f1 := hSw.1.cell 1; have f2 := hSw.1.cell 2; have f3 := hSw.1.cell 3; have f4 := hSw.1.cell 4; have f5 := hSw.1.cell 5; have f6 := hSw.1.cell 6; have f7 := hSw.1.cell 7; have c0 := hSw.2.cell 0; have c1 := hSw.2.cell 1; have c2 := hSw.2.cell 2; have c3 := hSw.2.cell 3; go_simp; (try with_reducible rfl)
    (try simp only [Act.put, List.getElem_toArray, List.getElem_cons_zero, List.getElem_cons_succ, List.setIfInBounds_toArray, List.set_cons_zero, List.set_cons_succ])
    refine wpAnyF_take (i := 3) (v := ?_) (by kernel_rfl) (by kernel_rfl) rfl (by kernel_rfl) (by kernel_rfl) (by kernel_rfl) (fun _ _ _ h => h) (Or.inl ⟨by rfl, ?_⟩) (by assumption) ?_
    rotate_left
    · intro w' hSw; (try dsimp only at hSw); have f0 := hSw.1.cell 0; have f1 := hSw.1.cell 1; have f2 := hSw.1.cell 2; have f3 := hSw.1.cell 3; have f4 := hSw.1.cell 4; have f5 := hSw.1.cell 5; have f6 := hSw.1.cell 6; have f7 := hSw.1.cell 7; have c0 := hSw.2.cell 0; have c1 := hSw.2.cell 1; have c2 := hSw.2.cell 2; have c3 := hSw.2.cell 3; go_simp; (try with_reducible rfl)
    (try simp only [Act.put, List.getElem_toArray, List.getElem_cons_zero, List.getElem_cons_succ, List.setIfInBounds_toArray, List.set_cons_zero, List.set_cons_succ])
    refine wpAnyF_take (i := 4) (v := ?_) (by kernel_rfl) (by kernel_rfl) rfl (by kernel_rfl) (by kernel_rfl) (by kernel_rfl) (fun _ _ _ h => h) (Or.inl ⟨by rfl, ?_⟩) (by assumption) ?_
    rotate_left
    · intro w' hSw; (try dsimp only at hSw); have f0 := hSw.1.cell 0; have f1 := hSw.1.cell 1; have f2 := hSw.1.cell 2; have f3 := hSw.1.cell 3; have f4 := hSw.1.cell 4; have f5 := hSw.1.cell 5; have f6 := hSw.1.cell 6; have f7 := hSw.1.cell 7; have c0 := hSw.2.cell 0; have c1 := hSw.2.cell 1; have c2 := hSw.2.cell 2; have c3 := hSw.2.cell 3; go_simp; (try with_reducible rfl)
    (try simp only [Act.put, List.getElem_toArray, List.getElem_cons_zero, List.getElem_cons_succ, List.setIfInBounds_toArray, List.set_cons_zero, List.set_cons_succ])
    refine wpAnyF_take (i := 5) (v := ?_) (by kernel_rfl) (by kernel_rfl) rfl (by kernel_rfl) (by kernel_rfl) (by kernel_rfl) (fun _ _ _ h => h) (Or.inl ⟨by rfl, ?_⟩) (by assumption) ?_
    rotate_left
    · intro w' hSw; (try dsimp only at hSw); have f0 := hSw.1.cell 0; have f1 := hSw.1.cell 1; have f2 := hSw.1.cell 2; have f3 := hSw.1.cell 3; have f4 := hSw.1.cell 4; have f5 := hSw.1.cell 5; have f6 := hSw.1.cell 6; have f7 := hSw.1.cell 7; have c0 := hSw.2.cell 0; have c1 := hSw.2.cell 1; have c2 := hSw.2.cell 2; have c3 := hSw.2.cell 3; go_simp; (try with_reducible rfl)
    (try simp only [Act.put, List.getElem_toArray, List.getElem_cons_zero, List.getElem_cons_succ, List.setIfInBounds_toArray, List.set_cons_zero, List.set_cons_succ])
    refine wpAnyF_take (i := 6) (v := ?_) (by kernel_rfl) (by kernel_rfl) rfl (by kernel_rfl) (by kernel_rfl) (by kernel_rfl) (fun _ _ _ h => h) (Or.inl ⟨by rfl, ?_⟩) (by assumption) ?_
    rotate_left
    · intro w' hSw; (try dsimp only at hSw); have f0 := hSw.1.cell 0; have f1 := hSw.1.cell 1; have f2 := hSw.1.cell 2; have f3 := hSw.1.cell 3; have f4 := hSw.1.cell 4; have f5 := hSw.1.cell 5; have f6 := hSw.1.cell 6; have f7 := hSw.1.cell 7; have c0 := hSw.2.cell 0; have c1 := hSw.2.cell 1; have c2 := hSw.2.cell 2; have c3 := hSw.2.cell 3; go_simp; (try with_reducible rfl)
    (try simp only [Act.put, List.getElem_toArray, List.getElem_cons_zero, List.getElem_cons_succ, List.setIfInBounds_toArray, List.set_cons_zero, List.set_cons_succ])
    refine wpAnyF_take (i := 7) (v := ?_) (by kernel_rfl) (by kernel_rfl) rfl (by kernel_rfl) (by kernel_rfl) (by kernel_rfl) (fun _ _ _ h => h) (Or.inl ⟨by rfl, ?_⟩) (by assumption) ?_
    rotate_left
    · intro w' hSw; (try dsimp only at hSw); have f0 := hSw.1.cell 0; have f1 := hSw.1.cell 1; have f2 := hSw.1.cell 2; have f3 := hSw.1.cell 3; have f4 := hSw.1.cell 4; have f5 := hSw.1.cell 5; have f6 := hSw.1.cell 6; have f7 := hSw.1.cell 7; have c0 := hSw.2.cell 0; have c1 := hSw.2.cell 1; have c2 := hSw.2.cell 2; have c3 := hSw.2.cell 3; go_simp; (try with_reducible rfl)
    (try simp only [Act.put, List.getElem_toArray, List.getElem_cons_zero, List.getElem_cons_succ, List.setIfInBounds_toArray, List.set_cons_zero, List.set_cons_succ])
    refine wpAnyF_take (i := 8) (v := ?_) (by kernel_rfl) (by kernel_rfl) rfl (by kernel_rfl) (by kernel_rfl) (by kernel_rfl) (fun _ _ _ h => h) (Or.inl ⟨by rfl, ?_⟩) (by assumption) ?_
    rotate_left
    · intro w' hSw; (try dsimp only at hSw); have f0 := hSw.1.cell 0; have f1 := hSw.1.cell 1; have f2 := hSw.1.cell 2; have f3 := hSw.1.cell 3; have f4 := hSw.1.cell 4; have f5 := hSw.1.cell 5; have f6 := hSw.1.cell 6; have f7 := hSw.1.cell 7; have c0 := hSw.2.cell 0; have c1 := hSw.2.cell 1; have c2 := hSw.2.cell 2; have c3 := hSw.2.cell 3; go_simp; (try with_reducible rfl)
    (try simp only [Act.put, List.getElem_toArray, List.getElem_cons_zero, List.getElem_cons_succ, List.setIfInBounds_toArray, List.set_cons_zero, List.set_cons_succ])
    refine wpAnyF_take (i := 9) (v := undef) (by kernel_rfl) (by kernel_rfl) rfl (by kernel_rfl) (by kernel_rfl) (by kernel_rfl) (fun _ _ _ h => h) (Or.inr ⟨by rfl, rfl⟩) (by assumption) ?_
    (try simp only [Act.put, List.getElem_toArray, List.getElem_cons_zero, List.getElem_cons_succ, List.setIfInBounds_toArray, List.set_cons_zero, List.set_cons_succ])
    refine wpAnyF_take (i := 10) (v := undef) (by kernel_rfl) (by kernel_rfl) rfl (by kernel_rfl) (by kernel_rfl) (by kernel_rfl) (fun _ _ _ h => h) (Or.inr ⟨by rfl, rfl⟩) (by assumption) ?_
    (try simp only [Act.put, List.getElem_toArray, List.getElem_cons_zero, List.getElem_cons_succ, List.setIfInBounds_toArray, List.set_cons_zero, List.set_cons_succ])
    refine wpAnyF_take (i := 11) (v := undef) (by kernel_rfl) (by kernel_rfl) rfl (by kernel_rfl) (by kernel_rfl) (by kernel_rfl) (fun _ _ _ h => h) (Or.inr ⟨by rfl, rfl⟩) (by assumption) ?_
    (try simp only [Act.put, List.getElem_toArray, List.getElem_cons_zero, List.getElem_cons_succ, List.setIfInBounds_toArray, List.set_cons_zero, List.set_cons_succ])
    refine wpAnyF_take (i := 12) (v := undef) (by kernel_rfl) (by kernel_rfl) rfl (by kernel_rfl) (by kernel_rfl) (by kernel_rfl) (fun _ _ _ h => h) (Or.inr ⟨by rfl, rfl⟩) (by assumption) ?_
    (try simp only [Act.put, List.getElem_toArray, List.getElem_cons_zero, List.getElem_cons_succ, List.setIfInBounds_toArray, List.set_cons_zero, List.set_cons_succ])
    refine wpAnyF_take (i := 13) (v := undef) (by kernel_rfl) (by kernel_rfl) rfl (by kernel_rfl) (by kernel_rfl) (by kernel_rfl) (fun _ _ _ h => h) (Or.inr ⟨by rfl, rfl⟩) (by assumption) ?_
    (try simp only [Act.put, List.getElem_toArray, List.getElem_cons_zero, List.getElem_cons_succ, List.setIfInBounds_toArray, List.set_cons_zero, List.set_cons_succ])
    refine wpAnyF_take (i := 14) (v := undef) (by kernel_rfl) (by kernel_rfl) rfl (by kernel_rfl) (by kernel_rfl) (by kernel_rfl) (fun _ _ _ h => h) (Or.inr ⟨by rfl, rfl⟩) (by assumption) ?_
    (try simp only [Act.put, List.getElem_toArray, List.getElem_cons_zero, List.getElem_cons_succ, List.setIfInBounds_toArray, List.set_cons_zero, List.set_cons_succ])
    refine wpAnyF_take (i := 15) (v := ?_) (by kernel_rfl) (by kernel_rfl) rfl (by kernel_rfl) (by kernel_rfl) (by kernel_rfl) (fun _ _ _ h => h) (Or.inl ⟨by rfl, ?_⟩) (by assumption) ?_
    rotate_left
    · intro w' hSw; (try dsimp only at hSw); have f0 := hSw.1.cell 0; have f1 := hSw.1.cell 1; have f2 := hSw.1.cell 2; have f3 := hSw.1.cell 3; have f4 := hSw.1.cell 4; have f5 := hSw.1.cell 5; have f6 := hSw.1.cell 6; have f7 := hSw.1.cell 7; have c0 := hSw.2.cell 0; have c1 := hSw.2.cell 1; have c2 := hSw.2.cell 2; have c3 := hSw.2.cell 3; go_simp; (try with_reducible rfl)
    (try simp only [Act.put, List.getElem_toArray, List.getElem_cons_zero, List.getElem_cons_succ, List.setIfInBounds_toArray, List.set_cons_zero, List.set_cons_succ])
    refine wpAnyF_done (by kernel_rfl) ?_ _
    refine NoPanic.normal ?_
    go_wp2
    go_ret2
    exact ⟨rfl, ⟨HF0.out, Kept.of (Below.drewN (m := 1) HB0.out)⟩⟩
set_option maxHeartbeats 4000000 in
theorem drop_if (b : Nat) (x : Fc) (g : Int) (w : World) (h : CB w b 29 x.cs) :
    Calls Try.prog 29 #[.pointer (some ⟨b, 0, none⟩), .int .i64 g] w fun e w' => e = .returned (.bool (dropV x g).2) ∧ FcAf w b (dropV x g).1 w' := by
  have HR := hi (fun W => ifrun_any x W)
  have HD := hi (fun W => drop_any x.r W)
  unfold dropV
  obtain ⟨m, p0, p1, o0, o1, sp, r⟩ := x
  dsimp only at HR HD h ⊢
  obtain ⟨⟨R1, R2⟩, hR⟩ : ∃ R, runV r = R := ⟨_, rfl⟩
  rw [hR] at HR ⊢
  dsimp only at HR ⊢
  obtain ⟨q, hq⟩ : ∃ q, dropR r = q := ⟨_, rfl⟩
  rw [hq] at HD ⊢
  obtain ⟨B, hB⟩ : ∃ B, dropB r = B := ⟨_, rfl⟩
  rw [hB] at HD ⊢
  have HF := hi h
  have HLT := hi h.lt
  have f0 := h.cell 0
  have f1 := h.cell 1
  have f2 := h.cell 2
  have f3 := h.cell 3
  have f4 := h.cell 4
  have f5 := h.cell 5
  have f6 := h.cell 6
  have f7 := h.cell 7
  clear hR hq hB h
  cases B
  · simp only [Bool.false_and, Bool.false_eq_true, if_false]
    go_enter Try.func29, Try.ntmps29
    go_wp2_with (first
      | (go_at_call 28; ((with_reducible refine (HR.out _).mono ?_); rintro e w1 ⟨rfl, hb⟩; have HF1 := hi (HF.out.below hb); have HB1 := hi hb; have k6 := HF1.out.cell 6; have k7 := HF1.out.cell 7; clear hb))
      | (go_at_call 49; ((with_reducible refine (HD.out _).mono ?_); rintro e w2 ⟨rfl, hb⟩; have hbb := hb.alloc hb.size (.cells #[.int .u32 (wd q 0), .int .u32 (wd q 1)] 27); have HF2 := hi (HF1.out.below hbb); have HB2 := hi (HB1.out.trans (hbb.mono HB1.out.size)); have HL2 := CB.new w2 27 #[.int .u32 (wd q 0), .int .u32 (wd q 1)]; have l0 := HL2.cell 0; have l1 := HL2.cell 1; have m6 := HF2.out.cell 6; have m7 := HF2.out.cell 7; have mf := HF2.out.frozen; clear hb hbb HL2)))
    go_ret
    exact ⟨rfl, ⟨HF2.out, Kept.of HB2.out⟩⟩
  · by_cases hg : R2 = g
    · subst hg
      have hd : decide (R2 = R2) = true := by simp
      rw [hd]
      simp only [Bool.true_and, if_true]
      go_enter Try.func29, Try.ntmps29
      go_wp2_with (first
        | (go_at_call 28; ((with_reducible refine (HR.out _).mono ?_); rintro e w1 ⟨rfl, hb⟩; have HF1 := hi (HF.out.below hb); have HB1 := hi hb; have k6 := HF1.out.cell 6; have k7 := HF1.out.cell 7; clear hb))
        | (go_at_call 49; ((with_reducible refine (HD.out _).mono ?_); rintro e w2 ⟨rfl, hb⟩; have hbb := hb.alloc hb.size (.cells #[.int .u32 (wd q 0), .int .u32 (wd q 1)] 27); have HF2 := hi (HF1.out.below hbb); have HB2 := hi (HB1.out.trans (hbb.mono HB1.out.size)); have HL2 := CB.new w2 27 #[.int .u32 (wd q 0), .int .u32 (wd q 1)]; have l0 := HL2.cell 0; have l1 := HL2.cell 1; have m6 := HF2.out.cell 6; have m7 := HF2.out.cell 7; have mf := HF2.out.frozen; clear hb hbb HL2)))
      go_ret
      refine ⟨rfl, ⟨?_, ?_⟩⟩
      · have h9 := (HF2.out.set 6 (.int .u32 (wd q 0))).set 7 (.int .u32 (wd q 1))
        simpa only [List.setIfInBounds_toArray, List.set_cons_zero, List.set_cons_succ] using h9
      · exact (Kept.of HB2.out).trans ((Kept.set (bs := (· = b)) (Kept.refl _ _) _ _ rfl).trans (Kept.set (bs := (· = b)) (Kept.refl _ _) _ _ rfl))
    · have hd : decide (R2 = g) = false := by simp [hg]
      have hd2 : (R2 != g) = true := by simp [hg]
      rw [hd]
      simp only [Bool.and_false, Bool.false_eq_true, if_false]
      go_enter Try.func29, Try.ntmps29
      go_wp2_with (first
        | (go_at_call 28; ((with_reducible refine (HR.out _).mono ?_); rintro e w1 ⟨rfl, hb⟩; have HF1 := hi (HF.out.below hb); have HB1 := hi hb; have k6 := HF1.out.cell 6; have k7 := HF1.out.cell 7; clear hb))
        | (go_at_call 49; ((with_reducible refine (HD.out _).mono ?_); rintro e w2 ⟨rfl, hb⟩; have hbb := hb.alloc hb.size (.cells #[.int .u32 (wd q 0), .int .u32 (wd q 1)] 27); have HF2 := hi (HF1.out.below hbb); have HB2 := hi (HB1.out.trans (hbb.mono HB1.out.size)); have HL2 := CB.new w2 27 #[.int .u32 (wd q 0), .int .u32 (wd q 1)]; have l0 := HL2.cell 0; have l1 := HL2.cell 1; have m6 := HF2.out.cell 6; have m7 := HF2.out.cell 7; have mf := HF2.out.frozen; clear hb hbb HL2)))
      go_ret
      exact ⟨rfl, ⟨HF2.out, Kept.of HB2.out⟩⟩

end Go.Proofs.Ytnnlimjbmfpalaa
