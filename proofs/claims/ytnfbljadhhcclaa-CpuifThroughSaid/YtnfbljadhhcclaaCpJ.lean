/-
  The law: what comes through is the first of the best that may (CpuifThrough).
-/
import Derived.Test.YtnfbljadhhcclaaCpI
import Derived.Laws.StructEq
namespace Go.Proofs.Ytnfbljadhhcclaa
open Go.ChangeShapes Go.WideShapes Go.ChangeAt Go.RowKit Go.Shelf
set_option linter.unusedVariables false
attribute [local go_sem] Oper.semAt_some

/-! ### Candidates compared -/
def eqCd (a b : Cd) : Bool := a.id == b.id && (a.p == b.p && (a.g == b.g && a.is == b.is))
theorem eqCd_self (a : Cd) : eqCd a a = true := by simp [eqCd]
theorem equal_cand (i p g i' p' g' : Int) (b b' : Bool) (w : World) : (Op.equalIn 10000 39 (.agg #[.int .i64 i, .int .i64 p, .int .i64 g, .bool b]) (.agg #[.int .i64 i', .int .i64 p', .int .i64 g', .bool b'])).run Try.prog w = .ok (eqCd ⟨i, p, g, b⟩ ⟨i', p', g', b'⟩) w := by
  have u3 := Try.underlying4
  have a3 := Try.isAgg4
  have z3 := Try.sizeOf4
  have u4 := Try.underlying3
  have a4 := Try.isAgg3
  have z4 := Try.sizeOf3
  have hS : Try.prog.underlying 39 = some (.struct (Try.prog.fieldsOf 39)) := by kernel_rfl
  have hp : Try.prog.stoodInHeld 39 = false := by kernel_rfl
  rw [show (10000 : Nat) = 9999 + 1 from rfl, run_equalIn_agg w 9999 _ _ _ hS hp]
  simp only [Program.fieldsOf, Try.underlying39]
  have e0 : eqCd ⟨i, p, g, b⟩ ⟨i', p', g', b'⟩ = (i == i' && (p == p' && (g == g' && b == b'))) := rfl
  rw [e0]
  clear e0
  by_cases h1 : i = i'
  · by_cases h2 : p = p'
    · by_cases h3 : g = g'
      · cases b <;> cases b' <;> (subst h1; subst h2; subst h3; go_simp)
      · have t3 : (g == g') = false := by simpa using h3
        subst h1; subst h2; rw [t3]; go_simp
    · have t2 : (p == p') = false := by simpa using h2
      subst h1; rw [t2]; go_simp
  · have t1 : (i == i') = false := by simpa using h1
    rw [t1]; go_simp
theorem eqlC2 (i p g i' p' g' : Int) (b b' : Bool) (w : World) : (binOp .eql 39 (.agg #[.int .i64 i, .int .i64 p, .int .i64 g, .bool b]) (.agg #[.int .i64 i', .int .i64 p', .int .i64 g', .bool b'])).run Try.prog w = .ok (.bool (eqCd ⟨i, p, g, b⟩ ⟨i', p', g', b'⟩)) w := by
  rw [run_eql_struct, equal_cand]; rfl
theorem neqC0 (w : World) : (binOp .neq 39 (.agg #[.int .i64 0, .int .i64 0, .int .i64 0, .bool false]) (.agg #[.int .i64 0, .int .i64 0, .int .i64 0, .bool false])).run Try.prog w = .ok (.bool false) w := by
  rw [run_neq_struct, equal_cand]; rfl
theorem guardC (op : BinOp) (x y : Operand) (xs ys : Array Value) (w : World) : (eqGuard op 39 x y (.agg xs) (.agg ys)).run Try.prog w = .ok () w := run_eqGuard_agg w op _ _ _ _ _ (by kernel_rfl)

theorem CdC.drew {W : World} {b o : Nat} {x : Cd} (h : CdC W b o x) : CdC W.drew b o x := ⟨by simpa using h.c0, by simpa using h.c1, by simpa using h.c2, by simpa using h.c3⟩

/-! ### Plain -/
theorem may_is {x : Fc} {c : Cd} (h : mayV x c = true) : c.is = true := by
  unfold mayV at h
  simp only [Bool.and_eq_true] at h
  exact h.1
theorem before_trans {p a q b r c : Int} (h : beforeB p a q b = true) (h2 : beforeB r c q b = false) : beforeB r c p a = false := by
  unfold beforeB at *
  simp at *
  omega
theorem before_irr (p a : Int) : beforeB p a p a = false := by simp [beforeB]
structure ThS (x : Fc) (xs : List Cd) (k : Nat) (a : Cd) : Prop where
  may : a.is = true → mayV x a = true
  zero : a.is = false → a = Cd.zero
  none_ : ∀ j, j < k → mayV x (nthA xs j) = true → a.is = true ∧ beforeB (nthA xs j).p (nthA xs j).id a.p a.id = false
  some_ : a.is = true → ∃ j, j < k ∧ nthA xs j = a
theorem thrS {x : Fc} {xs : List Cd} : ∀ k, k ≤ xs.length → ThS x xs k (thrV x (xs.take k))
  | 0, _ => by
    rw [thrV_zero]
    exact ⟨fun h => by simp [Cd.zero] at h, fun _ => rfl, fun j hj => by omega, fun h => by simp [Cd.zero] at h⟩
  | k + 1, hk => by
    have ih := thrS (x := x) (xs := xs) k (by omega)
    rw [thrV_next (xs := xs) (k := k) (by omega)]
    generalize thrV x (xs.take k) = a at *
    by_cases hp : pickB x a (nthA xs k) = true
    · rw [if_pos hp]
      unfold pickB at hp
      simp only [Bool.and_eq_true, Bool.or_eq_true, Bool.not_eq_true'] at hp
      obtain ⟨hm, hb⟩ := hp
      have hi := may_is hm
      refine ⟨fun _ => hm, fun h => by simp [hi] at h, fun j hj hj2 => ⟨hi, ?_⟩, fun _ => ⟨k, by omega, rfl⟩⟩
      by_cases hjk : j = k
      · subst hjk; exact before_irr _ _
      · obtain ⟨h1, h2⟩ := ih.none_ j (by omega) hj2
        rcases hb with hb | hb
        · rw [h1] at hb; exact absurd hb (by decide)
        · exact before_trans hb h2
    · rw [if_neg hp]
      refine ⟨ih.may, ih.zero, fun j hj hj2 => ?_, fun h => by obtain ⟨j, h1, h2⟩ := ih.some_ h; exact ⟨j, by omega, h2⟩⟩
      by_cases hjk : j = k
      · subst hjk
        unfold pickB at hp
        simp [hj2] at hp
        exact hp
      · exact ih.none_ j (by omega) hj2
def foundV (x : Fc) (a : Cd) (cs : List Cd) : Bool := cs.any (fun c => mayV x c && eqCd c a)
theorem foundV_next {x : Fc} {a : Cd} {xs : List Cd} {k : Nat} (h : k < xs.length) : foundV x a (xs.take (k + 1)) = (foundV x a (xs.take k) || (mayV x (nthA xs k) && eqCd (nthA xs k) a)) := by
  rw [take_nthA h]
  simp [foundV]
theorem foundV_all {x : Fc} {xs : List Cd} : foundV x (thrV x xs) xs = (thrV x xs).is := by
  have h := thrS (x := x) (xs := xs) xs.length (Nat.le_refl _)
  rw [List.take_length] at h
  generalize thrV x xs = a at *
  cases ha : a.is
  · unfold foundV
    rw [List.any_eq_false]
    intro c hc
    obtain ⟨j, hj, rfl⟩ := List.getElem_of_mem hc
    have e : nthA xs j = xs[j] := by simp [nthA, List.getElem?_eq_getElem hj]
    cases hm : mayV x xs[j]
    · simp
    · have := (h.none_ j hj (by rw [e]; exact hm)).1
      rw [ha] at this
      exact absurd this (by decide)
  · obtain ⟨j, hj, rfl⟩ := h.some_ ha
    unfold foundV
    rw [List.any_eq_true]
    refine ⟨nthA xs j, ?_, by rw [h.may ha, eqCd_self]; rfl⟩
    unfold nthA
    rw [List.getElem?_eq_getElem hj]
    exact List.getElem_mem hj
set_option maxRecDepth 100000 in
set_option maxHeartbeats 16000000 in
theorem through_law (x : Fc) (xs : List Cd) (v : Value) (w : World) (h : CandsAt w v xs) (hl : xs.length ≤ 9223372036854775806) :
    Calls Try.prog 4 #[x.v, v] w fun e w' => e = .returned (.bool true) ∧ Below w.heap.size w w' := by
  obtain ⟨a0, cap, rfl⟩ := h.slice
  have hq := fun i p g i' p' g' b b' W => eqlC2 i p g i' p' g' b b' W
  have hn0 := fun W => neqC0 W
  have hgc := fun op x y xs ys W => guardC op x y xs ys W
  have HM := hi (fun c W => may_any x c W)
  have HTH := hi (fun W (k : Below w.heap.size w W) => through_any x xs (.slice a0 xs.length cap) W (h.below k) hl)
  have HACT := hi h
  have sp := thrS (x := x) (xs := xs) xs.length (Nat.le_refl _)
  rw [List.take_length] at sp
  have hall := foundV_all (x := x) (xs := xs)
  obtain ⟨a, ha⟩ : ∃ a, thrV x xs = a := ⟨_, rfl⟩
  rw [ha] at sp hall HTH
  have hnx := fun k (h : k < xs.length) => foundV_next (x := x) (a := a) h
  have hnone := sp.none_
  have HMA := hi (fun (z : a.is = true) W => (may_any x a W).mono (fun e w' (y : e = .returned (.bool _) ∧ Below W.heap.size W w') => show e = .returned (.bool true) ∧ Below W.heap.size W w' from ⟨by rw [y.1, sp.may z], y.2⟩))
  have hzero := sp.zero
  have hend : foundV x a xs = foundV x a (xs.take xs.length) := by rw [List.take_length]
  obtain ⟨k9, hk9⟩ : ∃ k, xs.length = k := ⟨_, rfl⟩
  rw [hk9] at HACT hl hnx hnone HTH hend ⊢
  clear h ha sp hk9
  obtain ⟨m, p0, p1, o0, o1, sp, r⟩ := x
  obtain ⟨ai, ap, ag, ais⟩ := a
  cases ais
  · obtain ⟨rfl, rfl, rfl⟩ : ai = 0 ∧ ap = 0 ∧ ag = 0 := by
      have := hzero rfl
      simp only [Cd.zero, Cd.mk.injEq] at this
      exact ⟨this.1, this.2.1, this.2.2.1⟩
    clear HMA hzero
    go_enter Try.func4, Try.ntmps4
    go_wp2_with (first
      | (go_at_call 9; ((with_reducible refine (awake_if _).mono ?_); rintro e w1 ⟨rfl, hb⟩; have F1 := hi ((CB.new w 29 #[.int .i64 m, .int .i64 p0, .int .i64 p1, .bool o0, .bool o1, .bool sp, .int .u32 (wd r 0), .int .u32 (wd r 1)]).below hb); have B1 := hi ((bal w _).trans (hb.mono (bal w _).size)); have f0 : World.cell? w1 ⟨w.heap.size, 0, none⟩ = some (.int .i64 m) := F1.out.cell 0; have f1 : World.cell? w1 ⟨w.heap.size, 1, none⟩ = some (.int .i64 p0) := F1.out.cell 1; have f2 : World.cell? w1 ⟨w.heap.size, 2, none⟩ = some (.int .i64 p1) := F1.out.cell 2; have f3 : World.cell? w1 ⟨w.heap.size, 3, none⟩ = some (.bool o0) := F1.out.cell 3; have f4 : World.cell? w1 ⟨w.heap.size, 4, none⟩ = some (.bool o1) := F1.out.cell 4; have f5 : World.cell? w1 ⟨w.heap.size, 5, none⟩ = some (.bool sp) := F1.out.cell 5; have f6 : World.cell? w1 ⟨w.heap.size, 6, none⟩ = some (.int .u32 (wd r 0)) := F1.out.cell 6; have f7 : World.cell? w1 ⟨w.heap.size, 7, none⟩ = some (.int .u32 (wd r 1)) := F1.out.cell 7; clear hb))
      | (go_at_call 24; ((with_reducible refine (HTH.out _ B1.out).mono ?_); rintro e w2 ⟨rfl, hb⟩; have hal := bal w2 (.cells #[.int .i64 0, .int .i64 0, .int .i64 0, .bool false] 39); have F2 := hi ((F1.out.below hb).below hal); have A2 := hi (CB.new w2 39 #[.int .i64 0, .int .i64 0, .int .i64 0, .bool false]); have hBB := B1.out.trans (hb.mono B1.out.size); have B2 := hi (hBB.trans (hal.mono hBB.size)); have L2 := hi (show w.heap.size < w2.heap.size from (F1.out.below hb).lt); have f0 : World.cell? (w2.alloc (.cells #[.int .i64 0, .int .i64 0, .int .i64 0, .bool false] 39)) ⟨w.heap.size, 0, none⟩ = some (.int .i64 m) := F2.out.cell 0; have f1 : World.cell? (w2.alloc (.cells #[.int .i64 0, .int .i64 0, .int .i64 0, .bool false] 39)) ⟨w.heap.size, 1, none⟩ = some (.int .i64 p0) := F2.out.cell 1; have f2 : World.cell? (w2.alloc (.cells #[.int .i64 0, .int .i64 0, .int .i64 0, .bool false] 39)) ⟨w.heap.size, 2, none⟩ = some (.int .i64 p1) := F2.out.cell 2; have f3 : World.cell? (w2.alloc (.cells #[.int .i64 0, .int .i64 0, .int .i64 0, .bool false] 39)) ⟨w.heap.size, 3, none⟩ = some (.bool o0) := F2.out.cell 3; have f4 : World.cell? (w2.alloc (.cells #[.int .i64 0, .int .i64 0, .int .i64 0, .bool false] 39)) ⟨w.heap.size, 4, none⟩ = some (.bool o1) := F2.out.cell 4; have f5 : World.cell? (w2.alloc (.cells #[.int .i64 0, .int .i64 0, .int .i64 0, .bool false] 39)) ⟨w.heap.size, 5, none⟩ = some (.bool sp) := F2.out.cell 5; have f6 : World.cell? (w2.alloc (.cells #[.int .i64 0, .int .i64 0, .int .i64 0, .bool false] 39)) ⟨w.heap.size, 6, none⟩ = some (.int .u32 (wd r 0)) := F2.out.cell 6; have f7 : World.cell? (w2.alloc (.cells #[.int .i64 0, .int .i64 0, .int .i64 0, .bool false] 39)) ⟨w.heap.size, 7, none⟩ = some (.int .u32 (wd r 1)) := F2.out.cell 7; have x0 : World.cell? (w2.alloc (.cells #[.int .i64 0, .int .i64 0, .int .i64 0, .bool false] 39)) ⟨w2.heap.size, 0, none⟩ = some (.int .i64 0) := A2.out.cell 0; have x1 : World.cell? (w2.alloc (.cells #[.int .i64 0, .int .i64 0, .int .i64 0, .bool false] 39)) ⟨w2.heap.size, 1, none⟩ = some (.int .i64 0) := A2.out.cell 1; have x2 : World.cell? (w2.alloc (.cells #[.int .i64 0, .int .i64 0, .int .i64 0, .bool false] 39)) ⟨w2.heap.size, 2, none⟩ = some (.int .i64 0) := A2.out.cell 2; have x3 : World.cell? (w2.alloc (.cells #[.int .i64 0, .int .i64 0, .int .i64 0, .bool false] 39)) ⟨w2.heap.size, 3, none⟩ = some (.bool false) := A2.out.cell 3; clear hb hal hBB)))
    have F := hi (show CB (w2.alloc (.cells #[.int .i64 0, .int .i64 0, .int .i64 0, .bool false] 39)) w.heap.size 29 #[.int .i64 m, .int .i64 p0, .int .i64 p1, .bool o0, .bool o1, .bool sp, .int .u32 (wd r 0), .int .u32 (wd r 1)] from F2.out)
    have A := hi (show CB (w2.alloc (.cells #[.int .i64 0, .int .i64 0, .int .i64 0, .bool false] 39)) w2.heap.size 39 #[.int .i64 0, .int .i64 0, .int .i64 0, .bool false] from A2.out)
    have B := hi (show Below w.heap.size w (w2.alloc (.cells #[.int .i64 0, .int .i64 0, .int .i64 0, .bool false] 39)) from B2.out)
    go_loopw [9, 8] (fun i fo wr => ∃ k : Nat, k ≤ k9 ∧ i = .int .i64 k ∧ fo = .bool (foundV (⟨m, p0, p1, o0, o1, sp, r⟩ : Fc) ⟨0, 0, 0, false⟩ (xs.take k)) ∧ Hi (CB wr w.heap.size 29 #[.int .i64 m, .int .i64 p0, .int .i64 p1, .bool o0, .bool o1, .bool sp, .int .u32 (wd r 0), .int .u32 (wd r 1)] ∧ CB wr w2.heap.size 39 #[.int .i64 0, .int .i64 0, .int .i64 0, .bool false] ∧ Below w.heap.size w wr)) (fun i _ _ => k9 - (intOf i).toNat)
    case atStart => exact ⟨0, Nat.zero_le _, rfl, rfl, hi ⟨F.out, A.out, B.out⟩⟩
    case round =>
      obtain ⟨k, hk, rfl, rfl, HX⟩ := hrel
      by_cases hlt : k < k9
      · obtain ⟨ab, o, rfl, hab, hc⟩ := HACT.out.read hlt
        have hn := hnx k hlt
        have hno := hnone k hlt
        obtain ⟨c, hcc⟩ : ∃ c, nthA xs k = c := ⟨_, rfl⟩
        rw [hcc] at hc hn hno
        have C1 := hi (HM.out c)
        have HC := hi (hc _ HX.out.2.2)
        obtain ⟨ci, cp, cg, cis⟩ := c
        have HBf := hi (fun W => refBefore_any cp ci 0 0 W)
        obtain ⟨M, hM⟩ : ∃ M, mayV (⟨m, p0, p1, o0, o1, sp, r⟩ : Fc) ⟨ci, cp, cg, cis⟩ = M := ⟨_, rfl⟩
        rw [hM] at hn hno C1
        obtain ⟨fo, hfo⟩ : ∃ fo, foundV (⟨m, p0, p1, o0, o1, sp, r⟩ : Fc) ⟨0, 0, 0, false⟩ (xs.take k) = fo := ⟨_, rfl⟩
        rw [hfo] at hn ⊢
        clear hc hcc hM hfo
        go_wp2
        have HABL := hi (show ab < wr.drew.heap.size from Nat.lt_of_lt_of_le hab (HX.out.2.2.size))
        cases M
        · refine wp_region_noPanic ?_
          refine wp_region_last_drew (S := (fun W' => CB W' w.heap.size 29 #[.int .i64 m, .int .i64 p0, .int .i64 p1, .bool o0, .bool o1, .bool sp, .int .u32 (wd r 0), .int .u32 (wd r 1)] ∧ CB W' w2.heap.size 39 #[.int .i64 0, .int .i64 0, .int .i64 0, .bool false] ∧ CdC W' ab (o + k * 4) ⟨ci, cp, cg, cis⟩)) [] (by kernel_rfl) ⟨HX.out.1.drew, HX.out.2.1.drew, HC.out.drew⟩ (fun hHeld => ?_)
          (try simp only [Array.replicate_succ, Array.replicate_zero, List.push_toArray, List.nil_append, List.cons_append])
          refine wpAnyF_take (i := 0) (v := ?_) (by kernel_rfl) (by kernel_rfl) rfl (by kernel_rfl) (by kernel_rfl) (by kernel_rfl) (fun _ _ _ h => h) (Or.inl ⟨by rfl, ?_⟩) (by assumption) ?_
          rotate_left
          · intro w' hSw; (try dsimp only at hSw); have f0 := hSw.1.cell 0; have f1 := hSw.1.cell 1; have f2 := hSw.1.cell 2; have f3 := hSw.1.cell 3; have f4 := hSw.1.cell 4; have f5 := hSw.1.cell 5; have f6 := hSw.1.cell 6; have f7 := hSw.1.cell 7; have x0 := hSw.2.1.cell 0; have x1 := hSw.2.1.cell 1; have x2 := hSw.2.1.cell 2; have x3 := hSw.2.1.cell 3; have c0 := hSw.2.2.c0; have c1 := hSw.2.2.c1; have c2 := hSw.2.2.c2; have c3 := hSw.2.2.c3; go_simp; (try with_reducible rfl)
          (try simp only [Act.put, List.getElem_toArray, List.getElem_cons_zero, List.setIfInBounds_toArray, List.set_cons_zero, List.set_cons_succ])
          refine wpAnyF_take (i := 1) (v := ?_) (by kernel_rfl) (by kernel_rfl) rfl (by kernel_rfl) (by kernel_rfl) (by kernel_rfl) (fun _ _ _ h => h) (Or.inl ⟨by rfl, ?_⟩) (by assumption) ?_
          rotate_left
          · intro w' hSw; (try dsimp only at hSw); have f0 := hSw.1.cell 0; have f1 := hSw.1.cell 1; have f2 := hSw.1.cell 2; have f3 := hSw.1.cell 3; have f4 := hSw.1.cell 4; have f5 := hSw.1.cell 5; have f6 := hSw.1.cell 6; have f7 := hSw.1.cell 7; have x0 := hSw.2.1.cell 0; have x1 := hSw.2.1.cell 1; have x2 := hSw.2.1.cell 2; have x3 := hSw.2.1.cell 3; have c0 := hSw.2.2.c0; have c1 := hSw.2.2.c1; have c2 := hSw.2.2.c2; have c3 := hSw.2.2.c3; go_simp; (try with_reducible rfl)
          (try simp only [Act.put, List.getElem_toArray, List.getElem_cons_zero, List.getElem_cons_succ, List.setIfInBounds_toArray, List.set_cons_zero, List.set_cons_succ])
          refine wpAnyF_take (i := 2) (v := ?_) (by kernel_rfl) (by kernel_rfl) rfl (by kernel_rfl) (by kernel_rfl) (by kernel_rfl) (fun _ _ _ h => h) (Or.inl ⟨by rfl, ?_⟩) (by assumption) ?_
          rotate_left
          · intro w' hSw; (try dsimp only at hSw); have f0 := hSw.1.cell 0; have f1 := hSw.1.cell 1; have f2 := hSw.1.cell 2; have f3 := hSw.1.cell 3; have f4 := hSw.1.cell 4; have f5 := hSw.1.cell 5; have f6 := hSw.1.cell 6; have f7 := hSw.1.cell 7; have x0 := hSw.2.1.cell 0; have x1 := hSw.2.1.cell 1; have x2 := hSw.2.1.cell 2; have x3 := hSw.2.1.cell 3; have c0 := hSw.2.2.c0; have c1 := hSw.2.2.c1; have c2 := hSw.2.2.c2; have c3 := hSw.2.2.c3; go_simp; (try with_reducible rfl)
          (try simp only [Act.put, List.getElem_toArray, List.getElem_cons_zero, List.getElem_cons_succ, List.setIfInBounds_toArray, List.set_cons_zero, List.set_cons_succ])
          refine wpAnyF_take (i := 3) (v := ?_) (by kernel_rfl) (by kernel_rfl) rfl (by kernel_rfl) (by kernel_rfl) (by kernel_rfl) (fun _ _ _ h => h) (Or.inl ⟨by rfl, ?_⟩) (by assumption) ?_
          rotate_left
          · intro w' hSw; (try dsimp only at hSw); have f0 := hSw.1.cell 0; have f1 := hSw.1.cell 1; have f2 := hSw.1.cell 2; have f3 := hSw.1.cell 3; have f4 := hSw.1.cell 4; have f5 := hSw.1.cell 5; have f6 := hSw.1.cell 6; have f7 := hSw.1.cell 7; have x0 := hSw.2.1.cell 0; have x1 := hSw.2.1.cell 1; have x2 := hSw.2.1.cell 2; have x3 := hSw.2.1.cell 3; have c0 := hSw.2.2.c0; have c1 := hSw.2.2.c1; have c2 := hSw.2.2.c2; have c3 := hSw.2.2.c3; go_simp; (try with_reducible rfl)
          (try simp only [Act.put, List.getElem_toArray, List.getElem_cons_zero, List.getElem_cons_succ, List.setIfInBounds_toArray, List.set_cons_zero, List.set_cons_succ])
          refine wpAnyF_take (i := 4) (v := ?_) (by kernel_rfl) (by kernel_rfl) rfl (by kernel_rfl) (by kernel_rfl) (by kernel_rfl) (fun _ _ _ h => h) (Or.inl ⟨by rfl, ?_⟩) (by assumption) ?_
          rotate_left
          · intro w' hSw; (try dsimp only at hSw); have f0 := hSw.1.cell 0; have f1 := hSw.1.cell 1; have f2 := hSw.1.cell 2; have f3 := hSw.1.cell 3; have f4 := hSw.1.cell 4; have f5 := hSw.1.cell 5; have f6 := hSw.1.cell 6; have f7 := hSw.1.cell 7; have x0 := hSw.2.1.cell 0; have x1 := hSw.2.1.cell 1; have x2 := hSw.2.1.cell 2; have x3 := hSw.2.1.cell 3; have c0 := hSw.2.2.c0; have c1 := hSw.2.2.c1; have c2 := hSw.2.2.c2; have c3 := hSw.2.2.c3; go_simp; (try with_reducible rfl)
          (try simp only [Act.put, List.getElem_toArray, List.getElem_cons_zero, List.getElem_cons_succ, List.setIfInBounds_toArray, List.set_cons_zero, List.set_cons_succ])
          refine wpAnyF_ready (rs := [5]) (by kernel_rfl) (by simp) ?_
          refine AllReadyF.cons rfl (fun KK hKK => ?_) AllReadyF.nil
          go_simp
          ((with_reducible refine (C1.out _).mono ?_); rintro e' w4 ⟨rfl, hb⟩; have hSS := And.intro (hHeld.1.below hb) (And.intro (hHeld.2.1.below hb) (hHeld.2.2.below hb HABL.out)); have B4 := hi ((Below.drewN (m := 1) HX.out.2.2).trans (hb.mono (Below.drewN (m := 1) HX.out.2.2).size)); clear hb)
          (try go_simp)
          refine hKK.out _ _ hSS (fun hHeld => ?_)
          clear hKK KK
          (try simp only [Act.put, List.getElem_toArray, List.getElem_cons_zero, List.getElem_cons_succ, List.setIfInBounds_toArray, List.set_cons_zero, List.set_cons_succ])
          refine wpAnyF_take (i := 6) (v := ?_) (by kernel_rfl) (by kernel_rfl) rfl (by kernel_rfl) (by kernel_rfl) (by kernel_rfl) (fun _ _ _ h => h) (Or.inl ⟨by rfl, ?_⟩) (by assumption) ?_
          rotate_left
          · intro w' hSw; (try dsimp only at hSw); have f0 := hSw.1.cell 0; have f1 := hSw.1.cell 1; have f2 := hSw.1.cell 2; have f3 := hSw.1.cell 3; have f4 := hSw.1.cell 4; have f5 := hSw.1.cell 5; have f6 := hSw.1.cell 6; have f7 := hSw.1.cell 7; have x0 := hSw.2.1.cell 0; have x1 := hSw.2.1.cell 1; have x2 := hSw.2.1.cell 2; have x3 := hSw.2.1.cell 3; have c0 := hSw.2.2.c0; have c1 := hSw.2.2.c1; have c2 := hSw.2.2.c2; have c3 := hSw.2.2.c3; go_simp; (try with_reducible rfl)
          (try simp only [Act.put, List.getElem_toArray, List.getElem_cons_zero, List.getElem_cons_succ, List.setIfInBounds_toArray, List.set_cons_zero, List.set_cons_succ])
          refine wpAnyF_done (by kernel_rfl) ?_ _
          refine NoPanic.normal ?_
          have S4 := hi hHeld
          go_wp2
          go_roundw
          case rel => exact ⟨k + 1, by omega, by go_num, by rw [hn]; simp, hi ⟨S4.out.1, S4.out.2.1, B4.out⟩⟩
          case measure => simp only [intOf]; omega
        · exact absurd (hno rfl).1 (by decide)
      · obtain rfl : k = k9 := by omega
        rw [hend] at hall
        rw [hall]
        go_wp2
        go_ret
        exact ⟨rfl, HX.out.2.2⟩
  · have HMB := hi (HMA.out rfl)
    clear hzero HMA
    go_enter Try.func4, Try.ntmps4
    go_wp2_with (first
      | (go_at_call 9; ((with_reducible refine (awake_if _).mono ?_); rintro e w1 ⟨rfl, hb⟩; have F1 := hi ((CB.new w 29 #[.int .i64 m, .int .i64 p0, .int .i64 p1, .bool o0, .bool o1, .bool sp, .int .u32 (wd r 0), .int .u32 (wd r 1)]).below hb); have B1 := hi ((bal w _).trans (hb.mono (bal w _).size)); have f0 : World.cell? w1 ⟨w.heap.size, 0, none⟩ = some (.int .i64 m) := F1.out.cell 0; have f1 : World.cell? w1 ⟨w.heap.size, 1, none⟩ = some (.int .i64 p0) := F1.out.cell 1; have f2 : World.cell? w1 ⟨w.heap.size, 2, none⟩ = some (.int .i64 p1) := F1.out.cell 2; have f3 : World.cell? w1 ⟨w.heap.size, 3, none⟩ = some (.bool o0) := F1.out.cell 3; have f4 : World.cell? w1 ⟨w.heap.size, 4, none⟩ = some (.bool o1) := F1.out.cell 4; have f5 : World.cell? w1 ⟨w.heap.size, 5, none⟩ = some (.bool sp) := F1.out.cell 5; have f6 : World.cell? w1 ⟨w.heap.size, 6, none⟩ = some (.int .u32 (wd r 0)) := F1.out.cell 6; have f7 : World.cell? w1 ⟨w.heap.size, 7, none⟩ = some (.int .u32 (wd r 1)) := F1.out.cell 7; clear hb))
      | (go_at_call 24; ((with_reducible refine (HTH.out _ B1.out).mono ?_); rintro e w2 ⟨rfl, hb⟩; have hal := bal w2 (.cells #[.int .i64 ai, .int .i64 ap, .int .i64 ag, .bool true] 39); have F2 := hi ((F1.out.below hb).below hal); have A2 := hi (CB.new w2 39 #[.int .i64 ai, .int .i64 ap, .int .i64 ag, .bool true]); have hBB := B1.out.trans (hb.mono B1.out.size); have B2 := hi (hBB.trans (hal.mono hBB.size)); have L2 := hi (show w.heap.size < w2.heap.size from (F1.out.below hb).lt); have f0 : World.cell? (w2.alloc (.cells #[.int .i64 ai, .int .i64 ap, .int .i64 ag, .bool true] 39)) ⟨w.heap.size, 0, none⟩ = some (.int .i64 m) := F2.out.cell 0; have f1 : World.cell? (w2.alloc (.cells #[.int .i64 ai, .int .i64 ap, .int .i64 ag, .bool true] 39)) ⟨w.heap.size, 1, none⟩ = some (.int .i64 p0) := F2.out.cell 1; have f2 : World.cell? (w2.alloc (.cells #[.int .i64 ai, .int .i64 ap, .int .i64 ag, .bool true] 39)) ⟨w.heap.size, 2, none⟩ = some (.int .i64 p1) := F2.out.cell 2; have f3 : World.cell? (w2.alloc (.cells #[.int .i64 ai, .int .i64 ap, .int .i64 ag, .bool true] 39)) ⟨w.heap.size, 3, none⟩ = some (.bool o0) := F2.out.cell 3; have f4 : World.cell? (w2.alloc (.cells #[.int .i64 ai, .int .i64 ap, .int .i64 ag, .bool true] 39)) ⟨w.heap.size, 4, none⟩ = some (.bool o1) := F2.out.cell 4; have f5 : World.cell? (w2.alloc (.cells #[.int .i64 ai, .int .i64 ap, .int .i64 ag, .bool true] 39)) ⟨w.heap.size, 5, none⟩ = some (.bool sp) := F2.out.cell 5; have f6 : World.cell? (w2.alloc (.cells #[.int .i64 ai, .int .i64 ap, .int .i64 ag, .bool true] 39)) ⟨w.heap.size, 6, none⟩ = some (.int .u32 (wd r 0)) := F2.out.cell 6; have f7 : World.cell? (w2.alloc (.cells #[.int .i64 ai, .int .i64 ap, .int .i64 ag, .bool true] 39)) ⟨w.heap.size, 7, none⟩ = some (.int .u32 (wd r 1)) := F2.out.cell 7; have x0 : World.cell? (w2.alloc (.cells #[.int .i64 ai, .int .i64 ap, .int .i64 ag, .bool true] 39)) ⟨w2.heap.size, 0, none⟩ = some (.int .i64 ai) := A2.out.cell 0; have x1 : World.cell? (w2.alloc (.cells #[.int .i64 ai, .int .i64 ap, .int .i64 ag, .bool true] 39)) ⟨w2.heap.size, 1, none⟩ = some (.int .i64 ap) := A2.out.cell 1; have x2 : World.cell? (w2.alloc (.cells #[.int .i64 ai, .int .i64 ap, .int .i64 ag, .bool true] 39)) ⟨w2.heap.size, 2, none⟩ = some (.int .i64 ag) := A2.out.cell 2; have x3 : World.cell? (w2.alloc (.cells #[.int .i64 ai, .int .i64 ap, .int .i64 ag, .bool true] 39)) ⟨w2.heap.size, 3, none⟩ = some (.bool true) := A2.out.cell 3; clear hb hal hBB))
      | (go_at_call 15; ((with_reducible refine (HMB.out _).mono ?_); rintro e w3 ⟨rfl, hb⟩; have F3 := hi (F2.out.below hb); have A3 := hi (A2.out.below hb); have B3 := hi (B2.out.trans (hb.mono B2.out.size)); clear hb)))
    have F := hi (show CB w3 w.heap.size 29 #[.int .i64 m, .int .i64 p0, .int .i64 p1, .bool o0, .bool o1, .bool sp, .int .u32 (wd r 0), .int .u32 (wd r 1)] from F3.out)
    have A := hi (show CB w3 w2.heap.size 39 #[.int .i64 ai, .int .i64 ap, .int .i64 ag, .bool true] from A3.out)
    have B := hi (show Below w.heap.size w w3 from B3.out)
    go_loopw [9, 8] (fun i fo wr => ∃ k : Nat, k ≤ k9 ∧ i = .int .i64 k ∧ fo = .bool (foundV (⟨m, p0, p1, o0, o1, sp, r⟩ : Fc) ⟨ai, ap, ag, true⟩ (xs.take k)) ∧ Hi (CB wr w.heap.size 29 #[.int .i64 m, .int .i64 p0, .int .i64 p1, .bool o0, .bool o1, .bool sp, .int .u32 (wd r 0), .int .u32 (wd r 1)] ∧ CB wr w2.heap.size 39 #[.int .i64 ai, .int .i64 ap, .int .i64 ag, .bool true] ∧ Below w.heap.size w wr)) (fun i _ _ => k9 - (intOf i).toNat)
    case atStart => exact ⟨0, Nat.zero_le _, rfl, rfl, hi ⟨F.out, A.out, B.out⟩⟩
    case round =>
      obtain ⟨k, hk, rfl, rfl, HX⟩ := hrel
      by_cases hlt : k < k9
      · obtain ⟨ab, o, rfl, hab, hc⟩ := HACT.out.read hlt
        have hn := hnx k hlt
        have hno := hnone k hlt
        obtain ⟨c, hcc⟩ : ∃ c, nthA xs k = c := ⟨_, rfl⟩
        rw [hcc] at hc hn hno
        have C1 := hi (HM.out c)
        have HC := hi (hc _ HX.out.2.2)
        obtain ⟨ci, cp, cg, cis⟩ := c
        have HBf := hi (fun W => refBefore_any cp ci ap ai W)
        obtain ⟨M, hM⟩ : ∃ M, mayV (⟨m, p0, p1, o0, o1, sp, r⟩ : Fc) ⟨ci, cp, cg, cis⟩ = M := ⟨_, rfl⟩
        rw [hM] at hn hno C1
        obtain ⟨fo, hfo⟩ : ∃ fo, foundV (⟨m, p0, p1, o0, o1, sp, r⟩ : Fc) ⟨ai, ap, ag, true⟩ (xs.take k) = fo := ⟨_, rfl⟩
        rw [hfo] at hn ⊢
        clear hc hcc hM hfo
        go_wp2
        have HABL := hi (show ab < wr.drew.heap.size from Nat.lt_of_lt_of_le hab (HX.out.2.2.size))
        cases M
        · refine wp_region_noPanic ?_
          refine wp_region_last_drew (S := (fun W' => CB W' w.heap.size 29 #[.int .i64 m, .int .i64 p0, .int .i64 p1, .bool o0, .bool o1, .bool sp, .int .u32 (wd r 0), .int .u32 (wd r 1)] ∧ CB W' w2.heap.size 39 #[.int .i64 ai, .int .i64 ap, .int .i64 ag, .bool true] ∧ CdC W' ab (o + k * 4) ⟨ci, cp, cg, cis⟩)) [] (by kernel_rfl) ⟨HX.out.1.drew, HX.out.2.1.drew, HC.out.drew⟩ (fun hHeld => ?_)
          (try simp only [Array.replicate_succ, Array.replicate_zero, List.push_toArray, List.nil_append, List.cons_append])
          refine wpAnyF_take (i := 0) (v := ?_) (by kernel_rfl) (by kernel_rfl) rfl (by kernel_rfl) (by kernel_rfl) (by kernel_rfl) (fun _ _ _ h => h) (Or.inl ⟨by rfl, ?_⟩) (by assumption) ?_
          rotate_left
          · intro w' hSw; (try dsimp only at hSw); have f0 := hSw.1.cell 0; have f1 := hSw.1.cell 1; have f2 := hSw.1.cell 2; have f3 := hSw.1.cell 3; have f4 := hSw.1.cell 4; have f5 := hSw.1.cell 5; have f6 := hSw.1.cell 6; have f7 := hSw.1.cell 7; have x0 := hSw.2.1.cell 0; have x1 := hSw.2.1.cell 1; have x2 := hSw.2.1.cell 2; have x3 := hSw.2.1.cell 3; have c0 := hSw.2.2.c0; have c1 := hSw.2.2.c1; have c2 := hSw.2.2.c2; have c3 := hSw.2.2.c3; go_simp; (try with_reducible rfl)
          (try simp only [Act.put, List.getElem_toArray, List.getElem_cons_zero, List.setIfInBounds_toArray, List.set_cons_zero, List.set_cons_succ])
          refine wpAnyF_take (i := 1) (v := ?_) (by kernel_rfl) (by kernel_rfl) rfl (by kernel_rfl) (by kernel_rfl) (by kernel_rfl) (fun _ _ _ h => h) (Or.inl ⟨by rfl, ?_⟩) (by assumption) ?_
          rotate_left
          · intro w' hSw; (try dsimp only at hSw); have f0 := hSw.1.cell 0; have f1 := hSw.1.cell 1; have f2 := hSw.1.cell 2; have f3 := hSw.1.cell 3; have f4 := hSw.1.cell 4; have f5 := hSw.1.cell 5; have f6 := hSw.1.cell 6; have f7 := hSw.1.cell 7; have x0 := hSw.2.1.cell 0; have x1 := hSw.2.1.cell 1; have x2 := hSw.2.1.cell 2; have x3 := hSw.2.1.cell 3; have c0 := hSw.2.2.c0; have c1 := hSw.2.2.c1; have c2 := hSw.2.2.c2; have c3 := hSw.2.2.c3; go_simp; (try with_reducible rfl)
          (try simp only [Act.put, List.getElem_toArray, List.getElem_cons_zero, List.getElem_cons_succ, List.setIfInBounds_toArray, List.set_cons_zero, List.set_cons_succ])
          refine wpAnyF_take (i := 2) (v := ?_) (by kernel_rfl) (by kernel_rfl) rfl (by kernel_rfl) (by kernel_rfl) (by kernel_rfl) (fun _ _ _ h => h) (Or.inl ⟨by rfl, ?_⟩) (by assumption) ?_
          rotate_left
          · intro w' hSw; (try dsimp only at hSw); have f0 := hSw.1.cell 0; have f1 := hSw.1.cell 1; have f2 := hSw.1.cell 2; have f3 := hSw.1.cell 3; have f4 := hSw.1.cell 4; have f5 := hSw.1.cell 5; have f6 := hSw.1.cell 6; have f7 := hSw.1.cell 7; have x0 := hSw.2.1.cell 0; have x1 := hSw.2.1.cell 1; have x2 := hSw.2.1.cell 2; have x3 := hSw.2.1.cell 3; have c0 := hSw.2.2.c0; have c1 := hSw.2.2.c1; have c2 := hSw.2.2.c2; have c3 := hSw.2.2.c3; go_simp; (try with_reducible rfl)
          (try simp only [Act.put, List.getElem_toArray, List.getElem_cons_zero, List.getElem_cons_succ, List.setIfInBounds_toArray, List.set_cons_zero, List.set_cons_succ])
          refine wpAnyF_take (i := 3) (v := ?_) (by kernel_rfl) (by kernel_rfl) rfl (by kernel_rfl) (by kernel_rfl) (by kernel_rfl) (fun _ _ _ h => h) (Or.inl ⟨by rfl, ?_⟩) (by assumption) ?_
          rotate_left
          · intro w' hSw; (try dsimp only at hSw); have f0 := hSw.1.cell 0; have f1 := hSw.1.cell 1; have f2 := hSw.1.cell 2; have f3 := hSw.1.cell 3; have f4 := hSw.1.cell 4; have f5 := hSw.1.cell 5; have f6 := hSw.1.cell 6; have f7 := hSw.1.cell 7; have x0 := hSw.2.1.cell 0; have x1 := hSw.2.1.cell 1; have x2 := hSw.2.1.cell 2; have x3 := hSw.2.1.cell 3; have c0 := hSw.2.2.c0; have c1 := hSw.2.2.c1; have c2 := hSw.2.2.c2; have c3 := hSw.2.2.c3; go_simp; (try with_reducible rfl)
          (try simp only [Act.put, List.getElem_toArray, List.getElem_cons_zero, List.getElem_cons_succ, List.setIfInBounds_toArray, List.set_cons_zero, List.set_cons_succ])
          refine wpAnyF_take (i := 4) (v := ?_) (by kernel_rfl) (by kernel_rfl) rfl (by kernel_rfl) (by kernel_rfl) (by kernel_rfl) (fun _ _ _ h => h) (Or.inl ⟨by rfl, ?_⟩) (by assumption) ?_
          rotate_left
          · intro w' hSw; (try dsimp only at hSw); have f0 := hSw.1.cell 0; have f1 := hSw.1.cell 1; have f2 := hSw.1.cell 2; have f3 := hSw.1.cell 3; have f4 := hSw.1.cell 4; have f5 := hSw.1.cell 5; have f6 := hSw.1.cell 6; have f7 := hSw.1.cell 7; have x0 := hSw.2.1.cell 0; have x1 := hSw.2.1.cell 1; have x2 := hSw.2.1.cell 2; have x3 := hSw.2.1.cell 3; have c0 := hSw.2.2.c0; have c1 := hSw.2.2.c1; have c2 := hSw.2.2.c2; have c3 := hSw.2.2.c3; go_simp; (try with_reducible rfl)
          (try simp only [Act.put, List.getElem_toArray, List.getElem_cons_zero, List.getElem_cons_succ, List.setIfInBounds_toArray, List.set_cons_zero, List.set_cons_succ])
          refine wpAnyF_ready (rs := [5]) (by kernel_rfl) (by simp) ?_
          refine AllReadyF.cons rfl (fun KK hKK => ?_) AllReadyF.nil
          go_simp
          ((with_reducible refine (C1.out _).mono ?_); rintro e' w4 ⟨rfl, hb⟩; have hSS := And.intro (hHeld.1.below hb) (And.intro (hHeld.2.1.below hb) (hHeld.2.2.below hb HABL.out)); have B4 := hi ((Below.drewN (m := 1) HX.out.2.2).trans (hb.mono (Below.drewN (m := 1) HX.out.2.2).size)); clear hb)
          (try go_simp)
          refine hKK.out _ _ hSS (fun hHeld => ?_)
          clear hKK KK
          (try simp only [Act.put, List.getElem_toArray, List.getElem_cons_zero, List.getElem_cons_succ, List.setIfInBounds_toArray, List.set_cons_zero, List.set_cons_succ])
          refine wpAnyF_take (i := 6) (v := ?_) (by kernel_rfl) (by kernel_rfl) rfl (by kernel_rfl) (by kernel_rfl) (by kernel_rfl) (fun _ _ _ h => h) (Or.inl ⟨by rfl, ?_⟩) (by assumption) ?_
          rotate_left
          · intro w' hSw; (try dsimp only at hSw); have f0 := hSw.1.cell 0; have f1 := hSw.1.cell 1; have f2 := hSw.1.cell 2; have f3 := hSw.1.cell 3; have f4 := hSw.1.cell 4; have f5 := hSw.1.cell 5; have f6 := hSw.1.cell 6; have f7 := hSw.1.cell 7; have x0 := hSw.2.1.cell 0; have x1 := hSw.2.1.cell 1; have x2 := hSw.2.1.cell 2; have x3 := hSw.2.1.cell 3; have c0 := hSw.2.2.c0; have c1 := hSw.2.2.c1; have c2 := hSw.2.2.c2; have c3 := hSw.2.2.c3; go_simp; (try with_reducible rfl)
          (try simp only [Act.put, List.getElem_toArray, List.getElem_cons_zero, List.getElem_cons_succ, List.setIfInBounds_toArray, List.set_cons_zero, List.set_cons_succ])
          refine wpAnyF_done (by kernel_rfl) ?_ _
          refine NoPanic.normal ?_
          have S4 := hi hHeld
          go_wp2
          go_roundw
          case rel => exact ⟨k + 1, by omega, by go_num, by rw [hn]; simp, hi ⟨S4.out.1, S4.out.2.1, B4.out⟩⟩
          case measure => simp only [intOf]; omega
        · refine wp_region_noPanic ?_
          refine wp_region_last_drew (S := (fun W' => CB W' w.heap.size 29 #[.int .i64 m, .int .i64 p0, .int .i64 p1, .bool o0, .bool o1, .bool sp, .int .u32 (wd r 0), .int .u32 (wd r 1)] ∧ CB W' w2.heap.size 39 #[.int .i64 ai, .int .i64 ap, .int .i64 ag, .bool true] ∧ CdC W' ab (o + k * 4) ⟨ci, cp, cg, cis⟩)) [] (by kernel_rfl) ⟨HX.out.1.drew, HX.out.2.1.drew, HC.out.drew⟩ (fun hHeld => ?_)
          (try simp only [Array.replicate_succ, Array.replicate_zero, List.push_toArray, List.nil_append, List.cons_append])
          refine wpAnyF_take (i := 0) (v := ?_) (by kernel_rfl) (by kernel_rfl) rfl (by kernel_rfl) (by kernel_rfl) (by kernel_rfl) (fun _ _ _ h => h) (Or.inl ⟨by rfl, ?_⟩) (by assumption) ?_
          rotate_left
          · intro w' hSw; (try dsimp only at hSw); have f0 := hSw.1.cell 0; have f1 := hSw.1.cell 1; have f2 := hSw.1.cell 2; have f3 := hSw.1.cell 3; have f4 := hSw.1.cell 4; have f5 := hSw.1.cell 5; have f6 := hSw.1.cell 6; have f7 := hSw.1.cell 7; have x0 := hSw.2.1.cell 0; have x1 := hSw.2.1.cell 1; have x2 := hSw.2.1.cell 2; have x3 := hSw.2.1.cell 3; have c0 := hSw.2.2.c0; have c1 := hSw.2.2.c1; have c2 := hSw.2.2.c2; have c3 := hSw.2.2.c3; go_simp; (try with_reducible rfl)
          (try simp only [Act.put, List.getElem_toArray, List.getElem_cons_zero, List.setIfInBounds_toArray, List.set_cons_zero, List.set_cons_succ])
          refine wpAnyF_take (i := 1) (v := ?_) (by kernel_rfl) (by kernel_rfl) rfl (by kernel_rfl) (by kernel_rfl) (by kernel_rfl) (fun _ _ _ h => h) (Or.inl ⟨by rfl, ?_⟩) (by assumption) ?_
          rotate_left
          · intro w' hSw; (try dsimp only at hSw); have f0 := hSw.1.cell 0; have f1 := hSw.1.cell 1; have f2 := hSw.1.cell 2; have f3 := hSw.1.cell 3; have f4 := hSw.1.cell 4; have f5 := hSw.1.cell 5; have f6 := hSw.1.cell 6; have f7 := hSw.1.cell 7; have x0 := hSw.2.1.cell 0; have x1 := hSw.2.1.cell 1; have x2 := hSw.2.1.cell 2; have x3 := hSw.2.1.cell 3; have c0 := hSw.2.2.c0; have c1 := hSw.2.2.c1; have c2 := hSw.2.2.c2; have c3 := hSw.2.2.c3; go_simp; (try with_reducible rfl)
          (try simp only [Act.put, List.getElem_toArray, List.getElem_cons_zero, List.getElem_cons_succ, List.setIfInBounds_toArray, List.set_cons_zero, List.set_cons_succ])
          refine wpAnyF_take (i := 2) (v := ?_) (by kernel_rfl) (by kernel_rfl) rfl (by kernel_rfl) (by kernel_rfl) (by kernel_rfl) (fun _ _ _ h => h) (Or.inl ⟨by rfl, ?_⟩) (by assumption) ?_
          rotate_left
          · intro w' hSw; (try dsimp only at hSw); have f0 := hSw.1.cell 0; have f1 := hSw.1.cell 1; have f2 := hSw.1.cell 2; have f3 := hSw.1.cell 3; have f4 := hSw.1.cell 4; have f5 := hSw.1.cell 5; have f6 := hSw.1.cell 6; have f7 := hSw.1.cell 7; have x0 := hSw.2.1.cell 0; have x1 := hSw.2.1.cell 1; have x2 := hSw.2.1.cell 2; have x3 := hSw.2.1.cell 3; have c0 := hSw.2.2.c0; have c1 := hSw.2.2.c1; have c2 := hSw.2.2.c2; have c3 := hSw.2.2.c3; go_simp; (try with_reducible rfl)
          (try simp only [Act.put, List.getElem_toArray, List.getElem_cons_zero, List.getElem_cons_succ, List.setIfInBounds_toArray, List.set_cons_zero, List.set_cons_succ])
          refine wpAnyF_take (i := 3) (v := ?_) (by kernel_rfl) (by kernel_rfl) rfl (by kernel_rfl) (by kernel_rfl) (by kernel_rfl) (fun _ _ _ h => h) (Or.inl ⟨by rfl, ?_⟩) (by assumption) ?_
          rotate_left
          · intro w' hSw; (try dsimp only at hSw); have f0 := hSw.1.cell 0; have f1 := hSw.1.cell 1; have f2 := hSw.1.cell 2; have f3 := hSw.1.cell 3; have f4 := hSw.1.cell 4; have f5 := hSw.1.cell 5; have f6 := hSw.1.cell 6; have f7 := hSw.1.cell 7; have x0 := hSw.2.1.cell 0; have x1 := hSw.2.1.cell 1; have x2 := hSw.2.1.cell 2; have x3 := hSw.2.1.cell 3; have c0 := hSw.2.2.c0; have c1 := hSw.2.2.c1; have c2 := hSw.2.2.c2; have c3 := hSw.2.2.c3; go_simp; (try with_reducible rfl)
          (try simp only [Act.put, List.getElem_toArray, List.getElem_cons_zero, List.getElem_cons_succ, List.setIfInBounds_toArray, List.set_cons_zero, List.set_cons_succ])
          refine wpAnyF_take (i := 4) (v := ?_) (by kernel_rfl) (by kernel_rfl) rfl (by kernel_rfl) (by kernel_rfl) (by kernel_rfl) (fun _ _ _ h => h) (Or.inl ⟨by rfl, ?_⟩) (by assumption) ?_
          rotate_left
          · intro w' hSw; (try dsimp only at hSw); have f0 := hSw.1.cell 0; have f1 := hSw.1.cell 1; have f2 := hSw.1.cell 2; have f3 := hSw.1.cell 3; have f4 := hSw.1.cell 4; have f5 := hSw.1.cell 5; have f6 := hSw.1.cell 6; have f7 := hSw.1.cell 7; have x0 := hSw.2.1.cell 0; have x1 := hSw.2.1.cell 1; have x2 := hSw.2.1.cell 2; have x3 := hSw.2.1.cell 3; have c0 := hSw.2.2.c0; have c1 := hSw.2.2.c1; have c2 := hSw.2.2.c2; have c3 := hSw.2.2.c3; go_simp; (try with_reducible rfl)
          (try simp only [Act.put, List.getElem_toArray, List.getElem_cons_zero, List.getElem_cons_succ, List.setIfInBounds_toArray, List.set_cons_zero, List.set_cons_succ])
          refine wpAnyF_ready (rs := [5]) (by kernel_rfl) (by simp) ?_
          refine AllReadyF.cons rfl (fun KK hKK => ?_) AllReadyF.nil
          go_simp
          ((with_reducible refine (C1.out _).mono ?_); rintro e' w4 ⟨rfl, hb⟩; have hSS := And.intro (hHeld.1.below hb) (And.intro (hHeld.2.1.below hb) (hHeld.2.2.below hb HABL.out)); have B4 := hi ((Below.drewN (m := 1) HX.out.2.2).trans (hb.mono (Below.drewN (m := 1) HX.out.2.2).size)); clear hb)
          (try go_simp)
          refine hKK.out _ _ hSS (fun hHeld => ?_)
          clear hKK KK
          (try simp only [Act.put, List.getElem_toArray, List.getElem_cons_zero, List.getElem_cons_succ, List.setIfInBounds_toArray, List.set_cons_zero, List.set_cons_succ])
          refine wpAnyF_take (i := 6) (v := ?_) (by kernel_rfl) (by kernel_rfl) rfl (by kernel_rfl) (by kernel_rfl) (by kernel_rfl) (fun _ _ _ h => h) (Or.inl ⟨by rfl, ?_⟩) (by assumption) ?_
          rotate_left
          · intro w' hSw; (try dsimp only at hSw); have f0 := hSw.1.cell 0; have f1 := hSw.1.cell 1; have f2 := hSw.1.cell 2; have f3 := hSw.1.cell 3; have f4 := hSw.1.cell 4; have f5 := hSw.1.cell 5; have f6 := hSw.1.cell 6; have f7 := hSw.1.cell 7; have x0 := hSw.2.1.cell 0; have x1 := hSw.2.1.cell 1; have x2 := hSw.2.1.cell 2; have x3 := hSw.2.1.cell 3; have c0 := hSw.2.2.c0; have c1 := hSw.2.2.c1; have c2 := hSw.2.2.c2; have c3 := hSw.2.2.c3; go_simp; (try with_reducible rfl)
          (try simp only [Act.put, List.getElem_toArray, List.getElem_cons_zero, List.getElem_cons_succ, List.setIfInBounds_toArray, List.set_cons_zero, List.set_cons_succ])
          refine wpAnyF_done (by kernel_rfl) ?_ _
          refine NoPanic.normal ?_
          have S4 := hi hHeld
          rw [(hno rfl).2] at HBf
          go_wp2
          refine wp_region_noPanic ?_
          refine wp_region_last_drew (S := (fun W' => CB W' w.heap.size 29 #[.int .i64 m, .int .i64 p0, .int .i64 p1, .bool o0, .bool o1, .bool sp, .int .u32 (wd r 0), .int .u32 (wd r 1)] ∧ CB W' w2.heap.size 39 #[.int .i64 ai, .int .i64 ap, .int .i64 ag, .bool true] ∧ CdC W' ab (o + k * 4) ⟨ci, cp, cg, cis⟩)) [] (by kernel_rfl) ⟨S4.out.1.drew, S4.out.2.1.drew, S4.out.2.2.drew⟩ (fun hHeld => ?_)
          (try simp only [Array.replicate_succ, Array.replicate_zero, List.push_toArray, List.nil_append, List.cons_append])
          refine wpAnyF_take (i := 0) (v := ?_) (by kernel_rfl) (by kernel_rfl) rfl (by kernel_rfl) (by kernel_rfl) (by kernel_rfl) (fun _ _ _ h => h) (Or.inl ⟨by rfl, ?_⟩) (by assumption) ?_
          rotate_left
          · intro w' hSw; (try dsimp only at hSw); have f0 := hSw.1.cell 0; have f1 := hSw.1.cell 1; have f2 := hSw.1.cell 2; have f3 := hSw.1.cell 3; have f4 := hSw.1.cell 4; have f5 := hSw.1.cell 5; have f6 := hSw.1.cell 6; have f7 := hSw.1.cell 7; have x0 := hSw.2.1.cell 0; have x1 := hSw.2.1.cell 1; have x2 := hSw.2.1.cell 2; have x3 := hSw.2.1.cell 3; have c0 := hSw.2.2.c0; have c1 := hSw.2.2.c1; have c2 := hSw.2.2.c2; have c3 := hSw.2.2.c3; go_simp; (try with_reducible rfl)
          (try simp only [Act.put, List.getElem_toArray, List.getElem_cons_zero, List.setIfInBounds_toArray, List.set_cons_zero, List.set_cons_succ])
          refine wpAnyF_take (i := 1) (v := ?_) (by kernel_rfl) (by kernel_rfl) rfl (by kernel_rfl) (by kernel_rfl) (by kernel_rfl) (fun _ _ _ h => h) (Or.inl ⟨by rfl, ?_⟩) (by assumption) ?_
          rotate_left
          · intro w' hSw; (try dsimp only at hSw); have f0 := hSw.1.cell 0; have f1 := hSw.1.cell 1; have f2 := hSw.1.cell 2; have f3 := hSw.1.cell 3; have f4 := hSw.1.cell 4; have f5 := hSw.1.cell 5; have f6 := hSw.1.cell 6; have f7 := hSw.1.cell 7; have x0 := hSw.2.1.cell 0; have x1 := hSw.2.1.cell 1; have x2 := hSw.2.1.cell 2; have x3 := hSw.2.1.cell 3; have c0 := hSw.2.2.c0; have c1 := hSw.2.2.c1; have c2 := hSw.2.2.c2; have c3 := hSw.2.2.c3; go_simp; (try with_reducible rfl)
          (try simp only [Act.put, List.getElem_toArray, List.getElem_cons_zero, List.getElem_cons_succ, List.setIfInBounds_toArray, List.set_cons_zero, List.set_cons_succ])
          refine wpAnyF_take (i := 2) (v := ?_) (by kernel_rfl) (by kernel_rfl) rfl (by kernel_rfl) (by kernel_rfl) (by kernel_rfl) (fun _ _ _ h => h) (Or.inl ⟨by rfl, ?_⟩) (by assumption) ?_
          rotate_left
          · intro w' hSw; (try dsimp only at hSw); have f0 := hSw.1.cell 0; have f1 := hSw.1.cell 1; have f2 := hSw.1.cell 2; have f3 := hSw.1.cell 3; have f4 := hSw.1.cell 4; have f5 := hSw.1.cell 5; have f6 := hSw.1.cell 6; have f7 := hSw.1.cell 7; have x0 := hSw.2.1.cell 0; have x1 := hSw.2.1.cell 1; have x2 := hSw.2.1.cell 2; have x3 := hSw.2.1.cell 3; have c0 := hSw.2.2.c0; have c1 := hSw.2.2.c1; have c2 := hSw.2.2.c2; have c3 := hSw.2.2.c3; go_simp; (try with_reducible rfl)
          (try simp only [Act.put, List.getElem_toArray, List.getElem_cons_zero, List.getElem_cons_succ, List.setIfInBounds_toArray, List.set_cons_zero, List.set_cons_succ])
          refine wpAnyF_take (i := 3) (v := ?_) (by kernel_rfl) (by kernel_rfl) rfl (by kernel_rfl) (by kernel_rfl) (by kernel_rfl) (fun _ _ _ h => h) (Or.inl ⟨by rfl, ?_⟩) (by assumption) ?_
          rotate_left
          · intro w' hSw; (try dsimp only at hSw); have f0 := hSw.1.cell 0; have f1 := hSw.1.cell 1; have f2 := hSw.1.cell 2; have f3 := hSw.1.cell 3; have f4 := hSw.1.cell 4; have f5 := hSw.1.cell 5; have f6 := hSw.1.cell 6; have f7 := hSw.1.cell 7; have x0 := hSw.2.1.cell 0; have x1 := hSw.2.1.cell 1; have x2 := hSw.2.1.cell 2; have x3 := hSw.2.1.cell 3; have c0 := hSw.2.2.c0; have c1 := hSw.2.2.c1; have c2 := hSw.2.2.c2; have c3 := hSw.2.2.c3; go_simp; (try with_reducible rfl)
          (try simp only [Act.put, List.getElem_toArray, List.getElem_cons_zero, List.getElem_cons_succ, List.setIfInBounds_toArray, List.set_cons_zero, List.set_cons_succ])
          refine wpAnyF_take (i := 4) (v := ?_) (by kernel_rfl) (by kernel_rfl) rfl (by kernel_rfl) (by kernel_rfl) (by kernel_rfl) (fun _ _ _ h => h) (Or.inl ⟨by rfl, ?_⟩) (by assumption) ?_
          rotate_left
          · intro w' hSw; (try dsimp only at hSw); have f0 := hSw.1.cell 0; have f1 := hSw.1.cell 1; have f2 := hSw.1.cell 2; have f3 := hSw.1.cell 3; have f4 := hSw.1.cell 4; have f5 := hSw.1.cell 5; have f6 := hSw.1.cell 6; have f7 := hSw.1.cell 7; have x0 := hSw.2.1.cell 0; have x1 := hSw.2.1.cell 1; have x2 := hSw.2.1.cell 2; have x3 := hSw.2.1.cell 3; have c0 := hSw.2.2.c0; have c1 := hSw.2.2.c1; have c2 := hSw.2.2.c2; have c3 := hSw.2.2.c3; go_simp; (try with_reducible rfl)
          (try simp only [Act.put, List.getElem_toArray, List.getElem_cons_zero, List.getElem_cons_succ, List.setIfInBounds_toArray, List.set_cons_zero, List.set_cons_succ])
          refine wpAnyF_take (i := 5) (v := ?_) (by kernel_rfl) (by kernel_rfl) rfl (by kernel_rfl) (by kernel_rfl) (by kernel_rfl) (fun _ _ _ h => h) (Or.inl ⟨by rfl, ?_⟩) (by assumption) ?_
          rotate_left
          · intro w' hSw; (try dsimp only at hSw); have f0 := hSw.1.cell 0; have f1 := hSw.1.cell 1; have f2 := hSw.1.cell 2; have f3 := hSw.1.cell 3; have f4 := hSw.1.cell 4; have f5 := hSw.1.cell 5; have f6 := hSw.1.cell 6; have f7 := hSw.1.cell 7; have x0 := hSw.2.1.cell 0; have x1 := hSw.2.1.cell 1; have x2 := hSw.2.1.cell 2; have x3 := hSw.2.1.cell 3; have c0 := hSw.2.2.c0; have c1 := hSw.2.2.c1; have c2 := hSw.2.2.c2; have c3 := hSw.2.2.c3; go_simp; (try with_reducible rfl)
          (try simp only [Act.put, List.getElem_toArray, List.getElem_cons_zero, List.getElem_cons_succ, List.setIfInBounds_toArray, List.set_cons_zero, List.set_cons_succ])
          refine wpAnyF_take (i := 6) (v := ?_) (by kernel_rfl) (by kernel_rfl) rfl (by kernel_rfl) (by kernel_rfl) (by kernel_rfl) (fun _ _ _ h => h) (Or.inl ⟨by rfl, ?_⟩) (by assumption) ?_
          rotate_left
          · intro w' hSw; (try dsimp only at hSw); have f0 := hSw.1.cell 0; have f1 := hSw.1.cell 1; have f2 := hSw.1.cell 2; have f3 := hSw.1.cell 3; have f4 := hSw.1.cell 4; have f5 := hSw.1.cell 5; have f6 := hSw.1.cell 6; have f7 := hSw.1.cell 7; have x0 := hSw.2.1.cell 0; have x1 := hSw.2.1.cell 1; have x2 := hSw.2.1.cell 2; have x3 := hSw.2.1.cell 3; have c0 := hSw.2.2.c0; have c1 := hSw.2.2.c1; have c2 := hSw.2.2.c2; have c3 := hSw.2.2.c3; go_simp; (try with_reducible rfl)
          (try simp only [Act.put, List.getElem_toArray, List.getElem_cons_zero, List.getElem_cons_succ, List.setIfInBounds_toArray, List.set_cons_zero, List.set_cons_succ])
          refine wpAnyF_take (i := 7) (v := ?_) (by kernel_rfl) (by kernel_rfl) rfl (by kernel_rfl) (by kernel_rfl) (by kernel_rfl) (fun _ _ _ h => h) (Or.inl ⟨by rfl, ?_⟩) (by assumption) ?_
          rotate_left
          · intro w' hSw; (try dsimp only at hSw); have f0 := hSw.1.cell 0; have f1 := hSw.1.cell 1; have f2 := hSw.1.cell 2; have f3 := hSw.1.cell 3; have f4 := hSw.1.cell 4; have f5 := hSw.1.cell 5; have f6 := hSw.1.cell 6; have f7 := hSw.1.cell 7; have x0 := hSw.2.1.cell 0; have x1 := hSw.2.1.cell 1; have x2 := hSw.2.1.cell 2; have x3 := hSw.2.1.cell 3; have c0 := hSw.2.2.c0; have c1 := hSw.2.2.c1; have c2 := hSw.2.2.c2; have c3 := hSw.2.2.c3; go_simp; (try with_reducible rfl)
          (try simp only [Act.put, List.getElem_toArray, List.getElem_cons_zero, List.getElem_cons_succ, List.setIfInBounds_toArray, List.set_cons_zero, List.set_cons_succ])
          refine wpAnyF_take (i := 8) (v := ?_) (by kernel_rfl) (by kernel_rfl) rfl (by kernel_rfl) (by kernel_rfl) (by kernel_rfl) (fun _ _ _ h => h) (Or.inl ⟨by rfl, ?_⟩) (by assumption) ?_
          rotate_left
          · intro w' hSw; (try dsimp only at hSw); have f0 := hSw.1.cell 0; have f1 := hSw.1.cell 1; have f2 := hSw.1.cell 2; have f3 := hSw.1.cell 3; have f4 := hSw.1.cell 4; have f5 := hSw.1.cell 5; have f6 := hSw.1.cell 6; have f7 := hSw.1.cell 7; have x0 := hSw.2.1.cell 0; have x1 := hSw.2.1.cell 1; have x2 := hSw.2.1.cell 2; have x3 := hSw.2.1.cell 3; have c0 := hSw.2.2.c0; have c1 := hSw.2.2.c1; have c2 := hSw.2.2.c2; have c3 := hSw.2.2.c3; go_simp; (try with_reducible rfl)
          (try simp only [Act.put, List.getElem_toArray, List.getElem_cons_zero, List.getElem_cons_succ, List.setIfInBounds_toArray, List.set_cons_zero, List.set_cons_succ])
          refine wpAnyF_take (i := 9) (v := ?_) (by kernel_rfl) (by kernel_rfl) rfl (by kernel_rfl) (by kernel_rfl) (by kernel_rfl) (fun _ _ _ h => h) (Or.inl ⟨by rfl, ?_⟩) (by assumption) ?_
          rotate_left
          · intro w' hSw; (try dsimp only at hSw); have f0 := hSw.1.cell 0; have f1 := hSw.1.cell 1; have f2 := hSw.1.cell 2; have f3 := hSw.1.cell 3; have f4 := hSw.1.cell 4; have f5 := hSw.1.cell 5; have f6 := hSw.1.cell 6; have f7 := hSw.1.cell 7; have x0 := hSw.2.1.cell 0; have x1 := hSw.2.1.cell 1; have x2 := hSw.2.1.cell 2; have x3 := hSw.2.1.cell 3; have c0 := hSw.2.2.c0; have c1 := hSw.2.2.c1; have c2 := hSw.2.2.c2; have c3 := hSw.2.2.c3; go_simp; (try with_reducible rfl)
          (try simp only [Act.put, List.getElem_toArray, List.getElem_cons_zero, List.getElem_cons_succ, List.setIfInBounds_toArray, List.set_cons_zero, List.set_cons_succ])
          refine wpAnyF_take (i := 10) (v := ?_) (by kernel_rfl) (by kernel_rfl) rfl (by kernel_rfl) (by kernel_rfl) (by kernel_rfl) (fun _ _ _ h => h) (Or.inl ⟨by rfl, ?_⟩) (by assumption) ?_
          rotate_left
          · intro w' hSw; (try dsimp only at hSw); have f0 := hSw.1.cell 0; have f1 := hSw.1.cell 1; have f2 := hSw.1.cell 2; have f3 := hSw.1.cell 3; have f4 := hSw.1.cell 4; have f5 := hSw.1.cell 5; have f6 := hSw.1.cell 6; have f7 := hSw.1.cell 7; have x0 := hSw.2.1.cell 0; have x1 := hSw.2.1.cell 1; have x2 := hSw.2.1.cell 2; have x3 := hSw.2.1.cell 3; have c0 := hSw.2.2.c0; have c1 := hSw.2.2.c1; have c2 := hSw.2.2.c2; have c3 := hSw.2.2.c3; go_simp; (try with_reducible rfl)
          (try simp only [Act.put, List.getElem_toArray, List.getElem_cons_zero, List.getElem_cons_succ, List.setIfInBounds_toArray, List.set_cons_zero, List.set_cons_succ])
          refine wpAnyF_take (i := 11) (v := ?_) (by kernel_rfl) (by kernel_rfl) rfl (by kernel_rfl) (by kernel_rfl) (by kernel_rfl) (fun _ _ _ h => h) (Or.inl ⟨by rfl, ?_⟩) (by assumption) ?_
          rotate_left
          · intro w' hSw; (try dsimp only at hSw); have f0 := hSw.1.cell 0; have f1 := hSw.1.cell 1; have f2 := hSw.1.cell 2; have f3 := hSw.1.cell 3; have f4 := hSw.1.cell 4; have f5 := hSw.1.cell 5; have f6 := hSw.1.cell 6; have f7 := hSw.1.cell 7; have x0 := hSw.2.1.cell 0; have x1 := hSw.2.1.cell 1; have x2 := hSw.2.1.cell 2; have x3 := hSw.2.1.cell 3; have c0 := hSw.2.2.c0; have c1 := hSw.2.2.c1; have c2 := hSw.2.2.c2; have c3 := hSw.2.2.c3; go_simp; (try with_reducible rfl)
          (try simp only [Act.put, List.getElem_toArray, List.getElem_cons_zero, List.getElem_cons_succ, List.setIfInBounds_toArray, List.set_cons_zero, List.set_cons_succ])
          refine wpAnyF_take (i := 12) (v := ?_) (by kernel_rfl) (by kernel_rfl) rfl (by kernel_rfl) (by kernel_rfl) (by kernel_rfl) (fun _ _ _ h => h) (Or.inl ⟨by rfl, ?_⟩) (by assumption) ?_
          rotate_left
          · intro w' hSw; (try dsimp only at hSw); have f0 := hSw.1.cell 0; have f1 := hSw.1.cell 1; have f2 := hSw.1.cell 2; have f3 := hSw.1.cell 3; have f4 := hSw.1.cell 4; have f5 := hSw.1.cell 5; have f6 := hSw.1.cell 6; have f7 := hSw.1.cell 7; have x0 := hSw.2.1.cell 0; have x1 := hSw.2.1.cell 1; have x2 := hSw.2.1.cell 2; have x3 := hSw.2.1.cell 3; have c0 := hSw.2.2.c0; have c1 := hSw.2.2.c1; have c2 := hSw.2.2.c2; have c3 := hSw.2.2.c3; go_simp; (try with_reducible rfl)
          (try simp only [Act.put, List.getElem_toArray, List.getElem_cons_zero, List.getElem_cons_succ, List.setIfInBounds_toArray, List.set_cons_zero, List.set_cons_succ])
          refine wpAnyF_take (i := 13) (v := ?_) (by kernel_rfl) (by kernel_rfl) rfl (by kernel_rfl) (by kernel_rfl) (by kernel_rfl) (fun _ _ _ h => h) (Or.inl ⟨by rfl, ?_⟩) (by assumption) ?_
          rotate_left
          · intro w' hSw; (try dsimp only at hSw); have f0 := hSw.1.cell 0; have f1 := hSw.1.cell 1; have f2 := hSw.1.cell 2; have f3 := hSw.1.cell 3; have f4 := hSw.1.cell 4; have f5 := hSw.1.cell 5; have f6 := hSw.1.cell 6; have f7 := hSw.1.cell 7; have x0 := hSw.2.1.cell 0; have x1 := hSw.2.1.cell 1; have x2 := hSw.2.1.cell 2; have x3 := hSw.2.1.cell 3; have c0 := hSw.2.2.c0; have c1 := hSw.2.2.c1; have c2 := hSw.2.2.c2; have c3 := hSw.2.2.c3; go_simp; (try with_reducible rfl)
          (try simp only [Act.put, List.getElem_toArray, List.getElem_cons_zero, List.getElem_cons_succ, List.setIfInBounds_toArray, List.set_cons_zero, List.set_cons_succ])
          refine wpAnyF_take (i := 14) (v := ?_) (by kernel_rfl) (by kernel_rfl) rfl (by kernel_rfl) (by kernel_rfl) (by kernel_rfl) (fun _ _ _ h => h) (Or.inl ⟨by rfl, ?_⟩) (by assumption) ?_
          rotate_left
          · intro w' hSw; (try dsimp only at hSw); have f0 := hSw.1.cell 0; have f1 := hSw.1.cell 1; have f2 := hSw.1.cell 2; have f3 := hSw.1.cell 3; have f4 := hSw.1.cell 4; have f5 := hSw.1.cell 5; have f6 := hSw.1.cell 6; have f7 := hSw.1.cell 7; have x0 := hSw.2.1.cell 0; have x1 := hSw.2.1.cell 1; have x2 := hSw.2.1.cell 2; have x3 := hSw.2.1.cell 3; have c0 := hSw.2.2.c0; have c1 := hSw.2.2.c1; have c2 := hSw.2.2.c2; have c3 := hSw.2.2.c3; go_simp; (try with_reducible rfl)
          (try simp only [Act.put, List.getElem_toArray, List.getElem_cons_zero, List.getElem_cons_succ, List.setIfInBounds_toArray, List.set_cons_zero, List.set_cons_succ])
          refine wpAnyF_take (i := 15) (v := ?_) (by kernel_rfl) (by kernel_rfl) rfl (by kernel_rfl) (by kernel_rfl) (by kernel_rfl) (fun _ _ _ h => h) (Or.inl ⟨by rfl, ?_⟩) (by assumption) ?_
          rotate_left
          · intro w' hSw; (try dsimp only at hSw); have f0 := hSw.1.cell 0; have f1 := hSw.1.cell 1; have f2 := hSw.1.cell 2; have f3 := hSw.1.cell 3; have f4 := hSw.1.cell 4; have f5 := hSw.1.cell 5; have f6 := hSw.1.cell 6; have f7 := hSw.1.cell 7; have x0 := hSw.2.1.cell 0; have x1 := hSw.2.1.cell 1; have x2 := hSw.2.1.cell 2; have x3 := hSw.2.1.cell 3; have c0 := hSw.2.2.c0; have c1 := hSw.2.2.c1; have c2 := hSw.2.2.c2; have c3 := hSw.2.2.c3; go_simp; (try with_reducible rfl)
          (try simp only [Act.put, List.getElem_toArray, List.getElem_cons_zero, List.getElem_cons_succ, List.setIfInBounds_toArray, List.set_cons_zero, List.set_cons_succ])
          refine wpAnyF_take (i := 16) (v := ?_) (by kernel_rfl) (by kernel_rfl) rfl (by kernel_rfl) (by kernel_rfl) (by kernel_rfl) (fun _ _ _ h => h) (Or.inl ⟨by rfl, ?_⟩) (by assumption) ?_
          rotate_left
          · intro w' hSw; (try dsimp only at hSw); have f0 := hSw.1.cell 0; have f1 := hSw.1.cell 1; have f2 := hSw.1.cell 2; have f3 := hSw.1.cell 3; have f4 := hSw.1.cell 4; have f5 := hSw.1.cell 5; have f6 := hSw.1.cell 6; have f7 := hSw.1.cell 7; have x0 := hSw.2.1.cell 0; have x1 := hSw.2.1.cell 1; have x2 := hSw.2.1.cell 2; have x3 := hSw.2.1.cell 3; have c0 := hSw.2.2.c0; have c1 := hSw.2.2.c1; have c2 := hSw.2.2.c2; have c3 := hSw.2.2.c3; go_simp; (try with_reducible rfl)
          (try simp only [Act.put, List.getElem_toArray, List.getElem_cons_zero, List.getElem_cons_succ, List.setIfInBounds_toArray, List.set_cons_zero, List.set_cons_succ])
          refine wpAnyF_ready (rs := [17]) (by kernel_rfl) (by simp) ?_
          refine AllReadyF.cons rfl (fun KK hKK => ?_) AllReadyF.nil
          go_simp
          ((with_reducible refine (HBf.out _).mono ?_); rintro e' w5 ⟨rfl, rfl⟩; have hSS := hHeld)
          (try go_simp)
          refine hKK.out _ _ hSS (fun hHeld => ?_)
          clear hKK KK
          (try simp only [Act.put, List.getElem_toArray, List.getElem_cons_zero, List.getElem_cons_succ, List.setIfInBounds_toArray, List.set_cons_zero, List.set_cons_succ])
          refine wpAnyF_take (i := 18) (v := ?_) (by kernel_rfl) (by kernel_rfl) rfl (by kernel_rfl) (by kernel_rfl) (by kernel_rfl) (fun _ _ _ h => h) (Or.inl ⟨by rfl, ?_⟩) (by assumption) ?_
          rotate_left
          · intro w' hSw; (try dsimp only at hSw); have f0 := hSw.1.cell 0; have f1 := hSw.1.cell 1; have f2 := hSw.1.cell 2; have f3 := hSw.1.cell 3; have f4 := hSw.1.cell 4; have f5 := hSw.1.cell 5; have f6 := hSw.1.cell 6; have f7 := hSw.1.cell 7; have x0 := hSw.2.1.cell 0; have x1 := hSw.2.1.cell 1; have x2 := hSw.2.1.cell 2; have x3 := hSw.2.1.cell 3; have c0 := hSw.2.2.c0; have c1 := hSw.2.2.c1; have c2 := hSw.2.2.c2; have c3 := hSw.2.2.c3; go_simp; (try with_reducible rfl)
          (try simp only [Act.put, List.getElem_toArray, List.getElem_cons_zero, List.getElem_cons_succ, List.setIfInBounds_toArray, List.set_cons_zero, List.set_cons_succ])
          refine wpAnyF_done (by kernel_rfl) ?_ _
          refine NoPanic.normal ?_
          have S5 := hi hHeld
          have B5 := hi (Below.drewN (m := 1) B4.out)
          go_wp2
          cases fo
          · refine wp_region_noPanic ?_
            refine wp_region_last_drew (S := (fun W' => CB W' w.heap.size 29 #[.int .i64 m, .int .i64 p0, .int .i64 p1, .bool o0, .bool o1, .bool sp, .int .u32 (wd r 0), .int .u32 (wd r 1)] ∧ CB W' w2.heap.size 39 #[.int .i64 ai, .int .i64 ap, .int .i64 ag, .bool true] ∧ CdC W' ab (o + k * 4) ⟨ci, cp, cg, cis⟩)) [9] (by kernel_rfl) ⟨S5.out.1.drew, S5.out.2.1.drew, S5.out.2.2.drew⟩ (fun hHeld => ?_)
            (try simp only [Array.replicate_succ, Array.replicate_zero, List.push_toArray, List.nil_append, List.cons_append])
            refine wpAnyF_take (i := 0) (v := ?_) (by kernel_rfl) (by kernel_rfl) rfl (by kernel_rfl) (by kernel_rfl) (by kernel_rfl) (fun _ _ _ h => h) (Or.inl ⟨by rfl, ?_⟩) (by assumption) ?_
            rotate_left
            · intro w' hSw; (try dsimp only at hSw); have f0 := hSw.1.cell 0; have f1 := hSw.1.cell 1; have f2 := hSw.1.cell 2; have f3 := hSw.1.cell 3; have f4 := hSw.1.cell 4; have f5 := hSw.1.cell 5; have f6 := hSw.1.cell 6; have f7 := hSw.1.cell 7; have x0 := hSw.2.1.cell 0; have x1 := hSw.2.1.cell 1; have x2 := hSw.2.1.cell 2; have x3 := hSw.2.1.cell 3; have c0 := hSw.2.2.c0; have c1 := hSw.2.2.c1; have c2 := hSw.2.2.c2; have c3 := hSw.2.2.c3; go_simp; (try with_reducible rfl)
            (try simp only [Act.put, List.getElem_toArray, List.getElem_cons_zero, List.setIfInBounds_toArray, List.set_cons_zero, List.set_cons_succ])
            refine wpAnyF_take (i := 1) (v := ?_) (by kernel_rfl) (by kernel_rfl) rfl (by kernel_rfl) (by kernel_rfl) (by kernel_rfl) (fun _ _ _ h => h) (Or.inl ⟨by rfl, ?_⟩) (by assumption) ?_
            rotate_left
            · intro w' hSw; (try dsimp only at hSw); have f0 := hSw.1.cell 0; have f1 := hSw.1.cell 1; have f2 := hSw.1.cell 2; have f3 := hSw.1.cell 3; have f4 := hSw.1.cell 4; have f5 := hSw.1.cell 5; have f6 := hSw.1.cell 6; have f7 := hSw.1.cell 7; have x0 := hSw.2.1.cell 0; have x1 := hSw.2.1.cell 1; have x2 := hSw.2.1.cell 2; have x3 := hSw.2.1.cell 3; have c0 := hSw.2.2.c0; have c1 := hSw.2.2.c1; have c2 := hSw.2.2.c2; have c3 := hSw.2.2.c3; go_simp; (try with_reducible rfl)
            (try simp only [Act.put, List.getElem_toArray, List.getElem_cons_zero, List.getElem_cons_succ, List.setIfInBounds_toArray, List.set_cons_zero, List.set_cons_succ])
            refine wpAnyF_take (i := 2) (v := ?_) (by kernel_rfl) (by kernel_rfl) rfl (by kernel_rfl) (by kernel_rfl) (by kernel_rfl) (fun _ _ _ h => h) (Or.inl ⟨by rfl, ?_⟩) (by assumption) ?_
            rotate_left
            · intro w' hSw; (try dsimp only at hSw); have f0 := hSw.1.cell 0; have f1 := hSw.1.cell 1; have f2 := hSw.1.cell 2; have f3 := hSw.1.cell 3; have f4 := hSw.1.cell 4; have f5 := hSw.1.cell 5; have f6 := hSw.1.cell 6; have f7 := hSw.1.cell 7; have x0 := hSw.2.1.cell 0; have x1 := hSw.2.1.cell 1; have x2 := hSw.2.1.cell 2; have x3 := hSw.2.1.cell 3; have c0 := hSw.2.2.c0; have c1 := hSw.2.2.c1; have c2 := hSw.2.2.c2; have c3 := hSw.2.2.c3; go_simp; (try with_reducible rfl)
            (try simp only [Act.put, List.getElem_toArray, List.getElem_cons_zero, List.getElem_cons_succ, List.setIfInBounds_toArray, List.set_cons_zero, List.set_cons_succ])
            refine wpAnyF_take (i := 3) (v := ?_) (by kernel_rfl) (by kernel_rfl) rfl (by kernel_rfl) (by kernel_rfl) (by kernel_rfl) (fun _ _ _ h => h) (Or.inl ⟨by rfl, ?_⟩) (by assumption) ?_
            rotate_left
            · intro w' hSw; (try dsimp only at hSw); have f0 := hSw.1.cell 0; have f1 := hSw.1.cell 1; have f2 := hSw.1.cell 2; have f3 := hSw.1.cell 3; have f4 := hSw.1.cell 4; have f5 := hSw.1.cell 5; have f6 := hSw.1.cell 6; have f7 := hSw.1.cell 7; have x0 := hSw.2.1.cell 0; have x1 := hSw.2.1.cell 1; have x2 := hSw.2.1.cell 2; have x3 := hSw.2.1.cell 3; have c0 := hSw.2.2.c0; have c1 := hSw.2.2.c1; have c2 := hSw.2.2.c2; have c3 := hSw.2.2.c3; go_simp; (try with_reducible rfl)
            (try simp only [Act.put, List.getElem_toArray, List.getElem_cons_zero, List.getElem_cons_succ, List.setIfInBounds_toArray, List.set_cons_zero, List.set_cons_succ])
            refine wpAnyF_take (i := 4) (v := ?_) (by kernel_rfl) (by kernel_rfl) rfl (by kernel_rfl) (by kernel_rfl) (by kernel_rfl) (fun _ _ _ h => h) (Or.inl ⟨by rfl, ?_⟩) (by assumption) ?_
            rotate_left
            · intro w' hSw; (try dsimp only at hSw); have f0 := hSw.1.cell 0; have f1 := hSw.1.cell 1; have f2 := hSw.1.cell 2; have f3 := hSw.1.cell 3; have f4 := hSw.1.cell 4; have f5 := hSw.1.cell 5; have f6 := hSw.1.cell 6; have f7 := hSw.1.cell 7; have x0 := hSw.2.1.cell 0; have x1 := hSw.2.1.cell 1; have x2 := hSw.2.1.cell 2; have x3 := hSw.2.1.cell 3; have c0 := hSw.2.2.c0; have c1 := hSw.2.2.c1; have c2 := hSw.2.2.c2; have c3 := hSw.2.2.c3; go_simp; (try with_reducible rfl)
            (try simp only [Act.put, List.getElem_toArray, List.getElem_cons_zero, List.getElem_cons_succ, List.setIfInBounds_toArray, List.set_cons_zero, List.set_cons_succ])
            refine wpAnyF_take (i := 5) (v := ?_) (by kernel_rfl) (by kernel_rfl) rfl (by kernel_rfl) (by kernel_rfl) (by kernel_rfl) (fun _ _ _ h => h) (Or.inl ⟨by rfl, ?_⟩) (by assumption) ?_
            rotate_left
            · intro w' hSw; (try dsimp only at hSw); have f0 := hSw.1.cell 0; have f1 := hSw.1.cell 1; have f2 := hSw.1.cell 2; have f3 := hSw.1.cell 3; have f4 := hSw.1.cell 4; have f5 := hSw.1.cell 5; have f6 := hSw.1.cell 6; have f7 := hSw.1.cell 7; have x0 := hSw.2.1.cell 0; have x1 := hSw.2.1.cell 1; have x2 := hSw.2.1.cell 2; have x3 := hSw.2.1.cell 3; have c0 := hSw.2.2.c0; have c1 := hSw.2.2.c1; have c2 := hSw.2.2.c2; have c3 := hSw.2.2.c3; go_simp; (try with_reducible rfl)
            (try simp only [Act.put, List.getElem_toArray, List.getElem_cons_zero, List.getElem_cons_succ, List.setIfInBounds_toArray, List.set_cons_zero, List.set_cons_succ])
            refine wpAnyF_take (i := 6) (v := ?_) (by kernel_rfl) (by kernel_rfl) rfl (by kernel_rfl) (by kernel_rfl) (by kernel_rfl) (fun _ _ _ h => h) (Or.inl ⟨by rfl, ?_⟩) (by assumption) ?_
            rotate_left
            · intro w' hSw; (try dsimp only at hSw); have f0 := hSw.1.cell 0; have f1 := hSw.1.cell 1; have f2 := hSw.1.cell 2; have f3 := hSw.1.cell 3; have f4 := hSw.1.cell 4; have f5 := hSw.1.cell 5; have f6 := hSw.1.cell 6; have f7 := hSw.1.cell 7; have x0 := hSw.2.1.cell 0; have x1 := hSw.2.1.cell 1; have x2 := hSw.2.1.cell 2; have x3 := hSw.2.1.cell 3; have c0 := hSw.2.2.c0; have c1 := hSw.2.2.c1; have c2 := hSw.2.2.c2; have c3 := hSw.2.2.c3; go_simp; (try with_reducible rfl)
            (try simp only [Act.put, List.getElem_toArray, List.getElem_cons_zero, List.getElem_cons_succ, List.setIfInBounds_toArray, List.set_cons_zero, List.set_cons_succ])
            refine wpAnyF_take (i := 7) (v := ?_) (by kernel_rfl) (by kernel_rfl) rfl (by kernel_rfl) (by kernel_rfl) (by kernel_rfl) (fun _ _ _ h => h) (Or.inl ⟨by rfl, ?_⟩) (by assumption) ?_
            rotate_left
            · intro w' hSw; (try dsimp only at hSw); have f0 := hSw.1.cell 0; have f1 := hSw.1.cell 1; have f2 := hSw.1.cell 2; have f3 := hSw.1.cell 3; have f4 := hSw.1.cell 4; have f5 := hSw.1.cell 5; have f6 := hSw.1.cell 6; have f7 := hSw.1.cell 7; have x0 := hSw.2.1.cell 0; have x1 := hSw.2.1.cell 1; have x2 := hSw.2.1.cell 2; have x3 := hSw.2.1.cell 3; have c0 := hSw.2.2.c0; have c1 := hSw.2.2.c1; have c2 := hSw.2.2.c2; have c3 := hSw.2.2.c3; go_simp; (try with_reducible rfl)
            (try simp only [Act.put, List.getElem_toArray, List.getElem_cons_zero, List.getElem_cons_succ, List.setIfInBounds_toArray, List.set_cons_zero, List.set_cons_succ])
            refine wpAnyF_take (i := 8) (v := ?_) (by kernel_rfl) (by kernel_rfl) rfl (by kernel_rfl) (by kernel_rfl) (by kernel_rfl) (fun _ _ _ h => h) (Or.inl ⟨by rfl, ?_⟩) (by assumption) ?_
            rotate_left
            · intro w' hSw; (try dsimp only at hSw); have f0 := hSw.1.cell 0; have f1 := hSw.1.cell 1; have f2 := hSw.1.cell 2; have f3 := hSw.1.cell 3; have f4 := hSw.1.cell 4; have f5 := hSw.1.cell 5; have f6 := hSw.1.cell 6; have f7 := hSw.1.cell 7; have x0 := hSw.2.1.cell 0; have x1 := hSw.2.1.cell 1; have x2 := hSw.2.1.cell 2; have x3 := hSw.2.1.cell 3; have c0 := hSw.2.2.c0; have c1 := hSw.2.2.c1; have c2 := hSw.2.2.c2; have c3 := hSw.2.2.c3; go_simp; (try with_reducible rfl)
            (try simp only [Act.put, List.getElem_toArray, List.getElem_cons_zero, List.getElem_cons_succ, List.setIfInBounds_toArray, List.set_cons_zero, List.set_cons_succ])
            refine wpAnyF_ready (rs := [9]) (by kernel_rfl) (by simp) ?_
            refine AllReadyF.last (by kernel_rfl) rfl (fun KK hKK => ?_) AllReadyF.nil
            have S6 := hi hHeld
            go_simp
            refine hKK.out _ _ ?_
            clear hKK KK
            (try simp only [Act.put, List.getElem_toArray, List.getElem_cons_zero, List.getElem_cons_succ, List.setIfInBounds_toArray, List.set_cons_zero, List.set_cons_succ])
            refine wpAnyF_done (by kernel_rfl) ?_ _
            refine NoPanic.normal ?_
            go_wp2
            go_roundw
            case rel => exact ⟨k + 1, by omega, by go_num, by rw [hn]; simp, hi ⟨S6.out.1, S6.out.2.1, Below.drewN (m := 1) B5.out⟩⟩
            case measure => simp only [intOf]; omega
          · refine wp_region_noPanic ?_
            refine wp_region_last_drew (S := (fun W' => CB W' w.heap.size 29 #[.int .i64 m, .int .i64 p0, .int .i64 p1, .bool o0, .bool o1, .bool sp, .int .u32 (wd r 0), .int .u32 (wd r 1)] ∧ CB W' w2.heap.size 39 #[.int .i64 ai, .int .i64 ap, .int .i64 ag, .bool true] ∧ CdC W' ab (o + k * 4) ⟨ci, cp, cg, cis⟩)) [9] (by kernel_rfl) ⟨S5.out.1.drew, S5.out.2.1.drew, S5.out.2.2.drew⟩ (fun hHeld => ?_)
            (try simp only [Array.replicate_succ, Array.replicate_zero, List.push_toArray, List.nil_append, List.cons_append])
            refine wpAnyF_take (i := 0) (v := ?_) (by kernel_rfl) (by kernel_rfl) rfl (by kernel_rfl) (by kernel_rfl) (by kernel_rfl) (fun _ _ _ h => h) (Or.inl ⟨by rfl, ?_⟩) (by assumption) ?_
            rotate_left
            · intro w' hSw; (try dsimp only at hSw); have f0 := hSw.1.cell 0; have f1 := hSw.1.cell 1; have f2 := hSw.1.cell 2; have f3 := hSw.1.cell 3; have f4 := hSw.1.cell 4; have f5 := hSw.1.cell 5; have f6 := hSw.1.cell 6; have f7 := hSw.1.cell 7; have x0 := hSw.2.1.cell 0; have x1 := hSw.2.1.cell 1; have x2 := hSw.2.1.cell 2; have x3 := hSw.2.1.cell 3; have c0 := hSw.2.2.c0; have c1 := hSw.2.2.c1; have c2 := hSw.2.2.c2; have c3 := hSw.2.2.c3; go_simp; (try with_reducible rfl)
            (try simp only [Act.put, List.getElem_toArray, List.getElem_cons_zero, List.setIfInBounds_toArray, List.set_cons_zero, List.set_cons_succ])
            refine wpAnyF_take (i := 1) (v := ?_) (by kernel_rfl) (by kernel_rfl) rfl (by kernel_rfl) (by kernel_rfl) (by kernel_rfl) (fun _ _ _ h => h) (Or.inl ⟨by rfl, ?_⟩) (by assumption) ?_
            rotate_left
            · intro w' hSw; (try dsimp only at hSw); have f0 := hSw.1.cell 0; have f1 := hSw.1.cell 1; have f2 := hSw.1.cell 2; have f3 := hSw.1.cell 3; have f4 := hSw.1.cell 4; have f5 := hSw.1.cell 5; have f6 := hSw.1.cell 6; have f7 := hSw.1.cell 7; have x0 := hSw.2.1.cell 0; have x1 := hSw.2.1.cell 1; have x2 := hSw.2.1.cell 2; have x3 := hSw.2.1.cell 3; have c0 := hSw.2.2.c0; have c1 := hSw.2.2.c1; have c2 := hSw.2.2.c2; have c3 := hSw.2.2.c3; go_simp; (try with_reducible rfl)
            (try simp only [Act.put, List.getElem_toArray, List.getElem_cons_zero, List.getElem_cons_succ, List.setIfInBounds_toArray, List.set_cons_zero, List.set_cons_succ])
            refine wpAnyF_take (i := 2) (v := undef) (by kernel_rfl) (by kernel_rfl) rfl (by kernel_rfl) (by kernel_rfl) (by kernel_rfl) (fun _ _ _ h => h) (Or.inr ⟨by rfl, rfl⟩) (by assumption) ?_
            (try simp only [Act.put, List.getElem_toArray, List.getElem_cons_zero, List.getElem_cons_succ, List.setIfInBounds_toArray, List.set_cons_zero, List.set_cons_succ])
            refine wpAnyF_take (i := 3) (v := undef) (by kernel_rfl) (by kernel_rfl) rfl (by kernel_rfl) (by kernel_rfl) (by kernel_rfl) (fun _ _ _ h => h) (Or.inr ⟨by rfl, rfl⟩) (by assumption) ?_
            (try simp only [Act.put, List.getElem_toArray, List.getElem_cons_zero, List.getElem_cons_succ, List.setIfInBounds_toArray, List.set_cons_zero, List.set_cons_succ])
            refine wpAnyF_take (i := 4) (v := undef) (by kernel_rfl) (by kernel_rfl) rfl (by kernel_rfl) (by kernel_rfl) (by kernel_rfl) (fun _ _ _ h => h) (Or.inr ⟨by rfl, rfl⟩) (by assumption) ?_
            (try simp only [Act.put, List.getElem_toArray, List.getElem_cons_zero, List.getElem_cons_succ, List.setIfInBounds_toArray, List.set_cons_zero, List.set_cons_succ])
            refine wpAnyF_take (i := 5) (v := undef) (by kernel_rfl) (by kernel_rfl) rfl (by kernel_rfl) (by kernel_rfl) (by kernel_rfl) (fun _ _ _ h => h) (Or.inr ⟨by rfl, rfl⟩) (by assumption) ?_
            (try simp only [Act.put, List.getElem_toArray, List.getElem_cons_zero, List.getElem_cons_succ, List.setIfInBounds_toArray, List.set_cons_zero, List.set_cons_succ])
            refine wpAnyF_take (i := 6) (v := undef) (by kernel_rfl) (by kernel_rfl) rfl (by kernel_rfl) (by kernel_rfl) (by kernel_rfl) (fun _ _ _ h => h) (Or.inr ⟨by rfl, rfl⟩) (by assumption) ?_
            (try simp only [Act.put, List.getElem_toArray, List.getElem_cons_zero, List.getElem_cons_succ, List.setIfInBounds_toArray, List.set_cons_zero, List.set_cons_succ])
            refine wpAnyF_take (i := 7) (v := undef) (by kernel_rfl) (by kernel_rfl) rfl (by kernel_rfl) (by kernel_rfl) (by kernel_rfl) (fun _ _ _ h => h) (Or.inr ⟨by rfl, rfl⟩) (by assumption) ?_
            (try simp only [Act.put, List.getElem_toArray, List.getElem_cons_zero, List.getElem_cons_succ, List.setIfInBounds_toArray, List.set_cons_zero, List.set_cons_succ])
            refine wpAnyF_take (i := 8) (v := ?_) (by kernel_rfl) (by kernel_rfl) rfl (by kernel_rfl) (by kernel_rfl) (by kernel_rfl) (fun _ _ _ h => h) (Or.inl ⟨by rfl, ?_⟩) (by assumption) ?_
            rotate_left
            · intro w' hSw; (try dsimp only at hSw); have f0 := hSw.1.cell 0; have f1 := hSw.1.cell 1; have f2 := hSw.1.cell 2; have f3 := hSw.1.cell 3; have f4 := hSw.1.cell 4; have f5 := hSw.1.cell 5; have f6 := hSw.1.cell 6; have f7 := hSw.1.cell 7; have x0 := hSw.2.1.cell 0; have x1 := hSw.2.1.cell 1; have x2 := hSw.2.1.cell 2; have x3 := hSw.2.1.cell 3; have c0 := hSw.2.2.c0; have c1 := hSw.2.2.c1; have c2 := hSw.2.2.c2; have c3 := hSw.2.2.c3; go_simp; (try with_reducible rfl)
            (try simp only [Act.put, List.getElem_toArray, List.getElem_cons_zero, List.getElem_cons_succ, List.setIfInBounds_toArray, List.set_cons_zero, List.set_cons_succ])
            refine wpAnyF_ready (rs := [9]) (by kernel_rfl) (by simp) ?_
            refine AllReadyF.last (by kernel_rfl) rfl (fun KK hKK => ?_) AllReadyF.nil
            have S6 := hi hHeld
            go_simp
            refine hKK.out _ _ ?_
            clear hKK KK
            (try simp only [Act.put, List.getElem_toArray, List.getElem_cons_zero, List.getElem_cons_succ, List.setIfInBounds_toArray, List.set_cons_zero, List.set_cons_succ])
            refine wpAnyF_done (by kernel_rfl) ?_ _
            refine NoPanic.normal ?_
            go_wp2
            go_roundw
            case rel => exact ⟨k + 1, by omega, by go_num, by rw [hn]; simp, hi ⟨S6.out.1, S6.out.2.1, Below.drewN (m := 1) B5.out⟩⟩
            case measure => simp only [intOf]; omega
      · obtain rfl : k = k9 := by omega
        rw [hend] at hall
        rw [hall]
        go_wp2
        go_ret
        exact ⟨rfl, HX.out.2.2⟩

end Go.Proofs.Ytnfbljadhhcclaa
