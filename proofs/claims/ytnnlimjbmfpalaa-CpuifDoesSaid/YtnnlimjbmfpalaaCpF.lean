/-
  Interfaces compared with themselves; the law: what is written to a register is read, as far as it has bits (CpuifSets).
-/
import Derived.Test.YtnnlimjbmfpalaaCpE
namespace Go.Proofs.Ytnnlimjbmfpalaa
open Go.ChangeShapes Go.WideShapes Go.ChangeAt Go.RowKit Go.Shelf
set_option linter.unusedVariables false
attribute [local go_sem] Oper.semAt_some

theorem CB.keptB {W W' : World} {b : Nat} {t : TypeId} {cs : Array Value} (h : CB W b t cs) {bs : Nat → Prop} (k : Kept bs W W') (hn : ¬ bs b) : CB W' b t cs := (k.block b h.lt hn).trans h
/-! ### Equality -/
theorem self_2i (d : Nat) (a b : Int) (w : World) : (Op.equalIn (d + 2) 22 (.agg #[.int .i64 a, .int .i64 b]) (.agg #[.int .i64 a, .int .i64 b])).run Try.prog w = .ok true w := by
  have u3 := Try.underlying3
  have a3 := Try.isAgg3
  obtain ⟨i, hi⟩ : ∃ i, Try.prog.info? 3 = some i := by
    cases h : Try.prog.info? 3 with
    | none => have : (Try.prog.info? 3).map (·.size) = some 1 := by kernel_rfl
              simp [h] at this
    | some i => exact ⟨i, rfl⟩
  have hc : Try.prog.cellsOf 3 = 1 := by kernel_rfl
  rw [run_equalIn_array w (d + 1) _ _ Try.underlying22 hi, hc]
  simp only [Op.eqItems, List.range_succ, List.range_zero, List.nil_append, List.cons_append]
  go_simp
theorem self_2b (d : Nat) (a b : Bool) (w : World) : (Op.equalIn (d + 2) 23 (.agg #[.bool a, .bool b]) (.agg #[.bool a, .bool b])).run Try.prog w = .ok true w := by
  have u3 := Try.underlying4
  have a3 := Try.isAgg4
  obtain ⟨i, hi⟩ : ∃ i, Try.prog.info? 4 = some i := by
    cases h : Try.prog.info? 4 with
    | none => have : (Try.prog.info? 4).map (·.size) = some 1 := by kernel_rfl
              simp [h] at this
    | some i => exact ⟨i, rfl⟩
  have hc : Try.prog.cellsOf 4 = 1 := by kernel_rfl
  rw [run_equalIn_array w (d + 1) _ _ Try.underlying23 hi, hc]
  simp only [Op.eqItems, List.range_succ, List.range_zero, List.nil_append, List.cons_append]
  go_simp
theorem self_lad (d : Nat) (a b : Int) (w : World) : (Op.equalIn (d + 3) 27 (.agg #[.int .u32 a, .int .u32 b]) (.agg #[.int .u32 a, .int .u32 b])).run Try.prog w = .ok true w := by
  have hS : Try.prog.underlying 27 = some (.struct (Try.prog.fieldsOf 27)) := by kernel_rfl
  have hp : Try.prog.stoodInHeld 27 = false := by kernel_rfl
  have e1 := fun W => equal_words d a b a b W
  simp only [eq2_self] at e1
  have a3 := Try.isAgg25
  have z3 := Try.sizeOf25
  rw [show d + 3 = (d + 2) + 1 from rfl, run_equalIn_agg w (d + 2) _ _ _ hS hp]
  simp only [Program.fieldsOf, Try.underlying27]
  go_simp
theorem self_if (m p0 p1 : Int) (o0 o1 sp : Bool) (a b : Int) (w : World) : (Op.equalIn 10000 29 (.agg #[.int .i64 m, .int .i64 p0, .int .i64 p1, .bool o0, .bool o1, .bool sp, .int .u32 a, .int .u32 b]) (.agg #[.int .i64 m, .int .i64 p0, .int .i64 p1, .bool o0, .bool o1, .bool sp, .int .u32 a, .int .u32 b])).run Try.prog w = .ok true w := by
  have hS : Try.prog.underlying 29 = some (.struct (Try.prog.fieldsOf 29)) := by kernel_rfl
  have hp : Try.prog.stoodInHeld 29 = false := by kernel_rfl
  have e1 := fun W => self_2i 9997 p0 p1 W
  have e2 := fun W => self_2b 9997 o0 o1 W
  have e3 := fun W => self_lad 9996 a b W
  have u1 := Try.underlying3
  have u2 := Try.underlying4
  have a1 := Try.isAgg3
  have a2 := Try.isAgg4
  have a3 := Try.isAgg22
  have a4 := Try.isAgg23
  have a5 := Try.isAgg27
  have z1 := Try.sizeOf3
  have z2 := Try.sizeOf4
  have z3 := Try.sizeOf22
  have z4 := Try.sizeOf23
  have z5 := Try.sizeOf27
  rw [show (10000 : Nat) = 9999 + 1 from rfl, run_equalIn_agg w 9999 _ _ _ hS hp]
  simp only [Program.fieldsOf, Try.underlying29]
  go_simp
theorem eqlIf (m p0 p1 : Int) (o0 o1 sp : Bool) (a b : Int) (w : World) : (binOp .eql 29 (.agg #[.int .i64 m, .int .i64 p0, .int .i64 p1, .bool o0, .bool o1, .bool sp, .int .u32 a, .int .u32 b]) (.agg #[.int .i64 m, .int .i64 p0, .int .i64 p1, .bool o0, .bool o1, .bool sp, .int .u32 a, .int .u32 b])).run Try.prog w = .ok (.bool true) w := by
  rw [run_eql_struct, self_if]; rfl
theorem neqIf (m p0 p1 : Int) (o0 o1 sp : Bool) (a b : Int) (w : World) : (binOp .neq 29 (.agg #[.int .i64 m, .int .i64 p0, .int .i64 p1, .bool o0, .bool o1, .bool sp, .int .u32 a, .int .u32 b]) (.agg #[.int .i64 m, .int .i64 p0, .int .i64 p1, .bool o0, .bool o1, .bool sp, .int .u32 a, .int .u32 b])).run Try.prog w = .ok (.bool false) w := by
  rw [run_neq_struct, self_if]; rfl
theorem guardIf (op : BinOp) (x y : Operand) (xs ys : Array Value) (w : World) : (eqGuard op 29 x y (.agg xs) (.agg ys)).run Try.prog w = .ok () w := run_eqGuard_agg w op _ _ _ _ _ (by kernel_rfl)
theorem eqlLa (a b : Int) (w : World) : (binOp .eql 27 (.agg #[.int .u32 a, .int .u32 b]) (.agg #[.int .u32 a, .int .u32 b])).run Try.prog w = .ok (.bool true) w := by
  rw [run_eql_struct, show (10000 : Nat) = 9997 + 3 from rfl, self_lad]; rfl
theorem guardLa (op : BinOp) (x y : Operand) (xs ys : Array Value) (w : World) : (eqGuard op 27 x y (.agg xs) (.agg ys)).run Try.prog w = .ok () w := run_eqGuard_agg w op _ _ _ _ _ (by kernel_rfl)

/-! ### Plain -/
theorem real_idem (x : Int) : realV (realV x) = realV x := by
  unfold realV
  have h1 : (low8 x &&& 248) < 256 := Nat.and_lt_two_pow (n := 8) _ (by decide)
  rw [low8_nat _ h1, Nat.and_assoc, Nat.and_self]
theorem real_rng (x : Int) : 0 ≤ realV x ∧ realV x ≤ 255 := by
  unfold realV
  have h1 : (low8 x &&& 248) < 256 := Nat.and_lt_two_pow (n := 8) _ (by decide)
  omega
theorem wrap_small {q : Int} (h0 : 0 ≤ q) (h1 : q < 256) : IntKind.u64.wrap q = q := by rw [IntKind.wrap_u64]; omega
theorem max1_rng {q : Int} (h1 : q < 8) : 1 ≤ max1 q ∧ max1 q < 8 := by unfold max1; split <;> omega
theorem sets_ok (x : Fc) (rg : Int) (v : Nat) (h : (writeC x rg v).2 = true) :
    (readC (writeC x rg v).1 rg).2 = true ∧ writeC (writeC x rg v).1 rg v = ((writeC x rg v).1, true) ∧ (∃ n : Nat, n < 18446744073709551616 ∧ (readC (writeC x rg v).1 rg).1 = (n : Int) ∧ writeC (writeC x rg v).1 rg n = ((writeC x rg v).1, true)) ∧
    (∀ o, o ≠ rg → readC (writeC x rg v).1 o = readC x o) ∧ (writeC x rg v).1.r = x.r := by
  obtain ⟨m, p0, p1, o0, o1, sp, r⟩ := x
  rcases regs_cases rg with rfl | rfl | rfl | rfl | rfl | rfl | rfl | ⟨n6, n7, n8, n9, n10, n11, n12⟩
  · have hr := real_rng ((v % 256 : Nat) : Int)
    have hi := real_idem ((v % 256 : Nat) : Int)
    simp only [writeC, readC, if_true]
    obtain ⟨q, hq⟩ : ∃ q, realV ((v % 256 : Nat) : Int) = q := ⟨_, rfl⟩
    rw [hq] at hr hi ⊢
    refine ⟨trivial, trivial, ⟨q.toNat, by omega, by rw [wrap_small hr.1 (by omega)]; omega, ?_⟩, fun o ho => ?_, trivial⟩
    · rw [show q.toNat % 256 = q.toNat by omega, show ((q.toNat : Nat) : Int) = q by omega, hi]
    · simp [ho]
  · simp only [writeC, readC, if_true, show (7 : Int) ≠ 6 by decide, if_false]
    refine ⟨trivial, trivial, ⟨v % 8, by omega, by rw [wrap_small (by omega) (by omega)], ?_⟩, fun o ho => ?_, trivial⟩
    · rw [show v % 8 % 8 = v % 8 by omega]
    · simp [ho]
  · simp only [writeC, readC, if_true, show (8 : Int) ≠ 6 by decide, show (8 : Int) ≠ 7 by decide, if_false]
    have h1 := max1_rng (q := ((v % 8 : Nat) : Int)) (by omega)
    obtain ⟨q, hq⟩ : ∃ q, max1 ((v % 8 : Nat) : Int) = q := ⟨_, rfl⟩
    rw [hq] at h1 ⊢
    have h2 : max1 q = q := by unfold max1; rw [if_neg (by omega)]
    refine ⟨trivial, trivial, ⟨q.toNat, by omega, by rw [h2, wrap_small (by omega) (by omega)]; omega, ?_⟩, fun o ho => ?_, trivial⟩
    · rw [show q.toNat % 8 = q.toNat by omega, show ((q.toNat : Nat) : Int) = q by omega, h2]
    · simp [ho]
  · simp only [writeC, readC, if_true, show (9 : Int) ≠ 6 by decide, show (9 : Int) ≠ 7 by decide, show (9 : Int) ≠ 8 by decide, if_false]
    refine ⟨trivial, trivial, ⟨flagN (decide (v / 2 % 2 = 1)) 2, by unfold flagN; split <;> omega, rfl, ?_⟩, fun o ho => ?_, trivial⟩
    · cases decide (v / 2 % 2 = 1) <;> simp [flagN]
    · simp [ho]
  · simp only [writeC, readC, if_true, show (10 : Int) ≠ 6 by decide, show (10 : Int) ≠ 7 by decide, show (10 : Int) ≠ 8 by decide, show (10 : Int) ≠ 9 by decide, if_false]
    refine ⟨trivial, trivial, ⟨flagN (decide (v % 2 = 1)) 1, by unfold flagN; split <;> omega, rfl, ?_⟩, fun o ho => ?_, trivial⟩
    · cases decide (v % 2 = 1) <;> simp [flagN]
    · simp [ho]
  · simp only [writeC, readC, if_true, show (11 : Int) ≠ 6 by decide, show (11 : Int) ≠ 7 by decide, show (11 : Int) ≠ 8 by decide, show (11 : Int) ≠ 9 by decide, show (11 : Int) ≠ 10 by decide, if_false]
    refine ⟨trivial, trivial, ⟨flagN (decide (v % 2 = 1)) 1, by unfold flagN; split <;> omega, rfl, ?_⟩, fun o ho => ?_, trivial⟩
    · cases decide (v % 2 = 1) <;> simp [flagN]
    · simp [ho]
  · simp [writeC] at h
  · simp [writeC, n6, n7, n8, n9, n10, n11] at h
theorem sets_no {x : Fc} {rg : Int} {v : Nat} (h : (writeC x rg v).2 = false) : (writeC x rg v).1 = x := by
  unfold writeC at *
  repeat' split at h
  all_goals first | (simp at h; done) | simp_all
set_option maxRecDepth 100000 in
set_option maxHeartbeats 16000000 in
theorem sets_law (x : Fc) (rg : Int) (v : Nat) (ot : Int) (hv : v < 18446744073709551616) (w : World) :
    Calls Try.prog 6 #[x.v, .int .i64 rg, .int .u64 v, .int .i64 ot] w fun e w' => e = .returned (.bool true) ∧ Below w.heap.size w w' := by
  have hq1 := fun m p0 p1 o0 o1 sp a b W => eqlIf m p0 p1 o0 o1 sp a b W
  have hg1 := fun op x y xs ys W => guardIf op x y xs ys W
  have hq2 := fun a b W => eqlLa a b W
  have hg2 := fun op x y xs ys W => guardLa op x y xs ys W
  have WX := hi (fun b W (z : CB W b 29 x.cs) => write_any b x rg v hv W z)
  obtain ⟨⟨y, ok⟩, hy⟩ : ∃ R, writeC x rg v = R := ⟨_, rfl⟩
  have S := sets_ok x rg v
  have SN := sets_no (x := x) (rg := rg) (v := v)
  rw [hy] at S SN WX
  dsimp only at S SN WX
  cases ok
  · obtain rfl := SN rfl
    clear S SN hy
    obtain ⟨m, p0, p1, o0, o1, sp, r⟩ := y
    have HB0 := hi (bal w (.cells #[.int .i64 m, .int .i64 p0, .int .i64 p1, .bool o0, .bool o1, .bool sp, .int .u32 (wd r 0), .int .u32 (wd r 1)] 29))
    have HF0 := hi (CB.new w 29 #[.int .i64 m, .int .i64 p0, .int .i64 p1, .bool o0, .bool o1, .bool sp, .int .u32 (wd r 0), .int .u32 (wd r 1)])
    go_enter Try.func6, Try.ntmps6
    go_wp2_with (first
      | (go_at_call 9; ((with_reducible refine (awake_if _).mono ?_); rintro e w1 ⟨rfl, hb⟩; have hc := bal w1 (.cells #[.int .i64 m, .int .i64 p0, .int .i64 p1, .bool o0, .bool o1, .bool sp, .int .u32 (wd r 0), .int .u32 (wd r 1)] 29); have F1 := hi ((HF0.out.below hb).below hc); have W1 := hi (CB.new w1 29 #[.int .i64 m, .int .i64 p0, .int .i64 p1, .bool o0, .bool o1, .bool sp, .int .u32 (wd r 0), .int .u32 (wd r 1)]); have B1 := hi ((HB0.out.trans (hb.mono HB0.out.size)).trans (hc.mono (HB0.out.trans (hb.mono HB0.out.size)).size)); have hf0 := HF0.out.below hb; have f0 := hf0.cell 0; have f1 := hf0.cell 1; have f2 := hf0.cell 2; have f3 := hf0.cell 3; have f4 := hf0.cell 4; have f5 := hf0.cell 5; have f6 := hf0.cell 6; have f7 := hf0.cell 7; have LT := hi (show w.heap.size < w1.heap.size from hf0.lt); clear hb hc hf0))
      | (go_at_call 30; ((with_reducible refine (WX.out _ _ F1.out).mono ?_); rintro e w2 ⟨rfl, hA⟩; have F2 := hi hA.bx; have W2 := hi (W1.out.keptB hA.kept (show w1.heap.size ≠ w.heap.size from by have := LT.out; omega)); have B3 := hi (B1.out.trans (hA.kept.toBelow B1.out.size (fun i z => by subst z; exact Nat.le_refl _))); have g0 := F2.out.cell 0; have g1 := F2.out.cell 1; have g2 := F2.out.cell 2; have g3 := F2.out.cell 3; have g4 := F2.out.cell 4; have g5 := F2.out.cell 5; have g6 := F2.out.cell 6; have g7 := F2.out.cell 7; have k0 := W2.out.cell 0; have k1 := W2.out.cell 1; have k2 := W2.out.cell 2; have k3 := W2.out.cell 3; have k4 := W2.out.cell 4; have k5 := W2.out.cell 5; have k6 := W2.out.cell 6; have k7 := W2.out.cell 7; clear hA)))
    go_ret
    exact ⟨rfl, B3.out⟩
  · obtain ⟨s1, s2, ⟨n, hn, s3, s4⟩, s5, s6⟩ := S rfl
    have WY := hi (fun b W (z : CB W b 29 y.cs) => write_any b y rg v hv W z)
    have WN := hi (fun b W (z : CB W b 29 y.cs) => write_any b y rg n hn W z)
    have RY := hi (fun W => read_any y rg W)
    have RO := hi (fun W => read_any y ot W)
    have RX := hi (fun W => read_any x ot W)
    rw [s2] at WY
    rw [s4] at WN
    rw [s1, s3] at RY
    clear s1 s2 s3 s4 SN hy S
    by_cases ho : ot = rg
    · subst ho
      clear s5
      obtain ⟨⟨a1, b1⟩, hR1⟩ : ∃ R, readC y ot = R := ⟨_, rfl⟩
      obtain ⟨⟨a2, b2⟩, hR2⟩ : ∃ R, readC x ot = R := ⟨_, rfl⟩
      rw [hR1] at RO
      rw [hR2] at RX
      clear hR1 hR2
      have hoo : (ot == ot) = true := by simp
      obtain ⟨m, p0, p1, o0, o1, sp, r'⟩ := x
      obtain ⟨m', p0', p1', o0', o1', sp', r⟩ := y
      dsimp only at s6 WX WY WN RY RO RX
      subst s6
      have HB0 := hi (bal w (.cells #[.int .i64 m, .int .i64 p0, .int .i64 p1, .bool o0, .bool o1, .bool sp, .int .u32 (wd r 0), .int .u32 (wd r 1)] 29))
      have HF0 := hi (CB.new w 29 #[.int .i64 m, .int .i64 p0, .int .i64 p1, .bool o0, .bool o1, .bool sp, .int .u32 (wd r 0), .int .u32 (wd r 1)])
      go_enter Try.func6, Try.ntmps6
      go_wp2_with (first
        | (go_at_call 9; ((with_reducible refine (awake_if _).mono ?_); rintro e w1 ⟨rfl, hb⟩; have hc := bal w1 (.cells #[.int .i64 m, .int .i64 p0, .int .i64 p1, .bool o0, .bool o1, .bool sp, .int .u32 (wd r 0), .int .u32 (wd r 1)] 29); have F1 := hi ((HF0.out.below hb).below hc); have W1 := hi (CB.new w1 29 #[.int .i64 m, .int .i64 p0, .int .i64 p1, .bool o0, .bool o1, .bool sp, .int .u32 (wd r 0), .int .u32 (wd r 1)]); have B1 := hi ((HB0.out.trans (hb.mono HB0.out.size)).trans (hc.mono (HB0.out.trans (hb.mono HB0.out.size)).size)); have hf0 := HF0.out.below hb; have f0 := hf0.cell 0; have f1 := hf0.cell 1; have f2 := hf0.cell 2; have f3 := hf0.cell 3; have f4 := hf0.cell 4; have f5 := hf0.cell 5; have f6 := hf0.cell 6; have f7 := hf0.cell 7; have LT := hi (show w.heap.size < w1.heap.size from hf0.lt); clear hb hc hf0))
        | (go_at_call 30; ((with_reducible refine (WX.out _ _ F1.out).mono ?_); rintro e w2 ⟨rfl, hA⟩; have F2 := hi hA.bx; have W2 := hi (W1.out.keptB hA.kept (show w1.heap.size ≠ w.heap.size from by have := LT.out; omega)); have B2 := hi (B1.out.trans (hA.kept.toBelow B1.out.size (fun i z => by subst z; exact Nat.le_refl _))); have g0 := F2.out.cell 0; have g1 := F2.out.cell 1; have g2 := F2.out.cell 2; have g3 := F2.out.cell 3; have g4 := F2.out.cell 4; have g5 := F2.out.cell 5; have g6 := F2.out.cell 6; have g7 := F2.out.cell 7; clear hA))
        | (go_at_call 12; ((with_reducible refine (RY.out _).mono ?_); rintro e w3 ⟨rfl, hb⟩; have hc := bal w3 (.cells #[.int .i64 m', .int .i64 p0', .int .i64 p1', .bool o0', .bool o1', .bool sp', .int .u32 (wd r 0), .int .u32 (wd r 1)] 29); have hf := F2.out.below hb; have h0 := hf.cell 0; have h1 := hf.cell 1; have h2 := hf.cell 2; have h3 := hf.cell 3; have h4 := hf.cell 4; have h5 := hf.cell 5; have h6 := hf.cell 6; have h7 := hf.cell 7; have F3 := hi (hf.below hc); have W3 := hi ((W2.out.below hb).below hc); have G3 := hi (CB.new w3 29 #[.int .i64 m', .int .i64 p0', .int .i64 p1', .bool o0', .bool o1', .bool sp', .int .u32 (wd r 0), .int .u32 (wd r 1)]); have B3 := hi ((B2.out.trans (hb.mono B2.out.size)).trans (hc.mono (B2.out.trans (hb.mono B2.out.size)).size)); have L3 := hi (show w.heap.size < w3.heap.size from hf.lt); have L3w := hi (show w1.heap.size < w3.heap.size from (W2.out.below hb).lt); clear hb hc hf))
        | (go_at_call 30; ((with_reducible refine (WY.out _ _ G3.out).mono ?_); rintro e w4 ⟨rfl, hA⟩; have G4 := hi hA.bx; have F4 := hi (F3.out.keptB hA.kept (show w.heap.size ≠ w3.heap.size from by have := L3.out; omega)); have W4 := hi (W3.out.keptB hA.kept (show w1.heap.size ≠ w3.heap.size from by have := L3w.out; omega)); have B4 := hi (B3.out.trans (hA.kept.toBelow B3.out.size (fun i z => by subst z; have := L3.out; omega))); clear hA))
        | (go_at_call 30; ((with_reducible refine (WN.out _ _ G4.out).mono ?_); rintro e w5 ⟨rfl, hA⟩; have G5 := hi hA.bx; have F5 := hi (F4.out.keptB hA.kept (show w.heap.size ≠ w3.heap.size from by have := L3.out; omega)); have W5 := hi (W4.out.keptB hA.kept (show w1.heap.size ≠ w3.heap.size from by have := L3w.out; omega)); have B5 := hi (B4.out.trans (hA.kept.toBelow B4.out.size (fun i z => by subst z; have := L3.out; omega))); have i0 := F5.out.cell 0; have i1 := F5.out.cell 1; have i2 := F5.out.cell 2; have i3 := F5.out.cell 3; have i4 := F5.out.cell 4; have i5 := F5.out.cell 5; have i6 := F5.out.cell 6; have i7 := F5.out.cell 7; clear hA))
        | (go_at_call 12; ((with_reducible refine (RO.out _).mono ?_); rintro e w6 ⟨rfl, hb⟩; have F6 := hi (F5.out.below hb); have W6 := hi (W5.out.below hb); have G6 := hi (G5.out.below hb); have B6 := hi (B5.out.trans (hb.mono B5.out.size)); have j0 := W6.out.cell 0; have j1 := W6.out.cell 1; have j2 := W6.out.cell 2; have j3 := W6.out.cell 3; have j4 := W6.out.cell 4; have j5 := W6.out.cell 5; have j6 := W6.out.cell 6; have j7 := W6.out.cell 7; clear hb))
        | (go_at_call 12; ((with_reducible refine (RX.out _).mono ?_); rintro e w7 ⟨rfl, hb⟩; have F7 := hi (F6.out.below hb); have W7 := hi (W6.out.below hb); have G7 := hi (G6.out.below hb); have B9 := hi (B6.out.trans (hb.mono B6.out.size)); have l0 := F7.out.cell 0; have l1 := F7.out.cell 1; have l2 := F7.out.cell 2; have l3 := F7.out.cell 3; have l4 := F7.out.cell 4; have l5 := F7.out.cell 5; have l6 := F7.out.cell 6; have l7 := F7.out.cell 7; have n0 := W7.out.cell 0; have n1 := W7.out.cell 1; have n2 := W7.out.cell 2; have n3 := W7.out.cell 3; have n4 := W7.out.cell 4; have n5 := W7.out.cell 5; have n6 := W7.out.cell 6; have n7 := W7.out.cell 7; have q0 := G7.out.cell 0; have q1 := G7.out.cell 1; have q2 := G7.out.cell 2; have q3 := G7.out.cell 3; have q4 := G7.out.cell 4; have q5 := G7.out.cell 5; have q6 := G7.out.cell 6; have q7 := G7.out.cell 7; clear hb)))
      go_ret
      exact ⟨rfl, B9.out⟩
    · rw [s5 ot ho] at RO
      obtain ⟨⟨a2, b2⟩, hR2⟩ : ∃ R, readC x ot = R := ⟨_, rfl⟩
      rw [hR2] at RX RO
      clear hR2 s5
      have hoo : (ot == rg) = false := by simpa using ho
      obtain ⟨a1, ha1⟩ : ∃ a1, a1 = a2 := ⟨_, rfl⟩
      subst ha1
      obtain ⟨m, p0, p1, o0, o1, sp, r'⟩ := x
      obtain ⟨m', p0', p1', o0', o1', sp', r⟩ := y
      dsimp only at s6 WX WY WN RY RO RX
      subst s6
      have HB0 := hi (bal w (.cells #[.int .i64 m, .int .i64 p0, .int .i64 p1, .bool o0, .bool o1, .bool sp, .int .u32 (wd r 0), .int .u32 (wd r 1)] 29))
      have HF0 := hi (CB.new w 29 #[.int .i64 m, .int .i64 p0, .int .i64 p1, .bool o0, .bool o1, .bool sp, .int .u32 (wd r 0), .int .u32 (wd r 1)])
      go_enter Try.func6, Try.ntmps6
      go_wp2_with (first
        | (go_at_call 9; ((with_reducible refine (awake_if _).mono ?_); rintro e w1 ⟨rfl, hb⟩; have hc := bal w1 (.cells #[.int .i64 m, .int .i64 p0, .int .i64 p1, .bool o0, .bool o1, .bool sp, .int .u32 (wd r 0), .int .u32 (wd r 1)] 29); have F1 := hi ((HF0.out.below hb).below hc); have W1 := hi (CB.new w1 29 #[.int .i64 m, .int .i64 p0, .int .i64 p1, .bool o0, .bool o1, .bool sp, .int .u32 (wd r 0), .int .u32 (wd r 1)]); have B1 := hi ((HB0.out.trans (hb.mono HB0.out.size)).trans (hc.mono (HB0.out.trans (hb.mono HB0.out.size)).size)); have hf0 := HF0.out.below hb; have f0 := hf0.cell 0; have f1 := hf0.cell 1; have f2 := hf0.cell 2; have f3 := hf0.cell 3; have f4 := hf0.cell 4; have f5 := hf0.cell 5; have f6 := hf0.cell 6; have f7 := hf0.cell 7; have LT := hi (show w.heap.size < w1.heap.size from hf0.lt); clear hb hc hf0))
        | (go_at_call 30; ((with_reducible refine (WX.out _ _ F1.out).mono ?_); rintro e w2 ⟨rfl, hA⟩; have F2 := hi hA.bx; have W2 := hi (W1.out.keptB hA.kept (show w1.heap.size ≠ w.heap.size from by have := LT.out; omega)); have B2 := hi (B1.out.trans (hA.kept.toBelow B1.out.size (fun i z => by subst z; exact Nat.le_refl _))); have g0 := F2.out.cell 0; have g1 := F2.out.cell 1; have g2 := F2.out.cell 2; have g3 := F2.out.cell 3; have g4 := F2.out.cell 4; have g5 := F2.out.cell 5; have g6 := F2.out.cell 6; have g7 := F2.out.cell 7; clear hA))
        | (go_at_call 12; ((with_reducible refine (RY.out _).mono ?_); rintro e w3 ⟨rfl, hb⟩; have hc := bal w3 (.cells #[.int .i64 m', .int .i64 p0', .int .i64 p1', .bool o0', .bool o1', .bool sp', .int .u32 (wd r 0), .int .u32 (wd r 1)] 29); have hf := F2.out.below hb; have h0 := hf.cell 0; have h1 := hf.cell 1; have h2 := hf.cell 2; have h3 := hf.cell 3; have h4 := hf.cell 4; have h5 := hf.cell 5; have h6 := hf.cell 6; have h7 := hf.cell 7; have F3 := hi (hf.below hc); have W3 := hi ((W2.out.below hb).below hc); have G3 := hi (CB.new w3 29 #[.int .i64 m', .int .i64 p0', .int .i64 p1', .bool o0', .bool o1', .bool sp', .int .u32 (wd r 0), .int .u32 (wd r 1)]); have B3 := hi ((B2.out.trans (hb.mono B2.out.size)).trans (hc.mono (B2.out.trans (hb.mono B2.out.size)).size)); have L3 := hi (show w.heap.size < w3.heap.size from hf.lt); have L3w := hi (show w1.heap.size < w3.heap.size from (W2.out.below hb).lt); clear hb hc hf))
        | (go_at_call 30; ((with_reducible refine (WY.out _ _ G3.out).mono ?_); rintro e w4 ⟨rfl, hA⟩; have G4 := hi hA.bx; have F4 := hi (F3.out.keptB hA.kept (show w.heap.size ≠ w3.heap.size from by have := L3.out; omega)); have W4 := hi (W3.out.keptB hA.kept (show w1.heap.size ≠ w3.heap.size from by have := L3w.out; omega)); have B4 := hi (B3.out.trans (hA.kept.toBelow B3.out.size (fun i z => by subst z; have := L3.out; omega))); clear hA))
        | (go_at_call 30; ((with_reducible refine (WN.out _ _ G4.out).mono ?_); rintro e w5 ⟨rfl, hA⟩; have G5 := hi hA.bx; have F5 := hi (F4.out.keptB hA.kept (show w.heap.size ≠ w3.heap.size from by have := L3.out; omega)); have W5 := hi (W4.out.keptB hA.kept (show w1.heap.size ≠ w3.heap.size from by have := L3w.out; omega)); have B5 := hi (B4.out.trans (hA.kept.toBelow B4.out.size (fun i z => by subst z; have := L3.out; omega))); have i0 := F5.out.cell 0; have i1 := F5.out.cell 1; have i2 := F5.out.cell 2; have i3 := F5.out.cell 3; have i4 := F5.out.cell 4; have i5 := F5.out.cell 5; have i6 := F5.out.cell 6; have i7 := F5.out.cell 7; clear hA))
        | (go_at_call 12; ((with_reducible refine (RO.out _).mono ?_); rintro e w6 ⟨rfl, hb⟩; have F6 := hi (F5.out.below hb); have W6 := hi (W5.out.below hb); have G6 := hi (G5.out.below hb); have B6 := hi (B5.out.trans (hb.mono B5.out.size)); have j0 := W6.out.cell 0; have j1 := W6.out.cell 1; have j2 := W6.out.cell 2; have j3 := W6.out.cell 3; have j4 := W6.out.cell 4; have j5 := W6.out.cell 5; have j6 := W6.out.cell 6; have j7 := W6.out.cell 7; clear hb))
        | (go_at_call 12; ((with_reducible refine (RX.out _).mono ?_); rintro e w7 ⟨rfl, hb⟩; have F7 := hi (F6.out.below hb); have W7 := hi (W6.out.below hb); have G7 := hi (G6.out.below hb); have B9 := hi (B6.out.trans (hb.mono B6.out.size)); have l0 := F7.out.cell 0; have l1 := F7.out.cell 1; have l2 := F7.out.cell 2; have l3 := F7.out.cell 3; have l4 := F7.out.cell 4; have l5 := F7.out.cell 5; have l6 := F7.out.cell 6; have l7 := F7.out.cell 7; have n0 := W7.out.cell 0; have n1 := W7.out.cell 1; have n2 := W7.out.cell 2; have n3 := W7.out.cell 3; have n4 := W7.out.cell 4; have n5 := W7.out.cell 5; have n6 := W7.out.cell 6; have n7 := W7.out.cell 7; have q0 := G7.out.cell 0; have q1 := G7.out.cell 1; have q2 := G7.out.cell 2; have q3 := G7.out.cell 3; have q4 := G7.out.cell 4; have q5 := G7.out.cell 5; have q6 := G7.out.cell 6; have q7 := G7.out.cell 7; clear hb)))
      go_ret
      exact ⟨rfl, B9.out⟩

end Go.Proofs.Ytnnlimjbmfpalaa
