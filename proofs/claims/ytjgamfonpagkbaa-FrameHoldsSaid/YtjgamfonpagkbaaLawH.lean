/-
  The law FrameSets at every input.
-/
import Derived.Test.YtjgamfonpagkbaaLawF
namespace Go.Proofs.Ytjgamfonpagkbaa
open Go.ChangeShapes Go.WideShapes Go.ChangeAt Go.RowKit Go.Shelf
set_option linter.unusedVariables false
attribute [local go_sem] Oper.semAt_some

/-! ### Plain -/
theorem field_one (v k : Nat) : fieldN 1 v k = if v.testBit k then 1 else 0 := by
  unfold fieldN
  rw [sumB, sumB]
  simp
theorem oneB_bit (b : Bool) : (oneB b).testBit 0 = b := by cases b <;> rfl
/-- Which bits Read tells of the interrupts that are enabled. -/
def enB (F : Int) (f0 : Int) (es : List En) (i : Nat) : Bool := (decide (i < 32) && hasB f0 es.length (F + i)) && (nthE es (plcK f0 F i)).ln.en
theorem read_en {r : Int} (hr : r = 5 ∨ r = 6) (F f0 : Int) (es : List En) (i : Nat) : (readV ⟨r, F, 32⟩ 32 f0 es).testBit i = enB F f0 es i := by
  have hw : wideN r = 1 := by rcases hr with rfl | rfl <;> rfl
  have ht : ∀ l, toldV l r = oneB l.en := by intro l; rcases hr with rfl | rfl <;> rfl
  rw [readV_bit]
  dsimp only
  rw [hw, ht, Nat.div_one, Nat.mod_one, oneB_bit, enB]
  by_cases h : i < 32
  · simp [h, show i < 64 by omega]
  · simp [h]
theorem en_set (F f0 : Int) (v : Nat) (es : List En) (i : Nat) : enB F f0 (writeV ⟨5, F, 32⟩ 32 f0 v es).1 i = ((decide (i < 32) && hasB f0 es.length (F + i)) && (v.testBit i || (nthE es (plcK f0 F i)).ln.en)) := by
  rw [enB, writeV_len]
  by_cases h : i < 32
  · by_cases h2 : hasB f0 es.length (F + i) = true
    · have := writeV_at (p := ⟨5, F, 32⟩) (c := 32) (v := v) h h2
      dsimp only at this
      rw [this]
      have e : (lnW ⟨5, F, 32⟩ f0 v es i).en = (v.testBit i || (nthE es (plcK f0 F i)).ln.en) := by
        rw [lnW]
        dsimp only
        rw [show wideN 5 = 1 from rfl, field_one]
        cases v.testBit i <;> rfl
      simp only [En.with_]
      rw [e]
    · simp [h2]
  · simp [h]
theorem en_clear (F f0 : Int) (v : Nat) (es : List En) (i : Nat) : enB F f0 (writeV ⟨6, F, 32⟩ 32 f0 v es).1 i = ((decide (i < 32) && hasB f0 es.length (F + i)) && (!v.testBit i && (nthE es (plcK f0 F i)).ln.en)) := by
  rw [enB, writeV_len]
  by_cases h : i < 32
  · by_cases h2 : hasB f0 es.length (F + i) = true
    · have := writeV_at (p := ⟨6, F, 32⟩) (c := 32) (v := v) h h2
      dsimp only at this
      rw [this]
      have e : (lnW ⟨6, F, 32⟩ f0 v es i).en = (!v.testBit i && (nthE es (plcK f0 F i)).ln.en) := by
        rw [lnW]
        dsimp only
        rw [show wideN 6 = 1 from rfl, field_one]
        cases v.testBit i <;> rfl
      simp only [En.with_]
      rw [e]
    · simp [h2]
  · simp [h]
theorem write_zero {r : Int} (hr : r = 5 ∨ r = 6) (F f0 : Int) (es : List En) : writeV ⟨r, F, 32⟩ 32 f0 0 es = (es, 0) :=
  writeV_stay (fun k _ _ => by
    rw [lnW]
    dsimp only
    rw [show wideN r = 1 by rcases hr with rfl | rfl <;> rfl, field_one]
    rcases hr with rfl | rfl <;> simp [chgV])
/-- The interrupts that there are. -/
def thereV (F f0 : Int) (n k : Nat) : Nat := sumB (fun i => hasB f0 n (F + i)) k
theorem there_lt (F f0 : Int) (n : Nat) {k : Nat} (h : k ≤ 32) : thereV F f0 n k < 4294967296 := Nat.lt_of_lt_of_le (sumB_lt _ _) (show 2 ^ k ≤ 2 ^ 32 from Nat.pow_le_pow_right (by decide) h)
theorem sets_or (F f0 : Int) (v : Nat) (es : List En) (hv : v < 4294967296) : bits .or .u64 (readV ⟨5, F, 32⟩ 32 f0 es : Nat) (bits .and .u64 (v : Int) (thereV F f0 es.length 32 : Nat)) = ((readV ⟨5, F, 32⟩ 32 f0 (writeV ⟨5, F, 32⟩ 32 f0 v es).1 : Nat) : Int) := by
  have ht := there_lt F f0 es.length (Nat.le_refl 32)
  have hr := readV_lt ⟨5, F, 32⟩ 32 f0 es
  rw [u64_and_nat _ _ (by omega) (by omega), u64_or_nat _ _ hr (Nat.lt_of_le_of_lt Nat.and_le_left (by omega))]
  congr 1
  apply Nat.eq_of_testBit_eq
  intro i
  rw [Nat.testBit_or, Nat.testBit_and, read_en (.inl rfl), read_en (.inl rfl), en_set, enB, thereV, sumB_bit]
  cases decide (i < 32) <;> cases hasB f0 es.length (F + i) <;> cases v.testBit i <;> cases (nthE es (plcK f0 F i)).ln.en <;> rfl
theorem sets_not (F f0 : Int) (v : Nat) (es : List En) (hv : v < 4294967296) : bits .andNot .u64 (readV ⟨5, F, 32⟩ 32 f0 es : Nat) (v : Int) = ((readV ⟨6, F, 32⟩ 32 f0 (writeV ⟨6, F, 32⟩ 32 f0 v es).1 : Nat) : Int) := by
  have hr := readV_lt ⟨5, F, 32⟩ 32 f0 es
  rw [u64_andNot_nat _ _ hr (by omega)]
  congr 1
  apply Nat.eq_of_testBit_eq
  intro i
  rw [show 18446744073709551615 - v = 2 ^ 64 - (v + 1) by omega, Nat.testBit_and, Nat.testBit_two_pow_sub_succ (by omega), read_en (.inl rfl), read_en (.inr rfl), en_clear, enB]
  by_cases h : i < 32
  · have h64 : i < 64 := by omega
    simp only [h, h64, decide_true, Bool.true_and]
    cases hasB f0 es.length (F + i) <;> cases v.testBit i <;> cases (nthE es (plcK f0 F i)).ln.en <;> rfl
  · simp [h]
theorem there_succ (F f0 : Int) (n : Nat) {k : Nat} (h : k < 32) : (hasB f0 n (F + k) = true → IntKind.u64.wrap ((thereV F f0 n k : Nat) + IntKind.u64.wrap ((2 : Int) ^ k)) = (thereV F f0 n (k + 1) : Nat)) ∧ (hasB f0 n (F + k) = false → thereV F f0 n (k + 1) = thereV F f0 n k) := by
  have hl := there_lt F f0 n (show k + 1 ≤ 32 by omega)
  constructor
  · intro hb
    exact add_bit (sumB_succ_t (f := fun i => hasB f0 n (F + i)) hb) (show thereV F f0 n (k + 1) < _ by omega) (by omega)
  · intro hb
    exact sumB_succ_f (f := fun i => hasB f0 n (F + i)) hb

/-- Where the law stands: the bank, the place's box. -/
structure SW (w : World) (b g cap P : Nat) (f0 : Int) (p : Pl) (es : List En) (W : World) : Prop where
  bk : BkF w b g cap f0 es W
  p : CB W P 37 p.cs
  n : P ≠ g
  nb : P ≠ b
  lp : w.heap.size ≤ P
theorem SW.later {w W W' : World} {b g cap P : Nat} {f0 : Int} {p : Pl} {es : List En} (h : SW w b g cap P f0 p es W) (k : Below W.heap.size W W') : SW w b g cap P f0 p es W' := ⟨h.bk.later k, h.p.below k, h.n, h.nb, h.lp⟩
theorem SW.wrote {w W W' : World} {b g cap P : Nat} {f0 : Int} {p : Pl} {es : List En} {q : Pl} {c v : Nat} (h : SW w b g cap P f0 p es W) (k : After W b g cap f0 (writeV q c f0 v es).1 W') : SW w b g cap P f0 p (writeV q c f0 v es).1 W' := ⟨h.bk.write k, h.p.keptB k.kept h.n, h.n, h.nb, h.lp⟩
theorem SW.reg {w W : World} {b g cap P : Nat} {f0 r f c : Int} {es : List En} (h : SW w b g cap P f0 ⟨r, f, c⟩ es W) (r2 : Int) : SW w b g cap P f0 ⟨r2, f, c⟩ es (W.setCell ⟨P, 0, none⟩ (.int .i64 r2)) :=
  ⟨⟨h.bk.bk.kept (Kept.set (bs := (· = P)) (Kept.refl _ _) _ _ rfl) (Ne.symm h.nb) (Ne.symm h.n), h.bk.lb, h.bk.lg, h.bk.fit, h.bk.few, h.bk.fine, below_set h.bk.below h.lp _⟩, by
    have := h.p.set 0 (.int .i64 r2)
    simpa only [List.setIfInBounds_toArray, List.set_cons_zero, List.set_cons_succ] using this, h.n, h.nb, h.lp⟩
theorem BkF.place2 {w W : World} {b g cap : Nat} {f0 : Int} {es : List En} (h : BkF w b g cap f0 es W) (p : Pl) : SW w b g cap W.heap.size f0 p es (W.alloc (.cells p.cs 37)) := by
  have h1 := h.bk.row.lt
  have h2 := h.bk.box.lt
  exact ⟨h.later (bal W _), CB.new W _ _, by omega, by omega, h.below.size⟩
theorem CB.pl {W : World} {P : Nat} {t : TypeId} {r f c : Int} (h : CB W P t #[.int .i64 r, .int .i64 f, .int .i64 c]) : W.cell? ⟨P, 0, none⟩ = some (.int .i64 r) ∧ W.cell? ⟨P, 1, none⟩ = some (.int .i64 f) ∧ W.cell? ⟨P, 2, none⟩ = some (.int .i64 c) := ⟨h.cell 0, h.cell 1, h.cell 2⟩

set_option maxRecDepth 100000 in
set_option maxHeartbeats 16000000 in
theorem lawSets_any (f n : Int) (v : Value) (xs : List Ac11) (word : Int) (vv : Nat) (w : World) (hf0 : 0 ≤ f) (hf1 : f < 256) (hn0 : 0 ≤ n) (hn1 : n < 256) (h : ActsAt w v xs) (hl : xs.length ≤ 9223372036854775806) (hw0 : 0 ≤ word) (hw1 : word < 256) (hv : vv < 4294967296) :
    Calls Try.prog 4 #[.int .u8 f, .int .u8 n, v, .int .u8 word, .int .u32 vv] w fun e w' => e = .returned (.bool true) ∧ Below w.heap.size w w' := by
  have CP := hi (fun W (hW : Below w.heap.size w W) => played_any f n v xs W hf0 hf1 hn0 hn1 (h.below hW) hl)
  obtain ⟨m, hm⟩ : ∃ m : Int, word % 4 = m := ⟨_, rfl⟩
  have hmt : word.tmod 4 = m := by rw [Int.tmod_eq_emod_of_nonneg hw0]; exact hm
  have hm0 : 0 ≤ m ∧ m < 4 := by omega
  have hwm1 : IntKind.u8.wrap m = m := by rw [IntKind.wrap_u8]; omega
  have hwm2 : IntKind.i64.wrap m = m := u8_i64 hm0.1 (by omega)
  have hwm3 : IntKind.i64.wrap (32 * m) = 32 * m := by rw [IntKind.wrap_i64]; omega
  obtain ⟨F, hF⟩ : ∃ F, 32 * m = F := ⟨_, rfl⟩
  rw [hF] at hwm3
  have hF0 : 0 ≤ F ∧ F < 128 := by omega
  have hwv : IntKind.u64.wrap (vv : Int) = vv := by rw [IntKind.wrap_u64]; omega
  have HP5 := hi (show PlOk ⟨5, F, 32⟩ 32 from ⟨rfl, by decide, hF0.1, by show F + _ ≤ _; omega⟩)
  have HP6 := hi (show PlOk ⟨6, F, 32⟩ 32 from ⟨rfl, by decide, hF0.1, by show F + _ ≤ _; omega⟩)
  have HVL := hi (show vv < 18446744073709551616 by omega)
  clear h hm
  go_enter Try.func4, Try.ntmps4
  go_wp2_with (first
    | (go_at_call 9; ((with_reducible refine (awake_any _).mono ?_); rintro e' w1 ⟨rfl, hb⟩; have HB1 := hi hb; clear hb))
    | (go_at_call 16; ((with_reducible refine (CP.out _ HB1.out).mono ?_); rintro e' w2 ⟨b, g, cap, f0, es, rfl, hB⟩; have HS2 := hi (hB.place2 ⟨5, F, 32⟩); have hw2 := hB.below.size; clear hB)))
  obtain ⟨N, hN⟩ : ∃ N, es.length = N := ⟨_, rfl⟩
  have HN := hi hN
  obtain ⟨P, hP⟩ : ∃ P, w2.heap.size = P := ⟨_, rfl⟩
  obtain ⟨w3, hw3⟩ : ∃ w3, w2.alloc (.cells #[.int .i64 5, .int .i64 F, .int .i64 32] 37) = w3 := ⟨_, rfl⟩
  have HS3 : Hi (SW w1 b g cap P f0 ⟨5, F, 32⟩ es w3) := by rw [← hw3, ← hP]; exact HS2
  rw [hP, hw3]
  have HTH := hi (fun k (h : k < 32) => there_succ F f0 N h)
  have HTL := hi (fun k (h : k ≤ 32) => there_lt F f0 N h)
  have HT0 := hi (show thereV F f0 N 0 = 0 from rfl)
  clear HS2 hw3 hP hw2 hN
  go_loopw [14, 15] (fun o i wr => ∃ k : Nat, k ≤ 32 ∧ i = .int .i64 k ∧ o = .int .u64 (thereV F f0 N k : Nat) ∧ Hi (SW w1 b g cap P f0 ⟨5, F, 32⟩ es wr)) (fun _ i _ => 32 - (intOf i).toNat)
  case atStart => exact ⟨0, by omega, rfl, by rw [HT0.out]; rfl, HS3⟩
  case round =>
    obtain ⟨k, hk, rfl, rfl, HX⟩ := hrel
    clear HS3
    obtain ⟨p0, p1, p2⟩ := HX.out.p.pl
    by_cases hlt : k < 32
    · have HH := hi (has_any (id := F + k) HX.out.bk.bk HX.out.bk.fit (by constructor <;> omega))
      rw [HN.out] at HH
      obtain ⟨ht1, ht2⟩ := HTH.out k hlt
      obtain ⟨t0, e0⟩ : ∃ t, thereV F f0 N k = t := ⟨_, rfl⟩
      obtain ⟨t1, e1⟩ : ∃ t, thereV F f0 N (k + 1) = t := ⟨_, rfl⟩
      rw [e0, e1] at ht1 ht2
      rw [e0]
      have E1 := hi e1
      have hwk : IntKind.i64.wrap (F + k) = F + k := by rw [IntKind.wrap_i64]; omega
      clear e0 e1
      cases hb : hasB f0 N (F + k)
      · rw [hb] at HH
        have HT2 := hi (ht2 hb)
        clear ht1 ht2 hb
        go_wp2_with (go_at_call 17; ((with_reducible refine HH.out.mono ?_); rintro e' w4 ⟨rfl, md, rfl⟩; have HX4 := hi (HX.out.later (Below.drewN (m := md) (Below.refl _ _)))))
        go_roundw
        case rel => exact ⟨k + 1, by omega, by go_num, by rw [E1.out, HT2.out], HX4⟩
        case measure => simp only [intOf]; omega
      · rw [hb] at HH
        have ht := ht1 hb
        clear ht1 ht2 hb
        go_wp2_with (go_at_call 17; ((with_reducible refine HH.out.mono ?_); rintro e' w4 ⟨rfl, md, rfl⟩; have HX4 := hi (HX.out.later (Below.drewN (m := md) (Below.refl _ _)))))
        go_roundw
        case rel => exact ⟨k + 1, by omega, by go_num, by rw [E1.out], HX4⟩
        case measure => simp only [intOf]; omega
    · obtain rfl : k = 32 := by omega
      have hor := sets_or F f0 vv es hv
      rw [HN.out] at hor
      have hnot := sets_not F f0 vv (writeV ⟨5, F, 32⟩ 32 f0 vv es).1 hv
      obtain ⟨th, hth⟩ : ∃ th, thereV F f0 N 32 = th := ⟨_, rfl⟩
      rw [hth] at hor ⊢
      have CR5 := hi (fun es' W (hW : BkF w1 b g cap f0 es' W) => read_any (p := ⟨5, F, 32⟩) hW.bk hW.fit hW.fine HP5.out)
      have CR6 := hi (fun es' W (hW : BkF w1 b g cap f0 es' W) => read_any (p := ⟨6, F, 32⟩) hW.bk hW.fit hW.fine HP6.out)
      have CW5 := hi (fun es' v' W (hW : BkF w1 b g cap f0 es' W) (hv' : v' < 18446744073709551616) => write_any (p := ⟨5, F, 32⟩) (v := v') hW.bk hW.fit hW.fine HP5.out hv')
      have CW6 := hi (fun es' v' W (hW : BkF w1 b g cap f0 es' W) (hv' : v' < 18446744073709551616) => write_any (p := ⟨6, F, 32⟩) (v := v') hW.bk hW.fit hW.fine HP6.out hv')
      have C1 := hi (fun W (hS : SW w1 b g cap P f0 ⟨5, F, 32⟩ es W) => (CR5.out es W hS.bk).mono (R' := fun e' W' => e' = .returned (.int .u64 (readV ⟨5, F, 32⟩ 32 f0 es : Nat)) ∧ SW w1 b g cap P f0 ⟨5, F, 32⟩ es W') (fun e' W' ⟨h1, h2⟩ => ⟨h1, hS.later h2⟩))
      obtain ⟨es1, hes1⟩ : ∃ es1, (writeV ⟨5, F, 32⟩ 32 f0 vv es).1 = es1 := ⟨_, rfl⟩
      have C2 := hi (fun W (hS : SW w1 b g cap P f0 ⟨5, F, 32⟩ es W) => (CW5.out es vv W hS.bk HVL.out).mono (R' := fun e' W' => (∃ c1 : Nat, e' = .returned (.int .i64 c1)) ∧ SW w1 b g cap P f0 ⟨5, F, 32⟩ es1 W') (fun e' W' ⟨h1, h2⟩ => ⟨⟨_, h1⟩, by rw [← hes1]; exact hS.wrote h2⟩))
      have C3 := hi (fun W (hS : SW w1 b g cap P f0 ⟨5, F, 32⟩ es1 W) => (CR5.out es1 W hS.bk).mono (R' := fun e' W' => e' = .returned (.int .u64 (readV ⟨5, F, 32⟩ 32 f0 es1 : Nat)) ∧ SW w1 b g cap P f0 ⟨5, F, 32⟩ es1 W') (fun e' W' ⟨h1, h2⟩ => ⟨h1, hS.later h2⟩))
      have C4 := hi (fun W (hS : SW w1 b g cap P f0 ⟨5, F, 32⟩ es1 W) => (show Calls Try.prog 18 #[.pointer (some ⟨b, 0, none⟩), .agg #[.int .i64 5, .int .i64 F, .int .i64 32], .int .u64 0] W _ from CW5.out es1 0 W hS.bk (by decide)).mono (R' := fun e' W' => e' = .returned (.int .i64 0) ∧ SW w1 b g cap P f0 ⟨5, F, 32⟩ es1 W') (fun e' W' ⟨h1, h2⟩ => by
        have h3 := hS.wrote h2
        rw [write_zero (.inl rfl)] at h1 h3
        exact ⟨h1, h3⟩))
      rw [hes1] at hor hnot
      obtain ⟨es2, hes2⟩ : ∃ es2, (writeV ⟨6, F, 32⟩ 32 f0 vv es1).1 = es2 := ⟨_, rfl⟩
      have C5 := hi (fun W (hS : SW w1 b g cap P f0 ⟨6, F, 32⟩ es1 W) => (CW6.out es1 vv W hS.bk HVL.out).mono (R' := fun e' W' => (∃ c1 : Nat, e' = .returned (.int .i64 c1)) ∧ SW w1 b g cap P f0 ⟨6, F, 32⟩ es2 W') (fun e' W' ⟨h1, h2⟩ => ⟨⟨_, h1⟩, by rw [← hes2]; exact hS.wrote h2⟩))
      have C6 := hi (fun W (hS : SW w1 b g cap P f0 ⟨6, F, 32⟩ es2 W) => (CR6.out es2 W hS.bk).mono (R' := fun e' W' => e' = .returned (.int .u64 (readV ⟨6, F, 32⟩ 32 f0 es2 : Nat)) ∧ SW w1 b g cap P f0 ⟨6, F, 32⟩ es2 W') (fun e' W' ⟨h1, h2⟩ => ⟨h1, hS.later h2⟩))
      have C7 := hi (fun W (hS : SW w1 b g cap P f0 ⟨6, F, 32⟩ es2 W) => (show Calls Try.prog 18 #[.pointer (some ⟨b, 0, none⟩), .agg #[.int .i64 6, .int .i64 F, .int .i64 32], .int .u64 0] W _ from CW6.out es2 0 W hS.bk (by decide)).mono (R' := fun e' W' => e' = .returned (.int .i64 0) ∧ SW w1 b g cap P f0 ⟨6, F, 32⟩ es2 W') (fun e' W' ⟨h1, h2⟩ => by
        have h3 := hS.wrote h2
        rw [write_zero (.inr rfl)] at h1 h3
        exact ⟨h1, h3⟩))
      rw [hes2] at hnot
      obtain ⟨r0, hr0⟩ : ∃ r0, readV ⟨5, F, 32⟩ 32 f0 es = r0 := ⟨_, rfl⟩
      obtain ⟨r1, hr1⟩ : ∃ r1, readV ⟨5, F, 32⟩ 32 f0 es1 = r1 := ⟨_, rfl⟩
      obtain ⟨r2, hr2⟩ : ∃ r2, readV ⟨6, F, 32⟩ 32 f0 es2 = r2 := ⟨_, rfl⟩
      rw [hr0] at C1 hor
      rw [hr1] at C3 hor hnot
      rw [hr2] at C6 hnot
      clear hes1 hes2 hr0 hr1 hr2 hth CR5 CR6 CW5 CW6 HTH HTL HT0 CP
      go_wp2_with (first
        | (go_at_call 18; ((with_reducible refine (C7.out _ HX7.out).mono ?_); rintro e' v8 ⟨rfl, hS⟩; have HX8 := hi hS; clear hS))
        | (go_at_call 14; ((with_reducible refine (C6.out _ HX6.out).mono ?_); rintro e' v7 ⟨rfl, hS⟩; have HX7 := hi hS; obtain ⟨p0, p1, p2⟩ := hS.p.pl; clear hS))
        | (go_at_call 18; ((with_reducible refine (C5.out _ HX5.out).mono ?_); rintro e' v6 ⟨⟨c6, rfl⟩, hS⟩; have HX6 := hi hS; obtain ⟨p0, p1, p2⟩ := hS.p.pl; clear hS))
        | (go_at_call 18; ((with_reducible refine (C4.out _ HX3.out).mono ?_); rintro e' v4 ⟨rfl, hS⟩; have HX5 := hi (hS.reg 6); obtain ⟨p0, p1, p2⟩ := hS.p.pl; have pf := hS.p.frozen; clear hS))
        | (go_at_call 14; ((with_reducible refine (C3.out _ HX2.out).mono ?_); rintro e' v3 ⟨rfl, hS⟩; have HX3 := hi hS; obtain ⟨p0, p1, p2⟩ := hS.p.pl; clear hS))
        | (go_at_call 18; ((with_reducible refine (C2.out _ HX1.out).mono ?_); rintro e' v2 ⟨⟨c2, rfl⟩, hS⟩; have HX2 := hi hS; obtain ⟨p0, p1, p2⟩ := hS.p.pl; clear hS))
        | (go_at_call 14; ((with_reducible refine (C1.out _ HX.out).mono ?_); rintro e' v1 ⟨rfl, hS⟩; have HX1 := hi hS; obtain ⟨p0, p1, p2⟩ := hS.p.pl; clear hS)))
      go_ret
      refine ⟨ret_bool ?_, HB1.out.trans (HX8.out.bk.below.mono HB1.out.size)⟩
      simp

end Go.Proofs.Ytjgamfonpagkbaa
