/-
  Package sgi: Whom at every slice of processors.
-/
import Derived.Test.YtkfnelhafflimaaSgiG
namespace Go.Proofs.Ytkfnelhafflimaa
open Go.ChangeShapes Go.WideShapes Go.ChangeAt Go.RowKit Go.Shelf
set_option linter.unusedVariables false

/-! ### Plain -/
def okC (x : Int) : Bool := decide (0 ≤ x) && decide (x < 8)
def okAll (xs : List Int) : Bool := xs.all okC
def tgN (xs : List Int) : Nat := xs.foldl (fun a x => a ||| 2 ^ x.toNat) 0
theorem tgN_snoc (xs : List Int) (x : Int) : tgN (xs ++ [x]) = tgN xs ||| 2 ^ x.toNat := by simp [tgN]
theorem okAll_take {xs : List Int} {k : Nat} (h : k < xs.length) : okAll (xs.take (k + 1)) = (okAll (xs.take k) && okC (xs[k]?.getD 0)) := by
  rw [List.take_add_one, okAll, List.all_append, List.getElem?_eq_getElem h]
  simp [okAll]
theorem tgN_take {xs : List Int} {k : Nat} (h : k < xs.length) : tgN (xs.take (k + 1)) = tgN (xs.take k) ||| 2 ^ (xs[k]?.getD 0).toNat := by
  rw [List.take_add_one, List.getElem?_eq_getElem h]
  exact tgN_snoc (xs.take k) xs[k]
theorem okAll_bad {xs : List Int} {k : Nat} (h : k < xs.length) (hb : okC (xs[k]?.getD 0) = false) : okAll xs = false := by
  have : okAll (xs.take (k + 1)) = false := by rw [okAll_take h, hb, Bool.and_false]
  cases hx : okAll xs
  · rfl
  · exfalso
    rw [okAll, List.all_eq_true] at hx
    have h2 : okAll (xs.take (k + 1)) = true := by
      rw [okAll, List.all_eq_true]
      exact fun x hm => hx x (List.mem_of_mem_take hm)
    rw [this] at h2
    exact absurd h2 (by decide)
theorem tgN_fold (i : Nat) : ∀ (xs : List Int) (a : Nat), okAll xs = true → (xs.foldl (fun a x => a ||| 2 ^ x.toNat) a).testBit i = (a.testBit i || isIn xs (i : Int))
  | [], a, _ => by simp [isIn]
  | x :: xs, a, h => by
    have h1 : okC x = true ∧ okAll xs = true := by simpa [okAll] using h
    rw [List.foldl_cons, tgN_fold i xs _ h1.2, Nat.testBit_or, Nat.testBit_two_pow]
    have hx : 0 ≤ x := by have := h1.1; simp [okC] at this; exact this.1
    by_cases e : x = (i : Int)
    · subst e; simp [isIn]
    · have e2 : ¬ x.toNat = i := by omega
      have e3 : ¬ (i : Int) = x := fun y => e y.symm
      simp [isIn, e2, e3]
theorem tgN_bit {xs : List Int} (h : okAll xs = true) (i : Nat) : (tgN xs).testBit i = isIn xs (i : Int) := by rw [tgN, tgN_fold i xs 0 h]; simp
theorem tgN_fold_lt : ∀ (xs : List Int) (a : Nat), okAll xs = true → a < 2 ^ 8 → xs.foldl (fun a x => a ||| 2 ^ x.toNat) a < 2 ^ 8
  | [], a, _, h => h
  | x :: xs, a, h, ha => by
    have h1 : okC x = true ∧ okAll xs = true := by simpa [okAll] using h
    have hx : x < 8 := by have := h1.1; simp [okC] at this; exact this.2
    exact tgN_fold_lt xs _ h1.2 (Nat.or_lt_two_pow ha (Nat.pow_lt_pow_right (by decide) (by omega)))
theorem tgN_lt {xs : List Int} (h : okAll xs = true) : tgN xs < 256 := tgN_fold_lt xs 0 h (by decide)
def whomC (id : Int) (xs : List Int) : Cl := if okAll xs && mayI id then ⟨id, false, tgN xs, false⟩ else Cl.zero
def whomE (id : Int) (xs : List Int) : Int := if okAll xs then (if mayI id then 0 else 1) else 130

theorem results_clE {fn : Func} {c u : Tmp} (h : fn.results = #[.cell c 24, .tmp u]) (tmps : Array Value) (w : World) (b : Nat) (x : Cl) (v : Value) (hp : tmps.getD c undef = .pointer (some ⟨b, 0, none⟩)) (hu : tmps.getD u undef = v) (hb : CB w b 24 x.cs) :
    (results fn tmps).run Try.prog w = .ok (.tuple #[x.v, v]) w := by
  have c0 := hb.cell 0
  have c1 := hb.cell 1
  have c2 := hb.cell 2
  have c3 := hb.cell 3
  simp at c0 c1 c2 c3
  rw [results_cell_tmp h, hp, hu]
  simp [go_sem, Result.andThen, c0, c1, c2, c3]

/-- The two boxes of Whom: what it answers, and the call that it makes. -/
structure WB (w : World) (id : Int) (t : Nat) (W : World) : Prop where
  z : CB W w.heap.size 24 Cl.zero.cs
  c : CB W (w.heap.size + 1) 24 (⟨id, false, t, false⟩ : Cl).cs
  below : Below w.heap.size w W
theorem WB.put {w W : World} {id : Int} {t : Nat} (h : WB w id t W) (u : Nat) : WB w id u (W.setCell ⟨w.heap.size + 1, 2, none⟩ (.int .i64 u)) :=
  ⟨h.z.other _ _ _ (by omega), h.c.set 2 _, below_set h.below (by omega) _⟩
theorem WB.drew {w W : World} {id : Int} {t : Nat} (h : WB w id t W) : WB w id t W.drew := ⟨h.z, h.c, Below.drewN (m := 1) h.below⟩
theorem WB.drewN {w W : World} {id : Int} {t : Nat} (h : WB w id t W) (n : Nat) : WB w id t (W.drewN n) := ⟨h.z, h.c, Below.drewN h.below⟩

set_option maxRecDepth 100000 in
set_option maxHeartbeats 4000000 in
theorem whom_any (id : Int) (xs : List Int) (va : Value) (w : World) (ha : IntsAt w va xs) (hx : xs.length ≤ 9223372036854775806) :
    Calls Try.prog 18 #[.int .i64 id, va] w fun e w' => e = .returned (.tuple #[(whomC id xs).v, .int .i64 (whomE id xs)]) ∧ Below w.heap.size w w' := by
  obtain ⟨a, cap, rfl, _, ha⟩ := ha
  have HM := hi (fun W => may_any id W)
  have HA := hi ha
  have HX := hi hx
  clear ha hx
  obtain ⟨C, hC⟩ : ∃ C, (whomC id xs).v = C := ⟨_, rfl⟩
  obtain ⟨E, hE⟩ : ∃ E, whomE id xs = E := ⟨_, rfl⟩
  rw [hC, hE]
  have HC := hi hC
  have HE := hi hE
  clear hC hE
  go_enter Try.func18, Try.ntmps18
  go_wp2
  go_loopw [13] (fun i wr => ∃ k : Nat, i = .int .i64 k ∧ Hi (k ≤ xs.length ∧ okAll (xs.take k) = true ∧ WB w id (tgN (xs.take k)) wr)) (fun i _ => xs.length - (intOf i).toNat)
  case atStart => exact ⟨0, rfl, hi ⟨Nat.zero_le _, rfl, ⟨(CB.new w _ _).alloc _, cb_second, bal_two w _ _⟩⟩⟩
  case round =>
    obtain ⟨k, rfl, HH⟩ := hrel
    obtain ⟨hk, hok, hW⟩ := HH.out
    by_cases hlt : k < xs.length
    · have hne : xs ≠ [] := fun e => by simp [e] at hlt
      obtain ⟨b1, o1, rfl, h1⟩ := HA.out hne
      have hl1 := World.block_lt_of_cell? w _ (h1 k hlt)
      have hc1 := (hW.below.cell (p := ⟨b1, o1 + k, none⟩) hl1).trans (h1 k hlt)
      obtain ⟨x, ex⟩ : ∃ x, xs[k]?.getD 0 = x := ⟨_, rfl⟩
      rw [ex] at hc1
      have hki : (k : Int) < (xs.length : Int) := by omega
      have hk9 : (k : Int) ≤ 9223372036854775805 := by have := HX.out; omega
      cases hxo : okC x
      · have hbad := okAll_bad hlt (by rw [ex]; exact hxo)
        have HB := hi hbad
        have HW := hi hW
        have z0 := hW.z.cell 0
        have z1 := hW.z.cell 1
        have z2 := hW.z.cell 2
        have z3 := hW.z.cell 3
        have fz := hW.z.frozen
        have HC1 := hi (show whomC id xs = Cl.zero by rw [whomC, HB.out]; rfl)
        have HE1 := hi (show whomE id xs = 130 by rw [whomE, HB.out]; rfl)
        rcases Int.lt_or_le x 0 with x0 | x0
        · have d1 : decide (x < 0) = true := by simpa using x0
          clear hW hbad hlt hk hok hxo h1 hne HH hl1 ex x0
          go_wp2
          exact bodyPost_ret (results_clE rfl _ _ w.heap.size Cl.zero _ rfl rfl (CB.setC (z := Cl.zero) HW.out.z Cl.zero)) rfl ⟨by rw [← HC.out, ← HE.out, HC1.out, HE1.out]; rfl, below_setC HW.out.below (Nat.le_refl _) Cl.zero⟩
        · have d1 : decide (x < 0) = false := by simpa using x0
          have x8 : 8 ≤ x := by simp [okC] at hxo; omega
          clear hW hbad hlt hk hok hxo h1 hne HH hl1 ex x0
          go_wp2
          exact bodyPost_ret (results_clE rfl _ _ w.heap.size Cl.zero _ rfl rfl (CB.setC (z := Cl.zero) HW.out.z Cl.zero)) rfl ⟨by rw [← HC.out, ← HE.out, HC1.out, HE1.out]; rfl, below_setC HW.out.below (Nat.le_refl _) Cl.zero⟩
      · have x0 : 0 ≤ x := by simp [okC] at hxo; exact hxo.1
        have x8 : x < 8 := by simp [okC] at hxo; exact hxo.2
        have ht := tgN_take hlt
        have ho := okAll_take hlt
        rw [ex] at ht ho
        rw [hok, hxo] at ho
        have htl := tgN_lt hok
        have htl2 := tgN_lt ho
        obtain ⟨t, et⟩ : ∃ t, tgN (xs.take k) = t := ⟨_, rfl⟩
        rw [et] at ht htl hW
        have HW := hi hW
        have z2 := hW.c.cell 2
        have f2 := hW.c.frozen 2
        have HT := hi ht
        have HO := hi ho
        have HLT := hi hlt
        have hp : 2 ^ x.toNat < 256 := Nat.pow_lt_pow_right (n := 8) (by decide) (by omega)
        have hw : wrap64 (2 ^ x.toNat) = ((2 ^ x.toNat : Nat) : Int) := by
          have e2 : (2 : Int) ^ x.toNat = ((2 ^ x.toNat : Nat) : Int) := by rw [Int.natCast_pow]; rfl
          rw [e2]
          clear e2
          generalize 2 ^ x.toNat = p at hp ⊢
          unfold wrap64
          omega
        have HP := hi (show bits .or .i64 (t : Int) (wrap64 (2 ^ x.toNat)) = ((t ||| 2 ^ x.toNat : Nat) : Int) by rw [hw]; exact i64_or_nat htl hp)
        clear hW ht ho hlt hk hok hxo h1 hne HH et htl2 hl1 ex hw hp htl
        go_wp2
        go_region
        go_wp2
        go_roundw
        case rel => exact ⟨k + 1, by go_num, hi ⟨HLT.out, HO.out, by rw [HP.out, HT.out]; exact (HW.out.put _).drew⟩⟩
        case measure => have := HLT.out; simp only [intOf]; omega
    · have ek : k = xs.length := by omega
      subst ek
      rw [List.take_length] at hok hW
      have HW := hi hW
      have HO := hi hok
      have z0 := hW.z.cell 0
      have z1 := hW.z.cell 1
      have z2 := hW.z.cell 2
      have z3 := hW.z.cell 3
      have fz := hW.z.frozen
      have c0 := hW.c.cell 0
      have c1 := hW.c.cell 1
      have c2 := hW.c.cell 2
      have c3 := hW.c.cell 3
      clear hW hok hlt hk HH
      obtain ⟨m, hm⟩ : ∃ m, mayI id = m := ⟨_, rfl⟩
      rw [hm] at HM
      have HMM := hi hm
      clear hm
      cases m
      · go_wp2_with (go_at_call 22; ((with_reducible refine (HM.out _).mono ?_); rintro e' w1 ⟨rfl, rfl⟩))
        have HC1 := hi (show whomC id xs = Cl.zero by rw [whomC, HO.out, HMM.out]; rfl)
        have HE1 := hi (show whomE id xs = 1 by rw [whomE, HO.out, HMM.out]; rfl)
        exact bodyPost_ret (results_clE rfl _ _ w.heap.size Cl.zero _ rfl rfl (CB.setC (z := Cl.zero) HW.out.z Cl.zero)) rfl ⟨by rw [← HC.out, ← HE.out, HC1.out, HE1.out]; rfl, below_setC HW.out.below (Nat.le_refl _) Cl.zero⟩
      · go_wp2_with (go_at_call 22; ((with_reducible refine (HM.out _).mono ?_); rintro e' w1 ⟨rfl, rfl⟩))
        have HC1 := hi (show whomC id xs = ⟨id, false, tgN xs, false⟩ by rw [whomC, HO.out, HMM.out]; rfl)
        have HE1 := hi (show whomE id xs = 0 by rw [whomE, HO.out, HMM.out]; rfl)
        exact bodyPost_ret (results_clE rfl _ _ w.heap.size ⟨id, false, tgN xs, false⟩ _ rfl rfl (CB.setC (z := Cl.zero) HW.out.z ⟨id, false, tgN xs, false⟩)) rfl ⟨by rw [← HC.out, ← HE.out, HC1.out, HE1.out]; rfl, below_setC HW.out.below (Nat.le_refl _) ⟨id, false, tgN xs, false⟩⟩

end Go.Proofs.Ytkfnelhafflimaa
