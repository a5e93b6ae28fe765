/-
  Plain reckoning of sets: who is a member behind Put and Take, and that sets with the same members have the same words, number and list.
-/
import Derived.Test.YtmdlknddlmpddaaDoorSetI
namespace Go.Proofs.YtmdlknddlmpddaaDoor
set_option linter.unusedVariables false

theorem mem_flip (S : Words) (m j : Nat) (hm : m < 16384) : memS (flipS S m) j = (memS S j ^^ (m == j)) := by
  unfold memS flipS
  by_cases h : j / 64 = m / 64
  · rw [if_pos h, Nat.testBit_xor, Nat.testBit_two_pow]
    congr 1
    by_cases e : m = j
    · subst e; rw [decide_eq_true rfl, beq_self_eq_true]
    · have h2 : ¬ m % 64 = j % 64 := by omega
      have e' : (m == j) = false := by simpa using e
      rw [e', decide_eq_false h2]
  · rw [if_neg h]
    have e : ¬ m = j := fun e => h (by rw [e])
    have e' : (m == j) = false := by simpa using e
    rw [e', Bool.xor_false]

theorem mem_put (S : Words) (m : Int) (j : Nat) : memS (putS S m) j = (memS S j || (okM m && m.toNat == j)) := by
  unfold putS
  cases ho : okM m
  · simp
  · have hok := okM_out ho
    cases hm : memS S m.toNat
    · simp only [and_self, if_true]
      rw [mem_flip S _ j (by omega)]
      by_cases e : m.toNat = j
      · subst e; simp [hm]
      · have e' : (m.toNat == j) = false := by simpa using e
        rw [e']; simp
    · simp
      intro e; subst e; exact hm

theorem mem_take (S : Words) (m : Int) (j : Nat) : memS (takeS S m) j = (memS S j && !(okM m && m.toNat == j)) := by
  unfold takeS
  cases ho : okM m
  · simp
  · have hok := okM_out ho
    cases hm : memS S m.toNat
    · simp
      intro h e; subst e; rw [hm] at h; cases h
    · simp only [and_self, if_true]
      rw [mem_flip S _ j (by omega)]
      by_cases e : m.toNat = j
      · subst e; simp [hm]
      · have e' : (m.toNat == j) = false := by simpa using e
        rw [e']; simp

/-- Is j among the numbers that may be members? -/
def among (xs : List Int) (j : Nat) : Bool := xs.any fun m => okM m && m.toNat == j
theorem mem_zero (j : Nat) : memS S0 j = false := by simp [memS, S0]
theorem mem_putAll : ∀ (xs : List Int) (S : Words) (j : Nat), memS (putAll S xs) j = (memS S j || among xs j)
  | [], S, j => by simp [putAll, among]
  | x :: r, S, j => by
    show memS (putAll (putS S x) r) j = _
    rw [mem_putAll r, mem_put]
    simp [among, Bool.or_assoc]
theorem among_rev (xs : List Int) (j : Nat) : among xs.reverse j = among xs j := by simp [among]

/-- Those of the numbers that are no members of S are taken out. -/
def takeAll (S : Words) : Words → List Int → Words
  | T, [] => T
  | T, x :: r => takeAll S (if memZ S x = true then T else takeS T x) r
theorem takeAll_snoc (S : Words) : ∀ (xs : List Int) (T : Words) (x : Int), takeAll S T (xs ++ [x]) = if memZ S x = true then takeAll S T xs else takeS (takeAll S T xs) x
  | [], T, x => rfl
  | y :: r, T, x => by simp only [List.cons_append, takeAll]; exact takeAll_snoc S r _ x
theorem mem_takeAll (S : Words) : ∀ (xs : List Int) (T : Words) (j : Nat), memS (takeAll S T xs) j = (memS T j && (memS S j || !among xs j))
  | [], T, j => by simp [takeAll, among]
  | x :: r, T, j => by
    rw [takeAll, mem_takeAll S r]
    cases hz : memZ S x
    · simp only [Bool.false_eq_true, if_false]
      rw [mem_take]
      simp only [among, List.any_cons]
      by_cases e : (okM x && x.toNat == j) = true
      · have h1 : okM x = true ∧ x.toNat = j := by simpa using e
        have : memS S j = false := by simp [memZ, h1.1, h1.2] at hz; exact hz
        simp [e, this]
      · have e' : (okM x && x.toNat == j) = false := by simpa using e
        simp [e']
    · have h1 : okM x = true ∧ memS S x.toNat = true := by simpa [memZ] using hz
      simp only [if_true, among, List.any_cons]
      by_cases e : x.toNat = j
      · subst e; simp [h1.2]
      · have e' : (x.toNat == j) = false := by simpa using e
        simp [e']

theorem words_ext {S S' : Words} (h : ∀ j, j < 16384 → memS S j = memS S' j) (hS : ∀ i, S i < 18446744073709551616) (hS' : ∀ i, S' i < 18446744073709551616) : ∀ i, i < 256 → S i = S' i := fun i hi => by
  apply Nat.eq_of_testBit_eq
  intro k
  by_cases hk : k < 64
  · have := h (64 * i + k) (by omega)
    unfold memS at this
    rwa [show (64 * i + k) / 64 = i by omega, show (64 * i + k) % 64 = k by omega] at this
  · have e : ∀ x, x < 18446744073709551616 → x.testBit k = false := fun x hx => Nat.testBit_lt_two_pow (Nat.lt_of_lt_of_le hx (Nat.pow_le_pow_right (n := 2) (i := 64) (by omega) (by omega)))
    rw [e _ (hS i), e _ (hS' i)]

theorem sameW_of {S S' : Words} (h : ∀ i, i < 256 → S i = S' i) : sameW S S' = true := by
  unfold sameW sameOn
  rw [List.all_eq_true]
  intro i hi
  simp [h i (by simpa using hi)]
theorem lenTo_congr {S S' : Words} : ∀ n, (∀ i, i < n → S i = S' i) → lenTo S n = lenTo S' n
  | 0, _ => rfl
  | n + 1, h => by rw [lenTo, lenTo, lenTo_congr n (fun i hi => h i (by omega)), h n (by omega)]
theorem isNx_congr {p q : Nat → Bool} (h : ∀ j, j < 16384 → p j = q j) {m k : Nat} (hx : IsNx p m k) : IsNx q m k :=
  ⟨hx.1, hx.2.1, fun j h1 h2 => by rw [← h j (by have := hx.2.1; omega)]; exact hx.2.2.1 j h1 h2, fun hk => by rw [← h k hk]; exact hx.2.2.2 hk⟩
theorem memFrom_congr {S S' : Words} (h : ∀ j, j < 16384 → memS S j = memS S' j) : ∀ {l : List Int} {m : Nat}, MemFrom S m l → MemFrom S' m l
  | [], _, hx => isNx_congr h hx
  | _ :: _, _, ⟨k, e, hk, hx, hr⟩ => ⟨k, e, hk, isNx_congr h hx, memFrom_congr h hr⟩

/-- The statement's own reckoning: both ways lead to the same members. -/
theorem any_members (ms odd : List Int) (j : Nat) : memS (takeAll (putAll S0 ms) (putAll (putAll S0 odd) ms.reverse) odd) j = memS (putAll S0 ms) j := by
  rw [mem_takeAll, mem_putAll, mem_putAll, mem_putAll, mem_zero, among_rev]
  cases among ms j <;> cases among odd j <;> rfl

end Go.Proofs.YtmdlknddlmpddaaDoor
