/-
  The reference's rows of neighbours are the set's. Plain reckoning.
-/
import Derived.Test.YtmdlknddlmpddaaDoorRefC
namespace Go.Proofs.YtmdlknddlmpddaaDoor
open Go.ChangeShapes Go.WideShapes Go.ChangeAt Go.RowKit Go.Shelf
set_option linter.unusedVariables false

def runsR : Option Int → List Int → List Int
  | _, [] => []
  | p, x :: r => (if p = some (x - 1) then [] else [x]) ++ (if r.head? = some (x + 1) then [] else [x]) ++ runsR (some x) r

theorem at0_mid (pre r : List Int) (x : Int) : at0 (pre ++ x :: r) pre.length = x := by simp [at0]
theorem at0_next (pre r : List Int) (x : Int) : at0 (pre ++ x :: r) (pre.length + 1) = r.head?.getD 0 := by
  cases r <;> simp [at0]
theorem at0_last (pre r : List Int) (y x : Int) : at0 ((pre ++ [y]) ++ x :: r) (pre ++ [y]).length.pred = y := by simp [at0]

theorem runsTo_front : ∀ (r pre : List Int), runsTo (pre ++ r) (pre ++ r).length = runsTo (pre ++ r) pre.length ++ runsR pre.getLast? r
  | [], pre => by simp [runsR]
  | x :: r, pre => by
    have ih := runsTo_front r (pre ++ [x])
    have e : pre ++ [x] ++ r = pre ++ x :: r := by simp
    rw [e, List.getLast?_concat, show (pre ++ [x]).length = pre.length + 1 by simp] at ih
    rw [ih, runsTo, at0_mid, runsR]
    have hf : firstAt (pre ++ x :: r) pre.length = !decide (pre.getLast? = some (x - 1)) := by
      unfold firstAt
      rcases List.eq_nil_or_concat pre with rfl | ⟨p', y, rfl⟩
      · simp
      · rw [List.concat_eq_append, at0_mid, show (p' ++ [y]).length - 1 = (p' ++ [y]).length.pred from rfl, at0_last, List.getLast?_concat, Bool.eq_iff_iff, decide_eq_true_iff, Bool.not_eq_true', decide_eq_false_iff_not]
        simp
        omega
    have hl : lastAt (pre ++ x :: r) pre.length = !decide (r.head? = some (x + 1)) := by
      unfold lastAt
      rw [at0_mid, at0_next, Bool.eq_iff_iff, decide_eq_true_iff, Bool.not_eq_true', decide_eq_false_iff_not]
      cases r with
      | nil => simp
      | cons z r => simp
    rw [hf, hl]
    by_cases h1 : pre.getLast? = some (x - 1) <;> by_cases h2 : r.head? = some (x + 1) <;> simp [h1, h2]

theorem nx_ne {p : Nat → Bool} {m g : Nat} (h : IsNx (fun j => !p j) m g) (hlt : m < g) : p m = true ∧ IsNx (fun j => !p j) (m + 1) g := by
  have h1 : (!p m) = false := h.2.2.1 m (Nat.le_refl _) hlt
  exact ⟨by simpa using h1, hlt, h.2.1, fun j g1 g2 => h.2.2.1 j (by omega) g2, h.2.2.2⟩
theorem runFrom_none {S : Words} {g : Nat} (h : IsNx (memS S) g 16384) : ∀ {xs : List Rn}, RunFrom S g xs → xs = []
  | [], _ => rfl
  | x :: r, ⟨k, g', e, hk, hlt, h1, h2, h3⟩ => by
    have := h1.unique h
    omega
theorem memFrom_head {S : Words} {m : Nat} {l : List Int} (h : MemFrom S m l) : l.head? = some (m : Int) ↔ (m < 16384 ∧ memS S m = true) := by
  cases l with
  | nil =>
    constructor
    · intro e; cases e
    · rintro ⟨a, b⟩
      have h1 : IsNx (memS S) m 16384 := h
      have := h1.2.2.1 m (Nat.le_refl _) a
      rw [b] at this; cases this
  | cons x r =>
    obtain ⟨k, rfl, hk, h1, h2⟩ := h
    constructor
    · intro e
      simp at e
      have e' : k = m := by omega
      subst e'
      exact ⟨hk, h1.2.2.2 hk⟩
    · rintro ⟨a, b⟩
      have : k = m := by
        rcases Nat.lt_or_ge m k with z | z
        · have := h1.2.2.1 m (Nat.le_refl _) z
          rw [b] at this; cases this
        · have := h1.1; omega
      simp [this]

/-- What comes of a list's rows: ahead of a row, and within one. -/
theorem runsR_both {S : Words} : ∀ (l : List Int),
    (∀ (m : Nat) (xs : List Rn) (p : Option Int), MemFrom S m l → RunFrom S m xs → (∀ x, l.head? = some x → p ≠ some (x - 1)) → runsR p l = flat xs) ∧
    (∀ (m g : Nat) (xs : List Rn), MemFrom S m l → IsNx (fun j => !memS S j) m g → RunFrom S g xs → runsR (some ((m : Int) - 1)) l = (if m < g then [(g : Int) - 1] else []) ++ flat xs)
  | [] => by
    constructor
    · intro m xs p h hx _
      rw [runFrom_none h hx]; rfl
    · intro m g xs h hg hx
      have hm : IsNx (memS S) m 16384 := h
      have e : g = m := by
        rcases Nat.lt_or_ge m g with z | z
        · have h1 := (nx_ne hg z).1
          have h2 := hm.2.2.1 m (Nat.le_refl _) (by have := hg.2.1; omega)
          rw [h1] at h2; cases h2
        · have := hg.1; omega
      subst e
      rw [runFrom_none hm hx]
      simp [runsR, flat]
  | x :: r => by
    obtain ⟨ihP, ihQ⟩ := runsR_both (S := S) r
    have P : ∀ (m : Nat) (xs : List Rn) (p : Option Int), MemFrom S m (x :: r) → RunFrom S m xs → (∀ y, (x :: r).head? = some y → p ≠ some (y - 1)) → runsR p (x :: r) = flat xs := by
      intro m xs p h hx hp
      obtain ⟨k, rfl, hk, h1, h2⟩ := h
      cases xs with
      | nil =>
        have h3 : IsNx (memS S) m 16384 := hx
        have := h1.unique h3
        omega
      | cons q xr =>
        obtain ⟨k', g, e, hk', hlt, g1, g2, g3⟩ := hx
        obtain rfl := h1.unique g1
        obtain ⟨_, hn⟩ := nx_ne g2 hlt
        have hq := ihQ (k + 1) g xr h2 hn g3
        have hh := memFrom_head h2
        have hfl : flat (q :: xr) = [(k : Int), (g : Int) - 1] ++ flat xr := by simp [flat, e]
        rw [hfl, runsR, if_neg (hp _ rfl), show (k : Int) = ((k + 1 : Nat) : Int) - 1 by omega, hq]
        by_cases c : k + 1 < g
        · have h4 := (nx_ne hn c).1
          rw [if_pos c, if_pos (by rw [show ((k + 1 : Nat) : Int) - 1 + 1 = ((k + 1 : Nat) : Int) by omega]; exact hh.2 ⟨by have := g2.2.1; omega, h4⟩)]
          simp
        · have eg : g = k + 1 := by omega
          subst eg
          rw [if_neg c, if_neg (by
            rw [show ((k + 1 : Nat) : Int) - 1 + 1 = ((k + 1 : Nat) : Int) by omega]
            intro e2
            obtain ⟨a, b⟩ := hh.1 e2
            have h5 : (!memS S (k + 1)) = true := g2.2.2.2 a
            rw [b] at h5; cases h5)]
          simp
    refine ⟨P, fun m g xs h hg hx => ?_⟩
    by_cases c : m < g
    · obtain ⟨hm, hn⟩ := nx_ne hg c
      have hh := (memFrom_head h).2 ⟨by have := hg.2.1; omega, hm⟩
      have ex : x = (m : Int) := by simpa using hh
      subst ex
      obtain ⟨k, ek, hk, h1, h2⟩ := h
      have ek' : k = m := by omega
      subst ek'
      have hq := ihQ (k + 1) g xs h2 hn hx
      have hh2 := memFrom_head h2
      rw [runsR, if_pos rfl, if_pos c]
      rw [show some (k : Int) = some (((k + 1 : Nat) : Int) - 1) by congr 1; omega, hq]
      by_cases c2 : k + 1 < g
      · have h4 := (nx_ne hn c2).1
        rw [if_pos c2, if_pos (by rw [show (k : Int) + 1 = ((k + 1 : Nat) : Int) by omega]; exact hh2.2 ⟨by have := hg.2.1; omega, h4⟩)]
        simp
      · have eg : g = k + 1 := by omega
        subst eg
        rw [if_neg c2, if_neg (by
          rw [show (k : Int) + 1 = ((k + 1 : Nat) : Int) by omega]
          intro e2
          obtain ⟨a, b⟩ := hh2.1 e2
          have h5 : (!memS S (k + 1)) = true := hg.2.2.2 a
          rw [b] at h5; cases h5)]
        simp
    · have eg : g = m := by have := hg.1; omega
      subst eg
      rw [if_neg c, List.nil_append]
      refine P g xs _ h hx (fun y hy e => ?_)
      obtain ⟨k, ek, hk, h1, h2⟩ := h
      have hy' : y = (k : Int) := by simp at hy; omega
      have e' : (g : Int) - 1 = y - 1 := by simpa using e
      have ekg : k = g := by omega
      subst ekg
      have h5 : (!memS S k) = true := hg.2.2.2 hk
      rw [h1.2.2.2 hk] at h5; cases h5

theorem runsTo_is {S : Words} {l : List Int} {xs : List Rn} (h : MemFrom S 0 l) (hx : RunFrom S 0 xs) : runsTo l l.length = flat xs := by
  have := runsTo_front l []
  simp only [List.nil_append, List.length_nil, runsTo] at this
  rw [this]
  exact (runsR_both l).1 0 xs none h hx (fun _ _ e => by cases e)

end Go.Proofs.YtmdlknddlmpddaaDoor
