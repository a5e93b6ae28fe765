/-
  What is moved, plain: who waits behind it, and how many.
-/
import Derived.Test.YtobhdjepfhbgaaaDoorLpA
namespace Go.Proofs.YtobhdjepfhbgaaaDoor
open Go.ChangeShapes Go.WideShapes Go.ChangeAt Go.RowKit
set_option linter.unusedVariables false
set_option linter.unusedSimpArgs false

theorem lst_drop {P Q : Nat → Bool} {k0 : Nat} (hP : P k0 = true) (hQ : Q k0 = false) : ∀ {n : Nat}, k0 < n → (∀ k, k < n → k ≠ k0 → Q k = P k) → (lst Q n).length + 1 = (lst P n).length
  | 0, h, _ => by omega
  | n + 1, hk, h => by
    rw [lst_succ, lst_succ]
    by_cases e : k0 = n
    · subst e
      rw [hP, hQ, lst_congr (P := Q) (Q := P) (fun k hk' => h k (by omega) (by omega))]
      simp
    · have ih := lst_drop hP hQ (n := n) (by omega) (fun k hk' => h k (by omega))
      rw [h n (by omega) (fun x => e x.symm)]
      split
      · simp only [List.length_append, List.length_cons, List.length_nil]; omega
      · exact ih
theorem lst_add {P Q : Nat → Bool} {k0 : Nat} : ∀ {n : Nat}, (∀ k, k < n → k ≠ k0 → Q k = P k) → (lst Q n).length ≤ (lst P n).length + 1
  | 0, _ => by simp [lst]
  | n + 1, h => by
    rw [lst_succ, lst_succ]
    by_cases e : k0 = n
    · subst e
      rw [lst_congr (P := Q) (Q := P) (fun k hk' => h k (by omega) (by omega))]
      split <;> split <;> simp <;> omega
    · have ih := lst_add (P := P) (Q := Q) (k0 := k0) (n := n) (fun k hk' => h k (by omega))
      rw [h n (by omega) (fun x => e x.symm)]
      split
      · simp only [List.length_append, List.length_cons, List.length_nil]; omega
      · exact ih
theorem ownB_alike {x y : St} (a : St.Alike x y) (id : Int) : ownB y id = ownB x id := by unfold ownB; rw [a.n]
/-- One step: the bits. -/
theorem mvS_bits {L : Nat} {t : Tw} (h : t.Ok L) {k : Nat} (hm : mvB t.bs t.x t.y ((8192 + k : Nat) : Int) = true) :
    (∀ j, j < t.x.n → hasK (mvS t ((8192 + k : Nat) : Int)).bs (mvS t ((8192 + k : Nat) : Int)).x j = if j = k then false else hasK t.bs t.x j) ∧
    (∀ j, j < t.y.n → hasK (mvS t ((8192 + k : Nat) : Int)).bs (mvS t ((8192 + k : Nat) : Int)).y j = if j = k then true else hasK t.bs t.y j) ∧ k < t.x.n ∧ k < t.y.n ∧ hasK t.bs t.x k = true := by
  obtain ⟨k', e, hx, hy, hw⟩ := mvB_out hm
  obtain rfl : k = k' := by omega
  have e1 : mvS t ((8192 + k : Nat) : Int) = ⟨(setS (setS t.bs t.y k true).1 t.x k false).1, (setS (setS t.bs t.y k true).1 t.x k false).2, (setS t.bs t.y k true).2⟩ := by rw [mvS, if_pos hm, kOf_at]
  rw [e1]
  have hl1 : (setS t.bs t.y k true).1.length = L := (setS_len _ _ _ _).trans h.len
  refine ⟨fun j hj => ?_, fun j hj => ?_, hx, hy, hw⟩
  · show hasK (setS (setS t.bs t.y k true).1 t.x k false).1 (setS (setS t.bs t.y k true).1 t.x k false).2 j = _
    rw [setS_has h.x hl1 hx]
    by_cases ej : j = k
    · rw [if_pos ej, if_pos ej]
    · rw [if_neg ej, if_neg ej]
      exact setS_far h.y h.x h.len h.ap.symm hy true hj
  · show hasK (setS (setS t.bs t.y k true).1 t.x k false).1 (setS t.bs t.y k true).2 j = _
    have hy2 := setS_ok h.y hy true (bs := t.bs)
    have hal := setS_alike t.bs t.y k true
    rw [setS_far h.x hy2 hl1 (apart_alike h.ap (St.Alike.refl _) hal) hx false (by rw [hal.n]; exact hj)]
    exact setS_has h.y h.len hy true j
theorem mvS_no {t : Tw} {id : Int} (hm : mvB t.bs t.x t.y id = false) : mvS t id = t := by rw [mvS, if_neg (by rw [hm]; simp)]
theorem mvS_al (t : Tw) (id : Int) : St.Alike t.x (mvS t id).x ∧ St.Alike t.y (mvS t id).y := by
  unfold mvS; split
  · exact ⟨setS_alike _ _ _ _, setS_alike _ _ _ _⟩
  · exact ⟨St.Alike.refl _, St.Alike.refl _⟩
theorem mvS_x {L : Nat} {t : Tw} (h : t.Ok L) (id i : Int) : hasV (mvS t id).bs (mvS t id).x i = (hasV t.bs t.x i && !(mvB t.bs t.x t.y id && decide (i = id))) := by
  cases hm : mvB t.bs t.x t.y id
  · rw [mvS_no hm]; simp
  · obtain ⟨k, rfl, _⟩ := mvB_out hm
    obtain ⟨hb, _⟩ := mvS_bits h hm
    unfold hasV
    rw [ownB_alike (mvS_al t _).1]
    cases ho : ownB t.x i
    · simp
    · obtain ⟨j, hj, rfl⟩ := ownB_out ho
      rw [kOf_at, hb j hj]
      have e : decide (((8192 + j : Nat) : Int) = ((8192 + k : Nat) : Int)) = decide (j = k) := by rw [decide_eq_decide]; omega
      rw [e]
      by_cases ej : j = k <;> simp [ej]
theorem mvS_y {L : Nat} {t : Tw} (h : t.Ok L) (id i : Int) : hasV (mvS t id).bs (mvS t id).y i = (hasV t.bs t.y i || (mvB t.bs t.x t.y id && decide (i = id))) := by
  cases hm : mvB t.bs t.x t.y id
  · rw [mvS_no hm]; simp
  · obtain ⟨k, rfl, _⟩ := mvB_out hm
    obtain ⟨_, hb, _, hky, _⟩ := mvS_bits h hm
    unfold hasV
    rw [ownB_alike (mvS_al t _).2]
    cases ho : ownB t.y i
    · have e : ¬ i = ((8192 + k : Nat) : Int) := fun e => by rw [e, ownB_at] at ho; simp at ho; omega
      rw [decide_eq_false e]; simp
    · obtain ⟨j, hj, rfl⟩ := ownB_out ho
      rw [kOf_at, hb j hj]
      have e : decide (((8192 + j : Nat) : Int) = ((8192 + k : Nat) : Int)) = decide (j = k) := by rw [decide_eq_decide]; omega
      rw [e]
      by_cases ej : j = k <;> simp [ej]
theorem mvS_len {L : Nat} {t : Tw} (h : t.Ok L) (id : Int) :
    (waitL (mvS t id).bs (mvS t id).x).length + (if mvB t.bs t.x t.y id = true then 1 else 0) = (waitL t.bs t.x).length ∧
    (waitL (mvS t id).bs (mvS t id).y).length ≤ (waitL t.bs t.y).length + (if mvB t.bs t.x t.y id = true then 1 else 0) := by
  cases hm : mvB t.bs t.x t.y id
  · rw [mvS_no hm]; simp
  · obtain ⟨k, rfl, _⟩ := mvB_out hm
    obtain ⟨hbx, hby, hkx, hky, hk⟩ := mvS_bits h hm
    simp only [if_true]
    unfold waitL
    rw [(mvS_al t _).1.n, (mvS_al t _).2.n]
    exact ⟨lst_drop hk (by rw [hbx k hkx, if_pos rfl]) hkx (fun j hj hne => by rw [hbx j hj, if_neg hne]), lst_add (k0 := k) (fun j hj hne => by rw [hby j hj, if_neg hne])⟩
/-- Some, one after another. -/
theorem mvN_spec {L : Nat} : ∀ (l : List Int) (s : Tw × Nat), s.1.Ok L →
    (∀ i, hasV (l.foldl mvF s).1.bs (l.foldl mvF s).1.x i = (hasV s.1.bs s.1.x i && !(decide (i ∈ l) && ownB s.1.y i))) ∧
    (∀ i, hasV (l.foldl mvF s).1.bs (l.foldl mvF s).1.y i = (hasV s.1.bs s.1.y i || (decide (i ∈ l) && (ownB s.1.y i && hasV s.1.bs s.1.x i)))) ∧
    (waitL (l.foldl mvF s).1.bs (l.foldl mvF s).1.x).length + (l.foldl mvF s).2 = (waitL s.1.bs s.1.x).length + s.2 ∧
    (waitL (l.foldl mvF s).1.bs (l.foldl mvF s).1.y).length + s.2 ≤ (waitL s.1.bs s.1.y).length + (l.foldl mvF s).2
  | [], s, h => by simp
  | a :: r, s, h => by
    have h1 : (mvF s a).1.Ok L := mvS_ok h a
    obtain ⟨ix, iy, lx, ly⟩ := mvN_spec r (mvF s a) h1
    obtain ⟨sx, sy⟩ := mvS_len h a
    have e2 : (mvF s a).2 = s.2 + if mvB s.1.bs s.1.x s.1.y a = true then 1 else 0 := rfl
    have e1 : (mvF s a).1 = mvS s.1 a := rfl
    simp only [List.foldl_cons]
    rw [e1] at ix iy lx ly
    refine ⟨fun i => ?_, fun i => ?_, by omega, by omega⟩
    · rw [ix i, mvS_x h, ownB_alike (mvS_al _ _).2]
      unfold mvB
      by_cases e : i = a
      · subst e
        cases hasV s.1.bs s.1.x i <;> cases ownB s.1.y i <;> simp
      · have e3 : decide (i ∈ a :: r) = decide (i ∈ r) := by simp [e]
        rw [e3, decide_eq_false e]; simp
    · rw [iy i, mvS_y h, mvS_x h, ownB_alike (mvS_al _ _).2]
      unfold mvB
      by_cases e : i = a
      · subst e
        cases hasV s.1.bs s.1.x i <;> cases ownB s.1.y i <;> cases hasV s.1.bs s.1.y i <;> simp
      · have e3 : decide (i ∈ a :: r) = decide (i ∈ r) := by simp [e]
        rw [e3, decide_eq_false e]; simp

end Go.Proofs.YtobhdjepfhbgaaaDoor
