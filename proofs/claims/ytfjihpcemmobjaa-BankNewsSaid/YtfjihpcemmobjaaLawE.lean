/-
  The interrupts of a bank, sorted: what a sorted row of them is. Plain.
-/
import Derived.Test.YtfjihpcemmobjaaLawD
namespace Go.Proofs.Ytfjihpcemmobjaa
open Go.ChangeShapes Go.WideShapes Go.ChangeAt Go.RowKit Go.Shelf
set_option linter.unusedVariables false

theorem items_mem : ∀ {f : Int} {es : List En} {x : It}, x ∈ items f es → ∃ k : Nat, k < es.length ∧ x = (f + k, nthE es k)
  | f, [], x, h => by simp [items] at h
  | f, e :: r, x, h => by
    rw [items] at h
    rcases List.mem_cons.1 h with rfl | h
    · exact ⟨0, by simp, by simp [nthE]⟩
    · obtain ⟨k, hk, rfl⟩ := items_mem h
      refine ⟨k + 1, by simp; omega, ?_⟩
      simp only [nthE, List.getElem?_cons_succ, Prod.mk.injEq, and_true]
      omega
theorem items_lt : ∀ (f : Int) (es : List En), (items f es).Pairwise (fun a b => a.1 < b.1)
  | f, [] => by simp [items]
  | f, e :: r => by
    rw [items]
    refine List.pairwise_cons.2 ⟨fun x hx => ?_, items_lt (f + 1) r⟩
    obtain ⟨k, _, rfl⟩ := items_mem hx
    show f < f + 1 + k
    omega
/-- Candidates with numbers of their own. -/
def OwnIds (cs : List Cd) : Prop := (cs.map (·.id)).Nodup
def OwnIt (xs : List It) : Prop := xs.Pairwise (fun a b => a.1 < b.1)
theorem OwnIt.filter {xs : List It} (h : OwnIt xs) (p : It → Bool) : OwnIt (xs.filter p) := List.Pairwise.filter p h
theorem ownIds_of {xs : List It} (h : OwnIt xs) : OwnIds (cands xs) := by
  unfold OwnIds cands
  rw [List.map_map]
  refine List.pairwise_map.2 (h.imp fun {a b} hab => ?_)
  show a.1 ≠ b.1
  omega
theorem befC_of_ne {x y : Cd} (h : befC y x = false) (hne : x.id ≠ y.id) : befC x y = true := by
  have h1 : ¬ befC y x = true := by simp [h]
  rw [befC_iff] at *
  omega
/-- Sorted, with numbers of their own: each ahead of the next ones. -/
def StrictC (ys : List Cd) : Prop := ys.Pairwise fun a b => befC a b = true
theorem strict_of {ys : List Cd} (h : SortedC ys) (hd : OwnIds ys) : StrictC ys := by
  have h1 : ys.Pairwise (fun a b => a.id ≠ b.id) := List.pairwise_map.1 hd
  exact (List.pairwise_and_iff.2 ⟨h, h1⟩).imp fun {a b} hab => befC_of_ne hab.1 hab.2
theorem bestC_min (xs : List It) : ∀ x ∈ xs, befC (candV x.1 x.2.ln) (bestC xs) = false := by
  have key : ∀ (ys : List It) (c : Cd), (c.is = true → befC c (ys.foldl stepC c) = false) ∧ ∀ x ∈ ys, befC (candV x.1 x.2.ln) (ys.foldl stepC c) = false := by
    intro ys
    induction ys with
    | nil => intro c; exact ⟨fun _ => befC_irr c, fun x hx => by simp at hx⟩
    | cons y r ih =>
      intro c
      rw [List.foldl_cons]
      obtain ⟨i1, i2⟩ := ih (stepC c y)
      have hs : (stepC c y).is = true := by rcases stepC_cases c y with e | ⟨e, h⟩ <;> rw [e] <;> first | rfl | exact h
      have h1 := i1 hs
      have hy : befC (candV y.1 y.2.ln) (stepC c y) = false := by
        unfold stepC
        cases hb : (!c.is || befC (candV y.1 y.2.ln) c)
        · simp only [Bool.false_eq_true, if_false]
          simp at hb
          exact hb.2
        · simp only [if_true]
          exact befC_irr _
      refine ⟨fun hc => ?_, fun x hx => ?_⟩
      · refine befC_ntrans ?_ h1
        unfold stepC
        cases hb : (!c.is || befC (candV y.1 y.2.ln) c)
        · simp only [Bool.false_eq_true, if_false]
          exact befC_irr _
        · simp only [if_true]
          simp [hc] at hb
          cases h9 : befC c (candV y.1 y.2.ln)
          · rfl
          · rw [befC_iff] at hb h9
            omega
      · rcases List.mem_cons.1 hx with rfl | hx
        · exact befC_ntrans hy h1
        · exact i2 x hx
  exact (key xs Cd.zero).2
/-- The first one of a sorted row is the best. -/
theorem head_best {xs : List It} {y : Cd} {r : List Cd} (hp : (y :: r).Perm (cands xs)) (hs : StrictC (y :: r)) : bestC xs = y := by
  have hne : xs ≠ [] := fun e => by subst e; have := hp.length_eq; simp [cands] at this
  obtain ⟨x, hx, e⟩ := bestC_mem xs hne
  have hm : bestC xs ∈ y :: r := hp.mem_iff.2 (by rw [e]; exact List.mem_map.2 ⟨x, hx, rfl⟩)
  rcases List.mem_cons.1 hm with h | h
  · exact h
  · have h1 := (List.pairwise_cons.1 hs).1 _ h
    have hy : y ∈ cands xs := hp.mem_iff.1 (by simp)
    obtain ⟨z, hz, rfl⟩ := List.mem_map.1 hy
    rw [bestC_min xs z hz] at h1
    cases h1
theorem nthC_mem {ys : List Cd} {k : Nat} (h : k < ys.length) : nthC ys k ∈ ys := List.mem_of_getElem? (nthC_at h)
theorem strict_next {ys : List Cd} (h : StrictC ys) {k : Nat} (hk : k + 1 < ys.length) : befC (nthC ys k) (nthC ys (k + 1)) = true := by
  have := List.pairwise_iff_getElem.1 h k (k + 1) (by omega) hk (by omega)
  simpa [nthC, List.getElem?_eq_getElem hk, List.getElem?_eq_getElem (show k < ys.length by omega)] using this
/-- A bank's interrupt by its candidate. -/
theorem cand_at {f : Int} {es : List En} {y : Cd} (h : y ∈ cands (items f es)) : ∃ k : Nat, k < es.length ∧ y = ⟨f + k, (nthE es k).ln.p, (nthE es k).ln.g, true⟩ := by
  obtain ⟨x, hx, rfl⟩ := List.mem_map.1 h
  obtain ⟨k, hk, rfl⟩ := items_mem hx
  exact ⟨k, hk, rfl⟩

end Go.Proofs.Ytfjihpcemmobjaa
