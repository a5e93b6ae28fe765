/-
  The document's order is the sorted one. Plain.
-/
import Derived.Test.YtfjihpcemmobjaaLawE
namespace Go.Proofs.Ytfjihpcemmobjaa
open Go.ChangeShapes Go.WideShapes Go.ChangeAt Go.RowKit Go.Shelf
set_option linter.unusedVariables false

theorem cands_filter (xs : List It) (i : Int) : cands (xs.filter fun x => decide (x.1 ≠ i)) = (cands xs).filter fun c => decide (c.id ≠ i) := by
  unfold cands
  rw [List.filter_map]
  rfl
theorem sel_sorted : ∀ (n : Nat) (xs : List It) (ys : List Cd), xs.length ≤ n → OwnIt xs → ys.Perm (cands xs) → StrictC ys → ys.map (·.id) = sel n xs
  | 0, xs, ys, hn, _, hp, _ => by
    have h0 : xs = [] := List.length_eq_zero_iff.1 (by omega)
    subst h0
    have h1 := hp.length_eq
    simp only [cands, List.map_nil, List.length_nil] at h1
    obtain rfl := List.length_eq_zero_iff.1 h1
    rfl
  | n + 1, xs, [], _, _, hp, _ => by
    have h1 := hp.length_eq
    simp only [cands, List.length_map, List.length_nil] at h1
    obtain rfl := List.length_eq_zero_iff.1 h1.symm
    rw [sel_nil]
    rfl
  | n + 1, xs, y :: r, hn, ho, hp, hs => by
    have hne : xs ≠ [] := fun e => by subst e; have := hp.length_eq; simp [cands] at this
    have hb := head_best hp hs
    rw [sel_cons hne, hb, List.map_cons]
    congr 1
    have hl := dropI_lt hne
    rw [hb] at hl
    have hid : OwnIds (y :: r) := by
      have := ownIds_of ho
      unfold OwnIds at this ⊢
      exact ((hp.map _).nodup_iff).2 this
    have hr : r.filter (fun c => decide (c.id ≠ y.id)) = r := List.filter_eq_self.2 fun c hc => by
      have h1 := (List.nodup_cons.1 (show ((y :: r).map (·.id)).Nodup from hid)).1
      have h2 : c.id ∈ r.map (·.id) := List.mem_map.2 ⟨c, hc, rfl⟩
      simp only [decide_eq_true_eq]
      intro e
      exact h1 (by show y.id ∈ r.map (·.id); rw [← e]; exact h2)
    have hp2 : r.Perm (cands (dropI xs y.id)) := by
      have h3 := hp.filter (fun c => decide (c.id ≠ y.id))
      rw [List.filter_cons_of_neg (by simp), hr] at h3
      unfold dropI
      rw [cands_filter]
      exact h3
    exact sel_sorted n (dropI xs y.id) r (by omega) (ho.filter _) hp2 (List.pairwise_cons.1 hs).2

end Go.Proofs.Ytfjihpcemmobjaa
