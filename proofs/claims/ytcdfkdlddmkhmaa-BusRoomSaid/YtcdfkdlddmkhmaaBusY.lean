/-
  BusRoom: the plain reckoning (where there is room a span can be put), and its walk.
-/
import Derived.Test.YtcdfkdlddmkhmaaBusX
import Derived.Test.YtcdfkdlddmkhmaaBusQ
import Derived.Test.YtcdfkdlddmkhmaaBusT
namespace Go.Proofs.Ytcdfkdlddmkhmaa
open Go.ChangeShapes Go.WideShapes Go.ChangeAt Go.RowKit
set_option linter.unusedVariables false
attribute [local go_sem high] neq4 eql4 guard4

theorem gap_apart {fin : Int} : ∀ {l : List Sp} {at' : Int}, (∀ x ∈ l, x.Ok) → l.Pairwise Ahead → (∀ x ∈ l, at' ≤ x.b) → ∀ g ∈ gapsFrom fin at' l, at' ≤ g.1 ∧ ∀ y ∈ l, y.b + y.s ≤ g.1 ∨ g.1 + g.2 ≤ y.b
  | [], at', _, _, _, g, hg => by
    unfold gapsFrom gap1 at hg
    split at hg
    · simp at hg; subst hg; simp
    · cases hg
  | x :: r, at', hok, hp, hat, g, hg => by
    rw [List.pairwise_cons] at hp
    have hx := hok x (by simp)
    have hxs := hx.s1
    have hax := hat x (by simp)
    rw [gapsFrom, List.mem_append] at hg
    rcases hg with hg | hg
    · unfold gap1 at hg
      split at hg
      · simp at hg; subst hg
        refine ⟨Int.le_refl _, fun y hy => .inr ?_⟩
        rcases List.mem_cons.1 hy with rfl | h
        · simp; omega
        · have := hp.1 y h
          unfold Ahead at this
          simp; omega
      · cases hg
    · obtain ⟨h1, h2⟩ := gap_apart (at' := x.b + x.s) (fun z hz => hok z (List.mem_cons_of_mem _ hz)) hp.2 (fun z hz => hp.1 z hz) g hg
      refine ⟨by omega, fun y hy => ?_⟩
      rcases List.mem_cons.1 hy with rfl | h
      · exact .inl h1
      · exact h2 y h

/-- Where there is said to be room. -/
structure Room (ys : List Sp) (size step fin A : Int) : Prop where
  s1 : 1 ≤ size
  t1 : 1 ≤ step
  a0 : 0 ≤ A
  am : A % step = 0
  ae : A + size ≤ fin
  f1 : fin ≤ 1099511627776
  apart : ∀ y ∈ ys, y.b + y.s ≤ A ∨ A + size ≤ y.b
theorem place_cases {ys : List Sp} (hR : Row ys) (size step fin : Int) : (∃ m : Int, m ≠ 0 ∧ placeV ys size step fin = two 0 m) ∨ (∃ A, placeV ys size step fin = two A 0 ∧ Room ys size step fin A) := by
  unfold placeV
  by_cases h : badP size step fin
  · rw [if_pos h]; exact .inl ⟨1, by decide, rfl⟩
  · rw [if_neg h]
    rcases hf : (gapsFrom fin 0 ys).find? (fitB size step) with _ | g
    · exact .inl ⟨2, by decide, rfl⟩
    · refine .inr ⟨_, rfl, ?_⟩
      have hm := List.mem_of_find?_eq_some hf
      have hfit := List.find?_some hf
      unfold fitB at hfit
      unfold badP at h
      simp only [decide_eq_true_eq] at hfit
      have hg := gaps_ok hR.ok (Int.le_refl 0) g hm
      obtain ⟨_, hap⟩ := gap_apart hR.ok hR.up (fun x hx => (hR.ok x hx).b0) g hm
      obtain ⟨q, e, h1, h2⟩ := mulUp_spec hg.1 (show 1 ≤ step by omega)
      exact ⟨by omega, by omega, by omega, by rw [e]; exact Int.mul_emod_left _ _, by omega, by omega, fun y hy => by
        rcases hap y hy with k | k
        · exact .inl (by omega)
        · exact .inr (by omega)⟩

theorem room_new {xs : List Sp} {size step fin A kind : Int} (he : newE xs = 0) (hr : Room (sortB xs) size step fin A) (hl : xs.length < 32) (h1 : 1 ≤ kind) (h4 : kind ≤ 4) :
    newE (⟨A, size, kind, 0⟩ :: sortB xs) = 0 := by
  obtain ⟨e1, e2, e3⟩ := newE_0 he
  have hR := row_of_new he
  have hs : okB ⟨A, size, kind, 0⟩ = true := (okB_iff _).2 ⟨hr.s1, hr.a0, by have := hr.ae; have := hr.f1; show A + size ≤ _; omega, h1, h4, Int.le_refl 0⟩
  have hlen : (sortB xs).length = xs.length := (sortB_perm xs).length_eq
  rw [newE_go (by simp [hlen]; omega) ?_, if_pos ?_]
  · rw [List.pairwise_cons]
    refine ⟨fun y hy => ?_, apart_of_ahead hR.up⟩
    rcases hr.apart y hy with k | k
    · exact .inr k
    · exact .inl k
  · simp only [List.any_cons, hs, Bool.not_true, Bool.false_or]
    cases hq : (sortB xs).any fun x => !okB x
    · rfl
    · obtain ⟨x, hx, hb⟩ := List.any_eq_true.1 hq
      have := (okB_iff x).2 (hR.ok x hx)
      rw [this] at hb; cases hb

theorem room_find {ys : List Sp} {size step fin A kind : Int} (hr : Room ys size step fin A) (he : newE (⟨A, size, kind, 0⟩ :: ys) = 0) :
    findV (sortB (⟨A, size, kind, 0⟩ :: ys)) A 1 = tup ⟨A, size, kind, 0⟩ 0 0 := by
  obtain ⟨e1, e2, e3⟩ := newE_0 he
  have hmay : mayE 1099511627776 A 1 = 0 := by
    have := hr.a0; have := hr.ae; have := hr.f1; have := hr.s1
    refine mayE0 (.inl rfl) (by simp [Int.tmod_one]) ?_
    have hw : wrap64 (1099511627776 - 1) = 1099511627775 := by simp only [wrap64]; omega
    rw [hw]; omega
  have hcov : covB A 1 (⟨A, size, kind, 0⟩ : Sp) = true := by
    have := hr.s1
    unfold covB
    simp only [decide_eq_true_eq]
    exact ⟨Int.le_refl _, by omega⟩
  have hmem : (⟨A, size, kind, 0⟩ : Sp) ∈ sortB (⟨A, size, kind, 0⟩ :: ys) := (sortB_perm _).mem_iff.2 (by simp)
  unfold findV
  rw [if_pos hmay]
  rcases hf : (sortB (⟨A, size, kind, 0⟩ :: ys)).find? (covB A 1) with _ | x
  · rw [List.find?_eq_none] at hf
    exact absurd hcov (hf _ hmem)
  · have hx := List.mem_of_find?_eq_some hf
    have hc := List.find?_some hf
    have hxm := (sortB_perm _).mem_iff.1 hx
    have : x = ⟨A, size, kind, 0⟩ := by
      rcases List.mem_cons.1 hxm with h | h
      · exact h
      · rcases hr.apart x h with k | k
        · unfold covB at hc; simp only [decide_eq_true_eq] at hc; omega
        · unfold covB at hc; simp only [decide_eq_true_eq] at hc; have := hr.s1; omega
    rw [this]
    show tup _ (A - A) 0 = _
    rw [Int.sub_self]

end Go.Proofs.Ytcdfkdlddmkhmaa
