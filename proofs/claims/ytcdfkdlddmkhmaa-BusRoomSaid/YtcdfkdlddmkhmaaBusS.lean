/-
  Spans in their order: plain reckoning. Nothing of the program.
-/
import Derived.Test.YtcdfkdlddmkhmaaGnd
namespace Go.Proofs.Ytcdfkdlddmkhmaa
set_option linter.unusedVariables false

/-- Two spans have no address in common. -/
def Apart (x y : Sp) : Prop := x.b + x.s ≤ y.b ∨ y.b + y.s ≤ x.b
instance (x y : Sp) : Decidable (Apart x y) := by unfold Apart; exact inferInstance
theorem Apart.symm {x y : Sp} (h : Apart x y) : Apart y x := h.elim .inr .inl
/-- Into a list by the base: ahead of the first that begins later. -/
def insB (x : Sp) : List Sp → List Sp
  | [] => [x]
  | y :: r => if x.b < y.b then x :: y :: r else y :: insB x r
def sortB (xs : List Sp) : List Sp := xs.foldl (fun out x => insB x out) []
theorem sortB_snoc (xs : List Sp) (x : Sp) : sortB (xs ++ [x]) = insB x (sortB xs) := by simp [sortB]
theorem insB_perm (x : Sp) : ∀ l, (insB x l).Perm (x :: l)
  | [] => List.Perm.refl _
  | y :: r => by
    unfold insB
    split
    · exact List.Perm.refl _
    · exact ((insB_perm x r).cons y).trans (List.Perm.swap x y r)
theorem insB_len (x : Sp) (l : List Sp) : (insB x l).length = l.length + 1 := by simpa using (insB_perm x l).length_eq
theorem sortB_perm : ∀ xs, (sortB xs).Perm xs := by
  have key : ∀ xs acc : List Sp, (xs.foldl (fun out x => insB x out) acc).Perm (acc ++ xs) := by
    intro xs
    induction xs with
    | nil => intro acc; simp
    | cons x r ih =>
      intro acc
      simp only [List.foldl_cons]
      refine (ih _).trans ?_
      refine ((insB_perm x acc).append_right r).trans ?_
      exact (List.perm_middle).symm
  intro xs
  simpa [sortB] using key xs []
theorem sortB_len (xs : List Sp) : (sortB xs).length = xs.length := (sortB_perm xs).length_eq
def Lo (x y : Sp) : Prop := x.b ≤ y.b
theorem insB_sorted (x : Sp) : ∀ {l : List Sp}, l.Pairwise Lo → (insB x l).Pairwise Lo
  | [], _ => by simp [insB]
  | y :: r, h => by
    unfold insB
    rw [List.pairwise_cons] at h
    split
    · rename_i hlt
      refine List.pairwise_cons.2 ⟨fun z hz => ?_, List.pairwise_cons.2 h⟩
      rcases List.mem_cons.1 hz with rfl | hz
      · show x.b ≤ z.b; omega
      · have := h.1 z hz; unfold Lo at this ⊢; omega
    · rename_i hge
      refine List.pairwise_cons.2 ⟨fun z hz => ?_, insB_sorted x h.2⟩
      rcases List.mem_cons.1 ((insB_perm x r).mem_iff.1 hz) with rfl | hz
      · show y.b ≤ z.b; omega
      · exact h.1 z hz
theorem sortB_sorted (xs : List Sp) : (sortB xs).Pairwise Lo := by
  have key : ∀ xs acc : List Sp, acc.Pairwise Lo → (xs.foldl (fun out x => insB x out) acc).Pairwise Lo := by
    intro xs
    induction xs with
    | nil => intro acc h; simpa using h
    | cons x r ih => intro acc h; exact ih _ (insB_sorted x h)
  exact key xs [] List.Pairwise.nil

/-- A list of spans that lie one behind the other. -/
def Ahead (x y : Sp) : Prop := x.b + x.s ≤ y.b
structure Row (l : List Sp) : Prop where
  len : l.length ≤ 32
  ok : ∀ x ∈ l, x.Ok
  up : l.Pairwise Ahead
theorem Ahead.lt {x y : Sp} (h : Ahead x y) (hx : x.Ok) : x.b < y.b := by have := hx.s1; unfold Ahead at h; omega

/-- What New answers: the error. -/
def newE (xs : List Sp) : Int := if 32 < xs.length ∨ (xs.any fun x => !okB x) = true then 1 else if xs.Pairwise Apart then 0 else 50
theorem all_ok {xs : List Sp} (h : (xs.any fun x => !okB x) = false) : ∀ x ∈ xs, x.Ok := fun x hx => by
  have := List.any_eq_false.1 h x hx
  exact (okB_iff x).1 (by simpa using this)
theorem newE_1 {xs : List Sp} (h : 32 < xs.length ∨ (xs.any fun x => !okB x) = true) : newE xs = 1 := by unfold newE; rw [if_pos h]
theorem newE_go {xs : List Sp} (h1 : ¬ 32 < xs.length) (h2 : (xs.any fun x => !okB x) = false) : newE xs = if xs.Pairwise Apart then 0 else 50 := by unfold newE; rw [if_neg (fun h => h.elim h1 (fun e => by rw [h2] at e; cases e))]
theorem newE_0 {xs : List Sp} (h : newE xs = 0) : xs.length ≤ 32 ∧ (∀ x ∈ xs, x.Ok) ∧ xs.Pairwise Apart := by
  unfold newE at h
  split at h
  · cases h
  · rename_i h1
    split at h
    · rename_i h2
      have h3 : ¬ 32 < xs.length := fun x => h1 (.inl x)
      have h4 : (xs.any fun x => !okB x) = false := by
        cases e : xs.any fun x => !okB x
        · rfl
        · exact absurd (.inr e) h1
      exact ⟨by omega, all_ok h4, h2⟩
    · cases h

theorem pairwise_apart_perm {l m : List Sp} (h : l.Perm m) : l.Pairwise Apart ↔ m.Pairwise Apart := h.pairwise_iff (fun {x y} => Apart.symm)
theorem ahead_of_apart {l : List Sp} (hok : ∀ x ∈ l, x.Ok) (hs : l.Pairwise Lo) (ha : l.Pairwise Apart) : l.Pairwise Ahead := by
  induction l with
  | nil => exact List.Pairwise.nil
  | cons x r ih =>
    rw [List.pairwise_cons] at hs ha ⊢
    refine ⟨fun y hy => ?_, ih (fun z hz => hok z (List.mem_cons_of_mem _ hz)) hs.2 ha.2⟩
    have h1 := hs.1 y hy
    have h2 := (hok y (List.mem_cons_of_mem _ hy)).s1
    have h3 := ha.1 y hy
    unfold Apart Lo Ahead at *
    omega
theorem apart_of_ahead {l : List Sp} (h : l.Pairwise Ahead) : l.Pairwise Apart := h.imp fun hx => .inl hx
theorem row_of_new {xs : List Sp} (h : newE xs = 0) : Row (sortB xs) := by
  obtain ⟨h1, h2, h3⟩ := newE_0 h
  have hok : ∀ x ∈ sortB xs, x.Ok := fun x hx => h2 x ((sortB_perm xs).mem_iff.1 hx)
  exact ⟨by rw [sortB_len]; exact h1, hok, ahead_of_apart hok (sortB_sorted xs) ((pairwise_apart_perm (sortB_perm xs)).2 h3)⟩

/-- Neighbours suffice. -/
theorem ahead_of_next {l : List Sp} (hok : ∀ x ∈ l, x.Ok) (h : ∀ j x y, l[j]? = some x → l[j + 1]? = some y → Ahead x y) : l.Pairwise Ahead := by
  induction l with
  | nil => exact List.Pairwise.nil
  | cons x r ih =>
    have hr := ih (fun z hz => hok z (List.mem_cons_of_mem _ hz)) (fun j a b ha hb => h (j + 1) a b (by simpa using ha) (by simpa using hb))
    refine List.pairwise_cons.2 ⟨fun y hy => ?_, hr⟩
    cases r with
    | nil => cases hy
    | cons z r' =>
      have hxz := h 0 x z rfl rfl
      rcases List.mem_cons.1 hy with rfl | hy'
      · exact hxz
      · have hzy := (List.pairwise_cons.1 hr).1 y hy'
        have := (hok z (by simp)).s1
        unfold Ahead at *
        omega
theorem row_uniq : ∀ {l m : List Sp}, l.Perm m → l.Pairwise (fun x y => x.b < y.b) → m.Pairwise (fun x y => x.b < y.b) → l = m
  | [], m, h, _, _ => h.nil_eq
  | x :: l, m, h, h1, h2 => by
    cases m with
    | nil => exact absurd h.length_eq (by simp)
    | cons y m =>
      rw [List.pairwise_cons] at h1 h2
      have e : x = y := by
        rcases List.mem_cons.1 (h.mem_iff.1 (List.mem_cons_self)) with e | hx
        · exact e
        · rcases List.mem_cons.1 (h.mem_iff.2 (List.mem_cons_self (a := y) (l := m))) with e | hy
          · exact e.symm
          · have a := h2.1 x hx
            have b := h1.1 y hy
            omega
      subst e
      rw [row_uniq ((List.perm_cons x).1 h) h1.2 h2.2]
theorem lt_of_ahead {l : List Sp} (hok : ∀ x ∈ l, x.Ok) (h : l.Pairwise Ahead) : l.Pairwise (fun x y => x.b < y.b) := by
  induction l with
  | nil => exact List.Pairwise.nil
  | cons x r ih =>
    rw [List.pairwise_cons] at h ⊢
    exact ⟨fun y hy => (h.1 y hy).lt (hok x (by simp)), ih (fun z hz => hok z (List.mem_cons_of_mem _ hz)) h.2⟩
/-- What a list that is sorted in any way is, where the check of neighbours goes through, and where not. -/
theorem sorted_is {xs l : List Sp} (hp : l.Perm xs) (hlen : ¬ 32 < xs.length) (hany : (xs.any fun x => !okB x) = false) (h : l.Pairwise Ahead) : newE xs = 0 ∧ l = sortB xs := by
  have hok := all_ok hany
  have hokl : ∀ x ∈ l, x.Ok := fun x hx => hok x (hp.mem_iff.1 hx)
  have e : newE xs = 0 := by rw [newE_go hlen hany, if_pos ((pairwise_apart_perm hp).1 (apart_of_ahead h))]
  have hr := row_of_new e
  exact ⟨e, row_uniq (hp.trans (sortB_perm xs).symm) (lt_of_ahead hokl h) (lt_of_ahead hr.ok hr.up)⟩
theorem sorted_no {xs l : List Sp} (hp : l.Perm xs) (hlen : ¬ 32 < xs.length) (hany : (xs.any fun x => !okB x) = false) (hs : l.Pairwise Lo) {j : Nat} {x y : Sp} (h1 : l[j]? = some x) (h2 : l[j + 1]? = some y) (h : ¬ Ahead x y) : newE xs = 50 := by
  rw [newE_go hlen hany, if_neg]
  intro ha
  have hok := all_ok hany
  have hokl : ∀ x ∈ l, x.Ok := fun x hx => hok x (hp.mem_iff.1 hx)
  have := ahead_of_apart hokl hs ((pairwise_apart_perm hp).2 ha)
  obtain ⟨l1, e1⟩ := List.getElem?_eq_some_iff.1 h1
  obtain ⟨l2, e2⟩ := List.getElem?_eq_some_iff.1 h2
  have := List.pairwise_iff_getElem.1 this j (j + 1) l1 l2 (by omega)
  rw [e1, e2] at this
  exact h this
theorem sorted_of {l : List Sp} (h : ∀ i j (hi : i < l.length) (hj : j < l.length), i < j → l[i].b ≤ l[j].b) : l.Pairwise Lo := List.pairwise_iff_getElem.2 h

/-- The document's loop that inserts: a first part gone through. -/
theorem insB_no {x : Sp} : ∀ {l : List Sp}, (∀ y ∈ l, ¬ x.b < y.b) → insB x l = l ++ [x]
  | [], _ => rfl
  | y :: r, h => by
    unfold insB
    rw [if_neg (h y (by simp)), insB_no (fun z hz => h z (List.mem_cons_of_mem _ hz))]
    rfl
theorem insB_yes {x y : Sp} : ∀ {l : List Sp}, (∃ z ∈ l, x.b < z.b) → insB x (l ++ [y]) = insB x l ++ [y]
  | [], h => by obtain ⟨z, hz, _⟩ := h; cases hz
  | z :: r, h => by
    simp only [insB, List.cons_append]
    split
    · rfl
    · rename_i hn
      obtain ⟨u, hu, hlt⟩ := h
      rcases List.mem_cons.1 hu with rfl | hu
      · exact absurd hlt hn
      · rw [insB_yes ⟨u, hu, hlt⟩]; rfl
theorem insB_now {x y : Sp} {l : List Sp} (h : ∀ z ∈ l, ¬ x.b < z.b) (hy : x.b < y.b) : insB x (l ++ [y]) = l ++ [x, y] := by
  induction l with
  | nil => simp [insB, hy]
  | cons z r ih =>
    simp only [insB, List.cons_append]
    rw [if_neg (h z (by simp)), ih (fun u hu => h u (List.mem_cons_of_mem _ hu))]

end Go.Proofs.Ytcdfkdlddmkhmaa
