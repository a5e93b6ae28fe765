/-
  The document's lists: rising lists of numbers, put and take and joined, and the rows of neighbours in them; against a set's words. Plain reckoning.
-/
import Derived.Test.YtobhdjepfhbgaaaDoorStN
namespace Go.Proofs.YtobhdjepfhbgaaaDoor
open Go.ChangeShapes Go.WideShapes Go.ChangeAt Go.RowKit Go.Shelf
set_option linter.unusedVariables false

/-- The list rises. -/
abbrev Rises (l : List Int) : Prop := l.Pairwise (· < ·)
/-- The list has just the set's members, rising. -/
def Lists (S : Words) (l : List Int) : Prop := Rises l ∧ ∀ x : Int, x ∈ l ↔ memZ S x = true

-- how many members
theorem memZ_nat (S : Words) (k : Nat) : memZ S (k : Int) = (decide (k < 16384) && memS S k) := by
  unfold memZ okM
  by_cases h : k < 16384
  · have : (0 : Int) ≤ (k : Int) ∧ (k : Int) < 16384 := by omega
    rw [decide_eq_true this, decide_eq_true h]; simp
  · have : ¬ ((0 : Int) ≤ (k : Int) ∧ (k : Int) < 16384) := by omega
    rw [decide_eq_false this, decide_eq_false h]; simp
theorem memZ_bd {S : Words} {x : Int} (h : memZ S x = true) : ∃ k : Nat, x = (k : Int) ∧ k < 16384 ∧ memS S k = true := by
  unfold memZ at h
  simp at h
  obtain ⟨h0, h1⟩ := okM_out h.1
  exact ⟨x.toNat, by omega, by omega, h.2⟩
theorem memFrom_of {S : Words} : ∀ {l : List Int} {m : Nat}, m ≤ 16384 → Rises l → (∀ x ∈ l, (m : Int) ≤ x) → (∀ x : Int, (m : Int) ≤ x → (x ∈ l ↔ memZ S x = true)) → MemFrom S m l
  | [], m, hm, _, _, h => ⟨hm, Nat.le_refl _, fun j h1 h2 => by
      have := (h (j : Int) (by omega)).2
      rw [memZ_nat, decide_eq_true h2] at this
      cases e : memS S j
      · rfl
      · rw [e] at this; simpa using this rfl, fun h => by omega⟩
  | x :: r, m, hm, hr, hl, h => by
    have hx := hl x (by simp)
    obtain ⟨k, rfl, hk, hmk⟩ := memZ_bd ((h x hx).1 (by simp))
    replace hr := List.pairwise_cons.1 hr
    refine ⟨k, rfl, hk, ⟨by omega, by omega, fun j h1 h2 => ?_, fun _ => hmk⟩, memFrom_of (by omega) hr.2 (fun y hy => by have := hr.1 y hy; omega) (fun y hy => ?_)⟩
    · cases e : memS S j
      · rfl
      · have h3 : (j : Int) ∈ ((k : Int) :: r) := (h (j : Int) (by omega)).2 (by rw [memZ_nat, decide_eq_true (show j < 16384 by omega), e]; rfl)
        rcases List.mem_cons.1 h3 with h4 | h4
        · omega
        · have := hr.1 _ h4; omega
    · rw [← h y (by omega)]
      constructor
      · exact fun h3 => List.mem_cons_of_mem _ h3
      · intro h3
        rcases List.mem_cons.1 h3 with h4 | h4
        · omega
        · exact h4
theorem Lists.from0 {S : Words} {l : List Int} (h : Lists S l) : MemFrom S 0 l :=
  memFrom_of (by omega) h.1 (fun x hx => by obtain ⟨k, rfl, _⟩ := memZ_bd ((h.2 x).1 hx); omega) (fun x _ => h.2 x)


theorem memZ_put (S : Words) (m x : Int) : memZ (putS S m) x = (memZ S x || (okM m && decide (x = m))) := by
  by_cases hx : okM x = true
  · obtain ⟨h0, h1⟩ := okM_out hx
    unfold memZ
    rw [mem_put, hx, Bool.true_and, Bool.true_and]
    by_cases hm : okM m = true
    · obtain ⟨g0, g1⟩ := okM_out hm
      rw [hm, Bool.true_and, Bool.true_and]
      have : (m.toNat == x.toNat) = decide (x = m) := by
        rw [Bool.eq_iff_iff, beq_iff_eq, decide_eq_true_iff]; omega
      rw [this]
    · simp at hm; simp [hm]
  · simp at hx
    have h1 : ∀ T, memZ T x = false := fun T => by unfold memZ; simp [hx]
    rw [h1, h1, Bool.false_or]
    by_cases e : x = m
    · subst e; simp [hx]
    · simp [e]
theorem memZ_take (S : Words) (m x : Int) : memZ (takeS S m) x = (memZ S x && !decide (x = m)) := by
  by_cases hx : okM x = true
  · obtain ⟨h0, h1⟩ := okM_out hx
    unfold memZ
    rw [mem_take, hx, Bool.true_and, Bool.true_and]
    by_cases hm : okM m = true
    · obtain ⟨g0, g1⟩ := okM_out hm
      rw [hm, Bool.true_and]
      have : (m.toNat == x.toNat) = decide (x = m) := by
        rw [Bool.eq_iff_iff, beq_iff_eq, decide_eq_true_iff]; omega
      rw [this]
    · simp at hm
      have : decide (x = m) = false := decide_eq_false (fun e => by rw [e, hm] at hx; cases hx)
      rw [hm, this]; simp
  · simp at hx
    unfold memZ
    simp [hx]

/-- One step of the document's put: what has come, and whether the number has. -/
def putStep (m : Int) (st : List Int × Bool) (x : Int) : List Int × Bool := if m < x ∧ st.2 = false then (st.1 ++ [m, x], true) else (st.1 ++ [x], st.2)
def putFin (m : Int) (st : List Int × Bool) : List Int := if st.2 = true then st.1 else st.1 ++ [m]
def putRun (m : Int) (l : List Int) : List Int × Bool := l.foldl (putStep m) ([], false)
def insL (l : List Int) (m : Int) : List Int := if okM m = true ∧ isIn l m = false then putFin m (putRun m l) else l
theorem putRun_snoc (m : Int) (l : List Int) (x : Int) : putRun m (l ++ [x]) = putStep m (putRun m l) x := by simp [putRun]
theorem insL_fold_done (m : Int) : ∀ (r : List Int) (out : List Int), r.foldl (putStep m) (out, true) = (out ++ r, true)
  | [], out => by simp
  | x :: r, out => by
    rw [List.foldl_cons, show putStep m (out, true) x = (out ++ [x], true) by simp [putStep], insL_fold_done m r]
    simp
theorem putRun_len' (m : Int) : ∀ (l out : List Int), (l.foldl (putStep m) (out, false)).1.length ≤ out.length + l.length + 1 ∧ ((l.foldl (putStep m) (out, false)).2 = false → (l.foldl (putStep m) (out, false)).1.length = out.length + l.length)
  | [], out => by simp
  | x :: r, out => by
    rw [List.foldl_cons]
    by_cases h : m < x
    · rw [show putStep m (out, false) x = (out ++ [m, x], true) by simp [putStep, h], insL_fold_done]
      simp; omega
    · rw [show putStep m (out, false) x = (out ++ [x], false) by simp [putStep, h]]
      have ih := putRun_len' m r (out ++ [x])
      simp only [List.length_append, List.length_cons, List.length_nil] at ih ⊢
      constructor
      · omega
      · intro g; have := ih.2 g; omega
theorem putRun_len (m : Int) (l : List Int) : (putRun m l).1.length ≤ l.length + 1 ∧ ((putRun m l).2 = false → (putRun m l).1.length = l.length) := by
  have := putRun_len' m l []
  simpa [putRun] using this
theorem insL_fold (m : Int) : ∀ (r : List Int) (out : List Int), Rises (out ++ r) → (∀ x ∈ out, x < m) → m ∉ r →
    Rises (putFin m (r.foldl (putStep m) (out, false))) ∧ ∀ x, x ∈ putFin m (r.foldl (putStep m) (out, false)) ↔ x = m ∨ x ∈ out ++ r
  | [], out, hr, ho, hm => by
    simp only [List.foldl_nil, putFin, List.append_nil] at hr ⊢
    simp only [Bool.false_eq_true, if_false]
    refine ⟨?_, fun x => by simp [or_comm]⟩
    rw [Rises, List.pairwise_append]
    exact ⟨hr, by simp, fun a ha b hb => by simp at hb; rw [hb]; exact ho a ha⟩
  | x :: r, out, hr, ho, hm => by
    rw [List.foldl_cons]
    by_cases h : m < x
    · rw [show putStep m (out, false) x = (out ++ [m, x], true) by simp [putStep, h], insL_fold_done]
      simp only [putFin, if_true]
      have hr' := hr
      rw [Rises, List.pairwise_append, List.pairwise_cons] at hr'
      obtain ⟨h1, ⟨h2, h3⟩, h4⟩ := hr'
      constructor
      · rw [Rises, List.append_assoc, List.pairwise_append]
        refine ⟨h1, ?_, fun a ha b hb => ?_⟩
        · simp only [List.cons_append, List.nil_append, List.pairwise_cons]
          refine ⟨fun b hb => ?_, h2, h3⟩
          rcases List.mem_cons.1 hb with e | e
          · rw [e]; exact h
          · have := h2 b e; omega
        · have hb' : b = m ∨ b ∈ x :: r := by simpa using hb
          rcases hb' with e | e
          · rw [e]; exact ho a ha
          · exact h4 a ha b e
      · intro y
        simp
        constructor
        · rintro (a | a | a | a) <;> simp [a]
        · rintro (a | a | a | a) <;> simp [a]
    · have hne : x ≠ m := fun e => hm (by simp [e])
      rw [show putStep m (out, false) x = (out ++ [x], false) by simp [putStep, h]]
      have e : out ++ x :: r = (out ++ [x]) ++ r := by simp
      rw [e] at hr ⊢
      exact insL_fold m r (out ++ [x]) hr (fun y hy => by
        rcases List.mem_append.1 hy with a | a
        · exact ho y a
        · simp at a; omega) (fun a => hm (by simp [a]))
theorem Lists.put {S : Words} {l : List Int} (h : Lists S l) (m : Int) : Lists (putS S m) (insL l m) := by
  unfold insL
  split
  · rename_i hc
    have hn : m ∉ l := by have := hc.2; simpa [isIn] using this
    obtain ⟨h1, h2⟩ := insL_fold m l [] (by simpa using h.1) (by simp) hn
    refine ⟨h1, fun x => ?_⟩
    rw [show putRun m l = l.foldl (putStep m) ([], false) from rfl, h2, memZ_put, hc.1, Bool.true_and, Bool.or_eq_true, decide_eq_true_iff, List.nil_append, h.2]
    exact Or.comm
  · rename_i hc
    refine ⟨h.1, fun x => ?_⟩
    rw [memZ_put, h.2]
    constructor
    · intro a; simp [a]
    · intro a
      simp only [Bool.or_eq_true, Bool.and_eq_true, decide_eq_true_iff] at a
      rcases a with a | ⟨a, rfl⟩
      · exact a
      · by_cases c : isIn l x = false
        · exact absurd ⟨a, c⟩ hc
        · have : x ∈ l := by simpa [isIn] using c
          exact (h.2 x).1 this
theorem Lists.nil : Lists S0 [] := ⟨List.Pairwise.nil, fun x => by
  have : memZ S0 x = false := by unfold memZ; rw [mem_zero]; simp
  rw [this]; simp⟩
def ofL (ms : List Int) : List Int := ms.foldl insL []
theorem ofL_snoc (ms : List Int) (x : Int) : ofL (ms ++ [x]) = insL (ofL ms) x := by simp [ofL]
theorem Lists.puts : ∀ (ms : List Int) {S : Words} {l : List Int}, Lists S l → Lists (putAll S ms) (ms.foldl insL l)
  | [], _, _, h => h
  | x :: r, _, _, h => Lists.puts r (h.put x)
theorem Lists.of (ms : List Int) : Lists (putAll S0 ms) (ofL ms) := Lists.nil.puts ms
def takeL (l : List Int) (m : Int) : List Int := l.filter fun x => decide (x ≠ m)
theorem Lists.take {S : Words} {l : List Int} (h : Lists S l) (m : Int) : Lists (takeS S m) (takeL l m) :=
  ⟨h.1.filter _, fun x => by
    rw [memZ_take, takeL, List.mem_filter, h.2]
    simp⟩
theorem Lists.has {S : Words} {l : List Int} (h : Lists S l) (m : Int) : isIn l m = memZ S m := by
  rw [Bool.eq_iff_iff, isIn, decide_eq_true_iff, h.2]
theorem Lists.len {S : Words} {l : List Int} (h : Lists S l) : l.length ≤ 16384 := by
  have := memFrom_len h.from0; omega

end Go.Proofs.YtobhdjepfhbgaaaDoor
