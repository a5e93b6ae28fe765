/-
  The joined sets' lists: of all of both, of what is in both, of what is in the first alone; two lists of one set are one. Plain reckoning; and two sets with their lists beside one another.
-/
import Derived.Test.YtmdlknddlmpddaaDoorSetQ
import Derived.Test.YtmdlknddlmpddaaDoorSetL
namespace Go.Proofs.YtmdlknddlmpddaaDoor
open Go.ChangeShapes Go.WideShapes Go.ChangeAt Go.RowKit Go.Shelf
set_option linter.unusedVariables false

theorem memFrom_one {S : Words} : ∀ {l l' : List Int} {m : Nat}, MemFrom S m l → MemFrom S m l' → l = l'
  | [], [], _, _, _ => rfl
  | [], y :: r, m, h, ⟨k, _, hk, h1, _⟩ => by
    have h0 : IsNx (memS S) m 16384 := h
    have := h0.unique h1; omega
  | x :: r, [], m, ⟨k, _, hk, h1, _⟩, h => by
    have h0 : IsNx (memS S) m 16384 := h
    have := h0.unique h1; omega
  | x :: r, y :: r', m, ⟨k, ex, hk, h1, h2⟩, ⟨k', ey, hk', h1', h2'⟩ => by
    obtain rfl := h1.unique h1'
    rw [ex, ey, memFrom_one h2 h2']
theorem Lists.congr {S S' : Words} {l : List Int} (h : Lists S l) (e : ∀ z, memZ S z = memZ S' z) : Lists S' l := ⟨h.1, fun x => by rw [h.2, e]⟩
theorem Lists.one {S : Words} {l l' : List Int} (h : Lists S l) (h' : Lists S l') : l = l' := memFrom_one h.from0 h'.from0
theorem memZ_putAll : ∀ (xs : List Int) (S : Words) (z : Int), memZ (putAll S xs) z = (memZ S z || (okM z && decide (z ∈ xs)))
  | [], S, z => by simp [putAll]
  | x :: r, S, z => by
    show memZ (putAll (putS S x) r) z = _
    rw [memZ_putAll r (putS S x) z, memZ_put, Bool.or_assoc]
    congr 1
    by_cases e : z = x
    · subst e; cases okM z <;> simp
    · have : (z ∈ x :: r) ↔ z ∈ r := by simp [e]
      simp [e]
theorem memZ_ok {S : Words} {z : Int} (h : memZ S z = true) : okM z = true := by unfold memZ at h; simp at h; exact h.1
theorem memZ_join (g : Nat → Nat → Nat) (f : Bool → Bool → Bool) (hg : ∀ x y i, x < 18446744073709551616 → y < 18446744073709551616 → i < 64 → (g x y).testBit i = f (x.testBit i) (y.testBit i)) (S T : Words) (hS : ∀ i, S i < 18446744073709551616) (hT : ∀ i, T i < 18446744073709551616) (z : Int) :
    memZ (joinTo g S T 256) z = (okM z && f (memZ S z) (memZ T z)) := by
  unfold memZ
  by_cases h : okM z = true
  · obtain ⟨h0, h1⟩ := okM_out h
    rw [h, Bool.true_and, Bool.true_and, Bool.true_and, Bool.true_and]
    unfold memS
    rw [joinTo, if_pos (by omega), hg _ _ _ (hS _) (hT _) (by omega)]
  · simp at h; simp [h]
theorem memZ_or (S T : Words) (hS : ∀ i, S i < 18446744073709551616) (hT : ∀ i, T i < 18446744073709551616) (z : Int) : memZ (joinTo orG S T 256) z = (memZ S z || memZ T z) := by
  rw [memZ_join orG (· || ·) (fun x y i _ _ _ => by simp [orG]) S T hS hT]
  cases e1 : memZ S z <;> cases e2 : memZ T z <;> simp
  all_goals first | exact memZ_ok e1 | exact memZ_ok e2
theorem memZ_meet (S T : Words) (hS : ∀ i, S i < 18446744073709551616) (hT : ∀ i, T i < 18446744073709551616) (z : Int) : memZ (joinTo meetG S T 256) z = (memZ S z && memZ T z) := by
  rw [memZ_join meetG (· && ·) (fun x y i _ _ _ => by simp [meetG]) S T hS hT]
  cases e1 : memZ S z <;> cases e2 : memZ T z <;> simp
  exact memZ_ok e1
theorem memZ_less (S T : Words) (hS : ∀ i, S i < 18446744073709551616) (hT : ∀ i, T i < 18446744073709551616) (z : Int) : memZ (joinTo lessG S T 256) z = (memZ S z && !memZ T z) := by
  rw [memZ_join lessG (fun a b => a && !b) (fun x y i _ hy hi => by rw [lessG, Nat.testBit_and, not_bit hy, decide_eq_true hi, Bool.true_and]) S T hS hT]
  cases e1 : memZ S z <;> cases e2 : memZ T z <;> simp
  exact memZ_ok e1

theorem Lists.union {S T : Words} {x y : List Int} (hx : Lists S x) (hy : Lists T y) (hS : ∀ i, S i < 18446744073709551616) (hT : ∀ i, T i < 18446744073709551616) : Lists (joinTo orG S T 256) (unionL x y) :=
  ((Lists.of x).puts y).congr fun z => by
    have hz : memZ S0 z = false := by unfold memZ; rw [mem_zero]; simp
    rw [memZ_putAll, memZ_putAll, hz, memZ_or S T hS hT, Bool.false_or]
    have e1 : (okM z && decide (z ∈ x)) = memZ S z := by
      cases e : memZ S z
      · have : z ∉ x := fun h => by rw [hx.2, e] at h; cases h
        simp [this]
      · rw [memZ_ok e, decide_eq_true ((hx.2 z).2 e)]; rfl
    have e2 : (okM z && decide (z ∈ y)) = memZ T z := by
      cases e : memZ T z
      · have : z ∉ y := fun h => by rw [hy.2, e] at h; cases h
        simp [this]
      · rw [memZ_ok e, decide_eq_true ((hy.2 z).2 e)]; rfl
    rw [e1, e2]
theorem Lists.meet {S T : Words} {x y : List Int} (hx : Lists S x) (hy : Lists T y) (hS : ∀ i, S i < 18446744073709551616) (hT : ∀ i, T i < 18446744073709551616) : Lists (joinTo meetG S T 256) (x.filter fun z => isIn y z) :=
  ⟨hx.1.filter _, fun z => by rw [List.mem_filter, hx.2, hy.has, memZ_meet S T hS hT, Bool.and_eq_true]⟩
theorem Lists.less {S T : Words} {x y : List Int} (hx : Lists S x) (hy : Lists T y) (hS : ∀ i, S i < 18446744073709551616) (hT : ∀ i, T i < 18446744073709551616) : Lists (joinTo lessG S T 256) (x.filter fun z => (!isIn y z)) :=
  ⟨hx.1.filter _, fun z => by rw [List.mem_filter, hx.2, hy.has, memZ_less S T hS hT, Bool.and_eq_true]⟩

theorem sameW_out {S T : Words} (h : sameW S T = true) (i : Nat) (hi : i < 256) : S i = T i := by
  unfold sameW sameOn at h
  rw [List.all_eq_true] at h
  have := h i (by simpa using hi)
  simpa using this
theorem memZ_congr {S T : Words} (h : ∀ i, i < 256 → S i = T i) (z : Int) : memZ S z = memZ T z := by
  unfold memZ
  by_cases c : okM z = true
  · obtain ⟨h0, h1⟩ := okM_out c
    unfold memS
    rw [h _ (by omega)]
  · simp at c; simp [c]
theorem same_lists {S T : Words} {x y : List Int} (hx : Lists S x) (hy : Lists T y) (hS : ∀ i, S i < 18446744073709551616) (hT : ∀ i, T i < 18446744073709551616) : sameW S T = sameB x y := by
  rw [Bool.eq_iff_iff]
  constructor
  · intro h
    have : x = y := hx.one (hy.congr fun z => (memZ_congr (sameW_out h) z).symm)
    simp [sameB, this]
  · intro h
    have e : x = y := by simpa [sameB] using h
    subst e
    refine sameW_of (words_ext (fun j hj => ?_) hS hT)
    have : memZ S (j : Int) = memZ T (j : Int) := by rw [← hx.has, ← hy.has]
    rwa [memZ_nat, memZ_nat, decide_eq_true hj, Bool.true_and, Bool.true_and] at this

/-- A list's block is no set's. -/
theorem own_not_row {W : World} {base n b : Nat} {v : Value} {xs : List Value} {S : Words} (h : W.ownsRow base 3 1 v n xs) (hR : RowAt 58 W b S) : v.ownBlock = none ∨ v.ownBlock ≠ some b := by
  rcases h.2 with ⟨rfl, _⟩ | ⟨g, cap, cur, rfl, _, hg, _⟩
  · exact .inl rfl
  · refine .inr fun e => ?_
    have e' : g = b := by simpa [Value.ownBlock] using e
    subst e'
    have h1 := hR.1
    rw [hg] at h1
    cases h1
theorem Col.turned {w W W' : World} {o : Value} {xs : List Int} {b : Nat} {S : Words} (h : Col w o xs W) (hR : RowAt 58 W b S) (hg : W.grownBy W' (some b)) (hb : w.heap.size ≤ b) : Col w o xs W' :=
  ⟨h.own.kept hg (own_not_row h.own hR), Below.grown h.below hg h.sz (fun k e => by cases e; exact hb)⟩
theorem Col.base {w W W' : World} {o : Value} {xs : List Int} (h : Col W o xs W') (hb : Below w.heap.size w W) : Col w o xs W' := ⟨ownsRow_base h.own hb.size, hb.trans (h.below.mono hb.size)⟩
theorem Col.ints {w W : World} {o : Value} {xs : List Int} (h : Col w o xs W) : IntsAt W o xs := intsAt_row h.own

end Go.Proofs.YtmdlknddlmpddaaDoor
