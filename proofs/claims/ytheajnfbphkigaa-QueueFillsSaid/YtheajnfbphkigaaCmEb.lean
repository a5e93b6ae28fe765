/-
  The document's Encode, plain: sums of words, rows of fields.
-/
import Derived.Test.YtheajnfbphkigaaCmEa
namespace Go.Proofs.Ytheajnfbphkigaa
open Go.ChangeShapes Go.WideShapes Go.ChangeAt Go.RowKit
set_option linter.unusedVariables false
set_option linter.unusedSimpArgs false

theorem flat4 {F : Nat → List Value} (hF : ∀ x, (F x).length = 4) : ∀ (L : List Nat) (i j x : Nat), L[i]? = some x → j < 4 → (L.flatMap F)[4 * i + j]? = (F x)[j]?
  | [], i, j, x, h, _ => by simp at h
  | y :: L, 0, j, x, h, hj => by
    simp at h; subst h
    rw [List.flatMap_cons, List.getElem?_append_left (by rw [hF]; omega)]
    simp
  | y :: L, i + 1, j, x, h, hj => by
    simp at h
    rw [List.flatMap_cons, List.getElem?_append_right (by rw [hF]; omega), hF]
    rw [show 4 * (i + 1) + j - 4 = 4 * i + j by omega]
    exact flat4 hF L i j x h hj
theorem flat4_len {F : Nat → List Value} (hF : ∀ x, (F x).length = 4) (L : List Nat) : (L.flatMap F).length = 4 * L.length := by
  induction L with
  | nil => rfl
  | cons y L ih => rw [List.flatMap_cons, List.length_append, hF, ih, List.length_cons]; omega

/-- The words as the document adds them. -/
abbrev Zs := Nat → Int
abbrev Zs.cs (z : Zs) : Array Value := #[.int .u64 (z 0), .int .u64 (z 1), .int .u64 (z 2), .int .u64 (z 3)]
def z0 (op : Int) : Zs := fun j => if j = 0 then op else 0
def stepZ (n : Ns) (z : Zs) (x : Nat) : Zs := fun j => if j = pw x then IntKind.u64.wrap (z j + IntKind.u64.wrap (IntKind.u64.wrap (n x) * 2 ^ min (pf x) 64)) else z j
def zN (op : Int) (n : Ns) (L : List Nat) : Zs := L.foldl (stepZ n) (z0 op)
theorem zN_snoc (op : Int) (n : Ns) (L : List Nat) (x : Nat) : zN op n (L ++ [x]) = stepZ n (zN op n L) x := by simp [zN]
theorem add_le (n : Ns) (j : Nat) : ∀ (L : List Nat) (ws : Ws), ws j ≤ (L.foldl (addW n) ws) j
  | [], ws => Nat.le_refl _
  | x :: L, ws => by
    rw [List.foldl_cons]
    refine Nat.le_trans ?_ (add_le n j L _)
    simp only [addW]; split <;> omega
theorem step_sum {x : Nat} {n : Ns} {ws : Ws} {z : Zs} (hx : x < 9) (h0 : 0 ≤ n x) (h1 : n x < pr x) (hz : ∀ j, z j = (ws j : Int)) (hl : addW n ws x (pw x) < 18446744073709551616) : ∀ j, stepZ n z x j = (addW n ws x j : Int) := by
  intro j
  simp only [stepZ, addW] at hl ⊢
  by_cases e : j = pw x
  · subst e
    simp only [if_true] at hl ⊢
    obtain ⟨v, hv⟩ : ∃ v : Nat, n x = v := ⟨(n x).toNat, by omega⟩
    have hp := pm_pr x hx v (by omega)
    have hpr : pr x ≤ 18446744073709551616 := by
      have : x = 0 ∨ x = 1 ∨ x = 2 ∨ x = 3 ∨ x = 4 ∨ x = 5 ∨ x = 6 ∨ x = 7 ∨ x = 8 := by omega
      rcases this with rfl | rfl | rfl | rfl | rfl | rfl | rfl | rfl | rfl <;> decide
    have e1 : IntKind.u64.wrap (n x) = (v : Int) := by rw [hv, IntKind.wrap_u64]; omega
    rw [e1, pm_pow x hx]
    have e2 : (v : Int) * (pm x : Int) = ((pm x * v : Nat) : Int) := by rw [Int.natCast_mul, Int.mul_comm]
    rw [e2]
    have e3 : IntKind.u64.wrap ((pm x * v : Nat) : Int) = ((pm x * v : Nat) : Int) := by rw [IntKind.wrap_u64]; omega
    have e4 : (n x).toNat = v := by omega
    rw [e3, hz, e4]
    rw [e4] at hl
    rw [IntKind.wrap_u64]; omega
  · simp only [e, if_false]; exact hz j
theorem fold_sum {n : Ns} : ∀ (L : List Nat) (ws : Ws) (z : Zs), (∀ f ∈ L, f < 9 ∧ 0 ≤ n f ∧ n f < pr f) → (∀ j, z j = (ws j : Int)) → (∀ j, (L.foldl (addW n) ws) j < 18446744073709551616) → ∀ j, (L.foldl (stepZ n) z) j = ((L.foldl (addW n) ws) j : Int)
  | [], ws, z, _, hz, _ => hz
  | x :: L, ws, z, hL, hz, hl => by
    have hx := hL x List.mem_cons_self
    simp only [List.foldl_cons] at hl ⊢
    exact fold_sum L _ _ (fun f hf => hL f (List.mem_cons_of_mem _ hf)) (step_sum hx.1 hx.2.1 hx.2.2 hz (Nat.lt_of_le_of_lt (add_le n _ L _) (hl _))) hl
/-- A command that is right has the document's words. -/
theorem zN_valid {c : Cm} (h : validC c = true) : ∀ j, zN c.op (numC c) (fieldsL c.op) j = (encW c j : Int) := by
  have hk := validC_known h
  have hf := validC_fits h
  have hl := words_lt h
  have hop : 0 ≤ c.op := by rcases known_cases hk with e | e | e | e | e | e | e | e | e | e | e | e <;> omega
  rw [encW, if_pos h]
  rw [wordsC, words_sums hk hf] at hl ⊢
  refine fold_sum _ _ _ (fun f hm => ⟨fieldsL_lt _ f hm, fits_iff.1 (hf f hm)⟩) (fun j => ?_) hl
  simp only [z0, ws0]; split <;> omega
theorem encW_no {c : Cm} (h : validC c = false) : encW c = wz := by rw [encW, if_neg (by rw [h]; decide)]
theorem validC_of {c : Cm} (hk : known c.op = true) : validC c = ((fieldsL c.op).all (fun f => fits f (numC c f)) && okF c) := by
  simp only [validC, okF, hk, Bool.true_and]
theorem fieldsL_ne {op : Int} (h : known op = true) : 0 < (fieldsL op).length := by
  rcases known_cases h with rfl | rfl | rfl | rfl | rfl | rfl | rfl | rfl | rfl | rfl | rfl | rfl <;> decide
theorem fdl_len (op : Int) : (fieldsL op).length ≤ 4 := by
  cases hk : known op
  · rw [fieldsL_no hk]; simp
  · rcases known_cases hk with rfl | rfl | rfl | rfl | rfl | rfl | rfl | rfl | rfl | rfl | rfl | rfl <;> decide
theorem row_form {W : World} {base n : Nat} {v : Value} {xs : List Value} (h : W.ownsRow base 100 4 v n xs) (hn : 0 < n) : ∃ g cap, v = .slice (some ⟨g, 0, none⟩) n cap ∧ base ≤ g ∧ g < W.heap.size ∧ n ≤ cap := by
  have hlt := h.lt
  rcases h.2 with ⟨_, h0⟩ | ⟨g, cap, cur, rfl, hb, hg, hc, _⟩
  · omega
  · exact ⟨g, cap, rfl, (hlt g (by simp [Value.ownBlock])).1, (hlt g (by simp [Value.ownBlock])).2, hc⟩
theorem fc_len (a b c d : Int) : (fc a b c d).length = 4 := rfl
/-- The cells of a row of fields. -/
theorem row_cells {W : World} {base g n cap : Nat} {c : Cm} {L : List Nat} (hL : fieldsL c.op = L) (h : W.ownsRow base 100 4 (.slice (some ⟨g, 0, none⟩) n cap) n (fdX c)) {i x : Nat} (hi : L[i]? = some x) :
    W.cell? ⟨g, i * 4, none⟩ = some (.int .i64 (pw x)) ∧ W.cell? ⟨g, i * 4 + 1, none⟩ = some (.int .i64 (pf x)) ∧ W.cell? ⟨g, i * 4 + 2, none⟩ = some (.int .i64 (pb x)) ∧ W.cell? ⟨g, i * 4 + 3, none⟩ = some (.int .i64 (numC c x)) := by
  have hlen : (fdX c).length = n * 4 := h.1
  have hl2 : (fdX c).length = 4 * L.length := by rw [fdX, hL]; exact flat4_len (fun _ => fc_len _ _ _ _) L
  have hil : i < L.length := (List.getElem?_eq_some_iff.1 hi).1
  have key : ∀ j, j < 4 → W.cell? ⟨g, i * 4 + j, none⟩ = (fc (pw x) (pf x) (pb x) (numC c x))[j]? := fun j hj => by
    rw [h.cellAt (i * 4 + j) (by omega), fdX, hL, Nat.mul_comm i 4]
    exact flat4 (F := fun f => fc (pw f) (pf f) (pb f) (numC c f)) (fun _ => fc_len _ _ _ _) L i j x hi hj
  exact ⟨key 0 (by omega), key 1 (by omega), key 2 (by omega), key 3 (by omega)⟩

end Go.Proofs.Ytheajnfbphkigaa
