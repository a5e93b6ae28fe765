/-
  Acts in memory; what a list of pushes makes, in either order.
-/
import Derived.Test.YthfcgedlpnbojaaLadL
import Derived.Test.YthfcgedlpnbojaaLadJ
namespace Go.Proofs.Ythfcgedlpnbojaa
open Go.ChangeShapes Go.WideShapes Go.ChangeAt Go.RowKit
set_option linter.unusedVariables false

/-- The slice value v holds these acts. -/
def ActsAt (W : World) (v : Value) (xs : List Ac) : Prop :=
  ∃ (a : Option Addr) (cap : Nat), v = .slice a xs.length cap ∧ (xs ≠ [] → ∃ b off : Nat, a = some ⟨b, off, none⟩ ∧ b < W.heap.size ∧ ∀ j, j < xs.length →
    W.cell? ⟨b, off + j * 3, none⟩ = some (.int .i64 (xs[j]?.getD default).d) ∧ W.cell? ⟨b, off + j * 3 + 1, none⟩ = some (.int .i64 (xs[j]?.getD default).g) ∧ W.cell? ⟨b, off + j * 3 + 2, none⟩ = some (.int .i64 (xs[j]?.getD default).p))
def nthA (xs : List Ac) (k : Nat) : Ac := xs[k]?.getD default
theorem ActsAt.slice {W : World} {v : Value} {xs : List Ac} (h : ActsAt W v xs) : ∃ a cap, v = .slice a xs.length cap := by obtain ⟨a, cap, e, _⟩ := h; exact ⟨a, cap, e⟩
/-- One act, in every world that keeps what lay. -/
theorem ActsAt.read {w : World} {a : Option Addr} {n cap : Nat} {xs : List Ac} (h : ActsAt w (.slice a n cap) xs) {k : Nat} (hk : k < n) : ∃ b o : Nat, a = some ⟨b, o, none⟩ ∧ ∀ W, Below w.heap.size w W →
    W.cell? ⟨b, o + k * 3, none⟩ = some (.int .i64 (nthA xs k).d) ∧ W.cell? ⟨b, o + k * 3 + 1, none⟩ = some (.int .i64 (nthA xs k).g) ∧ W.cell? ⟨b, o + k * 3 + 2, none⟩ = some (.int .i64 (nthA xs k).p) := by
  obtain ⟨a', cap', e, hc⟩ := h
  injection e with e1 e2 e3
  subst e1; subst e2
  obtain ⟨b, o, ha, hb, hcs⟩ := hc (fun e => by simp [e] at hk)
  obtain ⟨h0, h1, h2⟩ := hcs k hk
  exact ⟨b, o, ha, fun W hW => ⟨(hW.cell (p := ⟨b, o + k * 3, none⟩) hb).trans h0, (hW.cell (p := ⟨b, o + k * 3 + 1, none⟩) hb).trans h1, (hW.cell (p := ⟨b, o + k * 3 + 2, none⟩) hb).trans h2⟩⟩
theorem ActsAt.read2 {w : World} {b o n cap : Nat} {xs : List Ac} (h : ActsAt w (.slice (some ⟨b, o, none⟩) n cap) xs) {k : Nat} (hk : k < n) : ∀ W, Below w.heap.size w W →
    W.cell? ⟨b, o + k * 3, none⟩ = some (.int .i64 (nthA xs k).d) ∧ W.cell? ⟨b, o + k * 3 + 1, none⟩ = some (.int .i64 (nthA xs k).g) ∧ W.cell? ⟨b, o + k * 3 + 2, none⟩ = some (.int .i64 (nthA xs k).p) := by
  obtain ⟨b', o', e, hc⟩ := h.read hk
  simp only [Option.some.injEq, Addr.mk.injEq] at e
  obtain ⟨rfl, rfl, _⟩ := e
  exact hc

/-- What a list of pushes makes. -/
def pushes (f : Rg) (xs : List Ac) : Rg := xs.foldl (fun f x => put f x.at true) f
theorem pushes_at (xs : List Ac) : ∀ (f : Rg) (i : Nat), pushes f xs i = (f i || xs.any (fun x => decide (x.at = i))) := by
  induction xs with
  | nil => intro f i; simp [pushes]
  | cons x r ih =>
    intro f i
    rw [show pushes f (x :: r) = pushes (put f x.at true) r from rfl, ih, List.any_cons]
    by_cases h : i = x.at
    · subst h; simp [put_same]
    · rw [put_other f true h, show decide (x.at = i) = false by simp; omega]; simp
theorem pushes_rev (f : Rg) (xs : List Ac) : pushes f xs.reverse = pushes f xs := by
  funext i
  rw [pushes_at, pushes_at, List.any_reverse]
theorem pushes_has {f : Rg} {xs : List Ac} {x : Ac} (h : x ∈ xs) : pushes f xs x.at = true := by
  rw [pushes_at]
  have : xs.any (fun y => decide (y.at = x.at)) = true := List.any_eq_true.2 ⟨x, h, by simp⟩
  simp [this]
theorem pushes_snoc (f : Rg) (xs : List Ac) (x : Ac) : pushes f (xs ++ [x]) = put (pushes f xs) x.at true := by simp [pushes]
theorem upto_put_len (f : Rg) (i : Nat) : ∀ n : Nat, (upto (put f i true) n).length ≤ (upto f n).length + (if i < n then 1 else 0)
  | 0 => by simp [upto]
  | n + 1 => by
    have ih := upto_put_len f i n
    by_cases h : n = i
    · subst h
      rw [if_neg (by omega)] at ih
      rw [upto_pos (put_same f n true), if_pos (by omega)]
      have : (upto f n).length ≤ (upto f (n + 1)).length := (upto_pre f (n + 1) n (by omega)).length_le
      simp
      omega
    · have e : (if i < n + 1 then 1 else 0) = (if i < n then 1 else 0) := by
        by_cases h2 : i < n
        · rw [if_pos h2, if_pos (by omega)]
        · rw [if_neg h2, if_neg (by omega)]
      rw [e, upto, upto, put_other f true h]
      split
      · simp only [List.length_append, List.length_singleton]; omega
      · exact ih
theorem rungs_f0 : (rungs f0).length = 0 := by decide +kernel
theorem pushes_len (xs : List Ac) : ∀ f : Rg, (rungs (pushes f xs)).length ≤ (rungs f).length + xs.length := by
  induction xs with
  | nil => intro f; simp [pushes]
  | cons x r ih =>
    intro f
    have h1 := ih (put f x.at true)
    have h2 := upto_put_len f x.at 64
    have h3 : (if x.at < 64 then 1 else 0) ≤ 1 := by split <;> omega
    rw [show pushes f (x :: r) = pushes (put f x.at true) r from rfl]
    unfold rungs at h1 ⊢
    simp only [List.length_cons]
    omega
theorem take_nthA {xs : List Ac} {k : Nat} (h : k < xs.length) : xs.take (k + 1) = xs.take k ++ [nthA xs k] := by
  rw [List.take_add_one, List.getElem?_eq_getElem h]
  simp [nthA, List.getElem?_eq_getElem h]
theorem nthA_mem {xs : List Ac} {k : Nat} (h : k < xs.length) : nthA xs k ∈ xs := by
  unfold nthA
  rw [List.getElem?_eq_getElem h]
  exact List.getElem_mem h
theorem nthA_rev {xs : List Ac} {k : Nat} (h : k < xs.length) : nthA xs.reverse k = nthA xs (xs.length - 1 - k) := by
  unfold nthA
  rw [List.getElem?_reverse h]
theorem pushes_next {f : Rg} {xs : List Ac} {k : Nat} (h : k < xs.length) : pushes f (xs.take (k + 1)) = put (pushes f (xs.take k)) (nthA xs k).at true := by rw [take_nthA h, pushes_snoc]
theorem pushes_next_rev {f : Rg} {xs : List Ac} {k : Nat} (h : k < xs.length) : pushes f (xs.reverse.take (k + 1)) = put (pushes f (xs.reverse.take k)) (nthA xs (xs.length - 1 - k)).at true := by
  rw [pushes_next (by simpa using h), nthA_rev h]

end Go.Proofs.Ythfcgedlpnbojaa
