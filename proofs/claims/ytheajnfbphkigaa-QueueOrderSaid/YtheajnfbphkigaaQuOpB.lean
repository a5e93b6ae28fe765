/-
  Arguments opened: how long a slice of commands may be; a slice of bools.
-/
import Derived.Test.YtheajnfbphkigaaQuOpen
import Derived.Test.YtheajnfbphkigaaQuV
namespace Go.Proofs.Ytheajnfbphkigaa
open Go.ChangeShapes Go.WideShapes Go.ChangeAt Go.RowKit Go.Joins Go.Deep
set_option linter.unusedVariables false
set_option linter.unusedSimpArgs false
set_option maxRecDepth 100000

theorem bytesCmd : Try.prog.bytesOf 36 = 72 := by kernel_rfl
section
variable {H : Type} {enc : TypeId × Value → H} {w : World} {base : Nat} {spare : Nat → Bool} {held : Bool}
theorem cmds_len {v : Value} {d : DataW H} {p : List MemPlace} (h : DataW.Trod enc Try.prog w base spare held 50 v d p) {a : Option Addr} {n cap : Nat} (e : v = .slice a n cap) (hs : ∀ m ∈ d.weights Try.prog 50, m ≤ reachBytes) : n * 72 ≤ 140737488355328 := by
  subst e
  obtain ⟨fuel, hf⟩ := h
  rcases open_slice Try.underlying50 hf with ⟨h0, _⟩ | ⟨a', len', cap', m, k, D, Pl, h1, hb, hl, hm, hmm, hx, hall⟩
  · simp [Value.cells] at h0
    obtain ⟨rfl, rfl, rfl⟩ := h0
    omega
  · simp [Value.cells] at h1
    obtain ⟨rfl, rfl, rfl⟩ := h1
    have hle : n ≤ m := by rw [hmm]; split <;> omega
    have ed : d = .slice ((List.range n).map D) ((List.range (m - n)).map fun j => D (n + j)) := (Prod.mk.inj hx).1
    have h2 : (n + (m - n)) * 72 ≤ reachBytes := by
      refine hs _ ?_
      rw [ed]
      simp [DataW.weights, Try.underlying50, bytesCmd]
    have : reachBytes ≤ 140737488355328 := by decide
    omega
theorem open_bools {r : Reach} {b0 : Nat} {v : Value} {d : DataW H} {p : List MemPlace} (hv : Value.okWide Try.prog w r b0 51 v) (h : DataW.Trod enc Try.prog w base spare held 51 v d p) :
    ∃ (a : Option Addr) (cap b off : Nat) (ts : List Bool), v = .slice a ts.length cap ∧ BoolsAt w a b off ts := by
  obtain ⟨a, len, cap, rfl⟩ := okWide_slice Try.underlying51 hv
  obtain ⟨fuel, hf⟩ := h
  rcases open_slice Try.underlying51 hf with ⟨h0, _⟩ | ⟨a', len', cap', m, n, D, Pl, h1, hb, hl, hm, hmm, hx, hall⟩
  · simp [Value.cells] at h0
    obtain ⟨rfl, rfl, rfl⟩ := h0
    exact ⟨none, 0, 0, 0, [], rfl, by simp, fun h => absurd rfl h, fun h => absurd rfl h, fun j c hc => by simp at hc⟩
  · simp [Value.cells] at h1
    obtain ⟨rfl, rfl, rfl⟩ := h1
    have hle : len ≤ m := by rw [hmm]; split <;> omega
    have each : ∀ i, i < m → ∃ t : Bool, w.cell? (a'.add i) = some (.bool t) := by
      intro i hi
      obtain ⟨cs', h2, h3⟩ := hall i hi
      rw [cellsB] at h2
      obtain ⟨_, hlen, hcell⟩ := World.cells?_some h2
      match cs', hlen with
      | [v0], _ =>
        obtain ⟨t, e0, _⟩ := DataW.trod_bool underB (show DataW.trod enc Try.prog w base spare held _ 4 [v0] = some _ from h3)
        simp only [List.cons.injEq, and_true] at e0
        have := hcell 0 (by omega)
        rw [Go.Deep.add_add] at this
        refine ⟨t, ?_⟩
        rw [show i = i * 1 + 0 by omega, this, ← e0]
        rfl
    obtain ⟨q, hq⟩ := choose_lt each
    by_cases hz : len = 0
    · subst hz
      exact ⟨some a', cap, 0, 0, [], rfl, by simp, fun h => absurd rfl h, fun h => absurd rfl h, fun j c hc => by simp at hc⟩
    obtain ⟨b, off, spot⟩ := a'
    cases spot with
    | some sp =>
      exfalso
      have := hq 0 (by omega)
      clear hall hq each hf
      simp [World.cell?, Addr.add] at this
      split at this <;> simp_all
    | none =>
      have hin : ∀ j, j < m → w.cell? ⟨b, off + j, none⟩ = some (.bool (q j)) := fun j hj => by
        have := hq j hj
        rwa [add_mid_] at this
      refine ⟨some ⟨b, off, none⟩, cap, b, off, (List.range len).map q, by simp, by simp; unfold maxLen at hm; omega, fun _ => ?_, fun _ => rfl, fun j c hc => ?_⟩
      · exact World.block_lt_of_cell? w _ (hin 0 (by omega))
      · have hj : j < len := by
          have := (List.getElem?_eq_some_iff.1 hc).1
          simpa using this
        rw [List.getElem?_map, List.getElem?_range hj] at hc
        simp only [Option.map_some, Option.some.injEq] at hc
        rw [← hc]
        exact hin j (by omega)
end

end Go.Proofs.Ytheajnfbphkigaa
