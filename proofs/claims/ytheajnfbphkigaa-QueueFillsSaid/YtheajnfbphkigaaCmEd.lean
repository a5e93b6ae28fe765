/-
  The document's Encode at every command (roads joined); its Print.
-/
import Derived.Test.YtheajnfbphkigaaCmEc
namespace Go.Proofs.Ytheajnfbphkigaa
open Go.ChangeShapes Go.WideShapes Go.ChangeAt Go.RowKit Go.Shelf
set_option linter.unusedVariables false
set_option linter.unusedSimpArgs false

theorem validC_unknown {c : Cm} (h : known c.op = false) : validC c = false := by simp [validC, h]
/-- The document's Encode at every command. -/
theorem renc_any (c : Cm) (hF : c.Fair) (w : World) : Calls Try.prog 23 #[c.v] w fun e w' => e = .returned (.tuple #[Wv (encW c), .bool (validC c)]) ∧ Below w.heap.size w w' := by
  have no : ∀ b, b = false ∨ known c.op = false → validC c = false → (∀ W, Calls Try.prog 47 #[c.v] W fun e w' => (∃ v, e = .returned (.tuple #[v, .bool b])) ∧ Below W.heap.size W w') →
      Calls Try.prog 23 #[c.v] w fun e w' => e = .returned (.tuple #[Wv (encW c), .bool (validC c)]) ∧ Below w.heap.size w w' := fun b hb hv HF => by
    rw [encW_no hv, hv]
    exact renc_no c b hb HF w
  by_cases hk : known c.op = true
  · by_cases h8 : c.op = 8 ∧ (c.addr < 0 ∨ c.addr % 256 ≠ 0)
    · refine no false (.inl rfl) (wrong8 hF h8.1 h8.2) (fun W => ?_)
      obtain ⟨op, dev, ev, num, coll, tgt, bit, addr, valid⟩ := c
      obtain ⟨h8, ha⟩ := h8
      dsimp only at h8 ha
      subst h8
      by_cases h0 : addr < 0
      · exact (fields_8a dev ev num coll tgt bit addr valid h0 W).mono fun e w' h => ⟨⟨_, h.1⟩, h.2⟩
      · exact (fields_8b dev ev num coll tgt bit addr valid (by omega) (by omega) W).mono fun e w' h => ⟨⟨_, h.1⟩, h.2⟩
    · have HF := fun W => fields_known c hk hF (fun e => by omega) W
      cases hok : okF c
      · refine no false (.inl rfl) (by rw [validC_of hk, hok, Bool.and_false]) (fun W => ?_)
        refine (HF W).mono fun e w' h => ?_
        unfold FdPost at h
        rw [hok] at h
        obtain ⟨⟨v, h1, _⟩, h2⟩ := h
        exact ⟨⟨v, h1⟩, h2⟩
      · exact renc_loop c hk hok HF w
  · have hk : known c.op = false := by simpa using hk
    have hv := validC_unknown hk
    obtain ⟨op, dev, ev, num, coll, tgt, bit, addr, valid⟩ := c
    exact no (eqCm ⟨0, 0, ev, num, coll, tgt, bit, addr, valid⟩ ⟨0, 0, 0, 0, 0, 0, 0, 0, false⟩) (.inr hk) hv (fun W => fields_no op dev ev num coll tgt bit addr valid hk W)


end Go.Proofs.Ytheajnfbphkigaa
