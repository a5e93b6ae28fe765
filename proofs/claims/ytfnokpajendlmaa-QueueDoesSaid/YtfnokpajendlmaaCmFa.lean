/-
  The document's Fields at every known op, in one law.
-/
import Derived.Test.YtfnokpajendlmaaCmY
namespace Go.Proofs.Ytfnokpajendlmaa
open Go.ChangeShapes Go.WideShapes Go.ChangeAt Go.RowKit
set_option linter.unusedVariables false
set_option linter.unusedSimpArgs false

def fdX (c : Cm) : List Value := (fieldsL c.op).flatMap fun f => fc (pw f) (pf f) (pb f) (numC c f)
/-- The fields that the op doesn't use are 0. -/
def okF (c : Cm) : Bool := decide (joinC c.op (ownF (numC c) (fieldsL c.op)) = c)
theorem wrap64_id {n : Int} (h : i64B n) : RowKit.wrap64 n = n := by unfold i64B at h; unfold RowKit.wrap64; omega
theorem wrap64_zero : RowKit.wrap64 0 = 0 := by unfold RowKit.wrap64; omega
def FdPost (c : Cm) (w : World) (e : Ending) (w' : World) : Prop :=
  (∃ v, e = .returned (.tuple #[v, .bool (okF c)]) ∧ w'.ownsRow (w.heap.size + 2) 115 4 v (fieldsL c.op).length (fdX c)) ∧ Below w.heap.size w w'
theorem fd_post {c : Cm} {w w' : World} {e : Ending} {b : Bool} {n : Nat} {xs : List Value} (hb : b = okF c) (hn : n = (fieldsL c.op).length) (hx : xs = fdX c)
    (h : (∃ v, e = .returned (.tuple #[v, .bool b]) ∧ w'.ownsRow (w.heap.size + 2) 115 4 v n xs) ∧ Below w.heap.size w w') : FdPost c w e w' := by
  subst hb hn hx; exact h

theorem fields_known (c : Cm) (hk : known c.op = true) (hF : c.Fair) (h8 : c.op = 8 → 0 ≤ c.addr ∧ c.addr % 256 = 0) (w : World) : Calls Try.prog 65 #[c.v] w (FdPost c w) := by
  obtain ⟨op, dev, ev, num, coll, tgt, bit, addr, valid⟩ := c
  have hnum := wrap64_id hF.num
  have haddr := wrap64_id hF.addr
  dsimp only at hnum haddr hk h8
  rcases known_cases hk with rfl | rfl | rfl | rfl | rfl | rfl | rfl | rfl | rfl | rfl | rfl | rfl
  · refine (fields_1 dev ev num coll tgt bit addr valid w).mono fun e w' h => ?_
    refine fd_post (c := ⟨1, dev, ev, num, coll, tgt, bit, addr, valid⟩) ?_ rfl ?_ h
    · rw [eqCm_iff]
      unfold okF
      rw [decide_eq_decide]
      cases valid <;> simp [joinC, ownF, numC, fieldsL, wrap64_zero, hnum, haddr] <;> (try constructor) <;> (try intros) <;> (try simp_all) <;> (try omega)
    · rfl
  · refine (fields_3 dev ev num coll tgt bit addr valid w).mono fun e w' h => ?_
    refine fd_post (c := ⟨3, dev, ev, num, coll, tgt, bit, addr, valid⟩) ?_ rfl ?_ h
    · rw [eqCm_iff]
      unfold okF
      rw [decide_eq_decide]
      cases valid <;> simp [joinC, ownF, numC, fieldsL, wrap64_zero, hnum, haddr] <;> (try constructor) <;> (try intros) <;> (try simp_all) <;> (try omega)
    · rfl
  · refine (fields_4 dev ev num coll tgt bit addr valid w).mono fun e w' h => ?_
    refine fd_post (c := ⟨4, dev, ev, num, coll, tgt, bit, addr, valid⟩) ?_ rfl ?_ h
    · rw [eqCm_iff]
      unfold okF
      rw [decide_eq_decide]
      cases valid <;> simp [joinC, ownF, numC, fieldsL, wrap64_zero, hnum, haddr] <;> (try constructor) <;> (try intros) <;> (try simp_all) <;> (try omega)
    · rfl
  · refine (fields_5 dev ev num coll tgt bit addr valid w).mono fun e w' h => ?_
    refine fd_post (c := ⟨5, dev, ev, num, coll, tgt, bit, addr, valid⟩) ?_ rfl ?_ h
    · rw [eqCm_iff]
      unfold okF
      rw [decide_eq_decide]
      cases valid <;> simp [joinC, ownF, numC, fieldsL, wrap64_zero, hnum, haddr] <;> (try constructor) <;> (try intros) <;> (try simp_all) <;> (try omega)
    · rfl
  · have ha := h8 rfl
    have he : addr.tdiv 256 * 256 = addr := by rw [Int.tdiv_eq_ediv_of_nonneg ha.1]; omega
    have hq : addr.tdiv 256 = addr / 256 := Int.tdiv_eq_ediv_of_nonneg ha.1
    refine (fields_8 dev ev num coll tgt bit addr valid (h8 rfl).1 (h8 rfl).2 hF.addr.2 _ rfl w).mono fun e w' h => ?_
    refine fd_post (c := ⟨8, dev, ev, num, coll, tgt, bit, addr, valid⟩) ?_ rfl ?_ h
    · rw [eqCm_iff]
      unfold okF
      rw [decide_eq_decide]
      cases valid <;> simp [joinC, ownF, numC, fieldsL, wrap64_zero, hnum, haddr, he] <;> (try constructor) <;> (try intros) <;> (try simp_all) <;> (try omega)
    · simp only [fdX, fieldsL, numC, hq]; rfl
  · refine (fields_9 dev ev num coll tgt bit addr valid _ rfl w).mono fun e w' h => ?_
    refine fd_post (c := ⟨9, dev, ev, num, coll, tgt, bit, addr, valid⟩) ?_ rfl ?_ h
    · rw [eqCm_iff]
      unfold okF
      rw [decide_eq_decide]
      cases valid <;> simp [joinC, ownF, numC, fieldsL, wrap64_zero, hnum, haddr] <;> (try constructor) <;> (try intros) <;> (try simp_all) <;> (try omega)
    · rfl
  · refine (fields_10 dev ev num coll tgt bit addr valid w).mono fun e w' h => ?_
    refine fd_post (c := ⟨10, dev, ev, num, coll, tgt, bit, addr, valid⟩) ?_ rfl ?_ h
    · rw [eqCm_iff]
      unfold okF
      rw [decide_eq_decide]
      cases valid <;> simp [joinC, ownF, numC, fieldsL, wrap64_zero, hnum, haddr] <;> (try constructor) <;> (try intros) <;> (try simp_all) <;> (try omega)
    · rfl
  · refine (fields_11 dev ev num coll tgt bit addr valid w).mono fun e w' h => ?_
    refine fd_post (c := ⟨11, dev, ev, num, coll, tgt, bit, addr, valid⟩) ?_ rfl ?_ h
    · rw [eqCm_iff]
      unfold okF
      rw [decide_eq_decide]
      cases valid <;> simp [joinC, ownF, numC, fieldsL, wrap64_zero, hnum, haddr] <;> (try constructor) <;> (try intros) <;> (try simp_all) <;> (try omega)
    · rfl
  · refine (fields_12 dev ev num coll tgt bit addr valid w).mono fun e w' h => ?_
    refine fd_post (c := ⟨12, dev, ev, num, coll, tgt, bit, addr, valid⟩) ?_ rfl ?_ h
    · rw [eqCm_iff]
      unfold okF
      rw [decide_eq_decide]
      cases valid <;> simp [joinC, ownF, numC, fieldsL, wrap64_zero, hnum, haddr] <;> (try constructor) <;> (try intros) <;> (try simp_all) <;> (try omega)
    · rfl
  · refine (fields_13 dev ev num coll tgt bit addr valid w).mono fun e w' h => ?_
    refine fd_post (c := ⟨13, dev, ev, num, coll, tgt, bit, addr, valid⟩) ?_ rfl ?_ h
    · rw [eqCm_iff]
      unfold okF
      rw [decide_eq_decide]
      cases valid <;> simp [joinC, ownF, numC, fieldsL, wrap64_zero, hnum, haddr] <;> (try constructor) <;> (try intros) <;> (try simp_all) <;> (try omega)
    · rfl
  · refine (fields_14 dev ev num coll tgt bit addr valid w).mono fun e w' h => ?_
    refine fd_post (c := ⟨14, dev, ev, num, coll, tgt, bit, addr, valid⟩) ?_ rfl ?_ h
    · rw [eqCm_iff]
      unfold okF
      rw [decide_eq_decide]
      cases valid <;> simp [joinC, ownF, numC, fieldsL, wrap64_zero, hnum, haddr] <;> (try constructor) <;> (try intros) <;> (try simp_all) <;> (try omega)
    · rfl
  · refine (fields_15 dev ev num coll tgt bit addr valid w).mono fun e w' h => ?_
    refine fd_post (c := ⟨15, dev, ev, num, coll, tgt, bit, addr, valid⟩) ?_ rfl ?_ h
    · rw [eqCm_iff]
      unfold okF
      rw [decide_eq_decide]
      cases valid <;> simp [joinC, ownF, numC, fieldsL, wrap64_zero, hnum, haddr] <;> (try constructor) <;> (try intros) <;> (try simp_all) <;> (try omega)
    · rfl

end Go.Proofs.Ytfnokpajendlmaa
