/-
  The document's Store and Load, plain: where a command may stand, what stands there behind them.
-/
import Derived.Test.YtfnokpajendlmaaCmU
import Derived.Test.YtfnokpajendlmaaMjC
namespace Go.Proofs.Ytfnokpajendlmaa
open Go.ChangeShapes Go.WideShapes Go.ChangeAt Go.RowKit
set_option linter.unusedVariables false
set_option linter.unusedSimpArgs false

theorem ent_alt {n : Nat} {a s off : Int} (hn : n ≤ 131072) : entOk n a s off = (holdsB n a s && (decide (off.tmod 8 = 0) && (decide (0 ≤ off) && decide (off ≤ s - 32)))) := by
  rw [Bool.eq_iff_iff]
  simp only [entOk, partOk, fairB, holdsB, Bool.and_eq_true, decide_eq_true_eq]
  omega
theorem ent_out {n : Nat} {a s off : Int} (hn : n ≤ 131072) (h : entOk n a s off = true) : ∃ A S o : Nat, a = A ∧ s = S ∧ off = o ∧ A + S ≤ n ∧ o % 8 = 0 ∧ o + 32 ≤ S := by
  rw [ent_alt hn] at h
  simp only [holdsB, Bool.and_eq_true, decide_eq_true_eq] at h
  obtain ⟨⟨h1, h2, h3⟩, h4, h5, h6⟩ := h
  rw [Int.tmod_eq_emod_of_nonneg h5] at h4
  exact ⟨a.toNat, s.toNat, off.toNat, by omega, by omega, by omega, by omega, by omega, by omega⟩
theorem acc_at {n A S o k : Nat} (hn : n ≤ 131072) (h : A + S ≤ n) (ho : o % 8 = 0) (hs : o + 32 ≤ S) (hk : k < 4) : accE n (A : Int) (S : Int) ((o : Int) + 8 * (k : Int)) 8 = 0 := by
  have hb : holdsB n (A : Int) (S : Int) = true := by simp [holdsB]; omega
  rw [accE, if_pos hb]
  refine mayE0 (.inr (.inr rfl)) ?_ ⟨by omega, ?_⟩
  · rw [Int.tmod_eq_emod_of_nonneg (by omega)]
    have : ((o : Int) + 8 * (k : Int)) % 8 = 0 := by omega
    simp [this]
  · unfold RowKit.wrap64; omega
/-- The bytes behind k words that the document writes. -/
def rstB (bs : List Nat) (a s off : Int) (ws : Ws) : Nat → List Nat
  | 0 => bs
  | k + 1 => wrB (rstB bs a s off ws k) a s (off + 8 * (k : Int)) 8 (ws k)
theorem rst_eq {bs : List Nat} {a s off : Int} {ws : Ws} (hl : bs.length ≤ 131072) (h : entOk bs.length a s off = true) : ∀ k, k ≤ 4 → rstB bs a s off ws k = stB bs (a + off) ws k
  | 0, _ => rfl
  | k + 1, hk => by
    have ih := rst_eq (ws := ws) hl h k (by omega)
    obtain ⟨A, S, o, rfl, rfl, rfl, h1, h2, h3⟩ := ent_out hl h
    have hlen : (stB bs ((A : Int) + (o : Int)) ws k).length = bs.length := stB_len hl k
    rw [rstB, stB, ih, wrB, wrB, hlen, acc_at hl h1 h2 h3 (by omega), show (A : Int) + (o : Int) = ((A + o : Nat) : Int) from by omega, acc8 (by omega) (by omega)]
    rw [if_pos rfl, if_pos rfl]
    congr 1
    omega
theorem rrd_eq {bs : List Nat} {a s off : Int} (hl : bs.length ≤ 131072) (h : entOk bs.length a s off = true) {k : Nat} (hk : k < 4) : rdE bs a s (off + 8 * (k : Int)) 8 = ldW bs (a + off) k ∧ accE bs.length a s (off + 8 * (k : Int)) 8 = 0 := by
  obtain ⟨A, S, o, rfl, rfl, rfl, h1, h2, h3⟩ := ent_out hl h
  have e := acc_at hl h1 h2 h3 hk
  refine ⟨?_, e⟩
  rw [ldW, rdE, rdE, e, show (A : Int) + (o : Int) = ((A + o : Nat) : Int) from by omega, acc8 (by omega) hk, if_pos rfl, if_pos rfl]
  congr 2
  omega
/-- Whatever the four reads let in may stand there. -/
theorem ent_of_acc {n : Nat} {a s off : Int} (hn : n ≤ 131072) (ho : i64B off) (h0 : accE n a s (RowKit.wrap64 (off + 0)) 8 = 0) (h3 : accE n a s (RowKit.wrap64 (off + 24)) 8 = 0) : entOk n a s off = true := by
  rw [ent_alt hn]
  unfold accE at h0 h3
  cases hb : holdsB n a s
  · rw [hb] at h0; simp at h0
  · rw [hb, if_pos rfl] at h0 h3
    have hb2 := hb
    simp only [holdsB, decide_eq_true_eq] at hb2
    unfold i64B at ho
    obtain ⟨o0, m0, e0, e0', _, e0m, e0s⟩ := mayE_out (by omega) (by omega) h0
    obtain ⟨o3, m3, e3, e3', _, e3m, e3s⟩ := mayE_out (by omega) (by omega) h3
    obtain rfl : m0 = 8 := by omega
    obtain rfl : m3 = 8 := by omega
    have w0 : RowKit.wrap64 (off + 0) = off := by unfold RowKit.wrap64; omega
    rw [w0] at e0
    subst e0
    have w3 : RowKit.wrap64 ((o0 : Int) + 24) = (o0 : Int) + 24 := by unfold RowKit.wrap64; omega
    rw [w3] at e3
    rw [Int.tmod_eq_emod_of_nonneg (by omega)]
    simp only [Bool.true_and, Bool.and_eq_true, decide_eq_true_eq]
    omega

end Go.Proofs.Ytfnokpajendlmaa
