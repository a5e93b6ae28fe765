/-
  The document's has, Known, one, Name at every call.
-/
import Derived.Test.YtfnokpajendlmaaMjD
namespace Go.Proofs.Ytfnokpajendlmaa
open Go.ChangeShapes Go.WideShapes Go.ChangeAt Go.RowKit
set_option linter.unusedVariables false
set_option linter.unusedSimpArgs false

def opCells (l : List Int) : Array Value := (l.map fun x => Value.int .i64 x).toArray
theorem opCells_at {l : List Int} {k : Nat} {x : Int} (h : l[k]? = some x) : (opCells l)[k]? = some (.int .i64 x) := by
  simp [opCells, h]

set_option maxRecDepth 100000 in
set_option maxHeartbeats 2000000 in
theorem has_any (op : Int) (l : List Int) (b n : Nat) (t : TypeId) (w : World) (h : CB w b t (opCells l)) (hn : n = l.length) (hl : n ≤ 12) :
    Calls Try.prog 76 #[.int .i64 op, .slice (some ⟨b, 0, none⟩) n n] w fun e w' => e = .returned (.bool (decide (op ∈ l))) ∧ w' = w := by
  have HC := hi (fun (k : Nat) (x : Int) (hx : l[k]? = some x) => (h.cell k).trans (opCells_at hx))
  obtain ⟨r, hr⟩ : ∃ r, decide (op ∈ l) = r := ⟨_, rfl⟩
  have HR := hi hr
  rw [hr]
  clear h hr
  go_enter Try.func76, Try.ntmps76
  go_wp2
  go_loopw [5] (fun i wr => ∃ k : Nat, i = .int .i64 k ∧ wr = w ∧ Hi (k ≤ n ∧ ∀ j, j < k → l[j]? ≠ some op)) (fun i _ => n - (intOf i).toNat)
  case atStart => exact ⟨0, rfl, rfl, hi ⟨Nat.zero_le _, fun j h => absurd h (by omega)⟩⟩
  case round =>
    obtain ⟨k, rfl, rfl, HJ⟩ := hrel
    have hk := HJ.out.1
    by_cases hlt : k < n
    · have hx : l[k]? = some l[k] := List.getElem?_eq_getElem (by omega)
      obtain ⟨x, hxx⟩ : ∃ x, l[k]? = some x := ⟨_, hx⟩
      have c0 := HC.out k x hxx
      have HX := hi hxx
      clear hx hxx
      by_cases he : x = op
      · subst he
        have hm : x ∈ l := List.mem_of_getElem? HX.out
        have hrt : r = true := by rw [← HR.out]; simpa using hm
        subst hrt
        clear hm
        go_wp2
        go_ret
        exact ⟨rfl, rfl⟩
      · have he2 : (x == op) = false := by simpa using he
        go_wp2
        go_roundw
        case rel =>
          refine ⟨k + 1, by go_num, trivial, hi ⟨hlt, fun j hj => ?_⟩⟩
          by_cases e : j = k
          · subst e; rw [HX.out]; simpa using he
          · exact HJ.out.2 j (by omega)
        case measure => simp [intOf]; omega
    · have e : k = n := by omega
      subst e
      have hm : decide (op ∈ l) = false := by
        rw [decide_eq_false_iff_not]
        intro hm
        obtain ⟨j, hj⟩ := List.getElem?_of_mem hm
        exact HJ.out.2 j (by have := (List.getElem?_eq_some_iff.1 hj).1; omega) hj
      have hrf : r = false := by rw [← HR.out]; exact hm
      subst hrf
      clear hm
      go_wp2
      go_ret
      exact ⟨rfl, rfl⟩

theorem dknown_any (op : Int) (w : World) : Calls Try.prog 66 #[.int .i64 op] w fun e w' => e = .returned (.bool (known op)) ∧ Below w.heap.size w w' := by
  have HH := hi (fun b t W (h : CB W b t #[.int .i64 1, .int .i64 3, .int .i64 4, .int .i64 5, .int .i64 8, .int .i64 9, .int .i64 10, .int .i64 11, .int .i64 12, .int .i64 13, .int .i64 14, .int .i64 15]) => has_any op [1, 3, 4, 5, 8, 9, 10, 11, 12, 13, 14, 15] b 12 t W h rfl (by decide))
  have hk : decide (op ∈ [1, 3, 4, 5, 8, 9, 10, 11, 12, 13, 14, 15]) = known op := by
    rw [Bool.eq_iff_iff]
    simp [known]
    omega
  rw [hk] at HH
  clear hk
  go_enter Try.func66, Try.ntmps66
  go_wp2_with (go_at_call 76; ((with_reducible refine (HH.out _ _ _ (CB.new _ _ _)).mono ?_); rintro e w1 ⟨rfl, rfl⟩))
  go_ret
  exact ⟨rfl, bal _ _⟩
theorem one_any (b : Bool) (w : World) : Calls Try.prog 77 #[.bool b] w fun e w' => e = .returned (.int .i64 (if b = true then 1 else 0)) ∧ w' = w := by
  cases b
  · go_enter Try.func77, Try.ntmps77
    go_wp2
    go_ret
    exact ⟨rfl, rfl⟩
  · go_enter Try.func77, Try.ntmps77
    go_wp2
    go_ret
    exact ⟨rfl, rfl⟩

end Go.Proofs.Ytfnokpajendlmaa
