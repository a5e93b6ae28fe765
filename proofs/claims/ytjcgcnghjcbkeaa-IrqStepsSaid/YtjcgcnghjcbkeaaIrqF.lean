/-
  The document's Parse: whose text a text is, or none's.
-/
import Derived.Test.YtjcgcnghjcbkeaaIrqE
namespace Go.Proofs.Ytjcgcnghjcbkeaa
open Go.ChangeShapes Go.WideShapes Go.ChangeAt Go.RowKit
set_option linter.unusedVariables false
attribute [local go_sem] ByteArray.getElem_eq_getElem_data

def rparseV (l : List UInt8) : Value := match parseS l with
  | some x => .tuple #[x.v, .bool true]
  | none => .tuple #[St.zero.v, .bool false]

set_option maxHeartbeats 2000000 in
theorem rparse_txt (x : St) (w : World) : Calls Try.prog 23 #[.string ⟨x.txt.toArray⟩] w fun e w' => e = .returned (.tuple #[x.v, .bool true]) ∧ Below w.heap.size w w' := by
  obtain ⟨e, l, q, a⟩ := x
  cases e <;> cases l <;> cases q <;> cases a
  all_goals
    dsimp only [St.txt]
    go_enter Try.func23, Try.ntmps23
    go_wp2
    exact bodyPost_ret (results_parse rfl _ _ w.heap.size ⟨_, _, _, _⟩ _ rfl rfl ((CB.new w _ _).alloc _)) rfl ⟨rfl, bal_two _ _ _⟩

theorem of_code {c d : UInt8} (h : (c.toNat : Int) = (d.toNat : Int)) : c = d := UInt8.toNat_inj.1 (by omega)
theorem of101 {c : UInt8} (h : ((c.toNat : Int) == 101) = true) : c = 101 := of_code (by simpa using h)
theorem of108 {c : UInt8} (h : ((c.toNat : Int) == 108) = true) : c = 108 := of_code (by simpa using h)
theorem of104 {c : UInt8} (h : ((c.toNat : Int) == 104) = true) : c = 104 := of_code (by simpa using h)
theorem of119 {c : UInt8} (h : ((c.toNat : Int) == 119) = true) : c = 119 := of_code (by simpa using h)
theorem of97 {c : UInt8} (h : ((c.toNat : Int) == 97) = true) : c = 97 := of_code (by simpa using h)
theorem ne101 {c : UInt8} (h : ¬ c = 101) : ((c.toNat : Int) != 101) = true := by
  cases e : ((c.toNat : Int) == 101)
  · simpa using e
  · exact absurd (of101 e) h
theorem ne108 {c : UInt8} (h : ¬ c = 108) : ((c.toNat : Int) != 108) = true := by
  cases e : ((c.toNat : Int) == 108)
  · simpa using e
  · exact absurd (of108 e) h
theorem lf2 {c0 c1 d1 : UInt8} (HN : Hi (parseS [c0, c1] = none)) (hd : parseS [c0, d1] ≠ none) (h1 : c1 = d1) : False := hd (h1 ▸ HN.out)
theorem lf3 {c0 c1 c2 d1 d2 : UInt8} (HN : Hi (parseS [c0, c1, c2] = none)) (hd : parseS [c0, d1, d2] ≠ none) (h1 : c1 = d1) (h2 : c2 = d2) : False := hd (h1 ▸ h2 ▸ HN.out)
theorem lf4 {c0 c1 c2 c3 d1 d2 d3 : UInt8} (HN : Hi (parseS [c0, c1, c2, c3] = none)) (hd : parseS [c0, d1, d2, d3] ≠ none) (h1 : c1 = d1) (h2 : c2 = d2) (h3 : c3 = d3) : False := hd (h1 ▸ h2 ▸ h3 ▸ HN.out)

set_option maxHeartbeats 4000000 in
theorem rparse_len1 (c0 : UInt8) (w : World) (HN : Hi (parseS ([c0]) = none)) : Calls Try.prog 23 #[.string ⟨([c0] : List UInt8).toArray⟩] w fun e w' => e = .returned (.tuple #[St.zero.v, .bool false]) ∧ Below w.heap.size w w' := by
  by_cases h0 : c0 = 101
  · subst h0
    exact absurd HN.out (by decide)
  by_cases h1 : c0 = 108
  · subst h1
    clear h0
    exact absurd HN.out (by decide)
  have q0 := ne101 h0
  have q1 := ne108 h1
  clear h0 h1
  go_enter Try.func23, Try.ntmps23
  go_wp2
  all_goals (first | (exact bodyPost_ret (results_parse rfl _ _ w.heap.size St.zero (.bool false) rfl rfl ((CB.new w _ _).alloc _)) rfl ⟨rfl, bal_two _ _ _⟩))

set_option maxHeartbeats 4000000 in
theorem rparse_len2 (c0 c1 : UInt8) (w : World) (HN : Hi (parseS ([c0, c1]) = none)) : Calls Try.prog 23 #[.string ⟨([c0, c1] : List UInt8).toArray⟩] w fun e w' => e = .returned (.tuple #[St.zero.v, .bool false]) ∧ Below w.heap.size w w' := by
  by_cases h0 : c0 = 101
  · subst h0
    go_enter Try.func23, Try.ntmps23
    go_wp2
    all_goals (first | (exfalso; refine lf2 (d1 := 104) HN (by decide) (of104 ?_) <;> assumption) | (exfalso; refine lf2 (d1 := 119) HN (by decide) (of119 ?_) <;> assumption) | (exfalso; refine lf2 (d1 := 97) HN (by decide) (of97 ?_) <;> assumption) | (exact bodyPost_ret (results_parse rfl _ _ w.heap.size St.zero (.bool false) rfl rfl ((CB.new w _ _).alloc _)) rfl ⟨rfl, bal_two _ _ _⟩))
  by_cases h1 : c0 = 108
  · subst h1
    clear h0
    go_enter Try.func23, Try.ntmps23
    go_wp2
    all_goals (first | (exfalso; refine lf2 (d1 := 104) HN (by decide) (of104 ?_) <;> assumption) | (exfalso; refine lf2 (d1 := 119) HN (by decide) (of119 ?_) <;> assumption) | (exfalso; refine lf2 (d1 := 97) HN (by decide) (of97 ?_) <;> assumption) | (exact bodyPost_ret (results_parse rfl _ _ w.heap.size St.zero (.bool false) rfl rfl ((CB.new w _ _).alloc _)) rfl ⟨rfl, bal_two _ _ _⟩))
  have q0 := ne101 h0
  have q1 := ne108 h1
  clear h0 h1
  go_enter Try.func23, Try.ntmps23
  go_wp2
  all_goals (first | (exact bodyPost_ret (results_parse rfl _ _ w.heap.size St.zero (.bool false) rfl rfl ((CB.new w _ _).alloc _)) rfl ⟨rfl, bal_two _ _ _⟩))

set_option maxHeartbeats 4000000 in
theorem rparse_len3 (c0 c1 c2 : UInt8) (w : World) (HN : Hi (parseS ([c0, c1, c2]) = none)) : Calls Try.prog 23 #[.string ⟨([c0, c1, c2] : List UInt8).toArray⟩] w fun e w' => e = .returned (.tuple #[St.zero.v, .bool false]) ∧ Below w.heap.size w w' := by
  by_cases h0 : c0 = 101
  · subst h0
    go_enter Try.func23, Try.ntmps23
    go_wp2
    all_goals (first | (exfalso; refine lf3 (d1 := 104) (d2 := 119) HN (by decide) (of104 ?_) (of119 ?_) <;> assumption) | (exfalso; refine lf3 (d1 := 104) (d2 := 97) HN (by decide) (of104 ?_) (of97 ?_) <;> assumption) | (exfalso; refine lf3 (d1 := 119) (d2 := 97) HN (by decide) (of119 ?_) (of97 ?_) <;> assumption) | (exact bodyPost_ret (results_parse rfl _ _ w.heap.size St.zero (.bool false) rfl rfl ((CB.new w _ _).alloc _)) rfl ⟨rfl, bal_two _ _ _⟩))
  by_cases h1 : c0 = 108
  · subst h1
    clear h0
    go_enter Try.func23, Try.ntmps23
    go_wp2
    all_goals (first | (exfalso; refine lf3 (d1 := 104) (d2 := 119) HN (by decide) (of104 ?_) (of119 ?_) <;> assumption) | (exfalso; refine lf3 (d1 := 104) (d2 := 97) HN (by decide) (of104 ?_) (of97 ?_) <;> assumption) | (exfalso; refine lf3 (d1 := 119) (d2 := 97) HN (by decide) (of119 ?_) (of97 ?_) <;> assumption) | (exact bodyPost_ret (results_parse rfl _ _ w.heap.size St.zero (.bool false) rfl rfl ((CB.new w _ _).alloc _)) rfl ⟨rfl, bal_two _ _ _⟩))
  have q0 := ne101 h0
  have q1 := ne108 h1
  clear h0 h1
  go_enter Try.func23, Try.ntmps23
  go_wp2
  all_goals (first | (exact bodyPost_ret (results_parse rfl _ _ w.heap.size St.zero (.bool false) rfl rfl ((CB.new w _ _).alloc _)) rfl ⟨rfl, bal_two _ _ _⟩))

set_option maxHeartbeats 4000000 in
theorem rparse_len4 (c0 c1 c2 c3 : UInt8) (w : World) (HN : Hi (parseS ([c0, c1, c2, c3]) = none)) : Calls Try.prog 23 #[.string ⟨([c0, c1, c2, c3] : List UInt8).toArray⟩] w fun e w' => e = .returned (.tuple #[St.zero.v, .bool false]) ∧ Below w.heap.size w w' := by
  by_cases h0 : c0 = 101
  · subst h0
    go_enter Try.func23, Try.ntmps23
    go_wp2
    all_goals (first | (exfalso; refine lf4 (d1 := 104) (d2 := 119) (d3 := 97) HN (by decide) (of104 ?_) (of119 ?_) (of97 ?_) <;> assumption) | (exact bodyPost_ret (results_parse rfl _ _ w.heap.size St.zero (.bool false) rfl rfl ((CB.new w _ _).alloc _)) rfl ⟨rfl, bal_two _ _ _⟩))
  by_cases h1 : c0 = 108
  · subst h1
    clear h0
    go_enter Try.func23, Try.ntmps23
    go_wp2
    all_goals (first | (exfalso; refine lf4 (d1 := 104) (d2 := 119) (d3 := 97) HN (by decide) (of104 ?_) (of119 ?_) (of97 ?_) <;> assumption) | (exact bodyPost_ret (results_parse rfl _ _ w.heap.size St.zero (.bool false) rfl rfl ((CB.new w _ _).alloc _)) rfl ⟨rfl, bal_two _ _ _⟩))
  have q0 := ne101 h0
  have q1 := ne108 h1
  clear h0 h1
  go_enter Try.func23, Try.ntmps23
  go_wp2
  all_goals (first | (exact bodyPost_ret (results_parse rfl _ _ w.heap.size St.zero (.bool false) rfl rfl ((CB.new w _ _).alloc _)) rfl ⟨rfl, bal_two _ _ _⟩))

set_option maxHeartbeats 4000000 in
theorem rparse_len5 (c0 c1 c2 c3 c4 : UInt8) (t : List UInt8) (w : World) (HN : Hi (parseS (c0 :: c1 :: c2 :: c3 :: c4 :: t) = none)) : Calls Try.prog 23 #[.string ⟨(c0 :: c1 :: c2 :: c3 :: c4 :: t : List UInt8).toArray⟩] w fun e w' => e = .returned (.tuple #[St.zero.v, .bool false]) ∧ Below w.heap.size w w' := by
  by_cases h0 : c0 = 101
  · subst h0
    go_enter Try.func23, Try.ntmps23
    go_wp2
    all_goals (first | (exact bodyPost_ret (results_parse rfl _ _ w.heap.size St.zero (.bool false) rfl rfl ((CB.new w _ _).alloc _)) rfl ⟨rfl, bal_two _ _ _⟩))
  by_cases h1 : c0 = 108
  · subst h1
    clear h0
    go_enter Try.func23, Try.ntmps23
    go_wp2
    all_goals (first | (exact bodyPost_ret (results_parse rfl _ _ w.heap.size St.zero (.bool false) rfl rfl ((CB.new w _ _).alloc _)) rfl ⟨rfl, bal_two _ _ _⟩))
  have q0 := ne101 h0
  have q1 := ne108 h1
  clear h0 h1
  go_enter Try.func23, Try.ntmps23
  go_wp2
  all_goals (first | (exact bodyPost_ret (results_parse rfl _ _ w.heap.size St.zero (.bool false) rfl rfl ((CB.new w _ _).alloc _)) rfl ⟨rfl, bal_two _ _ _⟩))

theorem rparse_none (l : List UInt8) (w : World) (hn : parseS l = none) : Calls Try.prog 23 #[.string ⟨l.toArray⟩] w fun e w' => e = .returned (.tuple #[St.zero.v, .bool false]) ∧ Below w.heap.size w w' := by
  match l, hn with
  | [], HN =>
    go_enter Try.func23, Try.ntmps23
    go_wp2
    exact bodyPost_ret (results_parse rfl _ _ w.heap.size St.zero _ rfl rfl ((CB.new w _ _).alloc _)) rfl ⟨rfl, bal_two _ _ _⟩
  | [c0], hn => exact rparse_len1 c0 w (hi hn)
  | [c0, c1], hn => exact rparse_len2 c0 c1 w (hi hn)
  | [c0, c1, c2], hn => exact rparse_len3 c0 c1 c2 w (hi hn)
  | [c0, c1, c2, c3], hn => exact rparse_len4 c0 c1 c2 c3 w (hi hn)
  | c0 :: c1 :: c2 :: c3 :: c4 :: t, hn => exact rparse_len5 c0 c1 c2 c3 c4 t w (hi hn)

theorem rparse_any (s : ByteArray) (w : World) : Calls Try.prog 23 #[.string s] w fun e w' => e = .returned (rparseV s.data.toList) ∧ Below w.heap.size w w' := by
  obtain ⟨⟨l⟩⟩ := s
  show Calls Try.prog 23 #[.string ⟨l.toArray⟩] w fun e w' => e = .returned (rparseV l) ∧ Below w.heap.size w w'
  unfold rparseV
  cases h : parseS l with
  | none => exact rparse_none l w h
  | some x => rw [parseS_some h]; exact rparse_txt x w

end Go.Proofs.Ytjcgcnghjcbkeaa
