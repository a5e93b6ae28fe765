/-
  crierref01.Same and crierref01.Has at every two slices of ints (an int) within the reach: whether they hold the same numbers; whether one is among them.
-/
import Derived.Test.YtobhdjepfhbgaaaDoorRows
import Derived.WalkKit
import Derived.ProofKit
import Derived.Lib.Hide
import Derived.BigQuiet
import Derived.Deep.QuietTactic
namespace Go.Proofs.YtobhdjepfhbgaaaDoor
open Go.ChangeShapes Go.WideShapes Go.ChangeAt Go.RowKit
set_option linter.unusedVariables false

/-- The slice value v holds the ints xs. -/
def IntsAt (W : World) (v : Value) (xs : List Int) : Prop :=
  ∃ (a : Option Addr) (cap : Nat), v = .slice a xs.length cap ∧ (xs.length ≤ cap ∧ cap ≤ maxLen) ∧ (xs ≠ [] → ∃ b off : Nat, a = some ⟨b, off, none⟩ ∧ ∀ j, j < xs.length → W.cell? ⟨b, off + j, none⟩ = some (.int .i64 (xs[j]?.getD 0)))

theorem intsAt_row {W : World} {base : Nat} {v : Value} {xs : List Int} (h : W.ownsRow base 3 1 v xs.length (xs.map (Value.int .i64))) : IntsAt W v xs := by
  rcases h.2 with ⟨rfl, h0⟩ | ⟨g, cap, cur, rfl, hb, hg, h1, h2, h3, h4⟩
  · exact ⟨none, 0, by rw [h0], ⟨by omega, by unfold maxLen; omega⟩, fun hx => absurd (List.length_eq_zero_iff.1 h0) hx⟩
  · refine ⟨some ⟨g, 0, none⟩, cap, rfl, ⟨h1, h2⟩, fun _ => ⟨g, 0, rfl, fun j hj => ?_⟩⟩
    have hc : cur.toList[j]? = some (.int .i64 (xs[j]?.getD 0)) := by
      have h5 : (cur.toList.take (xs.length * 1))[j]? = (xs.map (Value.int .i64))[j]? := by rw [h4]
      rw [List.getElem?_take_of_lt (by omega)] at h5
      rw [h5]
      simp [hj]
    simp only [World.cell?, hg]
    simpa using hc

theorem list_ne {xs ys : List Int} (hl : xs.length = ys.length) (hne : xs ≠ ys) : ¬ ∀ j, j < xs.length → xs[j]?.getD 0 = ys[j]?.getD 0 := fun h => hne (by
  apply List.ext_getElem hl
  intro i h1 h2
  have := h i h1
  simpa [h1, h2] using this)

def Upto (xs ys : List Int) (k : Nat) : Prop := ∀ j, j < k → xs[j]?.getD 0 = ys[j]?.getD 0
theorem Upto.zero (xs ys : List Int) : Upto xs ys 0 := fun j h => by omega
theorem Upto.succ {xs ys : List Int} {k : Nat} (h : Upto xs ys k) (e : xs[k]?.getD 0 = ys[k]?.getD 0) : Upto xs ys (k + 1) := fun j hj => by
  by_cases x : j = k
  · subst x; exact e
  · exact h j (by omega)

def sameB (xs ys : List Int) : Bool := decide (xs = ys)

theorem sameB_upto {xs ys : List Int} (hl : xs.length = ys.length) (h : Upto xs ys xs.length) : sameB xs ys = true := by
  by_cases e : xs = ys
  · simp [sameB, e]
  · exact absurd h (list_ne hl e)
theorem sameB_at {xs ys : List Int} {k : Nat} (h : xs[k]?.getD 0 ≠ ys[k]?.getD 0) : sameB xs ys = false := by
  have : xs ≠ ys := fun e => h (by rw [e])
  simp [sameB, this]
theorem sameB_len {xs ys : List Int} (h : xs.length ≠ ys.length) : sameB xs ys = false := by
  have : xs ≠ ys := fun e => h (by rw [e])
  simp [sameB, this]

set_option maxHeartbeats 1000000 in
theorem same_any (xs ys : List Int) (va vb : Value) (w : World) (ha : IntsAt w va xs) (hb : IntsAt w vb ys) (hx : xs.length ≤ 9223372036854775806) (hy : ys.length ≤ 9223372036854775806) :
    Calls Tryd.prog 40 #[va, vb] w fun e w' => e = .returned (.bool (sameB xs ys)) ∧ ∃ m, w' = w.drewN m := by
  obtain ⟨a, cap, rfl, _, ha⟩ := ha
  obtain ⟨b, cap2, rfl, _, hb⟩ := hb
  by_cases hl : xs.length = ys.length
  · have HL := Lib.hid hl
    rw [← hl]
    clear hl hy
    go_enter Tryd.func40, Tryd.ntmps40
    go_wp2
    go_loopw [5] (fun i wr => ∃ k m : Nat, k ≤ xs.length ∧ i = .int .i64 k ∧ wr = w.drewN m ∧ Upto xs ys k) (fun i _ => xs.length - (intOf i).toNat)
    case atStart => exact ⟨0, 0, Nat.zero_le _, rfl, rfl, Upto.zero _ _⟩
    case round =>
      obtain ⟨k, m, hk, rfl, rfl, hu⟩ := hrel
      by_cases hlt : k < xs.length
      · have hne : xs ≠ [] := fun e => by simp [e] at hlt
        have hne2 : ys ≠ [] := fun e => by have := HL.out; simp [e] at this; simp [this] at hlt
        obtain ⟨b1, o1, rfl, h1⟩ := ha hne
        obtain ⟨b2, o2, rfl, h2⟩ := hb hne2
        have hc1 := h1 k hlt
        have hc2 := h2 k (by rw [← HL.out]; exact hlt)
        have HU := Lib.hid hu
        clear h1 h2 ha hb hne hne2 hu
        go_wp2
        go_quiet (fail)
        go_wp2
        · have hq : (xs[k] != ys[k]?.getD 0) = true := by assumption
          go_ret
          exact ⟨by rw [sameB_at (k := k) (by simpa [hlt] using hq)]; rfl, _, World.drewN_drewN _ _ _⟩
        · have hq : (xs[k] != ys[k]?.getD 0) = false := by assumption
          go_roundw
          case rel => exact ⟨k + 1, _, by omega, by go_num, rfl, HU.out.succ (by simpa [hlt] using hq)⟩
          case measure => simp [intOf]; omega
      · have e : k = xs.length := by omega
        subst e
        have hs := sameB_upto HL.out hu
        have HS := Lib.hid hs
        clear hs hu ha hb
        go_wp2
        go_ret
        exact ⟨by rw [HS.out]; rfl, _, rfl⟩
  · have hs := sameB_len hl
    rw [hs]
    clear hs ha hb
    have hb : ((xs.length : Int) != (ys.length : Int)) = true := by simp; omega
    go_enter Tryd.func40, Tryd.ntmps40
    go_wp2
    go_ret
    exact ⟨rfl, 0, rfl⟩

def isIn (xs : List Int) (x : Int) : Bool := decide (x ∈ xs)
def NotUpto (xs : List Int) (x : Int) (k : Nat) : Prop := ∀ j, j < k → xs[j]?.getD 0 ≠ x
theorem NotUpto.zero (xs : List Int) (x : Int) : NotUpto xs x 0 := fun j h => by omega
theorem NotUpto.succ {xs : List Int} {x : Int} {k : Nat} (h : NotUpto xs x k) (e : xs[k]?.getD 0 ≠ x) : NotUpto xs x (k + 1) := fun j hj => by
  by_cases y : j = k
  · subst y; exact e
  · exact h j (by omega)
theorem isIn_no {xs : List Int} {x : Int} (h : NotUpto xs x xs.length) : isIn xs x = false := by
  simp only [isIn, decide_eq_false_iff_not, List.mem_iff_getElem]
  rintro ⟨i, hi, e⟩
  exact h i hi (by simp [hi, e])
theorem isIn_at {xs : List Int} {x : Int} {k : Nat} (hk : k < xs.length) (h : xs[k]?.getD 0 = x) : isIn xs x = true := by
  simp only [isIn, decide_eq_true_eq, List.mem_iff_getElem]
  exact ⟨k, hk, by simpa [hk] using h⟩

set_option maxHeartbeats 1000000 in
theorem has_any (xs : List Int) (x : Int) (va : Value) (w : World) (ha : IntsAt w va xs) (hx : xs.length ≤ 9223372036854775806) :
    Calls Tryd.prog 30 #[va, .int .i64 x] w fun e w' => e = .returned (.bool (isIn xs x)) ∧ w' = w := by
  obtain ⟨a, cap, rfl, _, ha⟩ := ha
  go_enter Tryd.func30, Tryd.ntmps30
  go_wp2
  go_loop [5] (fun i => ∃ k : Nat, k ≤ xs.length ∧ i = .int .i64 k ∧ NotUpto xs x k) (fun i => xs.length - (intOf i).toNat)
  case atStart => exact ⟨0, Nat.zero_le _, rfl, NotUpto.zero _ _⟩
  case round =>
    obtain ⟨k, hk, rfl, hu⟩ := hrel
    by_cases hlt : k < xs.length
    · have hne : xs ≠ [] := fun e => by simp [e] at hlt
      obtain ⟨b1, o1, rfl, h1⟩ := ha hne
      have hc1 := h1 k hlt
      have HU := Lib.hid hu
      clear h1 ha hne hu
      go_wp2
      · have hq : (xs[k] == x) = true := by assumption
        go_ret
        exact ⟨by rw [isIn_at hlt (by simpa [hlt] using hq)]; rfl, rfl⟩
      · have hq : (xs[k] == x) = false := by assumption
        go_round
        case rel => exact ⟨k + 1, by omega, by go_num, HU.out.succ (by simpa [hlt] using hq)⟩
        case measure => simp [intOf]; omega
    · have e : k = xs.length := by omega
      subst e
      have hs := isIn_no hu
      have HS := Lib.hid hs
      clear hs hu ha
      go_wp2
      go_ret
      exact ⟨by rw [HS.out]; rfl, rfl⟩

end Go.Proofs.YtobhdjepfhbgaaaDoor
