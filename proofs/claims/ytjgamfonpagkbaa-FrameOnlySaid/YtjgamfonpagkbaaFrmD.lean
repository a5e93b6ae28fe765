/-
  What a register tells of a line, what a write makes of it: frame's flag, told, trigger, act, changed; the document's one, Shows, Changed.
-/
import Derived.Test.YtjgamfonpagkbaaFrmC
import Derived.Test.YtjgamfonpagkbaaLast
import Derived.Test.YtjgamfonpagkbaaRefA
namespace Go.Proofs.Ytjgamfonpagkbaa
open Go.ChangeShapes Go.WideShapes Go.ChangeAt Go.RowKit
set_option linter.unusedVariables false

def oneB (b : Bool) : Nat := if b then 1 else 0
theorem ret_u64 {a b : Int} (h : a = b) : Ending.returned (.int .u64 a) = .returned (.int .u64 b) := by rw [h]
theorem flag_any (b : Bool) (w : World) : Calls Try.prog 52 #[.bool b] w fun e w' => e = .returned (.int .u64 (oneB b : Nat)) ∧ w = w' := by
  cases b
  all_goals
    go_enter Try.func52, Try.ntmps52
    go_wp2
    go_ret
    exact ⟨rfl, rfl⟩
theorem one_any (b : Bool) (w : World) : Calls Try.prog 55 #[.bool b] w fun e w' => e = .returned (.int .u64 (oneB b : Nat)) ∧ w = w' := by
  cases b
  all_goals
    go_enter Try.func55, Try.ntmps55
    go_wp2
    go_ret
    exact ⟨rfl, rfl⟩

/-- A line as banks hold it. -/
structure Fine (l : Ln) : Prop where
  g : l.g = 0 ∨ l.g = 1
  p0 : 0 ≤ l.p
  p1 : l.p ≤ 255
  real : realV l.p = l.p
theorem Fine.right {l : Ln} (h : Fine l) : l.Right := h.g
theorem Fine.ok {l : Ln} (h : Fine l) : l.okB = true := by
  have h0 := h.g; have h1 := h.p0; have h2 := h.p1
  simp only [Ln.okB, Bool.and_eq_true, Bool.or_eq_true, decide_eq_true_eq]
  exact ⟨⟨h0, h1⟩, h2⟩
/-- What a register tells of a line. -/
def toldV (l : Ln) (r : Int) : Nat :=
  if r = 4 then l.g.toNat else if r = 5 ∨ r = 6 then oneB l.en else if r = 7 ∨ r = 8 then oneB l.st.pend else if r = 9 ∨ r = 10 then oneB l.st.a else if r = 11 then l.p.toNat else if r = 12 then 2 * oneB l.st.e else 0
theorem oneB_le (b : Bool) : oneB b ≤ 1 := by cases b <;> decide
theorem toldV_le {l : Ln} (h : Fine l) (r : Int) : toldV l r ≤ 255 := by
  have h0 := h.g; have h1 := h.p0; have h2 := h.p1
  have k1 := oneB_le l.en; have k2 := oneB_le l.st.pend; have k3 := oneB_le l.st.a; have k4 := oneB_le l.st.e
  unfold toldV
  repeat' split
  all_goals omega
theorem wrap_u64_nat {n : Nat} (h : n < 18446744073709551616) : IntKind.u64.wrap (n : Int) = n := by rw [IntKind.wrap_u64]; omega

set_option maxHeartbeats 4000000 in
theorem told_any (l : Ln) (r : Int) (w : World) (h : Fine l) : Calls Try.prog 33 #[l.v, .int .i64 r] w fun e w' => e = .returned (.int .u64 (toldV l r : Nat)) ∧ Below w.heap.size w w' := by
  have HP := hi (fun W => pend_any l.st W)
  have HF := hi (fun b W => flag_any b W)
  have hg : IntKind.u64.wrap l.g = (l.g.toNat : Nat) := by have := h.g; rw [IntKind.wrap_u64]; omega
  have hp : IntKind.u64.wrap l.p = (l.p.toNat : Nat) := by have := h.p0; have := h.p1; rw [IntKind.wrap_u64]; omega
  have he : IntKind.u64.wrap (2 * ((oneB l.st.e : Nat) : Int)) = ((2 * oneB l.st.e : Nat) : Int) := by have := oneB_le l.st.e; rw [IntKind.wrap_u64]; omega
  have HT := hi (show toldV l r = if r = 4 then l.g.toNat else if r = 5 ∨ r = 6 then oneB l.en else if r = 7 ∨ r = 8 then oneB l.st.pend else if r = 9 ∨ r = 10 then oneB l.st.a else if r = 11 then l.p.toNat else if r = 12 then 2 * oneB l.st.e else 0 from rfl)
  obtain ⟨pd, hpd⟩ : ∃ pd, l.st.pend = pd := ⟨_, rfl⟩
  obtain ⟨gn, hgn⟩ : ∃ gn, l.g.toNat = gn := ⟨_, rfl⟩
  obtain ⟨pn, hpn⟩ : ∃ pn, l.p.toNat = pn := ⟨_, rfl⟩
  obtain ⟨en2, hen2⟩ : ∃ en2, 2 * oneB l.st.e = en2 := ⟨_, rfl⟩
  obtain ⟨t, ht⟩ : ∃ t, toldV l r = t := ⟨_, rfl⟩
  rw [hpd, hgn, hpn, hen2, ht] at HT
  rw [hpd] at HP
  rw [hgn] at hg
  rw [hpn] at hp
  rw [hen2] at he
  rw [ht]
  clear h hpd hgn hpn hen2 ht
  obtain ⟨⟨e, lb, q, a⟩, en, g, p⟩ := l
  dsimp only [Ln.v, St.v] at HP HT hg hp he ⊢
  have HX := hi he
  clear he
  go_enter Try.func33, Try.ntmps33
  go_wp2_with (first
    | (go_at_call 53; ((with_reducible refine (HP.out _).mono ?_); rintro e' w1 ⟨rfl, hb⟩; have HB := hi ((bal w _).trans (hb.mono (bal w _).size)); clear hb))
    | (go_at_call 52; ((with_reducible refine (HF.out _ _).mono ?_); rintro e' w2 ⟨rfl, rfl⟩)))
  all_goals
    go_ret
    refine ⟨ret_u64 ?_, (by first | exact bal w _ | exact HB.out)⟩
    (try have HX2 := HX.out)
    rw [HT.out]
    simp_all
set_option maxHeartbeats 4000000 in
theorem shows_any (l : Ln) (r : Int) (w : World) (h : Fine l) : Calls Try.prog 36 #[l.v, .int .i64 r] w fun e w' => e = .returned (.int .u64 (toldV l r : Nat)) ∧ Below w.heap.size w w' := by
  have HP := hi (fun W => rpend_any l.st W)
  have HF := hi (fun b W => one_any b W)
  have hg : IntKind.u64.wrap l.g = (l.g.toNat : Nat) := by have := h.g; rw [IntKind.wrap_u64]; omega
  have hp : IntKind.u64.wrap l.p = (l.p.toNat : Nat) := by have := h.p0; have := h.p1; rw [IntKind.wrap_u64]; omega
  have he : IntKind.u64.wrap (2 * ((oneB l.st.e : Nat) : Int)) = ((2 * oneB l.st.e : Nat) : Int) := by have := oneB_le l.st.e; rw [IntKind.wrap_u64]; omega
  have HT := hi (show toldV l r = if r = 4 then l.g.toNat else if r = 5 ∨ r = 6 then oneB l.en else if r = 7 ∨ r = 8 then oneB l.st.pend else if r = 9 ∨ r = 10 then oneB l.st.a else if r = 11 then l.p.toNat else if r = 12 then 2 * oneB l.st.e else 0 from rfl)
  obtain ⟨pd, hpd⟩ : ∃ pd, l.st.pend = pd := ⟨_, rfl⟩
  obtain ⟨gn, hgn⟩ : ∃ gn, l.g.toNat = gn := ⟨_, rfl⟩
  obtain ⟨pn, hpn⟩ : ∃ pn, l.p.toNat = pn := ⟨_, rfl⟩
  obtain ⟨en2, hen2⟩ : ∃ en2, 2 * oneB l.st.e = en2 := ⟨_, rfl⟩
  obtain ⟨t, ht⟩ : ∃ t, toldV l r = t := ⟨_, rfl⟩
  rw [hpd, hgn, hpn, hen2, ht] at HT
  rw [hpd] at HP
  rw [hgn] at hg
  rw [hpn] at hp
  rw [hen2] at he
  rw [ht]
  clear h hpd hgn hpn hen2 ht
  obtain ⟨⟨e, lb, q, a⟩, en, g, p⟩ := l
  dsimp only [Ln.v, St.v] at HP HT hg hp he ⊢
  have HX := hi he
  clear he
  go_enter Try.func36, Try.ntmps36
  go_wp2_with (first
    | (go_at_call 56; ((with_reducible refine (HP.out _).mono ?_); rintro e' w1 ⟨rfl, hb⟩; have HB := hi ((bal w _).trans (hb.mono (bal w _).size)); clear hb))
    | (go_at_call 55; ((with_reducible refine (HF.out _ _).mono ?_); rintro e' w2 ⟨rfl, rfl⟩)))
  all_goals
    go_ret
    refine ⟨ret_u64 ?_, (by first | exact bal w _ | exact HB.out)⟩
    (try have HX2 := HX.out)
    rw [HT.out]
    simp_all

end Go.Proofs.Ytjgamfonpagkbaa
