/-
  crierref01.Same at two slices of ints; the law's same at two slices of spans.
-/
import Derived.Test.YtcdfkdlddmkhmaaBusL
import Derived.BigQuiet
import Derived.Deep.QuietTactic
import Derived.Lib.Hide
import Derived.Laws.StructEq
namespace Go.Proofs.Ytcdfkdlddmkhmaa
open Go.ChangeShapes Go.WideShapes Go.ChangeAt Go.RowKit
set_option linter.unusedVariables false

/-- The slice value v holds the ints xs. -/
def IntsAt (W : World) (v : Value) (xs : List Int) : Prop :=
  ∃ (a : Option Addr) (cap : Nat), v = .slice a xs.length cap ∧ (xs.length ≤ cap ∧ cap ≤ maxLen) ∧ (xs ≠ [] → ∃ b off : Nat, a = some ⟨b, off, none⟩ ∧ ∀ j, j < xs.length → W.cell? ⟨b, off + j, none⟩ = some (.int .i64 (xs[j]?.getD 0)))

theorem intsAt_row {W : World} {base : Nat} {v : Value} {xs : List Int} (h : W.ownsRow base 3 1 v xs.length (xs.map (Value.int .i64))) : IntsAt W v xs := by
  rcases h.2 with ⟨rfl, h0⟩ | ⟨g, cap, cur, rfl, hb, hg, h1, h2, h3, h4⟩
  · exact ⟨none, 0, by rw [h0], ⟨by omega, by unfold maxLen; omega⟩, fun hx => absurd (List.length_eq_zero_iff.1 h0) hx⟩
  · refine ⟨some ⟨g, 0, none⟩, cap, rfl, ⟨h1, h2⟩, fun _ => ⟨g, 0, rfl, fun j hj => ?_⟩⟩
    have hc : cur.toList[j]? = some (.int .i64 (xs[j]?.getD 0)) := by
      have h5 : (cur.toList.take (xs.length * 1))[j]? = (xs.map (Value.int .i64))[j]? := by rw [h4]
      rw [List.getElem?_take_of_lt (by omega)] at h5
      rw [h5]
      simp [hj]
    simp only [World.cell?, hg]
    simpa using hc

theorem list_ne {xs ys : List Int} (hl : xs.length = ys.length) (hne : xs ≠ ys) : ¬ ∀ j, j < xs.length → xs[j]?.getD 0 = ys[j]?.getD 0 := fun h => hne (by
  apply List.ext_getElem hl
  intro i h1 h2
  have := h i h1
  simpa [h1, h2] using this)

def Upto (xs ys : List Int) (k : Nat) : Prop := ∀ j, j < k → xs[j]?.getD 0 = ys[j]?.getD 0
theorem Upto.zero (xs ys : List Int) : Upto xs ys 0 := fun j h => by omega
theorem Upto.succ {xs ys : List Int} {k : Nat} (h : Upto xs ys k) (e : xs[k]?.getD 0 = ys[k]?.getD 0) : Upto xs ys (k + 1) := fun j hj => by
  by_cases x : j = k
  · subst x; exact e
  · exact h j (by omega)

def sameI (xs ys : List Int) : Bool := decide (xs = ys)

theorem sameI_upto {xs ys : List Int} (hl : xs.length = ys.length) (h : Upto xs ys xs.length) : sameI xs ys = true := by
  by_cases e : xs = ys
  · simp [sameI, e]
  · exact absurd h (list_ne hl e)
theorem sameI_at {xs ys : List Int} {k : Nat} (h : xs[k]?.getD 0 ≠ ys[k]?.getD 0) : sameI xs ys = false := by
  have : xs ≠ ys := fun e => h (by rw [e])
  simp [sameI, this]
theorem sameI_len {xs ys : List Int} (h : xs.length ≠ ys.length) : sameI xs ys = false := by
  have : xs ≠ ys := fun e => h (by rw [e])
  simp [sameI, this]

set_option maxHeartbeats 1000000 in
theorem sameI_any (xs ys : List Int) (va vb : Value) (w : World) (ha : IntsAt w va xs) (hb : IntsAt w vb ys) (hx : xs.length ≤ 9223372036854775806) (hy : ys.length ≤ 9223372036854775806) :
    Calls Try.prog 18 #[va, vb] w fun e w' => e = .returned (.bool (sameI xs ys)) ∧ ∃ m, w' = w.drewN m := by
  obtain ⟨a, cap, rfl, _, ha⟩ := ha
  obtain ⟨b, cap2, rfl, _, hb⟩ := hb
  by_cases hl : xs.length = ys.length
  · have HL := Lib.hid hl
    rw [← hl]
    clear hl hy
    go_enter Try.func18, Try.ntmps18
    go_wp2
    go_loopw [5] (fun i wr => ∃ k m : Nat, k ≤ xs.length ∧ i = .int .i64 k ∧ wr = w.drewN m ∧ Upto xs ys k) (fun i _ => xs.length - (intOf i).toNat)
    case atStart => exact ⟨0, 0, Nat.zero_le _, rfl, rfl, Upto.zero _ _⟩
    case round =>
      obtain ⟨k, m, hk, rfl, rfl, hu⟩ := hrel
      by_cases hlt : k < xs.length
      · have hne : xs ≠ [] := fun e => by simp [e] at hlt
        have hne2 : ys ≠ [] := fun e => by have := HL.out; simp [e] at this; simp [this] at hlt
        obtain ⟨b1, o1, rfl, h1⟩ := ha hne
        obtain ⟨b2, o2, rfl, h2⟩ := hb hne2
        have hc1 := h1 k hlt
        have hc2 := h2 k (by rw [← HL.out]; exact hlt)
        have HU := Lib.hid hu
        clear h1 h2 ha hb hne hne2 hu
        go_wp2
        go_quiet (fail)
        go_wp2
        · have hq : (xs[k] != ys[k]?.getD 0) = true := by assumption
          go_ret
          exact ⟨by rw [sameI_at (k := k) (by simpa [hlt] using hq)]; rfl, _, World.drewN_drewN _ _ _⟩
        · have hq : (xs[k] != ys[k]?.getD 0) = false := by assumption
          go_roundw
          case rel => exact ⟨k + 1, _, by omega, by go_num, rfl, HU.out.succ (by simpa [hlt] using hq)⟩
          case measure => simp [intOf]; omega
      · have e : k = xs.length := by omega
        subst e
        have hs := sameI_upto HL.out hu
        have HS := Lib.hid hs
        clear hs hu ha hb
        go_wp2
        go_ret
        exact ⟨by rw [HS.out]; rfl, _, rfl⟩
  · have hs := sameI_len hl
    rw [hs]
    clear hs ha hb
    have hb : ((xs.length : Int) != (ys.length : Int)) = true := by simp; omega
    go_enter Try.func18, Try.ntmps18
    go_wp2
    go_ret
    exact ⟨rfl, 0, rfl⟩


/-- Two spans, cell by cell. -/
def eq4 (a b c d a' b' c' d' : Int) : Bool := a == a' && b == b' && c == c' && d == d'
theorem eq4_iff (x y : Sp) : eq4 x.b x.s x.k x.i y.b y.s y.k y.i = true ↔ x = y := by
  obtain ⟨a, b, c, d⟩ := x
  obtain ⟨a', b', c', d'⟩ := y
  simp [eq4, and_assoc]
theorem equal4 (a b c d a' b' c' d' : Int) (w : World) : (Op.equalIn 10000 33 (.agg #[.int .i64 a, .int .i64 b, .int .i64 c, .int .i64 d]) (.agg #[.int .i64 a', .int .i64 b', .int .i64 c', .int .i64 d'])).run Try.prog w = .ok (eq4 a b c d a' b' c' d') w := by
  have u3 := Try.underlying3
  have a3 := Try.isAgg3
  have z3 := Try.sizeOf3
  have u4 := Try.underlying31
  have a4 := Try.isAgg31
  have z4 := Try.sizeOf31
  have hS : Try.prog.underlying 33 = some (.struct (Try.prog.fieldsOf 33)) := by kernel_rfl
  have hp : Try.prog.stoodInHeld 33 = false := by kernel_rfl
  rw [show (10000 : Nat) = 9999 + 1 from rfl, run_equalIn_agg w 9999 _ _ _ hS hp]
  simp only [Program.fieldsOf, Try.underlying33]
  go_simp
  unfold eq4
  by_cases h1 : a = a' <;> by_cases h2 : b = b' <;> by_cases h3 : c = c' <;> by_cases h4 : d = d' <;> simp [h1, h2, h3, h4]
theorem neq4 (a b c d a' b' c' d' : Int) (w : World) : (binOp .neq 33 (.agg #[.int .i64 a, .int .i64 b, .int .i64 c, .int .i64 d]) (.agg #[.int .i64 a', .int .i64 b', .int .i64 c', .int .i64 d'])).run Try.prog w = .ok (.bool (!eq4 a b c d a' b' c' d')) w := by
  rw [run_neq_struct, equal4]; rfl
theorem eql4 (a b c d a' b' c' d' : Int) (w : World) : (binOp .eql 33 (.agg #[.int .i64 a, .int .i64 b, .int .i64 c, .int .i64 d]) (.agg #[.int .i64 a', .int .i64 b', .int .i64 c', .int .i64 d'])).run Try.prog w = .ok (.bool (eq4 a b c d a' b' c' d')) w := by
  rw [run_eql_struct, equal4]; rfl
theorem guard4 (op : BinOp) (x y : Operand) (xs ys : Array Value) (w : World) : (eqGuard op 33 x y (.agg xs) (.agg ys)).run Try.prog w = .ok () w := run_eqGuard_agg w op _ _ _ _ _ (by kernel_rfl)
attribute [local go_sem high] neq4 eql4 guard4

/-- Same, for spans. -/
def sameS (xs ys : List Sp) : Bool := decide (xs = ys)
def UptoS (xs ys : List Sp) (k : Nat) : Prop := ∀ j : Nat, j < k → xs[j]? = ys[j]?
theorem sameS_upto {xs ys : List Sp} (hl : xs.length = ys.length) (h : UptoS xs ys xs.length) : sameS xs ys = true := by
  unfold sameS
  refine decide_eq_true (List.ext_getElem? fun i => ?_)
  by_cases hi : i < xs.length
  · exact h i hi
  · rw [List.getElem?_eq_none (by omega), List.getElem?_eq_none (by omega)]
theorem sameS_at {xs ys : List Sp} {k : Nat} {x y : Sp} (hx : xs[k]? = some x) (hy : ys[k]? = some y) (h : x ≠ y) : sameS xs ys = false := by
  have : xs ≠ ys := fun e => h (by rw [e, hy] at hx; cases hx; rfl)
  simp [sameS, this]
theorem sameS_len {xs ys : List Sp} (h : xs.length ≠ ys.length) : sameS xs ys = false := by
  have : xs ≠ ys := fun e => h (by rw [e])
  simp [sameS, this]

set_option maxHeartbeats 2000000 in
theorem same_any (l1 h1 l2 h2 : Nat) (xs ys : List Sp) (va vb : Value) (w : World) (ha : SpIn l1 h1 w va xs) (hb : SpIn l2 h2 w vb ys) :
    Calls Try.prog 12 #[va, vb] w fun e w' => e = .returned (.bool (sameS xs ys)) ∧ ∃ m, w' = w.drewN m := by
  obtain ⟨a, cap, rfl⟩ := ha.slice
  obtain ⟨b, cap2, rfl⟩ := hb.slice
  have hlx := ha.len
  have hly := hb.len
  obtain ⟨n, hn⟩ : ∃ n, xs.length = n := ⟨_, rfl⟩
  obtain ⟨m, hm⟩ : ∃ m, ys.length = m := ⟨_, rfl⟩
  have HN := hi hn
  have HM := hi hm
  have HA := hi ha
  have HB := hi hb
  rw [hn] at hlx ⊢
  rw [hm] at hly ⊢
  clear ha hb hn hm
  by_cases hl : n = m
  · subst hl
    go_enter Try.func12, Try.ntmps12
    go_wp2
    go_loopw [5] (fun i wr => ∃ k m : Nat, k ≤ n ∧ i = .int .i64 k ∧ wr = w.drewN m ∧ Hi (UptoS xs ys k)) (fun i _ => n - (intOf i).toNat)
    case atStart => exact ⟨0, 0, Nat.zero_le _, rfl, rfl, hi (fun j h => by omega)⟩
    case round =>
      obtain ⟨k, m, hk, rfl, rfl, HU⟩ := hrel
      by_cases hlt : k < n
      · rw [← HN.out] at hlt
        obtain ⟨x, g, o, hx, hmx, rfl, hg1, hg2, hgw, c0, c1, c2, c3⟩ := HA.out.read hlt
        rw [HN.out, ← HM.out] at hlt
        obtain ⟨y, g', o', hy, hmy, rfl, hg1', hg2', hgw', d0, d1, d2, d3⟩ := HB.out.read hlt
        rw [HM.out] at hlt
        have HX := hi hx
        have HY := hi hy
        clear hx hy hmx hmy hg1 hg2 hg1' hg2'
        by_cases he : x = y
        · have t1 := (eq4_iff x y).2 he
          have HE := hi he
          clear he
          go_wp2
          go_quiet (fail)
          go_wp2
          go_roundw
          case rel => exact ⟨k + 1, _, by omega, by go_num, rfl, hi (fun j hj => by
            rcases Nat.lt_or_ge j k with q | q
            · exact HU.out j q
            · obtain rfl : j = k := by omega
              rw [HX.out, HY.out, HE.out])⟩
          case measure => simp [intOf]; omega
        · have t1 : eq4 x.b x.s x.k x.i y.b y.s y.k y.i = false := by
            rcases h : eq4 x.b x.s x.k x.i y.b y.s y.k y.i with _ | _
            · rfl
            · exact absurd ((eq4_iff x y).1 h) he
          have hs := sameS_at HX.out HY.out he
          have HS := hi hs
          clear he hs
          go_wp2
          go_quiet (fail)
          go_wp2
          go_ret
          exact ⟨by rw [HS.out]; rfl, _, World.drewN_drewN _ _ _⟩
      · have e : k = n := by omega
        subst e
        have hs := sameS_upto (HN.out.trans HM.out.symm) (by rw [HN.out]; exact HU.out)
        have HS := hi hs
        clear hs
        go_wp2
        go_ret
        exact ⟨by rw [HS.out]; rfl, _, rfl⟩
  · have hs := sameS_len (xs := xs) (ys := ys) (by rw [HN.out, HM.out]; exact hl)
    rw [hs]
    have hb : ((n : Int) != (m : Int)) = true := by simp; omega
    clear hs
    go_enter Try.func12, Try.ntmps12
    go_wp2
    go_ret
    exact ⟨rfl, 0, rfl⟩

end Go.Proofs.Ytcdfkdlddmkhmaa
