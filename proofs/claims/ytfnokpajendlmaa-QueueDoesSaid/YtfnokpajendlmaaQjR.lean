/-
  The document's answers for ring (crierref02): Right and Index, at every input.
  crierref01.Same and crierref01.Has at every two slices of ints (an int) within the reach: whether they hold the same numbers; whether one is among them.
  The document's own list of the places that wait (crierref02.Waits), at every input.
-/
import Derived.Test.YtfnokpajendlmaaMjE
import Derived.Test.YtfnokpajendlmaaRows
import Derived.WalkKit
import Derived.ProofKit
import Derived.Lib.Hide
import Derived.BigQuiet
import Derived.Deep.QuietTactic
import Derived.RangeFuncBox
import Derived.Maps.AppendAt
namespace Go.Proofs.Ytfnokpajendlmaa
open Go.ChangeShapes Go.WideShapes Go.ChangeAt Go.RowKit
set_option linter.unusedVariables false

set_option maxHeartbeats 400000 in
theorem refRight_yes (s t : Int) (w : World) (h : rightB s t = true) (hs : s ≤ 9223372036854775807) :
    Calls Try.prog 75 #[.int .i64 s, .int .i64 t] w fun e w' => e = .returned (.bool true) ∧ w' = w := by
  have hg := size_ge h
  obtain ⟨h1, h2, h3, h4⟩ := rightB_out h
  clear h
  have H3 : (s % t == 0) = true := by simpa using h3
  clear h3
  go_enter Try.func75, Try.ntmps75
  go_wp2
  go_ret
  exact ⟨rfl, rfl⟩

set_option maxHeartbeats 400000 in
theorem refRight_no (s t : Int) (w : World) (h : rightB s t = false) (hs : s ≤ 9223372036854775807) :
    Calls Try.prog 75 #[.int .i64 s, .int .i64 t] w fun e w' => e = .returned (.bool false) ∧ w' = w := by
  by_cases h1 : t < 1
  · clear h
    go_enter Try.func75, Try.ntmps75
    go_wp2
    go_ret
    exact ⟨rfl, rfl⟩
  · have h1' : 1 ≤ t := by omega
    clear h1
    by_cases h2 : s < t
    · clear h
      go_enter Try.func75, Try.ntmps75
      go_wp2
      go_ret
      exact ⟨rfl, rfl⟩
    · have h2' : t ≤ s := by omega
      have h3' : 1 ≤ s := by omega
      clear h2
      rcases rightB_no h with x | ⟨_, x⟩ | ⟨_, _, x⟩ | ⟨_, _, x, y⟩
      · omega
      · omega
      · have H3 : (s % t == 0) = false := by simpa using x
        clear h x
        go_enter Try.func75, Try.ntmps75
        go_wp2
        go_ret
        exact ⟨rfl, rfl⟩
      · have H3 : (s % t == 0) = true := by simpa using x
        have H4 : decide (s / t ≤ 1024) = false := by simpa using y
        clear h x
        go_enter Try.func75, Try.ntmps75
        go_wp2
        go_ret
        exact ⟨rfl, rfl⟩

theorem mul_ne {s t a : Int} (hr : rightB s t = true) (h : mayB s t a = false) {k : Int} (h0 : 0 ≤ k) (hk : k < s / t) : k * t ≠ a := fun e => by
  have := has_may (hasRg_mk hr h0 hk)
  rw [e, h] at this
  cases this

set_option maxHeartbeats 1000000 in
theorem refIndex_yes (s t a : Int) (w : World) (h : mayB s t a = true) (hs : s ≤ 9223372036854775807) :
    Calls Try.prog 58 #[.int .i64 s, .int .i64 t, .int .i64 a] w fun e w' => e = .returned (.int .i64 (a / t)) ∧ w' = w := by
  obtain ⟨hr, _⟩ := mayB_out h
  obtain ⟨k1, k2, k3, k4⟩ := rightB_out hr
  obtain ⟨ea, i0, i1⟩ := idx_of h
  have HR := Lib.hid hr
  have EA := Lib.hid ea
  clear h k3 hr ea
  go_enter Try.func58, Try.ntmps58
  go_wp2_with (go_at_call 75; refine (refRight_yes s t _ HR.out hs).mono ?_; rintro e w1 ⟨rfl, rfl⟩)
  go_loop [7] (fun i => ∃ k : Nat, (k : Int) ≤ a / t ∧ i = .int .i64 k) (fun i => (a / t).toNat - (intOf i).toNat)
  case atStart => exact ⟨0, by omega, rfl⟩
  case round =>
    obtain ⟨k, hk, rfl⟩ := hrel
    have hl := has_lt (hasRg_mk HR.out (show (0 : Int) ≤ k by omega) (by omega))
    have hm : 0 ≤ (k : Int) * t := Int.mul_nonneg (by omega) (by omega)
    have hlt : (k : Int) < s / t := by omega
    by_cases hek : (k : Int) = a / t
    · have HE : ((k : Int) * t == a) = true := by rw [hek, ← EA.out]; simp
      have EK := Lib.hid hek
      clear hek
      go_wp2
      go_ret
      exact ⟨by rw [EK.out]; rfl, rfl⟩
    · have HE : ((k : Int) * t == a) = false := by
        have : (k : Int) * t ≠ a := fun e => hek (by rw [← e, Int.mul_ediv_cancel _ (by omega)])
        simpa using this
      have hk2 : (k : Int) + 1 ≤ a / t := by omega
      clear hek
      go_wp2
      go_round
      case rel => exact ⟨k + 1, by omega, by go_num⟩
      case measure => simp [intOf]; omega

set_option maxHeartbeats 1000000 in
theorem refIndex_no (s t a : Int) (w : World) (h : mayB s t a = false) (hs : s ≤ 9223372036854775807) :
    Calls Try.prog 58 #[.int .i64 s, .int .i64 t, .int .i64 a] w fun e w' => e = .returned (.int .i64 (-1)) ∧ w' = w := by
  cases hr : rightB s t
  · have HR := Lib.hid hr
    clear h hr
    go_enter Try.func58, Try.ntmps58
    go_wp2_with (go_at_call 75; refine (refRight_no s t _ HR.out hs).mono ?_; rintro e w1 ⟨rfl, rfl⟩)
    go_ret
    exact ⟨rfl, rfl⟩
  · obtain ⟨k1, k2, k3, k4⟩ := rightB_out hr
    have hq : 0 ≤ s / t := Int.ediv_nonneg (by omega) (by omega)
    have HH := Lib.hid h
    have HR := Lib.hid hr
    clear h k3 hr
    go_enter Try.func58, Try.ntmps58
    go_wp2_with (go_at_call 75; refine (refRight_yes s t _ HR.out hs).mono ?_; rintro e w1 ⟨rfl, rfl⟩)
    go_loop [7] (fun i => ∃ k : Nat, (k : Int) ≤ s / t ∧ i = .int .i64 k) (fun i => (s / t).toNat - (intOf i).toNat)
    case atStart => exact ⟨0, by omega, rfl⟩
    case round =>
      obtain ⟨k, hk, rfl⟩ := hrel
      by_cases hlt : (k : Int) < s / t
      · have hl := has_lt (hasRg_mk HR.out (show (0 : Int) ≤ k by omega) hlt)
        have hm : 0 ≤ (k : Int) * t := Int.mul_nonneg (by omega) (by omega)
        have HE : ((k : Int) * t == a) = false := by simpa using mul_ne HR.out HH.out (show (0 : Int) ≤ k by omega) hlt
        go_wp2
        go_round
        case rel => exact ⟨k + 1, by omega, by go_num⟩
        case measure => simp [intOf]; omega
      · have hge : s / t ≤ (k : Int) := by omega
        clear hlt
        go_wp2
        go_ret
        exact ⟨rfl, rfl⟩

theorem refIndex_y (s t a : Int) (w : World) (h : mayB s t a = true) (hs : s ≤ 9223372036854775807) :
    Calls Try.prog 58 #[.int .i64 s, .int .i64 t, .int .i64 a] w fun e w' => e = .returned (.int .i64 (a / t)) ∧ Below w.heap.size w w' :=
  (refIndex_yes s t a w h hs).mono fun e w' ⟨he, hw⟩ => ⟨he, by rw [hw]; exact Below.refl _ _⟩
theorem refIndex_n (s t a : Int) (w : World) (h : mayB s t a = false) (hs : s ≤ 9223372036854775807) :
    Calls Try.prog 58 #[.int .i64 s, .int .i64 t, .int .i64 a] w fun e w' => e = .returned (.int .i64 (-1)) ∧ Below w.heap.size w w' :=
  (refIndex_no s t a w h hs).mono fun e w' ⟨he, hw⟩ => ⟨he, by rw [hw]; exact Below.refl _ _⟩

end Go.Proofs.Ytfnokpajendlmaa

namespace Go.Proofs.Ytfnokpajendlmaa
open Go.ChangeShapes Go.WideShapes Go.ChangeAt Go.RowKit
set_option linter.unusedVariables false

/-- The slice value v holds the ints xs. -/
def IntsAt (W : World) (v : Value) (xs : List Int) : Prop :=
  ∃ (a : Option Addr) (cap : Nat), v = .slice a xs.length cap ∧ (xs.length ≤ cap ∧ cap ≤ maxLen) ∧ (xs ≠ [] → ∃ b off : Nat, a = some ⟨b, off, none⟩ ∧ ∀ j, j < xs.length → W.cell? ⟨b, off + j, none⟩ = some (.int .i64 (xs[j]?.getD 0)))

theorem intsAt_row {W : World} {base : Nat} {v : Value} {xs : List Int} (h : W.ownsRow base 3 1 v xs.length (xs.map (Value.int .i64))) : IntsAt W v xs := by
  rcases h.2 with ⟨rfl, h0⟩ | ⟨g, cap, cur, rfl, hb, hg, h1, h2, h3, h4⟩
  · exact ⟨none, 0, by rw [h0], ⟨by omega, by unfold maxLen; omega⟩, fun hx => absurd (List.length_eq_zero_iff.1 h0) hx⟩
  · refine ⟨some ⟨g, 0, none⟩, cap, rfl, ⟨h1, h2⟩, fun _ => ⟨g, 0, rfl, fun j hj => ?_⟩⟩
    have hc : cur.toList[j]? = some (.int .i64 (xs[j]?.getD 0)) := by
      have h5 : (cur.toList.take (xs.length * 1))[j]? = (xs.map (Value.int .i64))[j]? := by rw [h4]
      rw [List.getElem?_take_of_lt (by omega)] at h5
      rw [h5]
      simp [hj]
    simp only [World.cell?, hg]
    simpa using hc

theorem list_ne {xs ys : List Int} (hl : xs.length = ys.length) (hne : xs ≠ ys) : ¬ ∀ j, j < xs.length → xs[j]?.getD 0 = ys[j]?.getD 0 := fun h => hne (by
  apply List.ext_getElem hl
  intro i h1 h2
  have := h i h1
  simpa [h1, h2] using this)

def Upto (xs ys : List Int) (k : Nat) : Prop := ∀ j, j < k → xs[j]?.getD 0 = ys[j]?.getD 0
theorem Upto.zero (xs ys : List Int) : Upto xs ys 0 := fun j h => by omega
theorem Upto.succ {xs ys : List Int} {k : Nat} (h : Upto xs ys k) (e : xs[k]?.getD 0 = ys[k]?.getD 0) : Upto xs ys (k + 1) := fun j hj => by
  by_cases x : j = k
  · subst x; exact e
  · exact h j (by omega)

def sameB (xs ys : List Int) : Bool := decide (xs = ys)

theorem sameB_upto {xs ys : List Int} (hl : xs.length = ys.length) (h : Upto xs ys xs.length) : sameB xs ys = true := by
  by_cases e : xs = ys
  · simp [sameB, e]
  · exact absurd h (list_ne hl e)
theorem sameB_at {xs ys : List Int} {k : Nat} (h : xs[k]?.getD 0 ≠ ys[k]?.getD 0) : sameB xs ys = false := by
  have : xs ≠ ys := fun e => h (by rw [e])
  simp [sameB, this]
theorem sameB_len {xs ys : List Int} (h : xs.length ≠ ys.length) : sameB xs ys = false := by
  have : xs ≠ ys := fun e => h (by rw [e])
  simp [sameB, this]

def isIn (xs : List Int) (x : Int) : Bool := decide (x ∈ xs)
def NotUpto (xs : List Int) (x : Int) (k : Nat) : Prop := ∀ j, j < k → xs[j]?.getD 0 ≠ x
theorem NotUpto.zero (xs : List Int) (x : Int) : NotUpto xs x 0 := fun j h => by omega
theorem NotUpto.succ {xs : List Int} {x : Int} {k : Nat} (h : NotUpto xs x k) (e : xs[k]?.getD 0 ≠ x) : NotUpto xs x (k + 1) := fun j hj => by
  by_cases y : j = k
  · subst y; exact e
  · exact h j (by omega)
theorem isIn_no {xs : List Int} {x : Int} (h : NotUpto xs x xs.length) : isIn xs x = false := by
  simp only [isIn, decide_eq_false_iff_not, List.mem_iff_getElem]
  rintro ⟨i, hi, e⟩
  exact h i hi (by simp [hi, e])
theorem isIn_at {xs : List Int} {x : Int} {k : Nat} (hk : k < xs.length) (h : xs[k]?.getD 0 = x) : isIn xs x = true := by
  simp only [isIn, decide_eq_true_eq, List.mem_iff_getElem]
  exact ⟨k, hk, by simpa [hk] using h⟩

end Go.Proofs.Ytfnokpajendlmaa

namespace Go.Proofs.Ytfnokpajendlmaa
open Go.ChangeShapes Go.WideShapes Go.ChangeAt Go.RowKit
set_option linter.unusedVariables false

theorem info_int : (Try.prog.info? 3).map (fun i => (i.zero, i.size, i.bytes)) = some (some (.int .i64 0), 1, 8) := by kernel_rfl
/-- What the law's Each answers: a slice that owns these numbers, in a row of the call's own; nil just where there are none. -/
def OwnsInts (w W' : World) (v : Value) (xs : List Int) : Prop := W'.ownsRow w.heap.size 3 1 v xs.length (xs.map (Value.int .i64)) ∧ (v = .slice none 0 0 ↔ xs = [])

/-- The slice that comes is some value that holds the numbers. -/
def SomeInts (w : World) (xs : List Int) (e : Ending) (W' : World) : Prop := ∃ a cap, e = .returned (.slice a xs.length cap) ∧ IntsAt W' (.slice a xs.length cap) xs ∧ Below w.heap.size w W'

theorem refIndex_j (s t a K : Int) (w : World) (e : a / t = K) (h : mayB s t a = true) (hs : s ≤ 9223372036854775807) :
    Calls Try.prog 58 #[.int .i64 s, .int .i64 t, .int .i64 a] w fun e w' => e = .returned (.int .i64 K) ∧ w = w' := e ▸ (refIndex_yes s t a w h hs).mono fun _ _ ⟨a, b⟩ => ⟨a, b.symm⟩

theorem refIndex_n' (s t a : Int) (w : World) (h : mayB s t a = false) (hs : s ≤ 9223372036854775807) :
    Calls Try.prog 58 #[.int .i64 s, .int .i64 t, .int .i64 a] w fun e w' => e = .returned (.int .i64 (-1)) ∧ w = w' := (refIndex_no s t a w h hs).mono fun _ _ ⟨a, b⟩ => ⟨a, b.symm⟩

/-- Between two rounds: k places have come; the next one has the index j. -/
def AtK (s t r v : Int) (w : World) (k : Nat) (j : Int) (o : Value) (wr : World) : Prop :=
  k ≤ (leftR s t r v).toNat ∧ seqR s t r k / t = j ∧ wr.ownsRow w.heap.size 3 1 o (upR s t r k).length ((upR s t r k).map (Value.int .i64)) ∧ (o = .slice none 0 0 ↔ upR s t r k = []) ∧ Below w.heap.size w wr

theorem AtK.left {s t r v : Int} {w : World} {k : Nat} {j : Int} {o : Value} {wr : World} (h : AtK s t r v w k j o wr) (hr : mayB s t r = true) (hv : mayB s t v = true) : leftR s t (j * t) v = leftR s t r v - k := by
  have hbd := leftR_bd hr hv
  rw [← h.2.1, ← (idx_of (seqR_may hr k)).1]
  exact left_seq hr hv k (by have := h.1; omega)

/-- A round more. -/
theorem AtK.more {s t r v : Int} {w : World} {k : Nat} {j j' : Int} {o o' : Value} {wr w3 : World} {tmp : Obj} (hk : k < (leftR s t r v).toNat) (hj : seqR s t r (k + 1) / t = j') (ea : seqR s t r k = j * t)
    (hrow : wr.ownsRow w.heap.size 3 1 o (upR s t r k).length ((upR s t r k).map (Value.int .i64))) (hb : Below w.heap.size w wr)
    (hown : w3.ownsRow w.heap.size 3 1 o' ((upR s t r k).length + 1) ((upR s t r k).map (Value.int .i64) ++ [.int .i64 (j * t)])) (hg : (wr.alloc tmp).grownBy w3 o.ownBlock) : AtK s t r v w (k + 1) j' o' w3 := by
  refine ⟨hk, hj, by rw [upR_succ]; simpa [ea] using hown, ?_, Below.grown (hb.alloc hb.size _) hg (by have := hb.size; simp; omega) (fun i e => (hrow.lt i e).1)⟩
  obtain ⟨g, cap, rfl⟩ := ownsRow_succ hown
  simp [upR_succ]

set_option maxRecDepth 100000 in
set_option maxHeartbeats 2000000 in
theorem refWaits_yes (s t r v : Int) (w : World) (hr : mayB s t r = true) (hv : mayB s t v = true) (hs : s ≤ 9223372036854775807) :
    Calls Try.prog 45 #[.int .i64 s, .int .i64 t, .int .i64 r, .int .i64 v] w fun e W' => ∃ o, e = .returned o ∧ OwnsInts w W' o (xsR s t r v) ∧ Below w.heap.size w W' := by
  obtain ⟨i0, hi, hz0, hz1, hz2⟩ := info_parts info_int
  rw [xsR_yes hr hv]
  obtain ⟨hright, _⟩ := mayB_out hr
  obtain ⟨k1, k2, k3, k4⟩ := rightB_out hright
  obtain ⟨er, r0, r1⟩ := idx_of hr
  obtain ⟨ev, v0, v1⟩ := idx_of hv
  obtain ⟨jr, ejr⟩ : ∃ j, r / t = j := ⟨_, rfl⟩
  obtain ⟨jv, ejv⟩ : ∃ j, v / t = j := ⟨_, rfl⟩
  rw [ejr] at r0 r1
  rw [ejv] at v0 v1
  have EJR := Lib.hid ejr
  have EJV := Lib.hid ejv
  have HR := Lib.hid hr
  have HV := Lib.hid hv
  clear hr hv hright k3 er ev ejr ejv
  go_enter Try.func45, Try.ntmps45
  go_wp2_with (first
    | (go_at_call 58; ((with_reducible refine (refIndex_j s t r _ _ EJR.out HR.out hs).mono ?_); rintro e w1 ⟨rfl, rfl⟩))
    | (go_at_call 58; ((with_reducible refine (refIndex_j s t v _ _ EJV.out HV.out hs).mono ?_); rintro e w2 ⟨rfl, rfl⟩)))
  go_loopw [9, 11] (fun a o wr => ∃ (k : Nat) (j : Int) (u : Value), a = .int .i64 j ∧ u = o ∧ AtK s t r v w k j u wr) (fun a _ _ => (leftR s t (intOf a * t) v).toNat)
  case atStart => exact ⟨0, jr, _, rfl, rfl, Nat.zero_le _, EJR.out, by simpa [upR] using World.ownsRow_nil _ _ _ _, by simp [upR], Below.refl _ _⟩
  case round =>
    obtain ⟨k, j, o, rfl, rfl, hat⟩ := hrel
    have hal := hat.left HR.out HV.out
    obtain ⟨hk, hj, hrow, hnil, hb⟩ := hat
    have HAL := Lib.hid hal
    clear hal
    have hm := seqR_may HR.out k
    obtain ⟨ea, j0, j1⟩ := idx_of hm
    rw [hj] at ea j0 j1
    have hbd := leftR_bd HR.out HV.out
    have hls := left_seq HR.out HV.out k (by omega)
    by_cases hne : j = jv
    · have hv' : seqR s t r k = v := idx_inj hm HV.out (by rw [hj, hne]; exact EJV.out.symm)
      have ek : k = (leftR s t r v).toNat := by rw [hv', leftR_self] at hls; omega
      have EK := Lib.hid ek
      have HN := Lib.hid hnil
      have HW := Lib.hid hrow
      have HJ : (j != jv) = false := by simp [hne]
      clear hne hv' ek hls hbd ea hj hm hnil hrow
      go_wp2
      have ho : OwnsInts w wr o (xsV s t r v) := by
        have e : xsV s t r v = upR s t r k := by rw [EK.out]; rfl
        rw [e]
        exact ⟨HW.out, HN.out⟩
      go_ret
      exact ⟨_, rfl, ho, hb⟩
    · have hv' : seqR s t r k ≠ v := fun e => hne (by rw [← hj, e]; exact EJV.out)
      have hlp := left_pos hm HV.out hv'
      have hnx := left_next hm HV.out hv'
      have hni := next_idx hm
      rw [hj] at hni
      obtain ⟨_, m1, m2, _⟩ := mayB_out hm
      have hl : (upR s t r k).length + 1 ≤ 1024 := by rw [upR_len]; omega
      have b1 : 0 ≤ j * t := by rw [← ea]; exact m1
      have b2 : j * t < s := by rw [← ea]; exact m2
      have HJ : (j != jv) = true := by simpa using hne
      have EA := Lib.hid ea
      have HLS := Lib.hid hls
      have HNX := Lib.hid hnx
      have HLP := Lib.hid hlp
      have HK := Lib.hid hk
      have HNI := Lib.hid hni
      have HBD := Lib.hid hbd
      clear hne hv' ea hls hnx hlp hbd hj hm m1 m2 hnil hk hni
      by_cases hend : j + 1 = s / t
      · have HE : (j + 1 == s / t) = true := by simpa using hend
        have HN0 := Lib.hid hend
        clear hend
        go_wp2_with (at_builtin; refine wpList_append_own _ rfl _ _ 64 rfl w.heap.size 3 i0 (.int .i64 0) 1 8 Try.underlying64 hi hz0 hz1 hz2 rfl (by decide) _ _ _ rfl (hrow.alloc _) ⟨wr.heap.size, 0, none⟩ 1 1 [.int .i64 (j * t)] rfl rfl (cell_one_new _ _ _) (by simp [Value.oneCell']) (by unfold maxLen; omega) (by omega) (by have := hb.size; simp; omega) ?_; intro o' w3 hown' hgrow hnil')
        have hat' : AtK s t r v w (k + 1) 0 o' w3 := AtK.more (by have := HLS.out; have := HLP.out; omega) (by show nextR s t (seqR s t r k) / t = 0; rw [HNI.out, if_pos HN0.out]) EA.out hrow hb hown' hgrow
        go_roundw
        case rel => exact ⟨k + 1, 0, _, rfl, rfl, hat'⟩
        case measure =>
          have h1 := hat'.left HR.out HV.out
          have h2 := HAL.out
          have h3 := HLS.out
          have h4 := HLP.out
          simp only [intOf]; rw [h1, h2]; omega
      · have HE : (j + 1 == s / t) = false := by simpa using hend
        have HN0 := Lib.hid hend
        clear hend
        go_wp2_with (at_builtin; refine wpList_append_own _ rfl _ _ 64 rfl w.heap.size 3 i0 (.int .i64 0) 1 8 Try.underlying64 hi hz0 hz1 hz2 rfl (by decide) _ _ _ rfl (hrow.alloc _) ⟨wr.heap.size, 0, none⟩ 1 1 [.int .i64 (j * t)] rfl rfl (cell_one_new _ _ _) (by simp [Value.oneCell']) (by unfold maxLen; omega) (by omega) (by have := hb.size; simp; omega) ?_; intro o' w3 hown' hgrow hnil')
        have hat' : AtK s t r v w (k + 1) (j + 1) o' w3 := AtK.more (by have := HLS.out; have := HLP.out; omega) (by show nextR s t (seqR s t r k) / t = j + 1; rw [HNI.out, if_neg HN0.out]) EA.out hrow hb hown' hgrow
        go_roundw
        case rel => exact ⟨k + 1, j + 1, _, rfl, rfl, hat'⟩
        case measure =>
          have h1 := hat'.left HR.out HV.out
          have h2 := HAL.out
          have h3 := HLS.out
          have h4 := HLP.out
          simp only [intOf]; rw [h1, h2]; omega

set_option maxRecDepth 100000 in
set_option maxHeartbeats 2000000 in
theorem refWaits_no (s t r v : Int) (w : World) (hm : (mayB s t r && mayB s t v) = false) (hs : s ≤ 9223372036854775807) :
    Calls Try.prog 45 #[.int .i64 s, .int .i64 t, .int .i64 r, .int .i64 v] w fun e W' => ∃ o, e = .returned o ∧ OwnsInts w W' o (xsR s t r v) ∧ Below w.heap.size w W' := by
  have hx : xsR s t r v = [] := by simp only [xsR, hm]; rfl
  rw [hx]
  have ho : OwnsInts w w (.slice none 0 0) [] := ⟨World.ownsRow_nil _ _ _ _, by simp⟩
  clear hx
  cases hr : mayB s t r
  · cases hv : mayB s t v
    · have HR := Lib.hid hr
      have HV := Lib.hid hv
      clear hr hv hm
      go_enter Try.func45, Try.ntmps45
      go_wp2_with (first
        | (go_at_call 58; ((with_reducible refine (refIndex_n' s t r _ HR.out hs).mono ?_); rintro e w1 ⟨rfl, rfl⟩))
        | (go_at_call 58; ((with_reducible refine (refIndex_n' s t v _ HV.out hs).mono ?_); rintro e w2 ⟨rfl, rfl⟩)))
      go_ret
      exact ⟨_, rfl, ho, Below.refl _ _⟩
    · have ⟨v0, v1⟩ := (idx_of hv).2
      have HR := Lib.hid hr
      have HV := Lib.hid hv
      clear hr hv hm
      go_enter Try.func45, Try.ntmps45
      go_wp2_with (first
        | (go_at_call 58; ((with_reducible refine (refIndex_n' s t r _ HR.out hs).mono ?_); rintro e w1 ⟨rfl, rfl⟩))
        | (go_at_call 58; ((with_reducible refine (refIndex_j s t v _ _ rfl HV.out hs).mono ?_); rintro e w2 ⟨rfl, rfl⟩)))
      go_ret
      exact ⟨_, rfl, ho, Below.refl _ _⟩
  · have hv : mayB s t v = false := by simpa [hr] using hm
    have ⟨v0, v1⟩ := (idx_of hr).2
    have HR := Lib.hid hr
    have HV := Lib.hid hv
    clear hr hv hm
    go_enter Try.func45, Try.ntmps45
    go_wp2_with (first
      | (go_at_call 58; ((with_reducible refine (refIndex_j s t r _ _ rfl HR.out hs).mono ?_); rintro e w1 ⟨rfl, rfl⟩))
      | (go_at_call 58; ((with_reducible refine (refIndex_n' s t v _ HV.out hs).mono ?_); rintro e w2 ⟨rfl, rfl⟩)))
    go_ret
    exact ⟨_, rfl, ho, Below.refl _ _⟩

theorem refWaits_ints (s t r v : Int) (hs : s ≤ 9223372036854775807) (w : World) :
    Calls Try.prog 45 #[.int .i64 s, .int .i64 t, .int .i64 r, .int .i64 v] w (SomeInts w (xsR s t r v)) := by
  have main : Calls Try.prog 45 #[.int .i64 s, .int .i64 t, .int .i64 r, .int .i64 v] w fun e W' => ∃ o, e = .returned o ∧ OwnsInts w W' o (xsR s t r v) ∧ Below w.heap.size w W' := by
    cases hm : mayB s t r && mayB s t v
    · exact refWaits_no s t r v w hm hs
    · obtain ⟨hr, hv⟩ := mayB_out2 hm
      exact refWaits_yes s t r v w hr hv hs
  exact main.mono fun e W' ⟨o, he, ho, hb⟩ => by
    have hi := intsAt_row ho.1
    obtain ⟨a, cap, rfl, hcap, hc⟩ := hi
    exact ⟨a, cap, he, ⟨a, cap, rfl, hcap, hc⟩, hb⟩

end Go.Proofs.Ytfnokpajendlmaa
