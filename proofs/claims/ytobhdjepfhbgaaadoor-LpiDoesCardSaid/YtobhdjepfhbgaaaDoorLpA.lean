/-
  Message interrupts, plain: bits of bytes, the numbers that wait, what each call does.
-/
import Derived.Test.YtobhdjepfhbgaaaDoorMjC
namespace Go.Proofs.YtobhdjepfhbgaaaDoor
open Go.ChangeShapes Go.WideShapes Go.ChangeAt Go.RowKit
set_option linter.unusedVariables false
set_option linter.unusedSimpArgs false

abbrev i64B (x : Int) : Prop := -9223372036854775808 ≤ x ∧ x ≤ 9223372036854775807
/-- A byte whose bit j is told. -/
def sb (b j : Nat) (is : Bool) : Nat := if b.testBit j = is then b else b ^^^ 2 ^ j
theorem sb_lt {b j : Nat} (hb : b < 256) (hj : j < 8) (is : Bool) : sb b j is < 256 := by
  unfold sb
  split
  · exact hb
  · exact Nat.xor_lt_two_pow (n := 8) hb (Nat.pow_lt_pow_right (by omega) hj)
theorem sb_bit (b j : Nat) (is : Bool) (i : Nat) : (sb b j is).testBit i = if i = j then is else b.testBit i := by
  unfold sb
  by_cases e : i = j
  · subst e
    rw [if_pos rfl]
    split
    · assumption
    · rename_i h
      rw [Nat.testBit_xor, Nat.testBit_two_pow_self]
      cases hb : b.testBit i <;> cases is <;> simp_all
  · rw [if_neg e]
    split
    · rfl
    · rw [Nat.testBit_xor, Nat.testBit_two_pow_of_ne (fun h => e h.symm)]
      simp
theorem getD_lt {bs : List Nat} (h : ∀ x ∈ bs, x < 256) (i : Nat) : bs[i]?.getD 0 < 256 := by
  cases e : bs[i]? with
  | none => simp
  | some v => simpa using h v (List.mem_of_getElem? e)
/-- Bit k of the bytes from q on. -/
def bitB (bs : List Nat) (q k : Nat) : Bool := (bs[q + k / 8]?.getD 0).testBit (k % 8)
def putB (bs : List Nat) (q k : Nat) (is : Bool) : List Nat := bs.set (q + k / 8) (sb (bs[q + k / 8]?.getD 0) (k % 8) is)
theorem putB_len (bs : List Nat) (q k : Nat) (is : Bool) : (putB bs q k is).length = bs.length := by simp [putB]
theorem putB_mem {bs : List Nat} (h : ∀ x ∈ bs, x < 256) (q k : Nat) (is : Bool) : ∀ x ∈ putB bs q k is, x < 256 := by
  intro x hx
  rcases List.mem_or_eq_of_mem_set hx with h1 | rfl
  · exact h x h1
  · exact sb_lt (getD_lt h _) (Nat.mod_lt _ (by omega)) _
theorem putB_get {bs : List Nat} {q k : Nat} (h : q + k / 8 < bs.length) (is : Bool) (i : Nat) : (putB bs q k is)[i]?.getD 0 = if i = q + k / 8 then sb (bs[q + k / 8]?.getD 0) (k % 8) is else bs[i]?.getD 0 := by
  unfold putB
  rw [List.getElem?_set]
  by_cases e : i = q + k / 8
  · rw [if_pos e.symm, if_pos e, if_pos h]
    rfl
  · rw [if_neg (fun x => e x.symm), if_neg e]
theorem bitB_put {bs : List Nat} {q k : Nat} (h : q + k / 8 < bs.length) (is : Bool) (r j : Nat) : bitB (putB bs q k is) r j = if r + j / 8 = q + k / 8 ∧ j % 8 = k % 8 then is else bitB bs r j := by
  unfold bitB
  rw [putB_get h]
  by_cases e : r + j / 8 = q + k / 8
  · rw [if_pos e, sb_bit]
    by_cases e2 : j % 8 = k % 8
    · rw [if_pos e2, if_pos ⟨e, e2⟩]
    · rw [if_neg e2, if_neg (fun x => e2 x.2), e]
  · rw [if_neg e, if_neg (fun x => e x.1)]
theorem bitB_put_same {bs : List Nat} {q k : Nat} (h : q + k / 8 < bs.length) (is : Bool) (j : Nat) : bitB (putB bs q k is) q j = if j = k then is else bitB bs q j := by
  rw [bitB_put h]
  by_cases e : j = k
  · subst e; rw [if_pos ⟨rfl, rfl⟩, if_pos rfl]
  · rw [if_neg (fun x => e (by omega)), if_neg e]
theorem bitB_put_far {bs : List Nat} {q k : Nat} (h : q + k / 8 < bs.length) (is : Bool) {r j : Nat} (hr : r + j / 8 ≠ q + k / 8) : bitB (putB bs q k is) r j = bitB bs r j := by
  rw [bitB_put h, if_neg (fun x => hr x.1)]
theorem putB_comm {bs : List Nat} {q k r j : Nat} (h : q + k / 8 < bs.length) (h' : r + j / 8 < bs.length) (hr : r + j / 8 ≠ q + k / 8) (is is' : Bool) : putB (putB bs q k is) r j is' = putB (putB bs r j is') q k is := by
  have e1 : (putB bs q k is)[r + j / 8]?.getD 0 = bs[r + j / 8]?.getD 0 := by rw [putB_get h, if_neg hr]
  have e2 : (putB bs r j is')[q + k / 8]?.getD 0 = bs[q + k / 8]?.getD 0 := by rw [putB_get h', if_neg (fun x => hr x.symm)]
  have f1 : putB (putB bs q k is) r j is' = (putB bs q k is).set (r + j / 8) (sb (bs[r + j / 8]?.getD 0) (j % 8) is') := by rw [← e1]; rfl
  have f2 : putB (putB bs r j is') q k is = (putB bs r j is').set (q + k / 8) (sb (bs[q + k / 8]?.getD 0) (k % 8) is) := by rw [← e2]; rfl
  rw [f1, f2]
  unfold putB
  exact List.set_comm _ _ (fun x => hr x.symm)

/-- The numbers below n that a predicate names, rising. -/
def lst (P : Nat → Bool) (n : Nat) : List Nat := (List.range n).filter P
theorem lst_mem {P : Nat → Bool} {n k : Nat} : k ∈ lst P n ↔ k < n ∧ P k = true := by simp [lst]
theorem lst_succ (P : Nat → Bool) (n : Nat) : lst P (n + 1) = if P n = true then lst P n ++ [n] else lst P n := by
  unfold lst
  rw [List.range_succ, List.filter_append]
  cases h : P n <;> simp [h]
theorem lst_len (P : Nat → Bool) (n : Nat) : (lst P n).length ≤ n := by
  have := List.length_filter_le P (List.range n)
  simpa [lst] using this
theorem lst_congr {P Q : Nat → Bool} {n : Nat} (h : ∀ k, k < n → P k = Q k) : lst P n = lst Q n := by
  unfold lst
  exact List.filter_congr (fun k hk => h k (by simpa using hk))
theorem lst_pre (P : Nat → Bool) (j : Nat) : ∀ i, lst P j <+: lst P (j + i)
  | 0 => List.prefix_refl _
  | i + 1 => by
    refine (lst_pre P j i).trans ?_
    rw [← Nat.add_assoc, lst_succ]
    split
    · exact List.prefix_append _ _
    · exact List.prefix_refl _
theorem lst_le (P : Nat → Bool) {j k : Nat} (h : j ≤ k) : lst P j <+: lst P k := by
  have := lst_pre P j (k - j)
  rwa [show j + (k - j) = k by omega] at this
theorem lst_none {P : Nat → Bool} (h : ∀ k, P k = false) (n : Nat) : lst P n = [] := by
  unfold lst
  rw [List.filter_eq_nil_iff]
  intro k _
  simp [h k]
theorem lst_rise (P : Nat → Bool) (n : Nat) : (lst P n).Pairwise (· < ·) := List.Pairwise.filter _ List.pairwise_lt_range
/-- As numbers of interrupts, and from 0 on. -/
def ids (l : List Nat) : List Int := l.map fun k => ((8192 + k : Nat) : Int)
def ints (l : List Nat) : List Int := l.map fun k : Nat => (k : Int)
theorem ids_len (l : List Nat) : (ids l).length = l.length := by simp [ids]
theorem ints_len (l : List Nat) : (ints l).length = l.length := by simp [ints]
theorem ids_snoc (l : List Nat) (k : Nat) : ids (l ++ [k]) = ids l ++ [((8192 + k : Nat) : Int)] := by simp [ids]
theorem ids_mem {l : List Nat} {x : Int} : x ∈ ids l ↔ ∃ k, k ∈ l ∧ x = ((8192 + k : Nat) : Int) := by
  simp only [ids, List.mem_map]
  constructor
  · rintro ⟨k, h, rfl⟩; exact ⟨k, h, rfl⟩
  · rintro ⟨k, h, rfl⟩; exact ⟨k, h, rfl⟩

/-- A part. -/
structure St where
  on : Bool
  n : Nat
  pa : Nat
  ps : Nat
  qa : Nat
  qs : Nat
  P : Nat → Bool
  cfg : List Nat
/-- It is right, in a memory of L bytes. -/
structure St.Ok (L : Nat) (x : St) : Prop where
  n1 : 1 ≤ x.n
  n5 : x.n ≤ 512
  pw : x.pa + x.ps ≤ L
  pn : x.n ≤ x.ps
  qw : x.qa + x.qs ≤ L
  qn : x.n ≤ 8 * x.qs
  cl : x.cfg.length = x.n
  cm : ∀ c ∈ x.cfg, c < 256
  off : x.on = false → ∀ k, x.P k = false
  lim : ∀ k, x.n ≤ k → x.P k = false
  L1 : L ≤ 131072
theorem St.Ok.qk {L : Nat} {x : St} (h : x.Ok L) {k : Nat} (hk : k < x.n) : k / 8 < x.qs ∧ x.qa + k / 8 < L := by
  have := h.qn; have := h.qw
  constructor <;> omega
def ownB (x : St) (id : Int) : Bool := decide (8192 ≤ id ∧ id < 8192 + x.n)
theorem ownB_out {x : St} {id : Int} (h : ownB x id = true) : ∃ k : Nat, k < x.n ∧ id = ((8192 + k : Nat) : Int) := by
  simp only [ownB, decide_eq_true_eq] at h
  exact ⟨(id - 8192).toNat, by omega, by omega⟩
theorem ownB_at {x : St} {k : Nat} : ownB x ((8192 + k : Nat) : Int) = decide (k < x.n) := by
  unfold ownB
  rw [decide_eq_decide]
  omega
theorem ownB_no {x : St} {id : Int} (h : ownB x id = false) : id < 8192 ∨ 8192 + (x.n : Int) ≤ id := by
  simp only [ownB, decide_eq_false_iff_not] at h
  omega
/-- Which interrupt a number is. -/
def kOf (id : Int) : Nat := (id - 8192).toNat
theorem kOf_at (k : Nat) : kOf ((8192 + k : Nat) : Int) = k := by unfold kOf; omega
def hasK (bs : List Nat) (x : St) (k : Nat) : Bool := if x.on = true then x.P k else bitB bs x.qa k
def hasV (bs : List Nat) (x : St) (id : Int) : Bool := ownB x id && hasK bs x (kOf id)
/-- Those that wait. -/
def waitL (bs : List Nat) (x : St) : List Nat := lst (hasK bs x) x.n
theorem wait_mem {bs : List Nat} {x : St} {id : Int} : id ∈ ids (waitL bs x) ↔ hasV bs x id = true := by
  rw [ids_mem, hasV, Bool.and_eq_true]
  constructor
  · rintro ⟨k, hk, rfl⟩
    obtain ⟨h1, h2⟩ := lst_mem.1 hk
    exact ⟨by rw [ownB_at]; simpa using h1, by rw [kOf_at]; exact h2⟩
  · rintro ⟨h1, h2⟩
    obtain ⟨k, hk, rfl⟩ := ownB_out h1
    rw [kOf_at] at h2
    exact ⟨k, lst_mem.2 ⟨hk, h2⟩, rfl⟩
def updP (P : Nat → Bool) (k : Nat) (is : Bool) : Nat → Bool := fun j => if j = k then is else P j
/-- One interrupt waits, or not. -/
def setS (bs : List Nat) (x : St) (k : Nat) (is : Bool) : List Nat × St := if x.on = true then (bs, { x with P := updP x.P k is }) else (putB bs x.qa k is, x)
def setV (bs : List Nat) (x : St) (id : Int) (is : Bool) : List Nat × St := if ownB x id = true then setS bs x (kOf id) is else (bs, x)
def errL (x : St) (id : Int) : Int := if ownB x id = true then 0 else 150
theorem setS_len (bs : List Nat) (x : St) (k : Nat) (is : Bool) : (setS bs x k is).1.length = bs.length := by
  unfold setS; split
  · rfl
  · exact putB_len _ _ _ _
theorem setS_mem {bs : List Nat} (h : ∀ x ∈ bs, x < 256) (x : St) (k : Nat) (is : Bool) : ∀ b ∈ (setS bs x k is).1, b < 256 := by
  unfold setS; split
  · exact h
  · exact putB_mem h _ _ _
theorem setS_ok {L : Nat} {bs : List Nat} {x : St} (h : x.Ok L) {k : Nat} (hk : k < x.n) (is : Bool) : (setS bs x k is).2.Ok L := by
  unfold setS; split
  · rename_i ho
    refine ⟨h.n1, h.n5, h.pw, h.pn, h.qw, h.qn, h.cl, h.cm, fun e => ?_, fun j hj => ?_, h.L1⟩
    · have e2 : x.on = false := e
      rw [ho] at e2; cases e2
    · have h1 : x.n ≤ j := hj
      have h2 : ¬ j = k := by omega
      simp only [updP, if_neg h2]
      exact h.lim j h1
  · exact h
/-- What stays of a part, whatever is done with it. -/
structure St.Alike (x y : St) : Prop where
  n : y.n = x.n
  pa : y.pa = x.pa
  ps : y.ps = x.ps
  qa : y.qa = x.qa
  qs : y.qs = x.qs
theorem St.Alike.refl (x : St) : St.Alike x x := ⟨rfl, rfl, rfl, rfl, rfl⟩
theorem St.Alike.trans {x y z : St} (h : St.Alike x y) (k : St.Alike y z) : St.Alike x z := ⟨k.n.trans h.n, k.pa.trans h.pa, k.ps.trans h.ps, k.qa.trans h.qa, k.qs.trans h.qs⟩
theorem setS_alike (bs : List Nat) (x : St) (k : Nat) (is : Bool) : St.Alike x (setS bs x k is).2 := by
  unfold setS; split <;> exact ⟨rfl, rfl, rfl, rfl, rfl⟩
theorem setS_on (bs : List Nat) (x : St) (k : Nat) (is : Bool) : (setS bs x k is).2.on = x.on := by
  unfold setS; split <;> rfl
/-- What waits behind it. -/
theorem setS_has {L : Nat} {bs : List Nat} {x : St} (h : x.Ok L) (hl : bs.length = L) {k : Nat} (hk : k < x.n) (is : Bool) (j : Nat) : hasK (setS bs x k is).1 (setS bs x k is).2 j = if j = k then is else hasK bs x j := by
  unfold setS hasK
  split
  · rename_i ho
    simp only [ho, if_true, updP]
  · rename_i ho
    simp only [ho, if_false]
    exact bitB_put_same (by rw [hl]; exact (h.qk hk).2) is j
/-- Two parts whose tables lie apart. -/
def apart (x y : St) : Prop := x.qa + x.qs ≤ y.qa ∨ y.qa + y.qs ≤ x.qa
theorem apart_comm {x y : St} (h : apart x y) : apart y x := h.symm
theorem apart_alike {x y x' y' : St} (h : apart x y) (a : St.Alike x x') (b : St.Alike y y') : apart x' y' := by
  unfold apart; rw [a.qa, a.qs, b.qa, b.qs]; exact h
theorem setS_far {L : Nat} {bs : List Nat} {x y : St} (hx : x.Ok L) (hy : y.Ok L) (hl : bs.length = L) (ha : apart x y) {k : Nat} (hk : k < x.n) (is : Bool) {j : Nat} (hj : j < y.n) : hasK (setS bs x k is).1 y j = hasK bs y j := by
  unfold setS
  split
  · rfl
  · unfold hasK
    split
    · rfl
    · have h1 := hx.qk hk
      have h2 := hy.qk hj
      exact bitB_put_far (by rw [hl]; exact h1.2) is (by unfold apart at ha; omega)
/-- In whichever order the two are told. -/
theorem setS_comm {L : Nat} {bs : List Nat} {x y : St} (hx : x.Ok L) (hy : y.Ok L) (hl : bs.length = L) (ha : apart x y) {k j : Nat} (hk : k < x.n) (hj : j < y.n) (is is' : Bool) :
    (setS (setS bs x k is).1 y j is').1 = (setS (setS bs y j is').1 x k is).1 ∧ (setS (setS bs x k is).1 y j is').2 = (setS bs y j is').2 ∧ (setS (setS bs y j is').1 x k is).2 = (setS bs x k is).2 := by
  have h1 := hx.qk hk
  have h2 := hy.qk hj
  unfold setS
  by_cases a : x.on = true <;> by_cases b : y.on = true <;> simp only [a, b, if_true, if_false, and_self, Bool.false_eq_true, true_and, and_true]
  exact putB_comm (by rw [hl]; exact h1.2) (by rw [hl]; exact h2.2) (by unfold apart at ha; omega) is is'

/-- Bytes of the set-up. -/
def invS (bs : List Nat) (x : St) (k : Nat) : St := { x with cfg := x.cfg.set k (bs[x.pa + k]?.getD 0) }
def invV (bs : List Nat) (x : St) (id : Int) : St := if ownB x id = true then invS bs x (kOf id) else x
def invTo (bs : List Nat) (x : St) : Nat → St
  | 0 => x
  | k + 1 => invS bs (invTo bs x k) k
theorem invS_alike (bs : List Nat) (x : St) (k : Nat) : St.Alike x (invS bs x k) := ⟨rfl, rfl, rfl, rfl, rfl⟩
theorem invS_ok {L : Nat} {bs : List Nat} (hb : ∀ b ∈ bs, b < 256) {x : St} (h : x.Ok L) (k : Nat) : (invS bs x k).Ok L :=
  ⟨h.n1, h.n5, h.pw, h.pn, h.qw, h.qn, by simp [invS, h.cl], fun c hc => by
    rcases List.mem_or_eq_of_mem_set hc with h1 | rfl
    · exact h.cm c h1
    · exact getD_lt hb _, h.off, h.lim, h.L1⟩
theorem invTo_alike (bs : List Nat) (x : St) : ∀ k, St.Alike x (invTo bs x k)
  | 0 => St.Alike.refl x
  | k + 1 => (invTo_alike bs x k).trans (invS_alike bs _ k)
theorem invTo_ok {L : Nat} {bs : List Nat} (hb : ∀ b ∈ bs, b < 256) {x : St} (h : x.Ok L) : ∀ k, (invTo bs x k).Ok L
  | 0 => h
  | k + 1 => invS_ok hb (invTo_ok hb h k) k
theorem invTo_same (bs : List Nat) (x : St) : ∀ k, (invTo bs x k).on = x.on ∧ (invTo bs x k).P = x.P
  | 0 => ⟨rfl, rfl⟩
  | k + 1 => invTo_same bs x k
theorem hasK_same {bs : List Nat} {x y : St} (h1 : y.on = x.on) (h2 : y.P = x.P) (h3 : y.qa = x.qa) : hasK bs y = hasK bs x := by
  funext k; unfold hasK; rw [h1, h2, h3]

/-- The bits of the first k become 0. -/
def clearTo (bs : List Nat) (q : Nat) : Nat → List Nat
  | 0 => bs
  | k + 1 => putB (clearTo bs q k) q k false
theorem clearTo_len (bs : List Nat) (q : Nat) : ∀ k, (clearTo bs q k).length = bs.length
  | 0 => rfl
  | k + 1 => by rw [clearTo, putB_len, clearTo_len bs q k]
theorem clearTo_mem {bs : List Nat} (h : ∀ b ∈ bs, b < 256) (q : Nat) : ∀ k, ∀ b ∈ clearTo bs q k, b < 256
  | 0 => h
  | k + 1 => putB_mem (clearTo_mem h q k) _ _ _
theorem clearTo_bit {bs : List Nat} {q : Nat} : ∀ k, (∀ j, j < k → q + j / 8 < bs.length) → ∀ j, k ≤ j → bitB (clearTo bs q k) q j = bitB bs q j
  | 0, _, _, _ => rfl
  | k + 1, h, j, hj => by
    rw [clearTo, bitB_put_same (by rw [clearTo_len]; exact h k (by omega)), if_neg (by omega), clearTo_bit k (fun i hi => h i (by omega)) j (by omega)]
/-- The bits of those that wait become 1. -/
def markL (bs : List Nat) (q : Nat) (l : List Nat) : List Nat := l.foldl (fun b k => putB b q k true) bs
theorem markL_snoc (bs : List Nat) (q : Nat) (l : List Nat) (k : Nat) : markL bs q (l ++ [k]) = putB (markL bs q l) q k true := by simp [markL]
theorem markL_len (q : Nat) : ∀ (l : List Nat) (bs : List Nat), (markL bs q l).length = bs.length
  | [], _ => rfl
  | k :: r, bs => by
    show (markL (putB bs q k true) q r).length = _
    rw [markL_len q r, putB_len]
theorem markL_mem (q : Nat) : ∀ (l : List Nat) (bs : List Nat), (∀ b ∈ bs, b < 256) → ∀ b ∈ markL bs q l, b < 256
  | [], _, h => h
  | k :: r, bs, h => markL_mem q r _ (putB_mem h q k true)
/-- On. -/
def enP (bs : List Nat) (x : St) : Nat → Bool := fun k => decide (k < x.n) && bitB bs x.qa k
def enS (bs : List Nat) (x : St) : List Nat × St := if x.on = true then (bs, x) else (clearTo bs x.qa x.n, invTo (clearTo bs x.qa x.n) { x with on := true, P := enP bs x } x.n)
/-- Off. -/
def disS (bs : List Nat) (x : St) : List Nat × St := if x.on = true then (markL bs x.qa (lst x.P x.n), { x with on := false, P := fun _ => false }) else (bs, x)
theorem enX_ok {L : Nat} {bs : List Nat} {x : St} (h : x.Ok L) : St.Ok L { x with on := true, P := enP bs x } :=
  ⟨h.n1, h.n5, h.pw, h.pn, h.qw, h.qn, h.cl, h.cm, (fun e => by cases e), fun k hk => by
    have : ¬ k < x.n := by (have : x.n ≤ k := hk); omega
    simp [enP, this], h.L1⟩
theorem disX_ok {L : Nat} {x : St} (h : x.Ok L) : St.Ok L { x with on := false, P := fun _ => false } :=
  ⟨h.n1, h.n5, h.pw, h.pn, h.qw, h.qn, h.cl, h.cm, (fun _ _ => rfl), (fun _ _ => rfl), h.L1⟩
theorem enS_len (bs : List Nat) (x : St) : (enS bs x).1.length = bs.length := by
  unfold enS; split
  · rfl
  · exact clearTo_len _ _ _
theorem enS_mem {bs : List Nat} (h : ∀ b ∈ bs, b < 256) (x : St) : ∀ b ∈ (enS bs x).1, b < 256 := by
  unfold enS; split
  · exact h
  · exact clearTo_mem h _ _
theorem enS_ok {L : Nat} {bs : List Nat} (hb : ∀ b ∈ bs, b < 256) {x : St} (h : x.Ok L) : (enS bs x).2.Ok L := by
  unfold enS; split
  · exact h
  · exact invTo_ok (clearTo_mem hb _ _) (enX_ok h) _
theorem enS_alike (bs : List Nat) (x : St) : St.Alike x (enS bs x).2 := by
  unfold enS; split
  · exact St.Alike.refl x
  · have h := invTo_alike (clearTo bs x.qa x.n) { x with on := true, P := enP bs x } x.n
    exact ⟨h.n, h.pa, h.ps, h.qa, h.qs⟩
theorem disS_len (bs : List Nat) (x : St) : (disS bs x).1.length = bs.length := by
  unfold disS; split
  · exact markL_len _ _ _
  · rfl
theorem disS_mem {bs : List Nat} (h : ∀ b ∈ bs, b < 256) (x : St) : ∀ b ∈ (disS bs x).1, b < 256 := by
  unfold disS; split
  · exact markL_mem _ _ _ h
  · exact h
theorem disS_ok {L : Nat} {bs : List Nat} {x : St} (h : x.Ok L) : (disS bs x).2.Ok L := by
  unfold disS; split
  · exact disX_ok h
  · exact h
theorem disS_alike (bs : List Nat) (x : St) : St.Alike x (disS bs x).2 := by
  unfold disS; split <;> exact ⟨rfl, rfl, rfl, rfl, rfl⟩

/-- How one is set up. -/
def realN (b : Nat) : Nat := b / 8 * 8
def cfgK (x : St) (k : Nat) : Nat := x.cfg[k]?.getD 0
def inV (x : St) (id : Int) : Bool := ownB x id && decide (cfgK x (kOf id) % 2 = 1)
def prV (x : St) (id : Int) : Int := if ownB x id = true then (realN (cfgK x (kOf id)) : Int) else 0
/-- A candidate. -/
structure Cd where
  id : Int
  p : Int
  g : Int
  is : Bool
deriving DecidableEq
@[reducible] def Cd.v (c : Cd) : Value := .agg #[.int .i64 c.id, .int .i64 c.p, .int .i64 c.g, .bool c.is]
@[reducible] def Cd.cs (c : Cd) : Array Value := #[.int .i64 c.id, .int .i64 c.p, .int .i64 c.g, .bool c.is]
def bestC (x : St) (c : Cd) (k : Nat) : Cd :=
  if cfgK x k % 2 = 1 ∧ (c.is = false ∨ (realN (cfgK x k) : Int) < c.p ∨ ((realN (cfgK x k) : Int) = c.p ∧ ((8192 + k : Nat) : Int) < c.id)) then ⟨((8192 + k : Nat) : Int), realN (cfgK x k), 1, true⟩ else c
def bestL (x : St) (l : List Nat) : Cd := l.foldl (bestC x) ⟨0, 0, 0, false⟩
theorem bestL_snoc (x : St) (l : List Nat) (k : Nat) : bestL x (l ++ [k]) = bestC x (bestL x l) k := by simp [bestL]
def bestV (x : St) : Cd := bestL x (lst x.P x.n)

/-- One is moved: what becomes of the memory, of the part that it leaves, and of the other. -/
def mvB (bs : List Nat) (x y : St) (id : Int) : Bool := ownB y id && hasV bs x id
structure Tw where
  bs : List Nat
  x : St
  y : St
def mvS (t : Tw) (id : Int) : Tw := if mvB t.bs t.x t.y id = true then ⟨(setS (setS t.bs t.y (kOf id) true).1 t.x (kOf id) false).1, (setS (setS t.bs t.y (kOf id) true).1 t.x (kOf id) false).2, (setS t.bs t.y (kOf id) true).2⟩ else t
/-- It is right. -/
structure Tw.Ok (L : Nat) (t : Tw) : Prop where
  len : t.bs.length = L
  mem : ∀ b ∈ t.bs, b < 256
  x : t.x.Ok L
  y : t.y.Ok L
  ap : apart t.x t.y
theorem mvB_out {bs : List Nat} {x y : St} {id : Int} (h : mvB bs x y id = true) : ∃ k : Nat, id = ((8192 + k : Nat) : Int) ∧ k < x.n ∧ k < y.n ∧ hasK bs x k = true := by
  simp only [mvB, hasV, Bool.and_eq_true] at h
  obtain ⟨k, hk, rfl⟩ := ownB_out h.2.1
  have h1 := h.1
  rw [ownB_at] at h1
  rw [kOf_at] at h
  exact ⟨k, rfl, hk, by simpa using h1, h.2.2⟩
theorem mvS_ok {L : Nat} {t : Tw} (h : t.Ok L) (id : Int) : (mvS t id).Ok L := by
  unfold mvS
  split
  · rename_i hm
    obtain ⟨k, rfl, hx, hy, _⟩ := mvB_out hm
    rw [kOf_at]
    exact ⟨by simp only [setS_len]; exact h.len, setS_mem (setS_mem h.mem _ _ _) _ _ _, setS_ok h.x hx _, setS_ok h.y hy _, apart_alike h.ap (setS_alike _ _ _ _) (setS_alike _ _ _ _)⟩
  · exact h
/-- The document's order comes to the same. -/
theorem mvS_doc {L : Nat} {t : Tw} (h : t.Ok L) {id : Int} (hm : mvB t.bs t.x t.y id = true) : mvS t id = ⟨(setS (setS t.bs t.x (kOf id) false).1 t.y (kOf id) true).1, (setS t.bs t.x (kOf id) false).2, (setS (setS t.bs t.x (kOf id) false).1 t.y (kOf id) true).2⟩ := by
  rw [mvS, if_pos hm]
  obtain ⟨k, rfl, hx, hy, _⟩ := mvB_out hm
  rw [kOf_at]
  obtain ⟨h1, h2, h3⟩ := setS_comm h.x h.y h.len h.ap hx hy false true
  rw [h1, h2, h3]
/-- Some are moved, one after another. -/
def mvF (s : Tw × Nat) (id : Int) : Tw × Nat := (mvS s.1 id, s.2 + if mvB s.1.bs s.1.x s.1.y id = true then 1 else 0)
def mvN (t : Tw) (l : List Int) : Tw × Nat := l.foldl mvF (t, 0)
theorem mvN_snoc (t : Tw) (l : List Int) (id : Int) : mvN t (l ++ [id]) = mvF (mvN t l) id := by simp [mvN]
theorem mvN_ok {L : Nat} {t : Tw} (h : t.Ok L) (l : List Int) : (mvN t l).1.Ok L := by
  have : ∀ (l : List Int) (s : Tw × Nat), s.1.Ok L → (l.foldl mvF s).1.Ok L := by
    intro l
    induction l with
    | nil => exact fun s h => h
    | cons a r ih => exact fun s h => ih _ (mvS_ok h a)
  exact this l _ h
theorem mvN_le (t : Tw) (l : List Int) : (mvN t l).2 ≤ l.length := by
  have : ∀ (l : List Int) (s : Tw × Nat), (l.foldl mvF s).2 ≤ s.2 + l.length := by
    intro l
    induction l with
    | nil => exact fun s => Nat.le_refl _
    | cons a r ih =>
      intro s
      have h1 := ih (mvF s a)
      have h2 : (mvF s a).2 ≤ s.2 + 1 := by simp only [mvF]; split <;> omega
      simp only [List.foldl_cons, List.length_cons]
      omega
  have h := this l (t, 0)
  simpa [mvN] using h
def mvAll (t : Tw) : Tw × Nat := mvN t (ids (waitL t.bs t.x))

end Go.Proofs.YtobhdjepfhbgaaaDoor
