/-
  Layer 16, plain: commands, their fields, words and texts. Nothing of the program.
-/
import Derived.Test.YtfnokpajendlmaaHi
import Derived.Lib.ItoaNum
import Derived.Lib.AtoiAllCases
import Derived.Lib.IndexMore
import Derived.ProofKit
import Derived.RowKit
namespace Go.Proofs.Ytfnokpajendlmaa
set_option linter.unusedVariables false
set_option linter.unusedSimpArgs false

/-! ### Commands -/
structure Cm where
  op : Int
  dev : Int
  ev : Int
  num : Int
  coll : Int
  tgt : Int
  bit : Int
  addr : Int
  valid : Bool
deriving DecidableEq
def Cm.cs (c : Cm) : Array Value := #[.int .i64 c.op, .int .i64 c.dev, .int .i64 c.ev, .int .i64 c.num, .int .i64 c.coll, .int .i64 c.tgt, .int .i64 c.bit, .int .i64 c.addr, .bool c.valid]
abbrev Cm.v (c : Cm) : Value := .agg #[.int .i64 c.op, .int .i64 c.dev, .int .i64 c.ev, .int .i64 c.num, .int .i64 c.coll, .int .i64 c.tgt, .int .i64 c.bit, .int .i64 c.addr, .bool c.valid]
def Cm.zero : Cm := ⟨0, 0, 0, 0, 0, 0, 0, 0, false⟩
/-- Each number is one of an int's. -/
def i64B (n : Int) : Prop := -9223372036854775808 ≤ n ∧ n ≤ 9223372036854775807
structure Cm.Fair (c : Cm) : Prop where
  op : i64B c.op
  dev : i64B c.dev
  ev : i64B c.ev
  num : i64B c.num
  coll : i64B c.coll
  tgt : i64B c.tgt
  bit : i64B c.bit
  addr : i64B c.addr

/-! ### Fields -/
def pw : Nat → Nat | 0 => 0 | 1 => 1 | 2 => 1 | 3 => 3 | 4 => 2 | 5 => 2 | 6 => 1 | 7 => 2 | _ => 2
def pf : Nat → Nat | 0 => 32 | 1 => 0 | 2 => 32 | 3 => 16 | 4 => 0 | 5 => 16 | 6 => 0 | 7 => 8 | _ => 63
def pb : Nat → Nat | 0 => 32 | 1 => 32 | 2 => 32 | 3 => 16 | 4 => 16 | 5 => 16 | 6 => 5 | 7 => 40 | _ => 1
def pm : Nat → Nat | 0 => 4294967296 | 1 => 1 | 2 => 4294967296 | 3 => 65536 | 4 => 1 | 5 => 65536 | 6 => 1 | 7 => 256 | _ => 9223372036854775808
def pr : Nat → Nat | 0 => 4294967296 | 1 => 4294967296 | 2 => 4294967296 | 3 => 65536 | 4 => 65536 | 5 => 65536 | 6 => 32 | 7 => 1099511627776 | _ => 2
def known (op : Int) : Bool := decide (op = 1) || (decide (3 ≤ op) && decide (op ≤ 5)) || (decide (8 ≤ op) && decide (op ≤ 15))
def fieldsL (op : Int) : List Nat :=
  if op = 1 then [0, 1, 4] else if op = 3 then [0, 1] else if op = 4 then [0, 1] else if op = 5 then [5] else if op = 8 then [0, 6, 7, 8] else if op = 9 then [4, 5, 8] else
  if op = 10 then [0, 1, 2, 4] else if op = 11 then [0, 1, 4] else if op = 12 then [0, 1] else if op = 13 then [4] else if op = 14 then [3, 5] else if op = 15 then [0, 1] else []
def hasN (op : Int) : Int :=
  if op = 1 then 19 else if op = 3 then 3 else if op = 4 then 3 else if op = 5 then 32 else if op = 8 then 449 else if op = 9 then 304 else
  if op = 10 then 23 else if op = 11 then 19 else if op = 12 then 3 else if op = 13 then 16 else if op = 14 then 40 else if op = 15 then 3 else 0
def nameL (op : Int) : List UInt8 :=
  if op = 1 then [109, 111, 118, 105] else if op = 3 then [105, 110, 116] else if op = 4 then [99, 108, 101, 97, 114] else if op = 5 then [115, 121, 110, 99] else if op = 8 then [109, 97, 112, 100] else if op = 9 then [109, 97, 112, 99] else
  if op = 10 then [109, 97, 112, 116, 105] else if op = 11 then [109, 97, 112, 105] else if op = 12 then [105, 110, 118] else if op = 13 then [105, 110, 118, 97, 108, 108] else if op = 14 then [109, 111, 118, 97, 108, 108] else if op = 15 then [100, 105, 115, 99, 97, 114, 100] else []
def kop (op : Int) : Int := if known op = true then op else 0

theorem known_cases {op : Int} (h : known op = true) : op = 1 ∨ op = 3 ∨ op = 4 ∨ op = 5 ∨ op = 8 ∨ op = 9 ∨ op = 10 ∨ op = 11 ∨ op = 12 ∨ op = 13 ∨ op = 14 ∨ op = 15 := by
  simp [known] at h; omega
theorem unknown {op : Int} (h : known op = false) : op ≠ 1 ∧ op ≠ 3 ∧ op ≠ 4 ∧ op ≠ 5 ∧ op ≠ 8 ∧ op ≠ 9 ∧ op ≠ 10 ∧ op ≠ 11 ∧ op ≠ 12 ∧ op ≠ 13 ∧ op ≠ 14 ∧ op ≠ 15 := by
  simp [known] at h; omega
theorem fieldsL_no {op : Int} (h : known op = false) : fieldsL op = [] := by
  obtain ⟨a, b, c, d, e, f, g, i, j, k, l, m⟩ := unknown h
  simp [fieldsL, a, b, c, d, e, f, g, i, j, k, l, m]
theorem nameL_no {op : Int} (h : known op = false) : nameL op = [] := by
  obtain ⟨a, b, c, d, e, f, g, i, j, k, l, m⟩ := unknown h
  simp [nameL, a, b, c, d, e, f, g, i, j, k, l, m]
theorem hasN_no {op : Int} (h : known op = false) : hasN op = 0 := by
  obtain ⟨a, b, c, d, e, f, g, i, j, k, l, m⟩ := unknown h
  simp [hasN, a, b, c, d, e, f, g, i, j, k, l, m]
theorem fieldsL_lt (op : Int) : ∀ x ∈ fieldsL op, x < 9 := by
  cases hk : known op
  · rw [fieldsL_no hk]; simp
  · rcases known_cases hk with rfl | rfl | rfl | rfl | rfl | rfl | rfl | rfl | rfl | rfl | rfl | rfl <;> decide
theorem kop_no {op : Int} (h : known op = false) : kop op = 0 := by simp [kop, h]
theorem kop_yes {op : Int} (h : known op = true) : kop op = op := by simp [kop, h]

/-! ### Numbers -/
abbrev Ns := Nat → Int
abbrev Ns.cs (ns : Ns) : Array Value := #[.int .i64 (ns 0), .int .i64 (ns 1), .int .i64 (ns 2), .int .i64 (ns 3), .int .i64 (ns 4), .int .i64 (ns 5), .int .i64 (ns 6), .int .i64 (ns 7), .int .i64 (ns 8)]
def numC (c : Cm) : Ns
  | 0 => c.dev | 1 => c.ev | 2 => c.num | 3 => c.num | 4 => c.coll | 5 => c.tgt | 6 => c.bit | 7 => c.addr.tdiv 256 | _ => if c.valid then 1 else 0
/-- The numbers of some fields, 0 elsewhere. -/
def ownF (n : Ns) (L : List Nat) : Ns := fun f => if f ∈ L then n f else 0
theorem ownF_nil (n : Ns) : ownF n [] = fun _ => 0 := by funext f; simp [ownF]
def upd (n : Ns) (x : Nat) (v : Int) : Ns := fun f => if f = x then v else n f
theorem ownF_snoc (n : Ns) (L : List Nat) (x : Nat) : ownF n (L ++ [x]) = upd (ownF n L) x (n x) := by
  funext f
  simp only [ownF, upd, List.mem_append, List.mem_singleton]
  by_cases e : f = x
  · subst e; simp
  · simp [e]
def joinC (op : Int) (ns : Ns) : Cm := ⟨op, ns 0, ns 1, RowKit.wrap64 (ns 2 + ns 3), ns 4, ns 5, ns 6, RowKit.wrap64 (ns 7 * 256), decide (ns 8 = 1)⟩
def fits (f : Nat) (n : Int) : Bool := decide (0 ≤ n) && decide (n ≤ (pr f : Int) - 1)
theorem fits_iff {f : Nat} {n : Int} : fits f n = true ↔ 0 ≤ n ∧ n < pr f := by simp [fits]; omega
def validC (c : Cm) : Bool := known c.op && (fieldsL c.op).all (fun f => fits f (numC c f)) && decide (joinC c.op (ownF (numC c) (fieldsL c.op)) = c)
theorem validC_known {c : Cm} (h : validC c = true) : known c.op = true := by simp [validC] at h; exact h.1.1
theorem validC_fits {c : Cm} (h : validC c = true) : ∀ f ∈ fieldsL c.op, fits f (numC c f) = true := by simp [validC] at h; exact h.1.2
theorem validC_join {c : Cm} (h : validC c = true) : joinC c.op (ownF (numC c) (fieldsL c.op)) = c := by simp [validC] at h; exact h.2

/-! ### Words -/
abbrev Ws := Nat → Nat
abbrev Ws.cs (ws : Ws) : Array Value := #[.int .u64 (ws 0), .int .u64 (ws 1), .int .u64 (ws 2), .int .u64 (ws 3)]
def ws0 (op : Nat) : Ws := fun j => if j = 0 then op else 0
def stepW (n : Ns) (ws : Ws) (x : Nat) : Ws := fun j => if j = pw x then ws j ||| (pm x * (n x).toNat) else ws j
def wordsN (op : Nat) (n : Ns) (L : List Nat) : Ws := L.foldl (stepW n) (ws0 op)
theorem wordsN_snoc (op : Nat) (n : Ns) (L : List Nat) (x : Nat) : wordsN op n (L ++ [x]) = stepW n (wordsN op n L) x := by simp [wordsN]
def wordsC (c : Cm) : Ws := wordsN c.op.toNat (numC c) (fieldsL c.op)
/-- The same with sums. -/
def addW (n : Ns) (ws : Ws) (x : Nat) : Ws := fun j => if j = pw x then ws j + (pm x * (n x).toNat) else ws j
def sumsN (op : Nat) (n : Ns) (L : List Nat) : Ws := L.foldl (addW n) (ws0 op)

theorem or_add {a k n : Nat} (h : a < 2 ^ k) : a ||| (2 ^ k * n) = a + 2 ^ k * n := by
  rw [Nat.or_comm, ← Nat.two_pow_add_eq_or_of_lt h, Nat.add_comm]

theorem or32 {a n : Nat} (h : a < 4294967296) : a ||| (4294967296 * n) = a + 4294967296 * n := or_add (k := 32) h
theorem or16 {a n : Nat} (h : a < 65536) : a ||| (65536 * n) = a + 65536 * n := or_add (k := 16) h
theorem or63 {a n : Nat} (h : a < 9223372036854775808) : a ||| (9223372036854775808 * n) = a + 9223372036854775808 * n := or_add (k := 63) h
theorem words_sums {op : Int} {n : Ns} (hk : known op = true) (hf : ∀ f ∈ fieldsL op, fits f (n f) = true) : wordsN op.toNat n (fieldsL op) = sumsN op.toNat n (fieldsL op) := by
  have hb : ∀ f ∈ fieldsL op, (n f).toNat < pr f := fun f h => by
    have := (fits_iff.1 (hf f h))
    omega
  clear hf
  funext j
  rcases known_cases hk with rfl | rfl | rfl | rfl | rfl | rfl | rfl | rfl | rfl | rfl | rfl | rfl
  all_goals
    simp only [fieldsL, List.mem_cons, List.not_mem_nil, or_false, forall_eq_or_imp, forall_eq, pr, reduceIte, Int.reduceEq] at hb ⊢
    simp only [wordsN, sumsN, List.foldl_cons, List.foldl_nil, stepW, addW, ws0, pw, pm]
    by_cases j0 : j = 0
    · subst j0; simp; try (rw [or32 (by decide)])
    · by_cases j1 : j = 1
      · subst j1; simp; try (rw [or32 (by omega)])
      · by_cases j2 : j = 2
        · subst j2; simp; try (first | rw [or16 (by omega), or63 (by omega)] | rw [or63 (by omega)])
        · by_cases j3 : j = 3
          · subst j3; simp
          · simp [j0, j1, j2, j3]
theorem words_lt {c : Cm} (h : validC c = true) : ∀ j, wordsC c j < 18446744073709551616 := by
  intro j
  have hk := validC_known h
  have hf := validC_fits h
  rw [wordsC, words_sums hk hf]
  have hb : ∀ f ∈ fieldsL c.op, (numC c f).toNat < pr f := fun f h => by
    have := (fits_iff.1 (hf f h))
    omega
  clear hf h
  generalize numC c = n at hb ⊢
  generalize c.op = op at hb hk ⊢
  rcases known_cases hk with rfl | rfl | rfl | rfl | rfl | rfl | rfl | rfl | rfl | rfl | rfl | rfl
  all_goals
    simp only [fieldsL, List.mem_cons, List.not_mem_nil, or_false, forall_eq_or_imp, forall_eq, pr, reduceIte, Int.reduceEq] at hb ⊢
    simp only [sumsN, List.foldl_cons, List.foldl_nil, addW, ws0, pw, pm]
    by_cases j0 : j = 0
    · subst j0; simp; try omega
    · by_cases j1 : j = 1
      · subst j1; simp; try omega
      · by_cases j2 : j = 2
        · subst j2; simp; try omega
        · by_cases j3 : j = 3
          · subst j3; simp; try omega
          · simp [j0, j1, j2, j3]

/-! ### Read of words -/
def decN (ws : Ws) : Ns := fun f => ((ws (pw f) / pm f % pr f : Nat) : Int)
def opW (ws : Ws) : Int := ((ws 0 % 256 : Nat) : Int)
def decC (ws : Ws) : Cm := joinC (kop (opW ws)) (ownF (decN ws) (fieldsL (opW ws)))
def sameW (a b : Ws) : Bool := decide (a 0 = b 0) && decide (a 1 = b 1) && decide (a 2 = b 2) && decide (a 3 = b 3)
def decOk (ws : Ws) : Bool := validC (decC ws) && sameW (wordsC (decC ws)) ws
def decR (ws : Ws) : Cm := if decOk ws = true then decC ws else Cm.zero
def encW (c : Cm) : Ws := if validC c = true then wordsC c else fun _ => 0
def errN (ok : Bool) : Int := if ok then 0 else 160

theorem ex_one (a n : Nat) (h : a < 256) : (a + 4294967296 * n) % 256 = a := by omega
theorem ex_32 (a n : Nat) (h : a < 4294967296) (h2 : n < 4294967296) : (a + 4294967296 * n) / 4294967296 % 4294967296 = n := by omega
theorem ex_lo (a n : Nat) (h : a < 4294967296) : (a + 4294967296 * n) % 4294967296 = a := by omega
theorem ex_c (c t v : Nat) (h : c < 65536) (h2 : t < 65536) : (c + 65536 * t + 9223372036854775808 * v) % 65536 = c := by omega
theorem ex_t (c t v : Nat) (h : c < 65536) (h2 : t < 65536) : (c + 65536 * t + 9223372036854775808 * v) / 65536 % 65536 = t := by omega
theorem ex_v (c t v : Nat) (h : c < 65536) (h2 : t < 65536) (h3 : v < 2) : (c + 65536 * t + 9223372036854775808 * v) / 9223372036854775808 % 2 = v := by omega
theorem ex_a (a v : Nat) (h : a < 1099511627776) (h3 : v < 2) : (256 * a + 9223372036854775808 * v) / 256 % 1099511627776 = a := by omega
theorem ex_av (a v : Nat) (h : a < 1099511627776) (h3 : v < 2) : (256 * a + 9223372036854775808 * v) / 9223372036854775808 % 2 = v := by omega
theorem ex_16 (t : Nat) (h : t < 65536) : 65536 * t / 65536 % 65536 = t := by omega
def decF (ws : Ws) (f : Nat) : Nat := ws (pw f) / pm f % pr f
theorem key_1 (n : Ns) (hb : ∀ f ∈ ([0, 1, 4] : List Nat), (n f).toNat < pr f) :
    sumsN 1 n [0, 1, 4] 0 % 256 = 1 ∧ ∀ f ∈ ([0, 1, 4] : List Nat), decF (sumsN 1 n [0, 1, 4]) f = (n f).toNat := by
  have hb0 : (n 0).toNat < 4294967296 := hb 0 (by decide)
  have hb1 : (n 1).toNat < 4294967296 := hb 1 (by decide)
  have hb4 : (n 4).toNat < 65536 := hb 4 (by decide)
  have e0 : sumsN 1 n [0, 1, 4] 0 = 1 + 4294967296 * (n 0).toNat := by simp [sumsN, addW, ws0, pw, pm]
  have e1 : sumsN 1 n [0, 1, 4] 1 = (n 1).toNat := by simp [sumsN, addW, ws0, pw, pm]
  have e2 : sumsN 1 n [0, 1, 4] 2 = (n 4).toNat := by simp [sumsN, addW, ws0, pw, pm]
  have e3 : sumsN 1 n [0, 1, 4] 3 = 0 := by simp [sumsN, addW, ws0, pw, pm]
  generalize sumsN 1 n [0, 1, 4] = ws at e0 e1 e2 e3 ⊢
  refine ⟨?_, ?_⟩
  · rw [e0]; exact ex_one _ _ (by decide)
  · intro f hf
    simp only [List.mem_cons, List.not_mem_nil, or_false] at hf
    rcases hf with rfl | rfl | rfl
    · exact (show ws 0 / 4294967296 % 4294967296 = _ by rw [e0]; exact ex_32 _ _ (by decide) hb0)
    · exact (show ws 1 / 1 % 4294967296 = _ by rw [e1, Nat.div_one]; exact Nat.mod_eq_of_lt hb1)
    · exact (show ws 2 / 1 % 65536 = _ by rw [e2, Nat.div_one]; exact Nat.mod_eq_of_lt hb4)
theorem key_3 (n : Ns) (hb : ∀ f ∈ ([0, 1] : List Nat), (n f).toNat < pr f) :
    sumsN 3 n [0, 1] 0 % 256 = 3 ∧ ∀ f ∈ ([0, 1] : List Nat), decF (sumsN 3 n [0, 1]) f = (n f).toNat := by
  have hb0 : (n 0).toNat < 4294967296 := hb 0 (by decide)
  have hb1 : (n 1).toNat < 4294967296 := hb 1 (by decide)
  have e0 : sumsN 3 n [0, 1] 0 = 3 + 4294967296 * (n 0).toNat := by simp [sumsN, addW, ws0, pw, pm]
  have e1 : sumsN 3 n [0, 1] 1 = (n 1).toNat := by simp [sumsN, addW, ws0, pw, pm]
  have e2 : sumsN 3 n [0, 1] 2 = 0 := by simp [sumsN, addW, ws0, pw, pm]
  have e3 : sumsN 3 n [0, 1] 3 = 0 := by simp [sumsN, addW, ws0, pw, pm]
  generalize sumsN 3 n [0, 1] = ws at e0 e1 e2 e3 ⊢
  refine ⟨?_, ?_⟩
  · rw [e0]; exact ex_one _ _ (by decide)
  · intro f hf
    simp only [List.mem_cons, List.not_mem_nil, or_false] at hf
    rcases hf with rfl | rfl
    · exact (show ws 0 / 4294967296 % 4294967296 = _ by rw [e0]; exact ex_32 _ _ (by decide) hb0)
    · exact (show ws 1 / 1 % 4294967296 = _ by rw [e1, Nat.div_one]; exact Nat.mod_eq_of_lt hb1)
theorem key_4 (n : Ns) (hb : ∀ f ∈ ([0, 1] : List Nat), (n f).toNat < pr f) :
    sumsN 4 n [0, 1] 0 % 256 = 4 ∧ ∀ f ∈ ([0, 1] : List Nat), decF (sumsN 4 n [0, 1]) f = (n f).toNat := by
  have hb0 : (n 0).toNat < 4294967296 := hb 0 (by decide)
  have hb1 : (n 1).toNat < 4294967296 := hb 1 (by decide)
  have e0 : sumsN 4 n [0, 1] 0 = 4 + 4294967296 * (n 0).toNat := by simp [sumsN, addW, ws0, pw, pm]
  have e1 : sumsN 4 n [0, 1] 1 = (n 1).toNat := by simp [sumsN, addW, ws0, pw, pm]
  have e2 : sumsN 4 n [0, 1] 2 = 0 := by simp [sumsN, addW, ws0, pw, pm]
  have e3 : sumsN 4 n [0, 1] 3 = 0 := by simp [sumsN, addW, ws0, pw, pm]
  generalize sumsN 4 n [0, 1] = ws at e0 e1 e2 e3 ⊢
  refine ⟨?_, ?_⟩
  · rw [e0]; exact ex_one _ _ (by decide)
  · intro f hf
    simp only [List.mem_cons, List.not_mem_nil, or_false] at hf
    rcases hf with rfl | rfl
    · exact (show ws 0 / 4294967296 % 4294967296 = _ by rw [e0]; exact ex_32 _ _ (by decide) hb0)
    · exact (show ws 1 / 1 % 4294967296 = _ by rw [e1, Nat.div_one]; exact Nat.mod_eq_of_lt hb1)
theorem key_5 (n : Ns) (hb : ∀ f ∈ ([5] : List Nat), (n f).toNat < pr f) :
    sumsN 5 n [5] 0 % 256 = 5 ∧ ∀ f ∈ ([5] : List Nat), decF (sumsN 5 n [5]) f = (n f).toNat := by
  have hb5 : (n 5).toNat < 65536 := hb 5 (by decide)
  have e0 : sumsN 5 n [5] 0 = 5 := by simp [sumsN, addW, ws0, pw, pm]
  have e1 : sumsN 5 n [5] 1 = 0 := by simp [sumsN, addW, ws0, pw, pm]
  have e2 : sumsN 5 n [5] 2 = 65536 * (n 5).toNat := by simp [sumsN, addW, ws0, pw, pm]
  have e3 : sumsN 5 n [5] 3 = 0 := by simp [sumsN, addW, ws0, pw, pm]
  generalize sumsN 5 n [5] = ws at e0 e1 e2 e3 ⊢
  refine ⟨?_, ?_⟩
  · rw [e0]
  · intro f hf
    simp only [List.mem_cons, List.not_mem_nil, or_false] at hf
    subst hf
    exact (show ws 2 / 65536 % 65536 = _ by rw [e2]; exact ex_16 _ hb5)
theorem key_8 (n : Ns) (hb : ∀ f ∈ ([0, 6, 7, 8] : List Nat), (n f).toNat < pr f) :
    sumsN 8 n [0, 6, 7, 8] 0 % 256 = 8 ∧ ∀ f ∈ ([0, 6, 7, 8] : List Nat), decF (sumsN 8 n [0, 6, 7, 8]) f = (n f).toNat := by
  have hb0 : (n 0).toNat < 4294967296 := hb 0 (by decide)
  have hb6 : (n 6).toNat < 32 := hb 6 (by decide)
  have hb7 : (n 7).toNat < 1099511627776 := hb 7 (by decide)
  have hb8 : (n 8).toNat < 2 := hb 8 (by decide)
  have e0 : sumsN 8 n [0, 6, 7, 8] 0 = 8 + 4294967296 * (n 0).toNat := by simp [sumsN, addW, ws0, pw, pm]
  have e1 : sumsN 8 n [0, 6, 7, 8] 1 = (n 6).toNat := by simp [sumsN, addW, ws0, pw, pm]
  have e2 : sumsN 8 n [0, 6, 7, 8] 2 = 256 * (n 7).toNat + 9223372036854775808 * (n 8).toNat := by simp [sumsN, addW, ws0, pw, pm]
  have e3 : sumsN 8 n [0, 6, 7, 8] 3 = 0 := by simp [sumsN, addW, ws0, pw, pm]
  generalize sumsN 8 n [0, 6, 7, 8] = ws at e0 e1 e2 e3 ⊢
  refine ⟨?_, ?_⟩
  · rw [e0]; exact ex_one _ _ (by decide)
  · intro f hf
    simp only [List.mem_cons, List.not_mem_nil, or_false] at hf
    rcases hf with rfl | rfl | rfl | rfl
    · exact (show ws 0 / 4294967296 % 4294967296 = _ by rw [e0]; exact ex_32 _ _ (by decide) hb0)
    · exact (show ws 1 / 1 % 32 = _ by rw [e1, Nat.div_one]; exact Nat.mod_eq_of_lt hb6)
    · exact (show ws 2 / 256 % 1099511627776 = _ by rw [e2]; exact ex_a _ _ hb7 hb8)
    · exact (show ws 2 / 9223372036854775808 % 2 = _ by rw [e2]; exact ex_av _ _ hb7 hb8)
theorem key_9 (n : Ns) (hb : ∀ f ∈ ([4, 5, 8] : List Nat), (n f).toNat < pr f) :
    sumsN 9 n [4, 5, 8] 0 % 256 = 9 ∧ ∀ f ∈ ([4, 5, 8] : List Nat), decF (sumsN 9 n [4, 5, 8]) f = (n f).toNat := by
  have hb4 : (n 4).toNat < 65536 := hb 4 (by decide)
  have hb5 : (n 5).toNat < 65536 := hb 5 (by decide)
  have hb8 : (n 8).toNat < 2 := hb 8 (by decide)
  have e0 : sumsN 9 n [4, 5, 8] 0 = 9 := by simp [sumsN, addW, ws0, pw, pm]
  have e1 : sumsN 9 n [4, 5, 8] 1 = 0 := by simp [sumsN, addW, ws0, pw, pm]
  have e2 : sumsN 9 n [4, 5, 8] 2 = (n 4).toNat + 65536 * (n 5).toNat + 9223372036854775808 * (n 8).toNat := by simp [sumsN, addW, ws0, pw, pm]
  have e3 : sumsN 9 n [4, 5, 8] 3 = 0 := by simp [sumsN, addW, ws0, pw, pm]
  generalize sumsN 9 n [4, 5, 8] = ws at e0 e1 e2 e3 ⊢
  refine ⟨?_, ?_⟩
  · rw [e0]
  · intro f hf
    simp only [List.mem_cons, List.not_mem_nil, or_false] at hf
    rcases hf with rfl | rfl | rfl
    · exact (show ws 2 / 1 % 65536 = _ by rw [e2, Nat.div_one]; exact ex_c _ _ _ hb4 hb5)
    · exact (show ws 2 / 65536 % 65536 = _ by rw [e2]; exact ex_t _ _ _ hb4 hb5)
    · exact (show ws 2 / 9223372036854775808 % 2 = _ by rw [e2]; exact ex_v _ _ _ hb4 hb5 hb8)
theorem key_10 (n : Ns) (hb : ∀ f ∈ ([0, 1, 2, 4] : List Nat), (n f).toNat < pr f) :
    sumsN 10 n [0, 1, 2, 4] 0 % 256 = 10 ∧ ∀ f ∈ ([0, 1, 2, 4] : List Nat), decF (sumsN 10 n [0, 1, 2, 4]) f = (n f).toNat := by
  have hb0 : (n 0).toNat < 4294967296 := hb 0 (by decide)
  have hb1 : (n 1).toNat < 4294967296 := hb 1 (by decide)
  have hb2 : (n 2).toNat < 4294967296 := hb 2 (by decide)
  have hb4 : (n 4).toNat < 65536 := hb 4 (by decide)
  have e0 : sumsN 10 n [0, 1, 2, 4] 0 = 10 + 4294967296 * (n 0).toNat := by simp [sumsN, addW, ws0, pw, pm]
  have e1 : sumsN 10 n [0, 1, 2, 4] 1 = (n 1).toNat + 4294967296 * (n 2).toNat := by simp [sumsN, addW, ws0, pw, pm]
  have e2 : sumsN 10 n [0, 1, 2, 4] 2 = (n 4).toNat := by simp [sumsN, addW, ws0, pw, pm]
  have e3 : sumsN 10 n [0, 1, 2, 4] 3 = 0 := by simp [sumsN, addW, ws0, pw, pm]
  generalize sumsN 10 n [0, 1, 2, 4] = ws at e0 e1 e2 e3 ⊢
  refine ⟨?_, ?_⟩
  · rw [e0]; exact ex_one _ _ (by decide)
  · intro f hf
    simp only [List.mem_cons, List.not_mem_nil, or_false] at hf
    rcases hf with rfl | rfl | rfl | rfl
    · exact (show ws 0 / 4294967296 % 4294967296 = _ by rw [e0]; exact ex_32 _ _ (by decide) hb0)
    · exact (show ws 1 / 1 % 4294967296 = _ by rw [e1, Nat.div_one]; exact ex_lo _ _ hb1)
    · exact (show ws 1 / 4294967296 % 4294967296 = _ by rw [e1]; exact ex_32 _ _ hb1 hb2)
    · exact (show ws 2 / 1 % 65536 = _ by rw [e2, Nat.div_one]; exact Nat.mod_eq_of_lt hb4)
theorem key_11 (n : Ns) (hb : ∀ f ∈ ([0, 1, 4] : List Nat), (n f).toNat < pr f) :
    sumsN 11 n [0, 1, 4] 0 % 256 = 11 ∧ ∀ f ∈ ([0, 1, 4] : List Nat), decF (sumsN 11 n [0, 1, 4]) f = (n f).toNat := by
  have hb0 : (n 0).toNat < 4294967296 := hb 0 (by decide)
  have hb1 : (n 1).toNat < 4294967296 := hb 1 (by decide)
  have hb4 : (n 4).toNat < 65536 := hb 4 (by decide)
  have e0 : sumsN 11 n [0, 1, 4] 0 = 11 + 4294967296 * (n 0).toNat := by simp [sumsN, addW, ws0, pw, pm]
  have e1 : sumsN 11 n [0, 1, 4] 1 = (n 1).toNat := by simp [sumsN, addW, ws0, pw, pm]
  have e2 : sumsN 11 n [0, 1, 4] 2 = (n 4).toNat := by simp [sumsN, addW, ws0, pw, pm]
  have e3 : sumsN 11 n [0, 1, 4] 3 = 0 := by simp [sumsN, addW, ws0, pw, pm]
  generalize sumsN 11 n [0, 1, 4] = ws at e0 e1 e2 e3 ⊢
  refine ⟨?_, ?_⟩
  · rw [e0]; exact ex_one _ _ (by decide)
  · intro f hf
    simp only [List.mem_cons, List.not_mem_nil, or_false] at hf
    rcases hf with rfl | rfl | rfl
    · exact (show ws 0 / 4294967296 % 4294967296 = _ by rw [e0]; exact ex_32 _ _ (by decide) hb0)
    · exact (show ws 1 / 1 % 4294967296 = _ by rw [e1, Nat.div_one]; exact Nat.mod_eq_of_lt hb1)
    · exact (show ws 2 / 1 % 65536 = _ by rw [e2, Nat.div_one]; exact Nat.mod_eq_of_lt hb4)
theorem key_12 (n : Ns) (hb : ∀ f ∈ ([0, 1] : List Nat), (n f).toNat < pr f) :
    sumsN 12 n [0, 1] 0 % 256 = 12 ∧ ∀ f ∈ ([0, 1] : List Nat), decF (sumsN 12 n [0, 1]) f = (n f).toNat := by
  have hb0 : (n 0).toNat < 4294967296 := hb 0 (by decide)
  have hb1 : (n 1).toNat < 4294967296 := hb 1 (by decide)
  have e0 : sumsN 12 n [0, 1] 0 = 12 + 4294967296 * (n 0).toNat := by simp [sumsN, addW, ws0, pw, pm]
  have e1 : sumsN 12 n [0, 1] 1 = (n 1).toNat := by simp [sumsN, addW, ws0, pw, pm]
  have e2 : sumsN 12 n [0, 1] 2 = 0 := by simp [sumsN, addW, ws0, pw, pm]
  have e3 : sumsN 12 n [0, 1] 3 = 0 := by simp [sumsN, addW, ws0, pw, pm]
  generalize sumsN 12 n [0, 1] = ws at e0 e1 e2 e3 ⊢
  refine ⟨?_, ?_⟩
  · rw [e0]; exact ex_one _ _ (by decide)
  · intro f hf
    simp only [List.mem_cons, List.not_mem_nil, or_false] at hf
    rcases hf with rfl | rfl
    · exact (show ws 0 / 4294967296 % 4294967296 = _ by rw [e0]; exact ex_32 _ _ (by decide) hb0)
    · exact (show ws 1 / 1 % 4294967296 = _ by rw [e1, Nat.div_one]; exact Nat.mod_eq_of_lt hb1)
theorem key_13 (n : Ns) (hb : ∀ f ∈ ([4] : List Nat), (n f).toNat < pr f) :
    sumsN 13 n [4] 0 % 256 = 13 ∧ ∀ f ∈ ([4] : List Nat), decF (sumsN 13 n [4]) f = (n f).toNat := by
  have hb4 : (n 4).toNat < 65536 := hb 4 (by decide)
  have e0 : sumsN 13 n [4] 0 = 13 := by simp [sumsN, addW, ws0, pw, pm]
  have e1 : sumsN 13 n [4] 1 = 0 := by simp [sumsN, addW, ws0, pw, pm]
  have e2 : sumsN 13 n [4] 2 = (n 4).toNat := by simp [sumsN, addW, ws0, pw, pm]
  have e3 : sumsN 13 n [4] 3 = 0 := by simp [sumsN, addW, ws0, pw, pm]
  generalize sumsN 13 n [4] = ws at e0 e1 e2 e3 ⊢
  refine ⟨?_, ?_⟩
  · rw [e0]
  · intro f hf
    simp only [List.mem_cons, List.not_mem_nil, or_false] at hf
    subst hf
    exact (show ws 2 / 1 % 65536 = _ by rw [e2, Nat.div_one]; exact Nat.mod_eq_of_lt hb4)
theorem key_14 (n : Ns) (hb : ∀ f ∈ ([3, 5] : List Nat), (n f).toNat < pr f) :
    sumsN 14 n [3, 5] 0 % 256 = 14 ∧ ∀ f ∈ ([3, 5] : List Nat), decF (sumsN 14 n [3, 5]) f = (n f).toNat := by
  have hb3 : (n 3).toNat < 65536 := hb 3 (by decide)
  have hb5 : (n 5).toNat < 65536 := hb 5 (by decide)
  have e0 : sumsN 14 n [3, 5] 0 = 14 := by simp [sumsN, addW, ws0, pw, pm]
  have e1 : sumsN 14 n [3, 5] 1 = 0 := by simp [sumsN, addW, ws0, pw, pm]
  have e2 : sumsN 14 n [3, 5] 2 = 65536 * (n 5).toNat := by simp [sumsN, addW, ws0, pw, pm]
  have e3 : sumsN 14 n [3, 5] 3 = 65536 * (n 3).toNat := by simp [sumsN, addW, ws0, pw, pm]
  generalize sumsN 14 n [3, 5] = ws at e0 e1 e2 e3 ⊢
  refine ⟨?_, ?_⟩
  · rw [e0]
  · intro f hf
    simp only [List.mem_cons, List.not_mem_nil, or_false] at hf
    rcases hf with rfl | rfl
    · exact (show ws 3 / 65536 % 65536 = _ by rw [e3]; exact ex_16 _ hb3)
    · exact (show ws 2 / 65536 % 65536 = _ by rw [e2]; exact ex_16 _ hb5)
theorem key_15 (n : Ns) (hb : ∀ f ∈ ([0, 1] : List Nat), (n f).toNat < pr f) :
    sumsN 15 n [0, 1] 0 % 256 = 15 ∧ ∀ f ∈ ([0, 1] : List Nat), decF (sumsN 15 n [0, 1]) f = (n f).toNat := by
  have hb0 : (n 0).toNat < 4294967296 := hb 0 (by decide)
  have hb1 : (n 1).toNat < 4294967296 := hb 1 (by decide)
  have e0 : sumsN 15 n [0, 1] 0 = 15 + 4294967296 * (n 0).toNat := by simp [sumsN, addW, ws0, pw, pm]
  have e1 : sumsN 15 n [0, 1] 1 = (n 1).toNat := by simp [sumsN, addW, ws0, pw, pm]
  have e2 : sumsN 15 n [0, 1] 2 = 0 := by simp [sumsN, addW, ws0, pw, pm]
  have e3 : sumsN 15 n [0, 1] 3 = 0 := by simp [sumsN, addW, ws0, pw, pm]
  generalize sumsN 15 n [0, 1] = ws at e0 e1 e2 e3 ⊢
  refine ⟨?_, ?_⟩
  · rw [e0]; exact ex_one _ _ (by decide)
  · intro f hf
    simp only [List.mem_cons, List.not_mem_nil, or_false] at hf
    rcases hf with rfl | rfl
    · exact (show ws 0 / 4294967296 % 4294967296 = _ by rw [e0]; exact ex_32 _ _ (by decide) hb0)
    · exact (show ws 1 / 1 % 4294967296 = _ by rw [e1, Nat.div_one]; exact Nat.mod_eq_of_lt hb1)
theorem sums_key {op : Int} {n : Ns} (hk : known op = true) (hb : ∀ f ∈ fieldsL op, (n f).toNat < pr f) :
    sumsN op.toNat n (fieldsL op) 0 % 256 = op.toNat ∧ ∀ f ∈ fieldsL op, decF (sumsN op.toNat n (fieldsL op)) f = (n f).toNat := by
  rcases known_cases hk with rfl | rfl | rfl | rfl | rfl | rfl | rfl | rfl | rfl | rfl | rfl | rfl
  · exact key_1 n hb
  · exact key_3 n hb
  · exact key_4 n hb
  · exact key_5 n hb
  · exact key_8 n hb
  · exact key_9 n hb
  · exact key_10 n hb
  · exact key_11 n hb
  · exact key_12 n hb
  · exact key_13 n hb
  · exact key_14 n hb
  · exact key_15 n hb
/-- WHAT IS WRITTEN IS READ AS ITSELF. -/
theorem dec_words {c : Cm} (h : validC c = true) : decC (wordsC c) = c := by
  have hk := validC_known h
  have hf := validC_fits h
  have hj := validC_join h
  have hw : wordsC c = sumsN c.op.toNat (numC c) (fieldsL c.op) := words_sums hk hf
  have h0 : ∀ f ∈ fieldsL c.op, 0 ≤ numC c f := fun f hm => (fits_iff.1 (hf f hm)).1
  have hb : ∀ f ∈ fieldsL c.op, (numC c f).toNat < pr f := fun f hm => by
    have := (fits_iff.1 (hf f hm))
    omega
  have key := sums_key hk hb
  have hop : opW (wordsC c) = c.op := by
    rw [hw, opW, key.1]
    rcases known_cases hk with e | e | e | e | e | e | e | e | e | e | e | e <;> rw [e] <;> rfl
  rw [decC, hop, kop_yes hk]
  rw [show ownF (decN (wordsC c)) (fieldsL c.op) = ownF (numC c) (fieldsL c.op) from ?_]
  · exact hj
  · funext f
    simp only [ownF]
    split
    · rename_i hm
      have e := key.2 f hm
      rw [hw]
      show ((decF _ f : Nat) : Int) = _
      rw [e]
      exact Int.toNat_of_nonneg (h0 f hm)
    · rfl
theorem sameW_refl (a : Ws) : sameW a a = true := by simp [sameW]
theorem decOk_words {c : Cm} (h : validC c = true) : decOk (wordsC c) = true ∧ decR (wordsC c) = c := by
  have e : decOk (wordsC c) = true := by rw [decOk, dec_words h, h, sameW_refl]; rfl
  exact ⟨e, by rw [decR, if_pos e, dec_words h]⟩
theorem zero_bad : validC Cm.zero = false := by decide +kernel

/-! ### Texts -/
def textN (name : List UInt8) (n : Ns) (L : List Nat) : List UInt8 := L.foldl (fun t x => t ++ (32 :: Lib.itoa (n x))) name
theorem textN_snoc (name : List UInt8) (n : Ns) (L : List Nat) (x : Nat) : textN name n (L ++ [x]) = textN name n L ++ (32 :: Lib.itoa (n x)) := by simp [textN]
def textC (c : Cm) : List UInt8 := textN (nameL c.op) (numC c) (fieldsL c.op)
/-- Cut at the first blank. -/
def headL : List UInt8 → List UInt8
  | [] => []
  | b :: l => if b = 32 then [] else b :: headL l
def tailL : List UInt8 → List UInt8
  | [] => []
  | b :: l => if b = 32 then l else tailL l
theorem headL_of (a r : List UInt8) (h : ∀ b ∈ a, b ≠ 32) : headL (a ++ 32 :: r) = a ∧ tailL (a ++ 32 :: r) = r := by
  induction a with
  | nil => simp [headL, tailL]
  | cons b a ih =>
    have := ih (fun x hx => h x (List.mem_cons_of_mem _ hx))
    have hb := h b List.mem_cons_self
    simp [headL, tailL, hb, this]
theorem headL_all (a : List UInt8) (h : ∀ b ∈ a, b ≠ 32) : headL a = a ∧ tailL a = [] := by
  induction a with
  | nil => simp [headL, tailL]
  | cons b a ih =>
    have := ih (fun x hx => h x (List.mem_cons_of_mem _ hx))
    have hb := h b List.mem_cons_self
    simp [headL, tailL, hb, this]
theorem tailL_len (t : List UInt8) : (tailL t).length ≤ t.length := by
  induction t with
  | nil => simp [tailL]
  | cons b l ih => simp only [tailL]; split <;> simp <;> omega
theorem headL_len (t : List UInt8) : (headL t).length ≤ t.length := by
  induction t with
  | nil => simp [headL]
  | cons b l ih => simp only [headL]; split <;> simp; omega

/-- What Atoi gives as a number. -/
def atoiV (l : List UInt8) : Int := match Lib.atoiAll l with | .ok v => v | .syntax => 0 | .range => Lib.atoiSat l
/-- The numbers that Parse reads, and what is left of the text. -/
def parseS : Ns × List UInt8 → Nat → Ns × List UInt8 := fun s x => (upd s.1 x (atoiV (headL s.2)), tailL s.2)
def parseN (t : List UInt8) (L : List Nat) : Ns × List UInt8 := L.foldl parseS (fun _ => 0, t)
theorem parseN_snoc (t : List UInt8) (L : List Nat) (x : Nat) : parseN t (L ++ [x]) = parseS (parseN t L) x := by simp [parseN]
/-- The op of a name; 0: there is none. -/
def opOf (nm : List UInt8) : Int :=
  if nm = nameL 1 then 1 else if nm = nameL 3 then 3 else if nm = nameL 4 then 4 else if nm = nameL 5 then 5 else if nm = nameL 8 then 8 else if nm = nameL 9 then 9 else
  if nm = nameL 10 then 10 else if nm = nameL 11 then 11 else if nm = nameL 12 then 12 else if nm = nameL 13 then 13 else if nm = nameL 14 then 14 else if nm = nameL 15 then 15 else 0
def parC (t : List UInt8) : Cm := joinC (opOf (headL t)) (parseN (tailL t) (fieldsL (opOf (headL t)))).1
def parOk (t : List UInt8) : Bool := validC (parC t) && decide (textC (parC t) = t)
def parR (t : List UInt8) : Cm := if parOk t = true then parC t else Cm.zero

theorem opOf_name {op : Int} (h : known op = true) : opOf (nameL op) = op := by
  rcases known_cases h with rfl | rfl | rfl | rfl | rfl | rfl | rfl | rfl | rfl | rfl | rfl | rfl <;> decide
theorem nameL_plain {op : Int} : ∀ b ∈ nameL op, b ≠ 32 := by
  cases h : known op
  · rw [nameL_no h]; simp
  · rcases known_cases h with rfl | rfl | rfl | rfl | rfl | rfl | rfl | rfl | rfl | rfl | rfl | rfl <;> decide

theorem digit_of {d : Nat} (h : d < 10) : (UInt8.ofNat (48 + d)).toNat = 48 + d := by
  simp [UInt8.toNat_ofNat']; omega
theorem dec_bytes (u : Nat) : ∀ b ∈ Lib.decDigits u, 48 ≤ b.toNat ∧ b.toNat ≤ 57 := by
  induction u using Nat.strongRecOn with
  | _ u ih =>
    rw [Lib.decDigits]
    split
    · rename_i h
      simp only [List.mem_singleton]
      rintro b rfl
      rw [digit_of h]; omega
    · rename_i h
      intro b hb
      rcases List.mem_append.1 hb with hb | hb
      · exact ih (u / 10) (by omega) b hb
      · rw [List.mem_singleton] at hb
        subst hb
        rw [digit_of (Nat.mod_lt _ (by decide))]; omega
theorem parse_append : ∀ (l r : List UInt8) (acc u : Nat), Lib.parseUint10 acc l = .ok u → Lib.parseUint10 acc (l ++ r) = Lib.parseUint10 u r
  | [], r, acc, u, h => by
    simp only [Lib.parseUint10, Lib.NumEnd.ok.injEq] at h
    subst h; rfl
  | c :: l, r, acc, u, h => by
    rw [List.cons_append]
    simp only [Lib.parseUint10] at h ⊢
    split at h
    · rename_i h1
      rw [if_pos h1]
      split at h
      · cases h
      · rename_i h2
        rw [if_neg h2]
        split at h
        · cases h
        · rename_i h3
          rw [if_neg h3]
          exact parse_append l r _ u h
    · cases h
theorem parse_dec (u : Nat) (h : u < 1000000000000000000) : Lib.parseUint10 0 (Lib.decDigits u) = .ok u := by
  induction u using Nat.strongRecOn with
  | _ u ih =>
    rw [Lib.decDigits]
    split
    · rename_i h1
      have := digit_of h1
      simp only [Lib.parseUint10, this]
      rw [if_pos (by omega), if_neg (by omega), if_neg (by omega)]
      congr 1; omega
    · rename_i h1
      rw [parse_append _ _ _ _ (ih (u / 10) (by omega) (by omega))]
      have := digit_of (show u % 10 < 10 from Nat.mod_lt _ (by decide))
      simp only [Lib.parseUint10, this]
      rw [if_pos (by omega), if_neg (by omega), if_neg (by omega)]
      congr 1; omega
theorem dec_ne (u : Nat) : Lib.decDigits u ≠ [] := by
  rw [Lib.decDigits]; split <;> simp
theorem itoa_nat (u : Nat) : Lib.itoa (u : Int) = Lib.decDigits u := by
  rw [Lib.itoa, if_neg (by omega)]; rfl
theorem atoi_itoa {n : Int} (h0 : 0 ≤ n) (h1 : n < 1000000000000000000) : Lib.atoiAll (Lib.itoa n) = .ok n := by
  obtain ⟨u, rfl⟩ : ∃ u : Nat, n = u := ⟨n.toNat, by omega⟩
  rw [itoa_nat]
  have hp := parse_dec u (by omega)
  have hb := dec_bytes u
  cases hd : Lib.decDigits u with
  | nil => exact absurd hd (dec_ne u)
  | cons c r =>
    rw [hd] at hp hb
    have hc := hb c List.mem_cons_self
    have e : Lib.parseMag (c :: r) = .ok u := by unfold Lib.parseMag; rw [if_neg (by simp)]; exact hp
    have n1 : ¬ (c.toNat = 43 ∨ c.toNat = 45) := by omega
    have n2 : ¬ c.toNat = 45 := by omega
    simp only [Lib.atoiAll]
    rw [if_neg n1, e]
    simp only [n2]
    simp
    omega
theorem itoa_plain {n : Int} (h0 : 0 ≤ n) : ∀ b ∈ Lib.itoa n, b ≠ 32 := by
  obtain ⟨u, rfl⟩ : ∃ u : Nat, n = u := ⟨n.toNat, by omega⟩
  rw [itoa_nat]
  intro b hb e
  have := dec_bytes u b hb
  rw [e] at this
  simp at this

/-- The texts behind a name: the numbers of the fields that are left. -/
def restL (n : Ns) (L : List Nat) : List UInt8 := L.flatMap fun x => 32 :: Lib.itoa (n x)
theorem textN_rest (name : List UInt8) (n : Ns) (L : List Nat) : textN name n L = name ++ restL n L := by
  induction L generalizing name with
  | nil => simp [textN, restL]
  | cons x L ih =>
    have := ih (name ++ (32 :: Lib.itoa (n x)))
    simp only [textN, List.foldl_cons] at this ⊢
    rw [this]
    simp [restL]
theorem cut_rest (a : List UInt8) (n : Ns) (L : List Nat) (ha : ∀ b ∈ a, b ≠ 32) : headL (a ++ restL n L) = a ∧ tailL (a ++ restL n L) = (restL n L).drop 1 := by
  cases L with
  | nil => simpa [restL] using headL_all a ha
  | cons x L =>
    have := headL_of a (Lib.itoa (n x) ++ restL n L) ha
    simpa [restL] using this
theorem parse_rest (n m : Ns) (L : List Nat) (h : ∀ f ∈ L, 0 ≤ n f ∧ n f < 1000000000000000000) : (L.foldl parseS (m, (restL n L).drop 1)).1 = fun f => if f ∈ L then n f else m f := by
  induction L generalizing m with
  | nil => simp
  | cons x L ih =>
    have hx := h x List.mem_cons_self
    have hc := cut_rest (Lib.itoa (n x)) n L (itoa_plain hx.1)
    have e : (restL n (x :: L)).drop 1 = Lib.itoa (n x) ++ restL n L := by simp [restL]
    rw [e, List.foldl_cons]
    simp only [parseS]
    rw [hc.1, hc.2]
    have ea : atoiV (Lib.itoa (n x)) = n x := by rw [atoiV, atoi_itoa hx.1 hx.2]
    rw [ea]
    have := ih (upd m x (n x)) (fun f hf => h f (List.mem_cons_of_mem _ hf))
    refine this.trans ?_
    funext f
    simp only [upd, List.mem_cons]
    by_cases h1 : f ∈ L
    · simp [h1]
    · by_cases h2 : f = x
      · subst h2; simp [h1]
      · simp [h1, h2]
theorem par_text {c : Cm} (h : validC c = true) : parC (textC c) = c := by
  have hk := validC_known h
  have hf := validC_fits h
  have hj := validC_join h
  have hb : ∀ f ∈ fieldsL c.op, 0 ≤ numC c f ∧ numC c f < 1000000000000000000 := fun f hm => by
    have h1 := (fits_iff.1 (hf f hm))
    have h9 := fieldsL_lt c.op f hm
    have h2 : pr f ≤ 1099511627776 := by
      have : f = 0 ∨ f = 1 ∨ f = 2 ∨ f = 3 ∨ f = 4 ∨ f = 5 ∨ f = 6 ∨ f = 7 ∨ f = 8 := by omega
      rcases this with rfl | rfl | rfl | rfl | rfl | rfl | rfl | rfl | rfl <;> decide
    omega
  have hc := cut_rest (nameL c.op) (numC c) (fieldsL c.op) nameL_plain
  have e : textC c = nameL c.op ++ restL (numC c) (fieldsL c.op) := textN_rest _ _ _
  rw [parC, e, hc.1, hc.2, opOf_name hk]
  have := parse_rest (numC c) (fun _ => 0) (fieldsL c.op) hb
  rw [parseN, this]
  exact hj
theorem parOk_text {c : Cm} (h : validC c = true) : parOk (textC c) = true ∧ parR (textC c) = c := by
  have e : parOk (textC c) = true := by rw [parOk, par_text h, h]; simp
  exact ⟨e, by rw [parR, if_pos e, par_text h]⟩

end Go.Proofs.Ytfnokpajendlmaa
