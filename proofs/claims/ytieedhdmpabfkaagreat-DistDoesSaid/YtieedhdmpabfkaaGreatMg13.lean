import Derived.Test.YtieedhdmpabfkaaGreatMg02
import Derived.Laws.BitsAllLaws
import Derived.Test.YtieedhdmpabfkaaGreatMg12
import Derived.Test.YtieedhdmpabfkaaGreatMg01
set_option linter.unusedSimpArgs false
namespace Go.Proofs.YtieedhdmpabfkaaGreat
set_option linter.unusedVariables false
theorem i64_and1 (p : Int) : bits .and .i64 p 1 = p % 2 := by
 rw [show (1 : Int) = ((1 : Nat) : Int) from rfl, and_low p 1 (by decide), Nat.and_one_is_mod]
 unfold low8
 omega
theorem and_split (a M k c : Nat) (hc : c < 2 ^ k) : a &&& (M * 2 ^ k + c) = ((a / 2 ^ k) &&& M) * 2 ^ k + (a % 2 ^ k &&& c) := by
 have hp : 0 < 2 ^ k := Nat.two_pow_pos k
 have h1 : (a &&& (M * 2 ^ k + c)) / 2 ^ k = (a / 2 ^ k) &&& M := by
  have := @Nat.shiftRight_and_distrib k a (M * 2 ^ k + c)
  simp only [Nat.shiftRight_eq_div_pow] at this
  rw [this]
  congr 1
  rw [Nat.mul_comm, Nat.mul_add_div hp, Nat.div_eq_of_lt hc, Nat.add_zero]
 have h2 : (a &&& (M * 2 ^ k + c)) % 2 ^ k = (a % 2 ^ k &&& c) := by
  rw [Nat.and_mod_two_pow]
  congr 1
  rw [Nat.mul_comm, Nat.mul_add_mod, Nat.mod_eq_of_lt hc]
 rw [← h1, ← h2, Nat.mul_comm _ (2 ^ k), Nat.mul_comm _ (2 ^ k), Nat.div_add_mod]
structure Cl where
 id : Int
 all : Bool
 tg : Int
 odd : Bool
deriving DecidableEq
abbrev Cl.v (c : Cl) : Value := .agg #[.int .i64 c.id, .bool c.all, .int .i64 c.tg, .bool c.odd]
abbrev Cl.cs (c : Cl) : Array Value := #[.int .i64 c.id, .bool c.all, .int .i64 c.tg, .bool c.odd]
def Cl.zero : Cl := ⟨0, false, 0, false⟩
def callV (c : Cl) (fr : Int) (k : Nat) : Bool := if c.all then decide ((k : Int) ≠ fr) else (!c.odd && bt c.tg k)
def capN (cores : Int) : Nat := (min cores 8).toNat
theorem capN_le (cores : Int) : capN cores ≤ 8 := by unfold capN; omega
def upto (f : Nat → Bool) : Nat → List Nat
 | 0 => []
 | n + 1 => if f n then upto f n ++ [n] else upto f n
theorem upto_pos {f : Nat → Bool} {n : Nat} (h : f n = true) : upto f (n + 1) = upto f n ++ [n] := by rw [upto, if_pos h]
theorem upto_neg {f : Nat → Bool} {n : Nat} (h : f n = false) : upto f (n + 1) = upto f n := by rw [upto, if_neg (by simp [h])]
theorem upto_pre (f : Nat → Bool) : ∀ (n k : Nat), k ≤ n → upto f k <+: upto f n
 | 0, k, h => by
  obtain rfl : k = 0 := by omega
  exact List.prefix_rfl
 | n + 1, k, h => by
  by_cases e : k = n + 1
  ·rw [e]; exact List.prefix_rfl
  ·have ih := upto_pre f n k (by omega)
   rw [upto]
   split
   ·exact ih.trans (List.prefix_append _ _)
   ·exact ih
theorem upto_len (f : Nat → Bool) : ∀ n : Nat, (upto f n).length ≤ n
 | 0 => by simp [upto]
 | n + 1 => by
  have := upto_len f n
  rw [upto]
  split
  ·simp; omega
  ·omega
theorem mem_upto (f : Nat → Bool) (i : Nat) : ∀ n : Nat, i ∈ upto f n ↔ i < n ∧ f i = true
 | 0 => by simp [upto]
 | n + 1 => by
  have ih := mem_upto f i n
  rw [upto]
  split
  ·rename_i h
   rw [List.mem_append, ih, List.mem_singleton]
   constructor
   ·rintro (⟨a, b⟩ | rfl)
    ·exact ⟨by omega, b⟩
    ·exact ⟨by omega, h⟩
   ·rintro ⟨a, b⟩
    by_cases e : i = n
    ·exact .inr e
    ·exact .inl ⟨by omega, b⟩
  ·rename_i h
   rw [ih]
   constructor
   ·rintro ⟨a, b⟩; exact ⟨by omega, b⟩
   ·rintro ⟨a, b⟩
    refine ⟨?_, b⟩
    by_cases e : i = n
    ·subst e; exact absurd b h
    ·omega
def toL (c : Cl) (fr cores : Int) : List Nat := upto (callV c fr) (capN cores)
theorem toL_len (c : Cl) (fr cores : Int) : (toL c fr cores).length ≤ 8 := Nat.le_trans (upto_len _ _) (capN_le _)
def nums (xs : List Nat) : List Int := xs.map fun (i : Nat) => (i : Int)
theorem nums_append (a b : List Nat) : nums (a ++ b) = nums a ++ nums b := by simp [nums]
theorem nums_one (i : Nat) : nums [i] = [(i : Int)] := rfl
theorem nums_len (a : List Nat) : (nums a).length = a.length := by simp [nums]
def decV (v : Nat) : Cl := ⟨((v / 2 ^ 24 % 16 : Nat) : Int), decide (v / 2 ^ 40 % 2 = 1), ((v % 65536 : Nat) : Int), decide (v &&& 72041097085255680 ≠ 0)⟩
def oddV (v : Nat) : Bool := decide (v / 2 ^ 16 % 2 ^ 8 ≠ 0) || decide (v / 2 ^ 32 % 2 ^ 8 ≠ 0) || decide (v / 2 ^ 44 % 2 ^ 4 ≠ 0) || decide (v / 2 ^ 48 % 2 ^ 8 ≠ 0)
theorem odd_mask (v : Nat) : v &&& 72041097085255680 = (v / 2 ^ 48 % 256 * 2 ^ 4 + v / 2 ^ 44 % 16) * 2 ^ 44 + v / 2 ^ 32 % 256 * 2 ^ 32 + v / 2 ^ 16 % 256 * 2 ^ 16 := by
 rw [show (72041097085255680 : Nat) = 16773375 * 2 ^ 32 + 16711680 from rfl, and_split _ _ _ _ (by decide)]
 rw [show (16773375 : Nat) = 65520 * 2 ^ 8 + 255 from rfl, and_split _ _ _ _ (by decide)]
 rw [show (65520 : Nat) = 4095 * 2 ^ 4 + 0 from rfl, and_split _ _ _ _ (by decide)]
 rw [show (16711680 : Nat) = 255 * 2 ^ 16 + 0 from rfl, and_split _ _ _ _ (by decide)]
 simp only [Nat.and_zero, nat_mask12, nat_mask8]
 omega
theorem odd_eq (v : Nat) : decide (v &&& 72041097085255680 ≠ 0) = oddV v := by
 rw [odd_mask, oddV]
 rw [← Bool.decide_or, ← Bool.decide_or, ← Bool.decide_or]
 congr 1
 apply propext
 omega
end Go.Proofs.YtieedhdmpabfkaaGreat
namespace Go.Proofs.YtieedhdmpabfkaaGreat
open Go.ChangeShapes Go.WideShapes Go.ChangeAt Go.RowKit
set_option linter.unusedVariables false
theorem results_cl {fn : Func} {c : Tmp} (h : fn.results = #[.cell c 121]) (tmps : Array Value) (w : World) (b : Nat) (x : Cl) (hp : tmps.getD c undef = .pointer (some ⟨b, 0, none⟩)) (hb : CB w b 121 x.cs) :
  (results fn tmps).run Tryz.prog w = .ok x.v w := by
 have hp' : tmps[c]?.getD undef = .pointer (some ⟨b, 0, none⟩) := by simpa using hp
 have c0 := hb.cell 0
 have c1 := hb.cell 1
 have c2 := hb.cell 2
 have c3 := hb.cell 3
 simp at c0 c1 c2 c3
 simp [results, h, go_sem, hp', c0, c1, c2, c3]
theorem bit_eq (p : Int) (k : Nat) (hk : k < 64) : (bits .and .i64 (p / 2 ^ k) 1 == 1) = bt p k := by
 rw [i64_and1, bt]
 by_cases h : p / 2 ^ k % 2 = 1
 ·simp [h]
 ·simp [h]
set_option maxHeartbeats 1000000 in
theorem reaches_any (c : Cl) (fr : Int) (k : Nat) (hk : k < 8) (w : World) : Calls Tryz.prog 112 #[c.v, .int .i64 k, .int .i64 fr] w fun e w' => e = .returned (.bool (callV c fr k)) ∧ Below w.heap.size w w' := by
 obtain ⟨id, all, tg, odd⟩ := c
 have hb := bit_eq tg k (by omega)
 have hk2 : k < 64 := by omega
 have HB := hi hb
 clear hb
 cases all
 ·cases odd
  ·go_enter Tryz.func112, Tryz.ntmps112
   go_wp2
   go_ret
   exact ⟨by rw [HB.out]; rfl, bal w _⟩
  ·go_enter Tryz.func112, Tryz.ntmps112
   go_wp2
   go_ret
   exact ⟨rfl, bal w _⟩
 ·go_enter Tryz.func112, Tryz.ntmps112
  go_wp2
  go_ret
  refine ⟨?_, bal w _⟩
  by_cases h : (k : Int) = fr <;> simp [callV, h]
structure ToAt (b : Nat) (c : Cl) (fr cores : Int) (W : World) : Prop where
 c : CB W b 121 c.cs
 f : CB W (b + 1) 3 #[.int .i64 fr]
 n : CB W (b + 2) 3 #[.int .i64 cores]
def toW (c : Cl) (fr cores : Int) (w : World) : World := ((w.alloc (.cells c.cs 121)).alloc (.cells #[.int .i64 fr] 3)).alloc (.cells #[.int .i64 cores] 3)
theorem toW_at (c : Cl) (fr cores : Int) (w : World) : ToAt w.heap.size c fr cores (toW c fr cores w) ∧ Below w.heap.size w (toW c fr cores w) ∧ (toW c fr cores w).heap.size = w.heap.size + 3 := by
 refine ⟨⟨((CB.new w _ _).alloc _).alloc _, cb_second.alloc _, ?_⟩, (bal_two w _ _).alloc (by simp; omega) _, by simp [toW]⟩
 have := CB.new ((w.alloc (.cells c.cs 121)).alloc (.cells #[.int .i64 fr] 3)) 3 #[.int .i64 cores]
 rwa [World.size_alloc, World.size_alloc] at this
theorem to_any (c : Cl) (fr cores : Int) (w : World) : Calls Tryz.prog 73 #[c.v, .int .i64 fr, .int .i64 cores] w fun e w' =>
  e = .returned (.func (.func 111) #[] #[.pointer (some ⟨w.heap.size + 2, 0, none⟩), .pointer (some ⟨w.heap.size, 0, none⟩), .pointer (some ⟨w.heap.size + 1, 0, none⟩)]) ∧ w' = toW c fr cores w := by
 obtain ⟨id, all, tg, odd⟩ := c
 unfold toW
 go_enter Tryz.func73, Tryz.ntmps73
 go_wp2
 go_ret
 exact ⟨rfl, rfl⟩
theorem dec_parts (v : Nat) (hv : v < 18446744073709551616) :
  bits .and .u64 ((v : Int) / 16777216) 15 = ((v / 2 ^ 24 % 16 : Nat) : Int) ∧ (bits .and .u64 ((v : Int) / 1099511627776) 1 == 1) = decide (v / 2 ^ 40 % 2 = 1) ∧
  bits .and .u64 (v : Int) 65535 = ((v % 65536 : Nat) : Int) ∧ (bits .and .u64 (v : Int) 72041097085255680 != 0) = decide (v &&& 72041097085255680 ≠ 0) := by
 refine ⟨?_, ?_, ?_, ?_⟩
 ·rw [show (v : Int) / 16777216 = ((v / 2 ^ 24 : Nat) : Int) by omega, show (15 : Int) = ((15 : Nat) : Int) from rfl, u64_and_nat _ _ (by omega) (by decide), nat_mask4]
 ·rw [show (v : Int) / 1099511627776 = ((v / 2 ^ 40 : Nat) : Int) by omega, show (1 : Int) = ((1 : Nat) : Int) from rfl, u64_and_nat _ _ (by omega) (by decide), nat_mask1]
  by_cases h : v / 2 ^ 40 % 2 = 1
  ·rw [h]; rfl
  ·rw [show v / 2 ^ 40 % 2 = 0 by omega]; rfl
 ·rw [show (65535 : Int) = ((65535 : Nat) : Int) from rfl, u64_and_nat _ _ hv (by decide), nat_mask16]
 ·rw [show (72041097085255680 : Int) = ((72041097085255680 : Nat) : Int) from rfl, u64_and_nat _ _ hv (by decide)]
  by_cases h : v &&& 72041097085255680 = 0
  ·rw [h]; rfl
  ·have h2 : ((v &&& 72041097085255680 : Nat) : Int) ≠ 0 := by omega
   simp [h]
set_option maxHeartbeats 1000000 in
theorem decode_any (v : Nat) (hv : v < 18446744073709551616) (w : World) : Calls Tryz.prog 72 #[.int .u64 v] w fun e w' => e = .returned (decV v).v ∧ Below w.heap.size w w' := by
 obtain ⟨h1, h2, h3, h4⟩ := dec_parts v hv
 have hd : decV v = ⟨bits .and .u64 ((v : Int) / 16777216) 15, (bits .and .u64 ((v : Int) / 1099511627776) 1 == 1), bits .and .u64 (v : Int) 65535, (bits .and .u64 (v : Int) 72041097085255680 != 0)⟩ := by
  rw [h1, h2, h3, h4]; rfl
 have b1 : 0 ≤ bits .and .u64 ((v : Int) / 16777216) 15 ∧ bits .and .u64 ((v : Int) / 16777216) 15 < 16 := by rw [h1]; omega
 have b3 : 0 ≤ bits .and .u64 (v : Int) 65535 ∧ bits .and .u64 (v : Int) 65535 < 65536 := by rw [h3]; omega
 obtain ⟨x1, x2⟩ := b1
 obtain ⟨x3, x4⟩ := b3
 rw [hd]
 clear hd h1 h2 h3 h4
 go_enter Tryz.func72, Tryz.ntmps72
 go_wp2
 generalize bits .and .u64 ((v : Int) / 16777216) 15 = p
 generalize (bits .and .u64 ((v : Int) / 1099511627776) 1 == 1) = q
 generalize (bits .and .u64 (v : Int) 72041097085255680 != 0) = o
 generalize bits .and .u64 (v : Int) 65535 = t
 clear x1 x2 x3 x4
 exact bodyPost_ret (results_cl rfl _ _ w.heap.size ⟨p, q, t, o⟩ rfl (CB.new w _ _)) rfl ⟨rfl, bal w _⟩
end Go.Proofs.YtieedhdmpabfkaaGreat
