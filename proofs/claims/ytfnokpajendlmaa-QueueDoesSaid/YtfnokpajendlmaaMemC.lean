/-
  Reading a number, by the program, at every access.
-/
import Derived.Test.YtfnokpajendlmaaMemB
import Derived.Laws.BitsAll
import Derived.Laws.BitsAllLaws
import Derived.Laws.Bits64
namespace Go.Proofs.Ytfnokpajendlmaa
open Go.ChangeShapes Go.WideShapes Go.ChangeAt Go.RowKit
set_option linter.unusedVariables false
set_option linter.unusedSimpArgs false

/-- The number of bytes, least significant first. -/
def num : List Nat → Nat
  | [] => 0
  | x :: r => x + 256 * num r
theorem num_append : ∀ (xs : List Nat) (y : Nat), num (xs ++ [y]) = num xs + y * 256 ^ xs.length
  | [], y => by simp [num]
  | x :: r, y => by
    simp only [List.cons_append, num, num_append r y, List.length_cons, Nat.pow_succ, Nat.mul_add]
    rw [Nat.mul_left_comm 256 y, Nat.mul_comm 256 (256 ^ r.length)]
    omega
theorem num_lt : ∀ (xs : List Nat), (∀ x ∈ xs, x < 256) → num xs < 256 ^ xs.length
  | [], _ => by simp [num]
  | x :: r, h => by
    have h1 := h x (by simp)
    have h2 := num_lt r (fun y hy => h y (by simp [hy]))
    simp only [num, List.length_cons, Nat.pow_succ]
    omega
theorem num_take (cs : List Nat) (i : Nat) (h : i < cs.length) : num (cs.take (i + 1)) = num (cs.take i) + (cs[i]?.getD 0) * 256 ^ i := by
  rw [List.take_add_one, List.getElem?_eq_getElem h]
  simp only [Option.toList_some, Option.getD_some]
  rw [num_append, List.length_take]
  congr 3
  omega

/-- The bytes from o on, k of them. -/
def sub (bs : List Nat) (o k : Nat) : List Nat := (bs.drop o).take k
theorem sub_len {bs : List Nat} {o k : Nat} (h : o + k ≤ bs.length) : (sub bs o k).length = k := by simp [sub]; omega
theorem sub_get {bs : List Nat} {o k j : Nat} (h : j < k) : (sub bs o k)[j]? = bs[o + j]? := by simp [sub, List.getElem?_take_of_lt h]
theorem sub_mem {bs : List Nat} {o k : Nat} (h : ∀ x ∈ bs, x < 256) : ∀ x ∈ sub bs o k, x < 256 := fun x hx => h x (List.mem_of_mem_drop (List.mem_of_mem_take hx))

theorem or_step (N x j : Nat) (hN : N < 256 ^ j) (hx : x < 256) (hj : j < 8) : bits .or .u64 (N : Int) (IntKind.u64.wrap (IntKind.u64.wrap (x : Int) * 2 ^ (8 * j))) = ((N + x * 256 ^ j : Nat) : Int) := by
  have e0 : ((2 : Int) ^ (8 * j)) = ((256 ^ j : Nat) : Int) := by rw [Int.pow_mul]; simp
  have h8 : 256 ^ (j + 1) ≤ 256 ^ 8 := Nat.pow_le_pow_right (by omega) (by omega)
  have hp : x * 256 ^ j + 256 ^ j ≤ 256 ^ (j + 1) := by
    rw [Nat.pow_succ, Nat.mul_comm _ 256]
    have : (x + 1) * 256 ^ j ≤ 256 * 256 ^ j := Nat.mul_le_mul_right _ (by omega)
    rwa [Nat.add_mul, Nat.one_mul] at this
  have hpos : 0 < 256 ^ j := Nat.pow_pos (by omega)
  have e1 : IntKind.u64.wrap (x : Int) = x := by rw [IntKind.wrap_u64]; omega
  rw [e1, e0, ← Int.natCast_mul]
  have h9 : (256 : Nat) ^ 8 = 18446744073709551616 := by decide
  rw [h9] at h8
  have hm : x * 256 ^ j < 18446744073709551616 := by omega
  have hN2 : N < 18446744073709551616 := by omega
  have hlt : N < 2 ^ (8 * j) := by rw [Nat.pow_mul]; exact hN
  have e2 : x * 256 ^ j = 2 ^ (8 * j) * x := by rw [Nat.pow_mul, Nat.mul_comm]
  have hor : x * 256 ^ j + N = x * 256 ^ j ||| N := by rw [e2]; exact Nat.two_pow_add_eq_or_of_lt hlt x
  obtain ⟨M, hM⟩ : ∃ M, x * 256 ^ j = M := ⟨_, rfl⟩
  rw [hM] at hm hor ⊢
  have e3 : IntKind.u64.wrap (M : Int) = M := by rw [IntKind.wrap_u64]; omega
  rw [e3, u64_or_nat N M hN2 hm, Nat.or_comm, ← hor, Nat.add_comm]

def rdE (bs : List Nat) (a s off width : Int) : Nat := if accE bs.length a s off width = 0 then num (sub bs (a.toNat + off.toNat) width.toNat) else 0
def tupU (v : Nat) (e : Int) : Value := .tuple #[.int .u64 v, .int .i64 e]

set_option maxHeartbeats 1000000 in
theorem read_yes (p g cap : Nat) (bs : List Nat) (A S o k : Nat) (w : World) (hM : MemAt 73 w p g cap bs)
    (hA : A + S ≤ bs.length) (ho : o + k ≤ S) (hm : mayE S o k = 0) (hk : k ≤ 8) :
    Calls Try.prog 53 #[.pointer (some ⟨p, 0, none⟩), win A S, .int .i64 o, .int .i64 k] w fun e w' => e = .returned (tupU (num (sub bs (A + o) k)) 0) ∧ Below w.heap.size w w' := by
  have HA := hi (at_yes p g cap bs A S o k (w.alloc (.cells #[.int .i64 A, .int .i64 S] 23)) (hM.below (bal w _)) hA ho hm)
  have HM := hi hM
  have HL := hi (show A + o + k ≤ bs.length by omega)
  clear hM hm hA ho
  unfold tupU
  unfold tup win at HA
  unfold win
  go_enter Try.func53, Try.ntmps53
  go_wp2_with (go_at_call 42; ((with_reducible refine HA.out.mono ?_); rintro e w1 ⟨v, rfl, hv, hb1⟩; obtain ⟨ad, c, rfl, had, hc⟩ := hv))
  have hbw := (bal w (.cells #[.int .i64 A, .int .i64 S] 23)).trans (hb1.mono (by simp))
  have HM1 := hi (HM.out.below hbw)
  have HB := hi hbw
  have HC := hi hc
  clear hb1 hbw hc
  go_loop [12, 28] (fun v i => ∃ j : Nat, i = .int .i64 j ∧ v = .int .u64 (num ((sub bs (A + o) k).take j) : Nat) ∧ Hi (j ≤ k)) (fun _ i => k - (intOf i).toNat)
  case atStart => exact ⟨0, rfl, rfl, hi (Nat.zero_le _)⟩
  case round =>
    obtain ⟨j, rfl, rfl, hj⟩ := hrel
    have hj := hj.out
    by_cases hlt : j < k
    · obtain rfl := had (by omega)
      have hcell := HM1.out.bytes.cell (A + o + j) (by have := HL.out; omega)
      obtain ⟨x, hx⟩ : ∃ x, bs[A + o + j]?.getD 0 = x := ⟨_, rfl⟩
      rw [hx] at hcell
      obtain ⟨N, hN⟩ : ∃ N, num ((sub bs (A + o) k).take j) = N := ⟨_, rfl⟩
      rw [hN]
      have HX := hi hx
      have HN := hi hN
      clear hx hN
      go_wp2
      go_round
      case rel =>
        refine ⟨j + 1, by go_num, ?_, hi hlt⟩
        have hb := HM1.out.bytes.2
        have h1 := num_lt ((sub bs (A + o) k).take j) (fun y hy => sub_mem hb y (List.mem_of_mem_take hy))
        have h2 := num_take (sub bs (A + o) k) j (by rw [sub_len (by have := HL.out; omega)]; exact hlt)
        have h3 : ((sub bs (A + o) k).take j).length = j := by rw [List.length_take, sub_len (by have := HL.out; omega)]; omega
        have h4 : x < 256 := by
          rw [← HX.out, List.getElem?_eq_getElem (by have := HL.out; omega), Option.getD_some]
          exact hb _ (List.getElem_mem _)
        rw [sub_get hlt, HX.out, HN.out] at h2
        rw [h3, HN.out] at h1
        rw [h2, or_step N x j h1 h4 (by omega)]
      case measure => simp [intOf]; omega
    · have e : j = k := by omega
      subst e
      go_wp2
      go_ret2
      have e2 : (sub bs (A + o) j).take j = sub bs (A + o) j := List.take_of_length_le (by rw [sub_len (by have := HL.out; omega)]; exact Nat.le_refl _)
      exact ⟨congrArg (fun t => Ending.returned (.tuple #[.int .u64 ((num t : Nat) : Int), .int .i64 0])) e2, HB.out⟩

set_option maxHeartbeats 1000000 in
theorem read_no (p g cap : Nat) (bs : List Nat) (a s off width : Int) (w : World) (hM : MemAt 73 w p g cap bs)
    (ha0 : -9223372036854775808 ≤ a) (ha1 : a ≤ 9223372036854775807) (hs0 : -9223372036854775808 ≤ s) (hs1 : s ≤ 9223372036854775807) (hn : accE bs.length a s off width ≠ 0) :
    Calls Try.prog 53 #[.pointer (some ⟨p, 0, none⟩), win a s, .int .i64 off, .int .i64 width] w fun e w' => e = .returned (tupU 0 (accE bs.length a s off width)) ∧ Below w.heap.size w w' := by
  have HA := hi (at_no p g cap bs a s off width (w.alloc (.cells #[.int .i64 a, .int .i64 s] 23)) (hM.below (bal w _)) ha0 ha1 hs0 hs1 hn)
  obtain ⟨m, hm⟩ : ∃ m, accE bs.length a s off width = m := ⟨_, rfl⟩
  rw [hm] at HA hn ⊢
  have hn' : (m != 0) = true := by simpa using hn
  clear hM ha0 ha1 hs0 hs1 hn hm
  unfold tupU
  unfold tup win at HA
  unfold win
  go_enter Try.func53, Try.ntmps53
  go_wp2_with (go_at_call 42; ((with_reducible refine HA.out.mono ?_); rintro e w1 ⟨rfl, hb1⟩))
  go_ret2
  exact ⟨rfl, (bal w _).trans (hb1.mono (by simp))⟩

theorem accE_out {n : Nat} {a s off width : Int} (hn : n ≤ 131072) (h : accE n a s off width = 0) :
    ∃ A S o k : Nat, a = A ∧ s = S ∧ off = o ∧ width = k ∧ A + S ≤ n ∧ o + k ≤ S ∧ mayE S o k = 0 ∧ (k = 1 ∨ k = 4 ∨ k = 8) := by
  cases hh : holdsB n a s
  · simp [accE, hh] at h
  · simp only [accE, hh, if_true] at h
    obtain ⟨A, S, rfl, rfl, hA⟩ := holdsB_out hh
    obtain ⟨o, k, rfl, rfl, hk, _, ho⟩ := mayE_out (by omega) (by omega) h
    exact ⟨A, S, o, k, rfl, rfl, rfl, rfl, hA, by omega, h, hk⟩

/-- Reading at every access. -/
theorem read_any (p g cap : Nat) (bs : List Nat) (a s off width : Int) (w : World) (hM : MemAt 73 w p g cap bs)
    (ha0 : -9223372036854775808 ≤ a) (ha1 : a ≤ 9223372036854775807) (hs0 : -9223372036854775808 ≤ s) (hs1 : s ≤ 9223372036854775807) :
    Calls Try.prog 53 #[.pointer (some ⟨p, 0, none⟩), win a s, .int .i64 off, .int .i64 width] w fun e w' => e = .returned (tupU (rdE bs a s off width) (accE bs.length a s off width)) ∧ Below w.heap.size w w' := by
  by_cases h : accE bs.length a s off width = 0
  · obtain ⟨A, S, o, k, rfl, rfl, rfl, rfl, hA, ho, hm, hk⟩ := accE_out hM.len h
    have e : rdE bs A S o k = num (sub bs (A + o) k) := by simp [rdE, h]
    rw [h, e]
    exact read_yes p g cap bs A S o k w hM hA ho hm (by omega)
  · have e : rdE bs a s off width = 0 := by simp [rdE, h]
    rw [e]
    exact read_no p g cap bs a s off width w hM ha0 ha1 hs0 hs1 h

end Go.Proofs.Ytfnokpajendlmaa
