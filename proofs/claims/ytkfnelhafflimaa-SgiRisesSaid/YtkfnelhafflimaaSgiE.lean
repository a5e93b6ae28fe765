/-
  math/bits.OnesCount16; Spread.
-/
import Derived.Test.YtkfnelhafflimaaSgiB
namespace Go.Proofs.Ytkfnelhafflimaa
open Go.ChangeShapes Go.WideShapes Go.ChangeAt Go.RowKit
set_option linter.unusedVariables false

theorem upto_split (f : Nat → Bool) (m : Nat) : ∀ n, (upto f (m + n)).length = (upto f m).length + (upto (fun i => f (m + i)) n).length
  | 0 => by simp [upto]
  | n + 1 => by
    have ih := upto_split f m n
    rw [show m + (n + 1) = (m + n) + 1 by omega, upto, upto]
    by_cases h : f (m + n) = true
    · rw [if_pos h, if_pos h]; simp; omega
    · rw [if_neg h, if_neg h]; omega
def pop (x n : Nat) : Nat := (upto x.testBit n).length
theorem pop_le (x n : Nat) : pop x n ≤ n := upto_len _ _
theorem pop_16 (x : Nat) : pop x 16 = pop (x % 256) 8 + pop (x / 256) 8 := by
  unfold pop
  rw [show 16 = 8 + 8 from rfl, upto_split]
  congr 1
  · exact congrArg List.length (upto_congr fun i hi => by rw [show (256 : Nat) = 2 ^ 8 from rfl, Nat.testBit_mod_two_pow]; simp [hi])
  · exact congrArg List.length (upto_congr fun i hi => by rw [show (256 : Nat) = 2 ^ 8 from rfl, Nat.testBit_div_two_pow, Nat.add_comm])

-- The table, as the program holds it.
set_option quotPrecheck false in
local notation "TB" => (ByteArray.mk (([0, 1, 1, 2, 1, 2, 2, 3, 1, 2, 2, 3, 2, 3, 3, 4, 1, 2, 2, 3, 2, 3, 3, 4, 2, 3, 3, 4, 3, 4, 4, 5, 1, 2, 2, 3, 2, 3, 3, 4, 2, 3, 3, 4, 3, 4, 4, 5, 2, 3, 3, 4, 3, 4, 4, 5, 3, 4, 4, 5, 4, 5, 5, 6].append [1, 2, 2, 3, 2, 3, 3, 4, 2, 3, 3, 4, 3, 4, 4, 5, 2, 3, 3, 4, 3, 4, 4, 5, 3, 4, 4, 5, 4, 5, 5, 6, 2, 3, 3, 4, 3, 4, 4, 5, 3, 4, 4, 5, 4, 5, 5, 6, 3, 4, 4, 5, 4, 5, 5, 6, 4, 5, 5, 6, 5, 6, 6, 7]).append ([1, 2, 2, 3, 2, 3, 3, 4, 2, 3, 3, 4, 3, 4, 4, 5, 2, 3, 3, 4, 3, 4, 4, 5, 3, 4, 4, 5, 4, 5, 5, 6, 2, 3, 3, 4, 3, 4, 4, 5, 3, 4, 4, 5, 4, 5, 5, 6, 3, 4, 4, 5, 4, 5, 5, 6, 4, 5, 5, 6, 5, 6, 6, 7].append [2, 3, 3, 4, 3, 4, 4, 5, 3, 4, 4, 5, 4, 5, 5, 6, 3, 4, 4, 5, 4, 5, 5, 6, 4, 5, 5, 6, 5, 6, 6, 7, 3, 4, 4, 5, 4, 5, 5, 6, 4, 5, 5, 6, 5, 6, 6, 7, 4, 5, 5, 6, 5, 6, 6, 7, 5, 6, 6, 7, 6, 7, 7, 8])).toArray)
abbrev tabB : ByteArray := TB
theorem tab_all : ∀ i < 256, tabB.data.toList[i]? = some (UInt8.ofNat (pop i 8)) := by decide +kernel
theorem tab_size : tabB.size = 256 := by decide +kernel
theorem tab_get (i : Nat) (h : i < tabB.size) : tabB[i]'h = UInt8.ofNat (pop i 8) := by
  have hz := tab_size
  have ha := tab_all i (by omega)
  have e : tabB.data.toList[i]? = some (tabB[i]'h) := by
    rw [List.getElem?_eq_getElem (show i < tabB.data.toList.length by rw [Array.length_toList]; exact h)]
    rfl
  rw [e] at ha
  exact Option.some.inj ha
theorem tab_at (k : IntKind) (i : Int) (h0 : 0 ≤ i) (h1 : i < 256) (w : World) : (Instr.index 9 (.string TB) (.int k i)).run Try.prog w = .ok (.int .u8 (pop i.toNat 8)) w := by
  have hz := tab_size
  rw [run_index_string w 9 tabB k i Try.underlying9, dif_pos (by rw [hz]; omega), tab_get]
  have := pop_le i.toNat 8
  rw [UInt8.toNat_ofNat', Nat.mod_eq_of_lt (by omega)]

theorem quiet_index {P : Program} {o : Oper} {a : Act} {C : World → Prop} {K : Act → Prop} {t : TypeId} {x y : Operand} {v : Value} (h : o.op = .index t x y) (hr : ∀ w, (Instr.index t (a.eval x) (a.eval y)).run P w = .ok v w) (hk : K (a.put o.dst v)) : o.quiet P a C K :=
  ⟨v, fun w _ => by
    unfold Oper.quietAt
    have e : (execOp a.eval o).run P w = .ok (.value v) w := by simp [execOp, h, hr]
    rw [e]
    exact ⟨rfl, rfl⟩, hk⟩

set_option maxRecDepth 100000 in
set_option maxHeartbeats 1000000 in
theorem ones_any (x : Nat) (hx : x < 65536) (w : World) : Calls Try.prog 23 #[.int .u16 x] w fun e w' => e = .returned (.int .i64 (pop x 16)) ∧ Below w.heap.size w w' := by
  have e1 : (x : Int) / 256 = ((x / 256 : Nat) : Int) := by omega
  have e2 : bits .and .u16 (x : Int) 255 = ((x % 256 : Nat) : Int) := by rw [show (255 : Int) = ((255 : Nat) : Int) from rfl, u16_and_nat _ _ hx (by decide), nat_mask8]
  have T1 : ∀ W, (Instr.index 9 (.string TB) (.int .u16 ((x : Int) / 256))).run Try.prog W = .ok (.int .u8 (pop (x / 256) 8)) W := fun W => by
    rw [e1]
    exact tab_at .u16 ((x / 256 : Nat) : Int) (by omega) (by omega) W
  have T2 : ∀ W, (Instr.index 9 (.string TB) (.int .u16 (bits .and .u16 (x : Int) 255))).run Try.prog W = .ok (.int .u8 (pop (x % 256) 8)) W := fun W => by
    rw [e2]
    exact tab_at .u16 ((x % 256 : Nat) : Int) (by omega) (by omega) W
  have l1 := pop_le (x / 256) 8
  have l2 := pop_le (x % 256) 8
  have hp := pop_16 x
  have HS := hi (show IntKind.i64.wrap (IntKind.u8.wrap ((pop (x / 256) 8 : Int) + (pop (x % 256) 8 : Int))) = (pop x 16 : Int) by rw [IntKind.wrap_u8', IntKind.wrap_i64]; omega)
  clear hp
  clear e1 e2
  go_enter Try.func23, Try.ntmps23
  revert T1 T2
  generalize TB = T
  intro T1 T2
  go_wp2
  refine wp_region_quiet_lit (by kernel_rfl) (by kernel_rfl) ?_
  iterate 2
    refine wpQuiet_step (fun K hK => ?_)
    go_simp
    refine hK _ ?_
    clear hK K
  refine BigFrame.wpQuiet_want rfl (fun K hK => ?_)
  refine quiet_index rfl T1 ?_
  go_simp
  refine hK _ ?_
  clear hK K
  iterate 2
    refine wpQuiet_step (fun K hK => ?_)
    go_simp
    refine hK _ ?_
    clear hK K
  refine BigFrame.wpQuiet_want rfl (fun K hK => ?_)
  refine quiet_index rfl T2 ?_
  go_simp
  refine hK _ ?_
  clear hK K
  iterate 3
    refine wpQuiet_step (fun K hK => ?_)
    go_simp
    refine hK _ ?_
    clear hK K
  refine wpQuiet_nil ?_
  intro _ hw'
  obtain ⟨nq, hw''⟩ := hw'
  subst hw''
  go_wp2
  go_ret
  exact ⟨by rw [HS.out]; rfl, Below.drewN (Below.refl _ _)⟩

/-- How many targets a call names. -/
def spr (c : Cl) : Nat := pop (c.tg % 65536).toNat 16
theorem spread_any (c : Cl) (w : World) : Calls Try.prog 20 #[c.v] w fun e w' => e = .returned (.int .i64 (spr c)) ∧ Below w.heap.size w w' := by
  obtain ⟨id, all, tg, odd⟩ := c
  have h := fun W => ones_any (tg % 65536).toNat (by omega) W
  rw [show (((tg % 65536).toNat : Nat) : Int) = IntKind.u16.wrap tg by rw [IntKind.wrap_u16]; omega] at h
  have H := hi h
  clear h
  obtain ⟨n, hn⟩ : ∃ n, pop (tg % 65536).toNat 16 = n := ⟨_, rfl⟩
  have e : spr ⟨id, all, tg, odd⟩ = n := hn
  rw [hn] at H
  rw [e]
  clear e hn
  go_enter Try.func20, Try.ntmps20
  go_wp2_with (go_at_call 23; ((with_reducible refine (H.out _).mono ?_); rintro e' w1 ⟨rfl, hb⟩))
  go_ret
  exact ⟨rfl, (bal w _).trans (hb.mono (by simp))⟩

end Go.Proofs.Ytkfnelhafflimaa
