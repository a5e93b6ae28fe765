/-
  math/bits.OnesCount64 at every word, and the set's Len: how many numbers below 16384 are members.
-/
import Derived.Test.YtmdlknddlmpddaaDoorSetA
import Derived.Laws.Bits128
import Derived.Deep.MidRow
import Derived.IntWalk
namespace Go.Proofs.YtmdlknddlmpddaaDoor
open Go.ChangeShapes Go.WideShapes Go.ChangeAt Go.RowKit
set_option linter.unusedVariables false

theorem and64 (a M : Nat) (ha : a < 18446744073709551616) (hM : M < 18446744073709551616) : bits .and .u64 (a : Int) (M : Int) = ((a &&& M : Nat) : Int) := u64_and_nat a M ha hM
theorem wrap64 (a : Nat) (ha : a < 18446744073709551616) : IntKind.u64.wrap (a : Int) = a := by rw [IntKind.wrap_u64]; omega

/-- What the walk rewrites by, step by step. -/
theorem oc1 (x : Nat) (hx : x < 18446744073709551616) : IntKind.u64.wrap (bits .and .u64 ((x : Int) / 2) 6148914691236517205 + bits .and .u64 (x : Int) 6148914691236517205) = (s1 x : Nat) := by
  have h := s1_lt x hx
  rw [show ((x : Int) / 2) = ((x / 2 : Nat) : Int) by simp, show (6148914691236517205 : Int) = ((6148914691236517205 : Nat) : Int) from rfl, and64 _ _ (by omega) (by omega), and64 _ _ hx (by omega)]
  have e : (((x / 2 &&& 6148914691236517205 : Nat) : Int) + ((x &&& 6148914691236517205 : Nat) : Int)) = ((s1 x : Nat) : Int) := by unfold s1; simp
  rw [e, wrap64 _ h]
theorem oc2 (x : Nat) (hx : x < 18446744073709551616) (h : s2 x < 18446744073709551616) : IntKind.u64.wrap (bits .and .u64 ((x : Int) / 4) 3689348814741910323 + bits .and .u64 (x : Int) 3689348814741910323) = (s2 x : Nat) := by
  rw [show ((x : Int) / 4) = ((x / 4 : Nat) : Int) by simp, show (3689348814741910323 : Int) = ((3689348814741910323 : Nat) : Int) from rfl, and64 _ _ (by omega) (by omega), and64 _ _ hx (by omega)]
  have e : (((x / 4 &&& 3689348814741910323 : Nat) : Int) + ((x &&& 3689348814741910323 : Nat) : Int)) = ((s2 x : Nat) : Int) := by unfold s2; simp
  rw [e, wrap64 _ h]
theorem oc3 (x : Nat) (hx : x ≤ 4919131752989213764) : bits .and .u64 (IntKind.u64.wrap ((x : Int) / 16 + (x : Int))) 1085102592571150095 = (s3 x : Nat) := by
  have e : ((x : Int) / 16 + (x : Int)) = ((x / 16 + x : Nat) : Int) := by simp
  rw [e, wrap64 _ (by omega), show (1085102592571150095 : Int) = ((1085102592571150095 : Nat) : Int) from rfl, and64 _ _ (by omega) (by omega)]
  rfl
theorem oc4 (x : Nat) (hx : x < 1152921504606846976) : IntKind.u64.wrap ((x : Int) + (x : Int) / 256) = (s4 x : Nat) := by
  have e : ((x : Int) + (x : Int) / 256) = ((s4 x : Nat) : Int) := by unfold s4; simp
  rw [e, wrap64 _ (by unfold s4; omega)]
theorem oc5 (x : Nat) (hx : x < 2305843009213693952) : IntKind.u64.wrap ((x : Int) + (x : Int) / 65536) = (s5 x : Nat) := by
  have e : ((x : Int) + (x : Int) / 65536) = ((s5 x : Nat) : Int) := by unfold s5; simp
  rw [e, wrap64 _ (by unfold s5; omega)]
theorem oc6 (x : Nat) (hx : x < 4611686018427387904) : IntKind.u64.wrap ((x : Int) + (x : Int) / 4294967296) = (s6 x : Nat) := by
  have e : ((x : Int) + (x : Int) / 4294967296) = ((s6 x : Nat) : Int) := by unfold s6; simp
  rw [e, wrap64 _ (by unfold s6; omega)]

set_option maxHeartbeats 1000000 in
theorem onesCount_steps (x a b c d e f : Nat) (w : World)
    (h1 : IntKind.u64.wrap (bits .and .u64 ((x : Int) / 2) 6148914691236517205 + bits .and .u64 (x : Int) 6148914691236517205) = (a : Nat))
    (h2 : IntKind.u64.wrap (bits .and .u64 ((a : Int) / 4) 3689348814741910323 + bits .and .u64 (a : Int) 3689348814741910323) = (b : Nat))
    (h3 : bits .and .u64 (IntKind.u64.wrap ((b : Int) / 16 + (b : Int))) 1085102592571150095 = (c : Nat))
    (h4 : IntKind.u64.wrap ((c : Int) + (c : Int) / 256) = (d : Nat)) (h5 : IntKind.u64.wrap ((d : Int) + (d : Int) / 65536) = (e : Nat)) (h6 : IntKind.u64.wrap ((e : Int) + (e : Int) / 4294967296) = (f : Nat)) :
    Calls Tryd.prog 47 #[.int .u64 (x : Int)] w fun e w' => e = .returned (.int .i64 (bits .and .i64 (RowKit.wrap64 (f : Int)) 127)) ∧ w = w' := by
  go_enter Tryd.func47, Tryd.ntmps47
  go_wp2
  go_ret
  exact ⟨rfl, rfl⟩

set_option maxHeartbeats 1000000 in
theorem onesCount_any (x : Nat) (w : World) (hx : x < 18446744073709551616) :
    Calls Tryd.prog 47 #[.int .u64 (x : Int)] w fun e w' => e = .returned (.int .i64 (popN 64 x)) ∧ w = w' := by
  have l1 := s1_lt x hx
  have l2 := s2_lt x hx
  have l2' := s2_le x hx
  have l3 := s3_lt x hx
  have l4 : s4 (s3 (s2 (s1 x))) < 2305843009213693952 := by unfold s4; omega
  have l5 : s5 (s4 (s3 (s2 (s1 x)))) < 4611686018427387904 := by unfold s5; omega
  have l6 : s6 (s5 (s4 (s3 (s2 (s1 x))))) < 9223372036854775808 := by unfold s6; omega
  refine (onesCount_steps x _ _ _ _ _ _ w (oc1 x hx) (oc2 _ l1 l2) (oc3 _ l2') (oc4 _ l3) (oc5 _ l4) (oc6 _ l5)).mono ?_
  rintro e w' ⟨rfl, rfl⟩
  refine ⟨?_, rfl⟩
  rw [i64_and127, IntWalk.wrap64_in _ (by omega), ← onesCount x hx]
  simp

theorem onesCount_is (x p : Nat) (w : World) (hx : x < 18446744073709551616) (e : popN 64 x = p) :
    Calls Tryd.prog 47 #[.int .u64 (x : Int)] w fun e w' => e = .returned (.int .i64 (p : Int)) ∧ w = w' := e ▸ onesCount_any x w hx

/-- How many numbers below 64 n are members. -/
def lenTo (S : Words) : Nat → Nat
  | 0 => 0
  | n + 1 => lenTo S n + popN 64 (S n)
theorem lenTo_le (S : Words) : ∀ n, lenTo S n ≤ 64 * n
  | 0 => Nat.le_refl _
  | n + 1 => by have := lenTo_le S n; have := popN_le 64 (S n); rw [lenTo]; omega

def rowList (S : Words) : List Value := (List.range 256).map fun i => Value.int .u64 (S i)
theorem rowList_len (S : Words) : (rowList S).length = 256 := by simp [rowList]
theorem RowAt.range {T : TypeId} {W : World} {b : Nat} {S : Words} (h : RowAt T W b S) : W.rangeAt b 0 (rowList S) := fun j v hv => by
  have hj : j < 256 := by have := (List.getElem?_eq_some_iff.1 hv).1; rwa [rowList_len] at this
  rw [Nat.zero_add, h.cell j hj]
  simp [rowList, hj] at hv
  rw [hv]

theorem under_row : Tryd.prog.underlying 56 = some (.array 256 54) := by kernel_rfl
theorem size_row : (Tryd.prog.info? 56).map (·.size) = some 256 := by kernel_rfl

theorem load_row {T : TypeId} {W : World} {b : Nat} {S : Words} (h : RowAt T W b S) : (Instr.loadAt 56 (.pointer (some ⟨b, 0, none⟩))).run Tryd.prog W = .ok (.agg (rowList S).toArray) W :=
  run_loadAt_mid W b 0 56 (rowList S) _ h.range under_row rfl (by rw [rowList_len]; exact size_row)

theorem under_u64 : Tryd.prog.underlying 54 = some (.int .u64) := by kernel_rfl
theorem info_u64 : (Tryd.prog.info? 54).map (·.size) = some 1 := by kernel_rfl
theorem run_index_row (cs : Array Value) (k : Nat) (v : Value) (W : World) (hk : k < 256) (hv : cs[k]? = some v) : (Instr.index 56 (.agg cs) (.int .i64 (k : Int))).run Tryd.prog W = .ok v W := by
  have h1 : (0 : Int) ≤ (k : Int) ∧ (k : Int) < (256 : Nat) := by omega
  cases hq : Tryd.prog.info? 54 with
  | none => have := info_u64; simp [hq] at this
  | some i =>
    have hs : i.size = 1 := by have := info_u64; simpa [hq] using this
    simp [Instr.index, run_underlying under_row, asIntOf, h1, go_sem, part, sizeOf, typeInfo, hq, hs, hv]
    intro h; omega

set_option maxRecDepth 100000 in
set_option maxHeartbeats 400000 in
theorem len_any (b : Nat) (S : Words) (w : World) (hR : RowAt 58 w b S) :
    Calls Tryd.prog 32 #[.pointer (some ⟨b, 0, none⟩)] w fun e w' => e = .returned (.int .i64 (lenTo S 256)) ∧ w = w' := by
  have hl := hR.range
  have hc := hR.cell 0 (by omega)
  have hn := rowList_len S
  obtain ⟨cs, ecs⟩ : ∃ cs, rowList S = cs := ⟨_, rfl⟩
  rw [ecs] at hl hn
  have HL := Lib.hid hl
  have HN := Lib.hid hn
  clear hl hn
  have ECS := Lib.hid ecs
  have HB := Lib.hid hR.2
  obtain ⟨L, eL⟩ : ∃ L, lenTo S 256 = L := ⟨_, rfl⟩
  rw [eL]
  have EL0 := Lib.hid eL
  clear ecs hR eL
  go_enter Tryd.func32, Tryd.ntmps32
  go_wp2_with (refine wpList_load_mid rfl 56 (.tmp 8) rfl b 0 rfl cs _ HL.out under_row rfl (by rw [HN.out]; exact size_row) ?_)
  go_loop [3, 10] (fun n i => ∃ k : Nat, k ≤ 256 ∧ i = .int .i64 k ∧ n = .int .i64 (lenTo S k)) (fun _ i => 256 - (intOf i).toNat)
  case atStart => exact ⟨0, by omega, rfl, rfl⟩
  case round =>
    obtain ⟨k, hk, rfl, rfl⟩ := hrel
    by_cases hlt : k < 256
    · have hle := lenTo_le S k
      have hx := HB.out k
      obtain ⟨x, ex⟩ : ∃ x, S k = x := ⟨_, rfl⟩
      obtain ⟨l, el⟩ : ∃ l, lenTo S k = l := ⟨_, rfl⟩
      rw [ex] at hx
      rw [el] at hle ⊢
      have hck : cs[k]? = some (.int .u64 x) := by rw [← ECS.out]; simp [rowList, hlt, ex]
      have hp := popN_le 64 x
      obtain ⟨p, ep⟩ : ∃ p, popN 64 x = p := ⟨_, rfl⟩
      rw [ep] at hp
      have EP := Lib.hid ep
      have hix := fun W => run_index_row cs.toArray k (.int .u64 x) W hlt (by simpa using hck)
      have EX := Lib.hid ex
      have EL := Lib.hid el
      have hki : (k : Int) < 256 := by omega
      have hl2 : (l : Int) ≤ 16384 := by omega
      have hp2 : (p : Int) ≤ 64 := by omega
      have HX2 := Lib.hid hx
      have HLT := Lib.hid hlt
      clear ex el hck ep hx hlt hle hp
      go_wp2_with (go_at_call 47; refine (onesCount_is x p _ HX2.out EP.out).mono ?_; rintro e w' ⟨rfl, rfl⟩)
      go_round
      case rel => exact ⟨k + 1, HLT.out, by go_num, by rw [lenTo, EL.out, EX.out, EP.out]; go_num⟩
      case measure => have := HLT.out; simp [intOf]; omega
    · have ek : k = 256 := by omega
      subst ek
      rw [EL0.out]
      go_wp2
      go_ret
      exact ⟨rfl, rfl⟩

end Go.Proofs.YtmdlknddlmpddaaDoor
