/-
  MemBack: what is written is read: its walk, by width; and whole.
-/
import Derived.Test.YthndfkggahhleaaMemBack
namespace Go.Proofs.Ythndfkggahhleaa
open Go.ChangeShapes Go.WideShapes Go.ChangeAt Go.RowKit
set_option linter.unusedVariables false

theorem rdAll_1 (p g n : Nat) (bs : List Nat) (A S o v : Nat) (W : World) (hW : MemAt 60 W p g n (splice bs (A + o) (le 1 v))) (hA : A + S ≤ bs.length) (ho : o + 1 ≤ S) (hm : mayE S o 1 = 0) (hv : v < 18446744073709551616) :
    Calls Try.prog 17 #[.pointer (some ⟨p, 0, none⟩), .agg #[.int .i64 (A : Int), .int .i64 (S : Int)], .int .i64 (o : Int), .int .i64 1] W fun e w' => e = .returned (.tuple #[.int .u64 ((v % 256 : Nat) : Int), .int .i64 0]) ∧ Below W.heap.size W w' := by
  have h := read_yes p g n _ A S o 1 W hW (by rw [splice_len _ _ _ (by rw [le_len]; omega)]; exact hA) ho hm (by omega)
  rw [num_all bs (A + o) 1 v (by omega), show v % 256 ^ 1 = v % 256 from by rw [Nat.pow_one]] at h
  exact h
theorem rdByte_1 (p g n : Nat) (bs : List Nat) (A S o v j : Nat) (W : World) (hW : MemAt 60 W p g n (splice bs (A + o) (le 1 v))) (hA : A + S ≤ bs.length) (hl : bs.length ≤ 4096) (ho : o + 1 ≤ S) (hj : j < 1) :
    Calls Try.prog 17 #[.pointer (some ⟨p, 0, none⟩), .agg #[.int .i64 (A : Int), .int .i64 (S : Int)], .int .i64 ((o : Int) + (j : Int)), .int .i64 1] W fun e w' => e = .returned (.tuple #[.int .u64 ((v / 256 ^ j % 256 : Nat) : Int), .int .i64 0]) ∧ Below W.heap.size W w' := by
  have h := read_yes p g n _ A S (o + j) 1 W hW (by rw [splice_len _ _ _ (by rw [le_len]; omega)]; exact hA) (by omega) (mayE_one S (o + j) (by omega) (by omega)) (by omega)
  rw [show A + (o + j) = A + o + j by omega, num_byte bs (A + o) 1 v j (by omega) hj, Int.natCast_add] at h
  exact h
theorem wrAll_1 (p g n : Nat) (bs : List Nat) (A S o v : Nat) (W : World) (hW : MemAt 60 W p g n bs) (hA : A + S ≤ bs.length) (ho : o + 1 ≤ S) (hm : mayE S o 1 = 0) (hv : v < 18446744073709551616) :
    Calls Try.prog 11 #[.pointer (some ⟨p, 0, none⟩), .agg #[.int .i64 (A : Int), .int .i64 (S : Int)], .int .i64 (o : Int), .int .i64 1, .int .u64 (v : Int)] W fun e w' => e = .returned (.int .i64 0) ∧ MemAt 60 w' p g n (splice bs (A + o) (le 1 v)) ∧ Kept (· = g) W w' :=
  write_yes p g n bs A S o 1 v W hW hA ho hm (by omega) hv

set_option maxHeartbeats 4000000 in
theorem memBack_1 (size : Int) (sv : Value) (xs : List ActD) (A S o v : Nat) (w : World) (hacts : ActsAt w sv xs)
    (hA : A + S ≤ newN size) (ho : o + 1 ≤ S) (hm : mayE S o 1 = 0) (hv : v < 18446744073709551616) :
    Calls Try.prog 5 #[.int .i64 size, sv, win A S, .int .i64 (o : Int), .int .i64 1, .int .u64 (v : Int)] w fun e w' => e = .returned (.bool true) ∧ Below w.heap.size w w' := by
  have HS := hi (hacts.below (bal w (.cells #[.int .i64 (A : Int), .int .i64 (S : Int)] 29)))
  have HA := hi hA
  have HO := hi ho
  have HM := hi hm
  have HV := hi hv
  obtain ⟨sa, scap, rfl, hsl, _, _⟩ := hacts
  clear hA ho hm
  unfold win
  go_enter Try.func5, Try.ntmps5
  go_wp2_with (first
    | (go_at_call 8; ((with_reducible refine (awake_any _).mono ?_); rintro e w1 ⟨rfl, hb1⟩; have HK1 := hi hb1; clear hb1))
    | (go_at_call 9; ((with_reducible refine (lawNew_any size _).mono ?_); rintro e w2 ⟨p, g, q, h, rfl, hB⟩; have HM0 := hi (Since.base hB.mem HK1.out); clear hB)))
  have hnl := newN_le size
  go_loopw [16] (fun i wr => ∃ j : Nat, i = .int .i64 j ∧ Hi (j ≤ xs.length ∧ ∃ bs : List Nat, bs.length = newN size ∧ Since (w.alloc (.cells #[.int .i64 (A : Int), .int .i64 (S : Int)] 29)) p g (newN size) bs wr)) (fun i _ => xs.length - (intOf i).toNat)
  case atStart => exact ⟨0, rfl, hi ⟨Nat.zero_le _, _, List.length_replicate, HM0.out⟩⟩
  case round =>
    obtain ⟨j, rfl, HJ⟩ := hrel
    have hj := HJ.out.1
    obtain ⟨bs, hbl, hsn⟩ := HJ.out.2
    have HSN := hi hsn
    have HBL := hi hbl
    clear hsn hbl
    by_cases hlt : j < xs.length
    · obtain ⟨x, bv, b, off, hmem, rfl, hfair, hy, c0, c1, c2, c3, c4, c5, c6⟩ := actsAt_read HS.out HSN.out.below hlt
      have HX := hi (And.intro hfair hy)
      clear hmem hfair hy
      go_wp2_with (go_at_call 14; ((with_reducible refine (does_out p g (newN size) bs x bv _ HX.out.1 HSN.out.mem HX.out.2).mono ?_); rintro e w3 ⟨rfl, hm3, hk3⟩))
      have HS3 := hi (HSN.out.wrote hk3 hm3)
      clear hm3 hk3
      go_roundw
      case rel => exact ⟨j + 1, by go_num, hi ⟨hlt, _, (doL_len (by rw [HBL.out]; omega)).trans HBL.out, HS3.out⟩⟩
      case measure => simp [intOf]; omega
    · have e : j = xs.length := by omega
      subst e
      obtain ⟨c0, c1, _⟩ := (box2_new w (.int .i64 (A : Int)) (.int .i64 (S : Int)) 29).below HSN.out.below
      have hAb : A + S ≤ bs.length := by rw [HBL.out]; exact HA.out
      have HAb := hi hAb
      have hlb : bs.length ≤ 4096 := by rw [HBL.out]; exact hnl
      have HLB := hi hlb
      have HW := hi (fun W (hW : MemAt 60 W p g (newN size) bs) => wrAll_1 p g (newN size) bs A S o v W hW HAb.out HO.out HM.out HV.out)
      have HR := hi (fun W (hW : MemAt 60 W p g (newN size) (splice bs (A + o) (le 1 v))) => rdAll_1 p g (newN size) bs A S o v W hW HAb.out HO.out HM.out HV.out)
      have HRj := hi (fun j (hj : j < 1) W (hW : MemAt 60 W p g (newN size) (splice bs (A + o) (le 1 v))) => rdByte_1 p g (newN size) bs A S o v j W hW HAb.out HLB.out HO.out hj)
      have ha := and255 v hv
      obtain ⟨R, hR⟩ : ∃ R, v % 256 = R := ⟨_, rfl⟩
      rw [hR] at ha HR
      clear hR
      have ho4 : o ≤ 4096 := by have := HO.out; omega
      clear hAb hlb
      go_wp2_with (first
        | (go_at_call 11; ((with_reducible refine (HW.out _ HSN.out.mem).mono ?_); rintro e w3 ⟨rfl, hm3, hk3⟩; have HS3 := hi (HSN.out.wrote hk3 hm3); obtain ⟨d0, d1, _⟩ := (box2_new w (.int .i64 (A : Int)) (.int .i64 (S : Int)) 29).below HS3.out.below; clear hm3 hk3))
        | (go_at_call 17; ((with_reducible refine (HR.out _ HS3.out.mem).mono ?_); rintro e w4 ⟨rfl, hb4⟩; have HS4 := hi (HS3.out.later hb4); clear hb4)))
      clear c0 c1 d0 d1
      go_loopw [20] (fun i wr => ∃ j : Nat, i = .int .i64 j ∧ Hi (j ≤ 1 ∧ Since (w.alloc (.cells #[.int .i64 (A : Int), .int .i64 (S : Int)] 29)) p g (newN size) (splice bs (A + o) (le 1 v)) wr)) (fun i _ => 1 - (intOf i).toNat)
      case atStart => exact ⟨0, rfl, hi ⟨Nat.zero_le _, HS4.out⟩⟩
      case round =>
        obtain ⟨j, rfl, HJ⟩ := hrel
        have hj := HJ.out.1
        obtain ⟨c0, c1, _⟩ := (box2_new w (.int .i64 (A : Int)) (.int .i64 (S : Int)) 29).below HJ.out.2.below
        by_cases hlt : j < 1
        · have hsa := shr_and v j HV.out
          have HQ := hi (HRj.out j hlt _ HJ.out.2.mem)
          obtain ⟨B, hB⟩ : ∃ B, v / 256 ^ j % 256 = B := ⟨_, rfl⟩
          rw [hB] at hsa HQ
          clear hB
          go_wp2_with (go_at_call 17; ((with_reducible refine HQ.out.mono ?_); rintro e w5 ⟨rfl, hb5⟩; have HS5 := hi (HJ.out.2.later hb5); clear hb5))
          go_roundw
          case rel => exact ⟨j + 1, by go_num, hi ⟨hlt, HS5.out⟩⟩
          case measure => simp [intOf]; omega
        · have e : j = 1 := by omega
          subst e
          go_wp2
          go_ret
          exact ⟨by simp, (bal w _).trans (HJ.out.2.below.mono (by simp))⟩

theorem rdAll_4 (p g n : Nat) (bs : List Nat) (A S o v : Nat) (W : World) (hW : MemAt 60 W p g n (splice bs (A + o) (le 4 v))) (hA : A + S ≤ bs.length) (ho : o + 4 ≤ S) (hm : mayE S o 4 = 0) (hv : v < 18446744073709551616) :
    Calls Try.prog 17 #[.pointer (some ⟨p, 0, none⟩), .agg #[.int .i64 (A : Int), .int .i64 (S : Int)], .int .i64 (o : Int), .int .i64 4] W fun e w' => e = .returned (.tuple #[.int .u64 ((v % 4294967296 : Nat) : Int), .int .i64 0]) ∧ Below W.heap.size W w' := by
  have h := read_yes p g n _ A S o 4 W hW (by rw [splice_len _ _ _ (by rw [le_len]; omega)]; exact hA) ho hm (by omega)
  rw [num_all bs (A + o) 4 v (by omega), show v % 256 ^ 4 = v % 4294967296 from rfl] at h
  exact h
theorem rdByte_4 (p g n : Nat) (bs : List Nat) (A S o v j : Nat) (W : World) (hW : MemAt 60 W p g n (splice bs (A + o) (le 4 v))) (hA : A + S ≤ bs.length) (hl : bs.length ≤ 4096) (ho : o + 4 ≤ S) (hj : j < 4) :
    Calls Try.prog 17 #[.pointer (some ⟨p, 0, none⟩), .agg #[.int .i64 (A : Int), .int .i64 (S : Int)], .int .i64 ((o : Int) + (j : Int)), .int .i64 1] W fun e w' => e = .returned (.tuple #[.int .u64 ((v / 256 ^ j % 256 : Nat) : Int), .int .i64 0]) ∧ Below W.heap.size W w' := by
  have h := read_yes p g n _ A S (o + j) 1 W hW (by rw [splice_len _ _ _ (by rw [le_len]; omega)]; exact hA) (by omega) (mayE_one S (o + j) (by omega) (by omega)) (by omega)
  rw [show A + (o + j) = A + o + j by omega, num_byte bs (A + o) 4 v j (by omega) hj, Int.natCast_add] at h
  exact h
theorem wrAll_4 (p g n : Nat) (bs : List Nat) (A S o v : Nat) (W : World) (hW : MemAt 60 W p g n bs) (hA : A + S ≤ bs.length) (ho : o + 4 ≤ S) (hm : mayE S o 4 = 0) (hv : v < 18446744073709551616) :
    Calls Try.prog 11 #[.pointer (some ⟨p, 0, none⟩), .agg #[.int .i64 (A : Int), .int .i64 (S : Int)], .int .i64 (o : Int), .int .i64 4, .int .u64 (v : Int)] W fun e w' => e = .returned (.int .i64 0) ∧ MemAt 60 w' p g n (splice bs (A + o) (le 4 v)) ∧ Kept (· = g) W w' :=
  write_yes p g n bs A S o 4 v W hW hA ho hm (by omega) hv

set_option maxHeartbeats 4000000 in
theorem memBack_4 (size : Int) (sv : Value) (xs : List ActD) (A S o v : Nat) (w : World) (hacts : ActsAt w sv xs)
    (hA : A + S ≤ newN size) (ho : o + 4 ≤ S) (hm : mayE S o 4 = 0) (hv : v < 18446744073709551616) :
    Calls Try.prog 5 #[.int .i64 size, sv, win A S, .int .i64 (o : Int), .int .i64 4, .int .u64 (v : Int)] w fun e w' => e = .returned (.bool true) ∧ Below w.heap.size w w' := by
  have HS := hi (hacts.below (bal w (.cells #[.int .i64 (A : Int), .int .i64 (S : Int)] 29)))
  have HA := hi hA
  have HO := hi ho
  have HM := hi hm
  have HV := hi hv
  obtain ⟨sa, scap, rfl, hsl, _, _⟩ := hacts
  clear hA ho hm
  unfold win
  go_enter Try.func5, Try.ntmps5
  go_wp2_with (first
    | (go_at_call 8; ((with_reducible refine (awake_any _).mono ?_); rintro e w1 ⟨rfl, hb1⟩; have HK1 := hi hb1; clear hb1))
    | (go_at_call 9; ((with_reducible refine (lawNew_any size _).mono ?_); rintro e w2 ⟨p, g, q, h, rfl, hB⟩; have HM0 := hi (Since.base hB.mem HK1.out); clear hB)))
  have hnl := newN_le size
  go_loopw [16] (fun i wr => ∃ j : Nat, i = .int .i64 j ∧ Hi (j ≤ xs.length ∧ ∃ bs : List Nat, bs.length = newN size ∧ Since (w.alloc (.cells #[.int .i64 (A : Int), .int .i64 (S : Int)] 29)) p g (newN size) bs wr)) (fun i _ => xs.length - (intOf i).toNat)
  case atStart => exact ⟨0, rfl, hi ⟨Nat.zero_le _, _, List.length_replicate, HM0.out⟩⟩
  case round =>
    obtain ⟨j, rfl, HJ⟩ := hrel
    have hj := HJ.out.1
    obtain ⟨bs, hbl, hsn⟩ := HJ.out.2
    have HSN := hi hsn
    have HBL := hi hbl
    clear hsn hbl
    by_cases hlt : j < xs.length
    · obtain ⟨x, bv, b, off, hmem, rfl, hfair, hy, c0, c1, c2, c3, c4, c5, c6⟩ := actsAt_read HS.out HSN.out.below hlt
      have HX := hi (And.intro hfair hy)
      clear hmem hfair hy
      go_wp2_with (go_at_call 14; ((with_reducible refine (does_out p g (newN size) bs x bv _ HX.out.1 HSN.out.mem HX.out.2).mono ?_); rintro e w3 ⟨rfl, hm3, hk3⟩))
      have HS3 := hi (HSN.out.wrote hk3 hm3)
      clear hm3 hk3
      go_roundw
      case rel => exact ⟨j + 1, by go_num, hi ⟨hlt, _, (doL_len (by rw [HBL.out]; omega)).trans HBL.out, HS3.out⟩⟩
      case measure => simp [intOf]; omega
    · have e : j = xs.length := by omega
      subst e
      obtain ⟨c0, c1, _⟩ := (box2_new w (.int .i64 (A : Int)) (.int .i64 (S : Int)) 29).below HSN.out.below
      have hAb : A + S ≤ bs.length := by rw [HBL.out]; exact HA.out
      have HAb := hi hAb
      have hlb : bs.length ≤ 4096 := by rw [HBL.out]; exact hnl
      have HLB := hi hlb
      have HW := hi (fun W (hW : MemAt 60 W p g (newN size) bs) => wrAll_4 p g (newN size) bs A S o v W hW HAb.out HO.out HM.out HV.out)
      have HR := hi (fun W (hW : MemAt 60 W p g (newN size) (splice bs (A + o) (le 4 v))) => rdAll_4 p g (newN size) bs A S o v W hW HAb.out HO.out HM.out HV.out)
      have HRj := hi (fun j (hj : j < 4) W (hW : MemAt 60 W p g (newN size) (splice bs (A + o) (le 4 v))) => rdByte_4 p g (newN size) bs A S o v j W hW HAb.out HLB.out HO.out hj)
      have ha := and32 v hv
      obtain ⟨R, hR⟩ : ∃ R, v % 4294967296 = R := ⟨_, rfl⟩
      rw [hR] at ha HR
      clear hR
      have ho4 : o ≤ 4096 := by have := HO.out; omega
      clear hAb hlb
      go_wp2_with (first
        | (go_at_call 11; ((with_reducible refine (HW.out _ HSN.out.mem).mono ?_); rintro e w3 ⟨rfl, hm3, hk3⟩; have HS3 := hi (HSN.out.wrote hk3 hm3); obtain ⟨d0, d1, _⟩ := (box2_new w (.int .i64 (A : Int)) (.int .i64 (S : Int)) 29).below HS3.out.below; clear hm3 hk3))
        | (go_at_call 17; ((with_reducible refine (HR.out _ HS3.out.mem).mono ?_); rintro e w4 ⟨rfl, hb4⟩; have HS4 := hi (HS3.out.later hb4); clear hb4)))
      clear c0 c1 d0 d1
      go_loopw [20] (fun i wr => ∃ j : Nat, i = .int .i64 j ∧ Hi (j ≤ 4 ∧ Since (w.alloc (.cells #[.int .i64 (A : Int), .int .i64 (S : Int)] 29)) p g (newN size) (splice bs (A + o) (le 4 v)) wr)) (fun i _ => 4 - (intOf i).toNat)
      case atStart => exact ⟨0, rfl, hi ⟨Nat.zero_le _, HS4.out⟩⟩
      case round =>
        obtain ⟨j, rfl, HJ⟩ := hrel
        have hj := HJ.out.1
        obtain ⟨c0, c1, _⟩ := (box2_new w (.int .i64 (A : Int)) (.int .i64 (S : Int)) 29).below HJ.out.2.below
        by_cases hlt : j < 4
        · have hsa := shr_and v j HV.out
          have HQ := hi (HRj.out j hlt _ HJ.out.2.mem)
          obtain ⟨B, hB⟩ : ∃ B, v / 256 ^ j % 256 = B := ⟨_, rfl⟩
          rw [hB] at hsa HQ
          clear hB
          go_wp2_with (go_at_call 17; ((with_reducible refine HQ.out.mono ?_); rintro e w5 ⟨rfl, hb5⟩; have HS5 := hi (HJ.out.2.later hb5); clear hb5))
          go_roundw
          case rel => exact ⟨j + 1, by go_num, hi ⟨hlt, HS5.out⟩⟩
          case measure => simp [intOf]; omega
        · have e : j = 4 := by omega
          subst e
          go_wp2
          go_ret
          exact ⟨by simp, (bal w _).trans (HJ.out.2.below.mono (by simp))⟩

theorem rdAll_8 (p g n : Nat) (bs : List Nat) (A S o v : Nat) (W : World) (hW : MemAt 60 W p g n (splice bs (A + o) (le 8 v))) (hA : A + S ≤ bs.length) (ho : o + 8 ≤ S) (hm : mayE S o 8 = 0) (hv : v < 18446744073709551616) :
    Calls Try.prog 17 #[.pointer (some ⟨p, 0, none⟩), .agg #[.int .i64 (A : Int), .int .i64 (S : Int)], .int .i64 (o : Int), .int .i64 8] W fun e w' => e = .returned (.tuple #[.int .u64 ((v : Nat) : Int), .int .i64 0]) ∧ Below W.heap.size W w' := by
  have h := read_yes p g n _ A S o 8 W hW (by rw [splice_len _ _ _ (by rw [le_len]; omega)]; exact hA) ho hm (by omega)
  rw [num_all bs (A + o) 8 v (by omega), show v % 256 ^ 8 = v from Nat.mod_eq_of_lt hv] at h
  exact h
theorem rdByte_8 (p g n : Nat) (bs : List Nat) (A S o v j : Nat) (W : World) (hW : MemAt 60 W p g n (splice bs (A + o) (le 8 v))) (hA : A + S ≤ bs.length) (hl : bs.length ≤ 4096) (ho : o + 8 ≤ S) (hj : j < 8) :
    Calls Try.prog 17 #[.pointer (some ⟨p, 0, none⟩), .agg #[.int .i64 (A : Int), .int .i64 (S : Int)], .int .i64 ((o : Int) + (j : Int)), .int .i64 1] W fun e w' => e = .returned (.tuple #[.int .u64 ((v / 256 ^ j % 256 : Nat) : Int), .int .i64 0]) ∧ Below W.heap.size W w' := by
  have h := read_yes p g n _ A S (o + j) 1 W hW (by rw [splice_len _ _ _ (by rw [le_len]; omega)]; exact hA) (by omega) (mayE_one S (o + j) (by omega) (by omega)) (by omega)
  rw [show A + (o + j) = A + o + j by omega, num_byte bs (A + o) 8 v j (by omega) hj, Int.natCast_add] at h
  exact h
theorem wrAll_8 (p g n : Nat) (bs : List Nat) (A S o v : Nat) (W : World) (hW : MemAt 60 W p g n bs) (hA : A + S ≤ bs.length) (ho : o + 8 ≤ S) (hm : mayE S o 8 = 0) (hv : v < 18446744073709551616) :
    Calls Try.prog 11 #[.pointer (some ⟨p, 0, none⟩), .agg #[.int .i64 (A : Int), .int .i64 (S : Int)], .int .i64 (o : Int), .int .i64 8, .int .u64 (v : Int)] W fun e w' => e = .returned (.int .i64 0) ∧ MemAt 60 w' p g n (splice bs (A + o) (le 8 v)) ∧ Kept (· = g) W w' :=
  write_yes p g n bs A S o 8 v W hW hA ho hm (by omega) hv

set_option maxHeartbeats 4000000 in
theorem memBack_8 (size : Int) (sv : Value) (xs : List ActD) (A S o v : Nat) (w : World) (hacts : ActsAt w sv xs)
    (hA : A + S ≤ newN size) (ho : o + 8 ≤ S) (hm : mayE S o 8 = 0) (hv : v < 18446744073709551616) :
    Calls Try.prog 5 #[.int .i64 size, sv, win A S, .int .i64 (o : Int), .int .i64 8, .int .u64 (v : Int)] w fun e w' => e = .returned (.bool true) ∧ Below w.heap.size w w' := by
  have HS := hi (hacts.below (bal w (.cells #[.int .i64 (A : Int), .int .i64 (S : Int)] 29)))
  have HA := hi hA
  have HO := hi ho
  have HM := hi hm
  have HV := hi hv
  obtain ⟨sa, scap, rfl, hsl, _, _⟩ := hacts
  clear hA ho hm
  unfold win
  go_enter Try.func5, Try.ntmps5
  go_wp2_with (first
    | (go_at_call 8; ((with_reducible refine (awake_any _).mono ?_); rintro e w1 ⟨rfl, hb1⟩; have HK1 := hi hb1; clear hb1))
    | (go_at_call 9; ((with_reducible refine (lawNew_any size _).mono ?_); rintro e w2 ⟨p, g, q, h, rfl, hB⟩; have HM0 := hi (Since.base hB.mem HK1.out); clear hB)))
  have hnl := newN_le size
  go_loopw [16] (fun i wr => ∃ j : Nat, i = .int .i64 j ∧ Hi (j ≤ xs.length ∧ ∃ bs : List Nat, bs.length = newN size ∧ Since (w.alloc (.cells #[.int .i64 (A : Int), .int .i64 (S : Int)] 29)) p g (newN size) bs wr)) (fun i _ => xs.length - (intOf i).toNat)
  case atStart => exact ⟨0, rfl, hi ⟨Nat.zero_le _, _, List.length_replicate, HM0.out⟩⟩
  case round =>
    obtain ⟨j, rfl, HJ⟩ := hrel
    have hj := HJ.out.1
    obtain ⟨bs, hbl, hsn⟩ := HJ.out.2
    have HSN := hi hsn
    have HBL := hi hbl
    clear hsn hbl
    by_cases hlt : j < xs.length
    · obtain ⟨x, bv, b, off, hmem, rfl, hfair, hy, c0, c1, c2, c3, c4, c5, c6⟩ := actsAt_read HS.out HSN.out.below hlt
      have HX := hi (And.intro hfair hy)
      clear hmem hfair hy
      go_wp2_with (go_at_call 14; ((with_reducible refine (does_out p g (newN size) bs x bv _ HX.out.1 HSN.out.mem HX.out.2).mono ?_); rintro e w3 ⟨rfl, hm3, hk3⟩))
      have HS3 := hi (HSN.out.wrote hk3 hm3)
      clear hm3 hk3
      go_roundw
      case rel => exact ⟨j + 1, by go_num, hi ⟨hlt, _, (doL_len (by rw [HBL.out]; omega)).trans HBL.out, HS3.out⟩⟩
      case measure => simp [intOf]; omega
    · have e : j = xs.length := by omega
      subst e
      obtain ⟨c0, c1, _⟩ := (box2_new w (.int .i64 (A : Int)) (.int .i64 (S : Int)) 29).below HSN.out.below
      have hAb : A + S ≤ bs.length := by rw [HBL.out]; exact HA.out
      have HAb := hi hAb
      have hlb : bs.length ≤ 4096 := by rw [HBL.out]; exact hnl
      have HLB := hi hlb
      have HW := hi (fun W (hW : MemAt 60 W p g (newN size) bs) => wrAll_8 p g (newN size) bs A S o v W hW HAb.out HO.out HM.out HV.out)
      have HR := hi (fun W (hW : MemAt 60 W p g (newN size) (splice bs (A + o) (le 8 v))) => rdAll_8 p g (newN size) bs A S o v W hW HAb.out HO.out HM.out HV.out)
      have HRj := hi (fun j (hj : j < 8) W (hW : MemAt 60 W p g (newN size) (splice bs (A + o) (le 8 v))) => rdByte_8 p g (newN size) bs A S o v j W hW HAb.out HLB.out HO.out hj)
      skip
      have ho4 : o ≤ 4096 := by have := HO.out; omega
      clear hAb hlb
      go_wp2_with (first
        | (go_at_call 11; ((with_reducible refine (HW.out _ HSN.out.mem).mono ?_); rintro e w3 ⟨rfl, hm3, hk3⟩; have HS3 := hi (HSN.out.wrote hk3 hm3); obtain ⟨d0, d1, _⟩ := (box2_new w (.int .i64 (A : Int)) (.int .i64 (S : Int)) 29).below HS3.out.below; clear hm3 hk3))
        | (go_at_call 17; ((with_reducible refine (HR.out _ HS3.out.mem).mono ?_); rintro e w4 ⟨rfl, hb4⟩; have HS4 := hi (HS3.out.later hb4); clear hb4)))
      clear c0 c1 d0 d1
      go_loopw [20] (fun i wr => ∃ j : Nat, i = .int .i64 j ∧ Hi (j ≤ 8 ∧ Since (w.alloc (.cells #[.int .i64 (A : Int), .int .i64 (S : Int)] 29)) p g (newN size) (splice bs (A + o) (le 8 v)) wr)) (fun i _ => 8 - (intOf i).toNat)
      case atStart => exact ⟨0, rfl, hi ⟨Nat.zero_le _, HS4.out⟩⟩
      case round =>
        obtain ⟨j, rfl, HJ⟩ := hrel
        have hj := HJ.out.1
        obtain ⟨c0, c1, _⟩ := (box2_new w (.int .i64 (A : Int)) (.int .i64 (S : Int)) 29).below HJ.out.2.below
        by_cases hlt : j < 8
        · have hsa := shr_and v j HV.out
          have HQ := hi (HRj.out j hlt _ HJ.out.2.mem)
          obtain ⟨B, hB⟩ : ∃ B, v / 256 ^ j % 256 = B := ⟨_, rfl⟩
          rw [hB] at hsa HQ
          clear hB
          go_wp2_with (go_at_call 17; ((with_reducible refine HQ.out.mono ?_); rintro e w5 ⟨rfl, hb5⟩; have HS5 := hi (HJ.out.2.later hb5); clear hb5))
          go_roundw
          case rel => exact ⟨j + 1, by go_num, hi ⟨hlt, HS5.out⟩⟩
          case measure => simp [intOf]; omega
        · have e : j = 8 := by omega
          subst e
          go_wp2
          go_ret
          exact ⟨by simp, (bal w _).trans (HJ.out.2.below.mono (by simp))⟩

theorem memBack_walk (size : Int) (sv : Value) (xs : List ActD) (a s off wd : Int) (v : Nat) (w : World) (hacts : ActsAt w sv xs)
    (ha0 : -9223372036854775808 ≤ a) (ha1 : a ≤ 9223372036854775807) (hs0 : -9223372036854775808 ≤ s) (hs1 : s ≤ 9223372036854775807) (hv : v < 18446744073709551616) :
    Calls Try.prog 5 #[.int .i64 size, sv, win a s, .int .i64 off, .int .i64 wd, .int .u64 v] w fun e w' => e = .returned (.bool true) ∧ Below w.heap.size w w' := by
  by_cases h : accE (newN size) a s off wd = 0
  · have hn := newN_le size
    obtain ⟨A, S, o, k, rfl, rfl, rfl, rfl, hA, ho, hm, hk⟩ := accE_out (by omega) h
    rcases hk with rfl | rfl | rfl
    · exact memBack_1 size sv xs A S o v w hacts hA ho hm hv
    · exact memBack_4 size sv xs A S o v w hacts hA ho hm hv
    · exact memBack_8 size sv xs A S o v w hacts hA ho hm hv
  · exact memBack_no size sv xs a s off wd v w hacts ha0 ha1 hs0 hs1 hv h

end Go.Proofs.Ythndfkggahhleaa
