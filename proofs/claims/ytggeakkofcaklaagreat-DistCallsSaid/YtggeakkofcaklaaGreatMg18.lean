import Derived.Test.YtggeakkofcaklaaGreatMg17
import Derived.Test.YtggeakkofcaklaaGreatMg05
import Derived.Shelf.Abstract
import Derived.OwnWalkIn
import Derived.TacticsInMore
import Derived.LoopNIn
import Derived.LoopIn
import Derived.Maps.AppendAt
import Derived.Test.YtggeakkofcaklaaGreatRows
import Derived.WalkKit
import Derived.ProofKit
import Derived.Lib.Hide
import Derived.BigQuiet
import Derived.Deep.QuietTactic
import Derived.Laws.AppendOwn
namespace Go.Proofs.YtggeakkofcaklaaGreat
open Go.ChangeShapes Go.WideShapes Go.ChangeAt Go.RowKit Go.Shelf
set_option linter.unusedVariables false
attribute [local go_sem] Oper.semAt_some
abbrev encS (i : Nat) : Array Value := #[.int .i64 i]
structure Stays (lo hi : Nat) (W W' : World) : Prop where
  size : W.heap.size ≤ W'.heap.size
  same : ∀ k, lo ≤ k → k < hi → W'.heap[k]? = W.heap[k]?
theorem Stays.trans {lo hi : Nat} {A B C : World} (h : Stays lo hi A B) (k : Stays lo hi B C) : Stays lo hi A C := ⟨Nat.le_trans h.size k.size, fun i h1 h2 => (k.same i h1 h2).trans (h.same i h1 h2)⟩
theorem Stays.below {lo hi : Nat} {W W' : World} (h : Below W.heap.size W W') (hh : hi ≤ W.heap.size) : Stays lo hi W W' := ⟨h.size, fun i _ h2 => h.block i (by omega)⟩
theorem stays_put {lo hi : Nat} {W : World} {l : Nat} {o' : Obj} (hl : hi ≤ l) : Stays lo hi W (W.putObj l o') := ⟨by simp, fun k _ hk => World.putObj_heap_other (by omega)⟩
theorem stays_set {lo hi : Nat} {W : World} {b o : Nat} {v : Value} (hl : b < lo ∨ hi ≤ b) : Stays lo hi W (W.setCell ⟨b, o, none⟩ v) := ⟨by simp, fun k h1 h2 => Below.heap_setCell W ⟨b, o, none⟩ v k (by show k ≠ b; omega)⟩
theorem Stays.refl (lo hi : Nat) (W : World) : Stays lo hi W W := ⟨Nat.le_refl _, fun _ _ _ => rfl⟩
theorem CB.stays {W W' : World} {lo hi b : Nat} {t : TypeId} {cs : Array Value} (h : CB W b t cs) (k : Stays lo hi W W') (h1 : lo ≤ b) (h2 : b < hi) : CB W' b t cs := (k.same b h1 h2).trans h
theorem ToAt.stays {b : Nat} {c : Cl} {fr cores : Int} {W W' : World} (h : ToAt b c fr cores W) (k : Stays b (b + 3) W W') : ToAt b c fr cores W' := ⟨h.c.stays k (by omega) (by omega), h.f.stays k (by omega) (by omega), h.n.stays k (by omega) (by omega)⟩
theorem ToAt.below {b : Nat} {c : Cl} {fr cores : Int} {W W' : World} (h : ToAt b c fr cores W) (k : Below W.heap.size W W') : ToAt b c fr cores W' := ⟨h.c.below k, h.f.below k, h.n.below k⟩
set_option maxRecDepth 100000 in
set_option maxHeartbeats 2000000 in
theorem to1_any (l b : Nat) (c : Cl) (fr cores : Int) (J Jx : List Nat → World → Prop) (W : World) (hJ : AbW W.heap.size 0 J)
    (hY : ∀ (pre : List Nat) (x : Nat) (W1 : World), J pre W1 → pre ++ [x] <+: toL c fr cores → W.heap.size + 0 ≤ W1.heap.size → ∀ m, YieldAt Fence.wide m Tryz.prog l (encS x) W1 fun e W' =>
      (e = .returned (.bool true) ∧ J (pre ++ [x]) W' ∧ Stays b (b + 3) W1 W') ∨ (e = .returned (.bool false) ∧ Jx (pre ++ [x]) W' ∧ Stays b (b + 3) W1 W'))
    (hb : ToAt b c fr cores W) (h0 : J [] W) :
    Calls Tryz.prog 111 #[.func (.yield l) #[] #[], .pointer (some ⟨b + 2, 0, none⟩), .pointer (some ⟨b, 0, none⟩), .pointer (some ⟨b + 1, 0, none⟩)] W fun e W' => (∃ v, e = .returned v) ∧
      ((∃ ys, ys = toL c fr cores ∧ J ys W') ∨ (∃ pre, pre <+: toL c fr cores ∧ Jx pre W')) := by
  have HYY := hi hY
  have HJ := hi hJ
  have HF := hi (fun (k : Nat) (hk : k < 8) (V : World) => reaches_any c fr k hk V)
  have n0 := hb.n.cell 0
  have hb3 : b + 3 ≤ W.heap.size := hb.n.lt
  have hcap : capN cores = (min cores 8).toNat := rfl
  have hc8 := capN_le cores
  obtain ⟨f, hf⟩ : ∃ f, callV c fr = f := ⟨_, rfl⟩
  obtain ⟨id, all, tg, odd⟩ := c
  have H0 := hi (show Below W.heap.size W W ∧ ToAt b ⟨id, all, tg, odd⟩ fr cores W ∧ J (upto f 0) W from ⟨Below.refl _ _, hb, h0⟩)
  unfold toL at HYY ⊢
  rw [hf] at HYY HF ⊢
  clear hY hJ hb h0 hf
  refine (callsIn_wide (n := 3)).1 ?_
  refine callsIn_of_wp Tryz.func111 rfl trivial ?_ rfl
  simp only [Tryz.ntmps111, List.size_toArray, List.length_cons, List.length_nil, Nat.reduceAdd, Nat.reduceSub, Array.replicate_succ, Array.replicate_zero, List.push_toArray, List.append_toArray, List.nil_append, List.cons_append]
  gi_wp2
  all_goals
    gi_loopw [8] (fun i wr => ∃ k : Nat, k ≤ capN cores ∧ i = .int .i64 k ∧ Hi (W.heap.size ≤ wr.heap.size ∧ ToAt b ⟨id, all, tg, odd⟩ fr cores wr ∧ J (upto f k) wr))
      (fun i _ => 8 - (intOf i).toNat)
    case atStart => exact ⟨0, Nat.zero_le _, rfl, hi ⟨Nat.le_refl _, H0.out.2⟩⟩
    case round =>
      obtain ⟨k, hk, rfl, HP⟩ := hrel
      by_cases hlt : k < capN cores
      · have x1 : (k : Int) < 8 := by omega
        have x2 : (k : Int) < cores := by omega
        have HF1 := hi (HF.out k (by omega))
        have c0 := HP.out.2.1.c.cell 0
        have c1 := HP.out.2.1.c.cell 1
        have c2 := HP.out.2.1.c.cell 2
        have c3 := HP.out.2.1.c.cell 3
        have f0 := HP.out.2.1.f.cell 0
        cases hfk : f k
        · have HE := hi (upto_neg hfk)
          rw [hfk] at HF1
          clear hfk
          gi_wp2_with (first
            | (refine ⟨trivial, ?_⟩; gi_at_call 112; ((with_reducible refine (callsIn_wide.2 (HF1.out _)).mono ?_); rintro e w1 ⟨rfl, hb1⟩))
            | gi_in)
          refine ⟨noFn, ?_⟩
          gi_wp2
          go_roundw
          case rel => exact ⟨k + 1, by omega, by go_num, hi ⟨Nat.le_trans HP.out.1 hb1.size, HP.out.2.1.below hb1, by rw [HE.out]; exact HJ.out.grow HP.out.2.2 (Below.grew hb1)⟩⟩
          case measure => simp only [intOf]; omega
        · have HE := hi (upto_pos hfk)
          have HX := hi (show upto f k ++ [k] <+: upto f (capN cores) by rw [← upto_pos hfk]; exact upto_pre f _ _ (by omega))
          rw [hfk] at HF1
          clear hfk
          gi_wp2_with (first
            | (refine ⟨trivial, ?_⟩; gi_at_call 112; ((with_reducible refine (callsIn_wide.2 (HF1.out _)).mono ?_); rintro e w1 ⟨rfl, hb1⟩; obtain ⟨fn, tmps, assign, body, hy, hRd⟩ := HYY.out _ _ w1 (HJ.out.grow HP.out.2.2 (Below.grew hb1)) HX.out (Nat.le_trans HP.out.1 hb1.size) (3 - 1)))
            | gi_in)
          refine hRd.mono ?_
          rintro e W3 (⟨rfl, hJ3, hk3⟩ | ⟨rfl, hJx3, _⟩)
          · gi_wp2
            go_roundw
            case rel => exact ⟨k + 1, by omega, by go_num, hi ⟨Nat.le_trans HP.out.1 (Nat.le_trans hb1.size hk3.size), (HP.out.2.1.below hb1).stays hk3, by rw [HE.out]; exact hJ3⟩⟩
            case measure => simp only [intOf]; omega
          · gi_wp2
            refine bodyPost_ret (results_none rfl _ _ _) rfl ?_
            exact ⟨⟨_, rfl⟩, .inr ⟨_, HX.out, hJx3⟩⟩
      · have hx : (cores ≤ 8 → ¬ (k : Int) < cores) ∧ (8 < cores → ¬ (k : Int) < 8) := by omega
        have hy : k = capN cores := by omega
        have HY := hi hy
        first
          | replace hx := hx.1 (by assumption)
          | replace hx := hx.2 (by assumption)
        clear hy hk hlt hcap
        gi_wp2
        go_end0
        exact ⟨⟨_, rfl⟩, .inl (by rw [← HY.out]; exact HP.out.2.2)⟩
theorem to_stops (b : Nat) (c : Cl) (fr cores : Int) (w : World) (hb : ToAt b c fr cores w) :
    SeqW 0 Tryz.prog 111 #[.pointer (some ⟨b + 2, 0, none⟩), .pointer (some ⟨b, 0, none⟩), .pointer (some ⟨b + 1, 0, none⟩)] encS (fun _ => Stays b (b + 3)) (fun ys => ys = toL c fr cores) (fun pre => pre <+: toL c fr cores) (fun pre x => pre ++ [x] <+: toL c fr cores) w := fun l J Jx W hW hJ hJx hY h0 =>
  to1_any l b c fr cores J Jx W hJ hY (hb.below hW) h0
end Go.Proofs.YtggeakkofcaklaaGreat
namespace Go.Proofs.YtggeakkofcaklaaGreat
open Go.ChangeShapes Go.WideShapes Go.ChangeAt Go.RowKit
set_option linter.unusedVariables false
def IntsAt (W : World) (v : Value) (xs : List Int) : Prop :=
  ∃ (a : Option Addr) (cap : Nat), v = .slice a xs.length cap ∧ (xs.length ≤ cap ∧ cap ≤ maxLen) ∧ (xs ≠ [] → ∃ b off : Nat, a = some ⟨b, off, none⟩ ∧ ∀ j, j < xs.length → W.cell? ⟨b, off + j, none⟩ = some (.int .i64 (xs[j]?.getD 0)))
theorem intsAt_row {W : World} {base : Nat} {v : Value} {xs : List Int} (h : W.ownsRow base 3 1 v xs.length (xs.map (Value.int .i64))) : IntsAt W v xs := by
  rcases h.2 with ⟨rfl, h0⟩ | ⟨g, cap, cur, rfl, hb, hg, h1, h2, h3, h4⟩
  · exact ⟨none, 0, by rw [h0], ⟨by omega, by unfold maxLen; omega⟩, fun hx => absurd (List.length_eq_zero_iff.1 h0) hx⟩
  · refine ⟨some ⟨g, 0, none⟩, cap, rfl, ⟨h1, h2⟩, fun _ => ⟨g, 0, rfl, fun j hj => ?_⟩⟩
    have hc : cur.toList[j]? = some (.int .i64 (xs[j]?.getD 0)) := by
      have h5 : (cur.toList.take (xs.length * 1))[j]? = (xs.map (Value.int .i64))[j]? := by rw [h4]
      rw [List.getElem?_take_of_lt (by omega)] at h5
      rw [h5]
      simp [hj]
    simp only [World.cell?, hg]
    simpa using hc
def Upto (xs ys : List Int) (k : Nat) : Prop := ∀ j, j < k → xs[j]?.getD 0 = ys[j]?.getD 0
theorem Upto.zero (xs ys : List Int) : Upto xs ys 0 := fun j h => by omega
theorem Upto.succ {xs ys : List Int} {k : Nat} (h : Upto xs ys k) (e : xs[k]?.getD 0 = ys[k]?.getD 0) : Upto xs ys (k + 1) := fun j hj => by
  by_cases x : j = k
  · subst x; exact e
  · exact h j (by omega)
end Go.Proofs.YtggeakkofcaklaaGreat
namespace Go.Proofs.YtggeakkofcaklaaGreat
open Go.ChangeShapes Go.WideShapes Go.ChangeAt Go.RowKit Go.Shelf
set_option linter.unusedVariables false
attribute [local go_sem] Oper.semAt_some
theorem info_i : (Tryz.prog.info? 3).map (fun i => (i.zero, i.size, i.bytes)) = some (some (.int .i64 0), 1, 8) := by kernel_rfl
def ints (xs : List Int) : List Value := xs.map (Value.int .i64)
theorem ints_append (a b : List Int) : ints (a ++ b) = ints a ++ ints b := by simp [ints]
def SomeInts (w : World) (xs : List Int) (e : Ending) (W' : World) : Prop := ∃ a cap, e = .returned (.slice a xs.length cap) ∧ IntsAt W' (.slice a xs.length cap) xs ∧ Below w.heap.size w W'
theorem someInts_of {w W' : World} {xs : List Int} {o : Value} {base : Nat} (h : W'.ownsRow base 3 1 o xs.length (ints xs)) (hb : Below w.heap.size w W') : SomeInts w xs (.returned o) W' := by
  obtain ⟨a, cap, rfl, hcap, hc⟩ := intsAt_row h
  exact ⟨a, cap, rfl, ⟨a, cap, rfl, hcap, hc⟩, hb⟩
end Go.Proofs.YtggeakkofcaklaaGreat
namespace Go.Proofs.YtggeakkofcaklaaGreat
open Go.ChangeShapes Go.WideShapes Go.ChangeAt Go.RowKit Go.Shelf
set_option linter.unusedVariables false
theorem part_step (v m j : Nat) : v / 2 ^ m % 2 ^ (j + 1) = v / 2 ^ (m + 1) % 2 ^ j * 2 + v / 2 ^ m % 2 := by
  rw [Nat.pow_succ 2 j, Nat.mul_comm (2 ^ j) 2, Nat.mod_mul, Nat.div_div_eq_div_mul, Nat.add_comm, Nat.mul_comm 2]
  rfl
theorem u64_bit (v k : Nat) (hv : v < 18446744073709551616) : (bits .and .u64 ((v : Int) / 2 ^ k) 1 == 1) = decide (v / 2 ^ k % 2 = 1) := by
  have e : (v : Int) / 2 ^ k = ((v / 2 ^ k : Nat) : Int) := by rw [Int.natCast_ediv, Int.natCast_pow]; rfl
  rw [e, show (1 : Int) = ((1 : Nat) : Int) from rfl, u64_and_nat _ _ (Nat.lt_of_le_of_lt (Nat.div_le_self _ _) hv) (by decide), nat_mask1]
  by_cases h : v / 2 ^ k % 2 = 1
  · rw [h]; rfl
  · rw [show v / 2 ^ k % 2 = 0 by omega]; rfl
set_option maxHeartbeats 1000000 in
theorem part_any (v a b : Nat) (hv : v < 18446744073709551616) (ha : a ≤ b) (hb : b < 64) (hd : b < a + 16) (w : World) :
    Calls Tryz.prog 95 #[.int .u64 v, .int .i64 a, .int .i64 b] w fun e w' => e = .returned (.int .i64 (v / 2 ^ a % 2 ^ (b + 1 - a) : Nat)) ∧ w = w' := by
  have HB := hi (fun k => u64_bit v k hv)
  have HV := hi hv
  clear hv
  go_enter Tryz.func95, Tryz.ntmps95
  go_wp2
  go_loop [7, 8] (fun n k => ∃ j : Nat, j ≤ b + 1 - a ∧ k = .int .i64 ((b : Int) - j) ∧ n = .int .i64 (v / 2 ^ (b + 1 - j) % 2 ^ j : Nat)) (fun n k => (intOf k - a + 1).toNat)
  case atStart => exact ⟨0, Nat.zero_le _, by simp, by simp⟩
  case round =>
    obtain ⟨j, hj, rfl, rfl⟩ := hrel
    by_cases hlt : j < b + 1 - a
    · obtain ⟨m, hm⟩ : ∃ m : Nat, b - j = m := ⟨_, rfl⟩
      have hbj : b = m + j := by omega
      have e1 : (b : Int) - j = m := by omega
      have hst := part_step v m j
      rw [e1, show b + 1 - j = m + 1 by omega]
      have hN : v / 2 ^ (m + 1) % 2 ^ j < 2 ^ 15 := Nat.lt_of_lt_of_le (Nat.mod_lt _ (Nat.two_pow_pos _)) (Nat.pow_le_pow_right (by decide) (by omega))
      obtain ⟨N, eN⟩ : ∃ N, v / 2 ^ (m + 1) % 2 ^ j = N := ⟨_, rfl⟩
      rw [eN] at hN hst ⊢
      have hbit := HB.out m
      have HS := hi hst
      have hm64 : m < 64 := by omega
      have ham : (a : Int) ≤ m := by omega
      have HM := hi (And.intro hbj (And.intro hlt hj))
      clear hst eN e1 hm hj hlt hbj
      by_cases h : v / 2 ^ m % 2 = 1
      · have ht : (bits .and .u64 ((v : Int) / 2 ^ m) 1 == 1) = true := by rw [hbit]; simpa using h
        have HH := hi h
        clear hbit h
        go_wp2
        go_round
        case rel => exact ⟨j + 1, by have := HM.out; omega, by have := HM.out; congr 1; omega, by rw [show b + 1 - (j + 1) = m by have := HM.out; omega, HS.out, HH.out]; rfl⟩
        case measure => have := HM.out; simp only [intOf]; omega
      · have ht : (bits .and .u64 ((v : Int) / 2 ^ m) 1 == 1) = false := by rw [hbit]; simpa using h
        have HH := hi (show v / 2 ^ m % 2 = 0 by omega)
        clear hbit h
        go_wp2
        go_round
        case rel => exact ⟨j + 1, by have := HM.out; omega, by have := HM.out; congr 1; omega, by rw [show b + 1 - (j + 1) = m by have := HM.out; omega, HS.out, HH.out]; rfl⟩
        case measure => have := HM.out; simp only [intOf]; omega
    · obtain rfl : j = b + 1 - a := by omega
      have e1 : (b : Int) - ((b + 1 - a : Nat) : Int) = (a : Int) - 1 := by omega
      rw [e1, show b + 1 - (b + 1 - a) = a by omega]
      clear e1
      go_wp2
      go_ret
      exact ⟨rfl, rfl⟩
set_option maxHeartbeats 1000000 in
theorem refOdd_any (v : Nat) (hv : v < 18446744073709551616) (w : World) : Calls Tryz.prog 97 #[.int .u64 v] w fun e w' => e = .returned (.bool (oddV v)) ∧ w = w' := by
  have C1 : Hi (∀ W, Calls Tryz.prog 95 #[.int .u64 v, .int .i64 16, .int .i64 23] W fun e w' => e = .returned (.int .i64 (v / 2 ^ 16 % 2 ^ 8 : Nat)) ∧ W = w') := hi (fun W => part_any v 16 23 hv (by decide) (by decide) (by decide) W)
  have C2 : Hi (∀ W, Calls Tryz.prog 95 #[.int .u64 v, .int .i64 32, .int .i64 39] W fun e w' => e = .returned (.int .i64 (v / 2 ^ 32 % 2 ^ 8 : Nat)) ∧ W = w') := hi (fun W => part_any v 32 39 hv (by decide) (by decide) (by decide) W)
  have C3 : Hi (∀ W, Calls Tryz.prog 95 #[.int .u64 v, .int .i64 44, .int .i64 47] W fun e w' => e = .returned (.int .i64 (v / 2 ^ 44 % 2 ^ 4 : Nat)) ∧ W = w') := hi (fun W => part_any v 44 47 hv (by decide) (by decide) (by decide) W)
  have C4 : Hi (∀ W, Calls Tryz.prog 95 #[.int .u64 v, .int .i64 48, .int .i64 55] W fun e w' => e = .returned (.int .i64 (v / 2 ^ 48 % 2 ^ 8 : Nat)) ∧ W = w') := hi (fun W => part_any v 48 55 hv (by decide) (by decide) (by decide) W)
  unfold oddV
  obtain ⟨p1, e1⟩ : ∃ p, v / 2 ^ 16 % 2 ^ 8 = p := ⟨_, rfl⟩
  obtain ⟨p2, e2⟩ : ∃ p, v / 2 ^ 32 % 2 ^ 8 = p := ⟨_, rfl⟩
  obtain ⟨p3, e3⟩ : ∃ p, v / 2 ^ 44 % 2 ^ 4 = p := ⟨_, rfl⟩
  obtain ⟨p4, e4⟩ : ∃ p, v / 2 ^ 48 % 2 ^ 8 = p := ⟨_, rfl⟩
  rw [e1] at C1 ⊢
  rw [e2] at C2 ⊢
  rw [e3] at C3 ⊢
  rw [e4] at C4 ⊢
  clear e1 e2 e3 e4 hv
  rcases Nat.eq_zero_or_pos p1 with rfl | h1
  · rcases Nat.eq_zero_or_pos p2 with rfl | h2
    · rcases Nat.eq_zero_or_pos p3 with rfl | h3
      · have t4 : ((p4 : Int) != 0) = decide (p4 ≠ 0) := by by_cases h : p4 = 0 <;> simp [h]
        have T4 := hi t4
        clear t4
        go_enter Tryz.func97, Tryz.ntmps97
        go_wp2_with (first
          | (go_at_call 95; ((with_reducible refine (C1.out _).mono ?_); rintro e' w1 ⟨rfl, rfl⟩))
          | (go_at_call 95; ((with_reducible refine (C2.out _).mono ?_); rintro e' w1 ⟨rfl, rfl⟩))
          | (go_at_call 95; ((with_reducible refine (C3.out _).mono ?_); rintro e' w1 ⟨rfl, rfl⟩))
          | (go_at_call 95; ((with_reducible refine (C4.out _).mono ?_); rintro e' w1 ⟨rfl, rfl⟩)))
        go_ret
        exact ⟨by rw [T4.out]; simp, rfl⟩
      · have t3 : ((p3 : Int) != 0) = true := by simp; omega
        have H3 := hi (show p3 ≠ 0 by omega)
        clear h3
        go_enter Tryz.func97, Tryz.ntmps97
        go_wp2_with (first
          | (go_at_call 95; ((with_reducible refine (C1.out _).mono ?_); rintro e' w1 ⟨rfl, rfl⟩))
          | (go_at_call 95; ((with_reducible refine (C2.out _).mono ?_); rintro e' w1 ⟨rfl, rfl⟩))
          | (go_at_call 95; ((with_reducible refine (C3.out _).mono ?_); rintro e' w1 ⟨rfl, rfl⟩)))
        go_ret
        exact ⟨by simp [H3.out], rfl⟩
    · have t2 : ((p2 : Int) != 0) = true := by simp; omega
      have H2 := hi (show p2 ≠ 0 by omega)
      clear h2
      go_enter Tryz.func97, Tryz.ntmps97
      go_wp2_with (first
        | (go_at_call 95; ((with_reducible refine (C1.out _).mono ?_); rintro e' w1 ⟨rfl, rfl⟩))
        | (go_at_call 95; ((with_reducible refine (C2.out _).mono ?_); rintro e' w1 ⟨rfl, rfl⟩)))
      go_ret
      exact ⟨by simp [H2.out], rfl⟩
  · have t1 : ((p1 : Int) != 0) = true := by simp; omega
    have H1 := hi (show p1 ≠ 0 by omega)
    clear h1
    go_enter Tryz.func97, Tryz.ntmps97
    go_wp2_with (go_at_call 95; ((with_reducible refine (C1.out _).mono ?_); rintro e' w1 ⟨rfl, rfl⟩))
    go_ret
    exact ⟨by simp [H1.out], rfl⟩
end Go.Proofs.YtggeakkofcaklaaGreat
