/-
  Package ladder: All and its iterator, for every loop body: the places where something runs, rising, or a first part of them where the body stops.
-/
import Derived.Test.YtnnlimjbmfpalaaLadC
import Derived.Test.YtnnlimjbmfpalaaWin
import Derived.Shelf.Abstract
import Derived.OwnWalkIn
import Derived.TacticsInMore
import Derived.LoopNIn
import Derived.LoopIn
import Derived.Maps.AppendAt
namespace Go.Proofs.Ytnnlimjbmfpalaa
open Go.ChangeShapes Go.WideShapes Go.ChangeAt Go.RowKit Go.Shelf
set_option linter.unusedVariables false
attribute [local go_sem] Oper.semAt_some

/-- The places below n where something runs. -/
def upto (f : Rg) : Nat → List Nat
  | 0 => []
  | n + 1 => if f n then upto f n ++ [n] else upto f n
def rungs (f : Rg) : List Nat := upto f 64
theorem upto_pos {f : Rg} {n : Nat} (h : f n = true) : upto f (n + 1) = upto f n ++ [n] := by rw [upto, if_pos h]
theorem upto_neg {f : Rg} {n : Nat} (h : f n = false) : upto f (n + 1) = upto f n := by rw [upto, if_neg (by simp [h])]
theorem upto_pre (f : Rg) : ∀ (n k : Nat), k ≤ n → upto f k <+: upto f n
  | 0, k, h => by obtain rfl : k = 0 := by omega
                  exact List.prefix_rfl
  | n + 1, k, h => by
    by_cases e : k = n + 1
    · rw [e]; exact List.prefix_rfl
    · have ih := upto_pre f n k (by omega)
      rw [upto]
      split
      · exact ih.trans (List.prefix_append _ _)
      · exact ih
theorem upto_len (f : Rg) : ∀ n : Nat, (upto f n).length ≤ n
  | 0 => by simp [upto]
  | n + 1 => by
    have := upto_len f n
    rw [upto]
    split
    · simp; omega
    · omega
theorem rungs_len (f : Rg) : (rungs f).length ≤ 64 := upto_len f 64
theorem mem_upto (f : Rg) (i : Nat) : ∀ n : Nat, i ∈ upto f n ↔ i < n ∧ f i = true
  | 0 => by simp [upto]
  | n + 1 => by
    have ih := mem_upto f i n
    rw [upto]
    split
    · rename_i h
      rw [List.mem_append, ih, List.mem_singleton]
      constructor
      · rintro (⟨a, b⟩ | rfl)
        · exact ⟨by omega, b⟩
        · exact ⟨by omega, h⟩
      · rintro ⟨a, b⟩
        by_cases e : i = n
        · exact .inr e
        · exact .inl ⟨by omega, b⟩
    · rename_i h
      rw [ih]
      constructor
      · rintro ⟨a, b⟩; exact ⟨by omega, b⟩
      · rintro ⟨a, b⟩
        refine ⟨?_, b⟩
        by_cases e : i = n
        · subst e; exact absurd b h
        · omega

/-- What a place is yielded as. -/
abbrev enc2 (i : Nat) : Array Value := #[.int .i64 (8 * ((i : Int) / 2)), .int .i64 ((i : Int) % 2)]
theorem plc_at (k j : Nat) (hk : k < 32) (hj : j < 2) : plc (j : Int) (8 * (k : Int)) = 2 * k + j := by
  have h1 : kO (8 * (k : Int)) = k := by unfold kO; omega
  have h2 : gO (j : Int) = j := by unfold gO; omega
  rw [plc, h1, h2]

/-- The blocks from lo on, below hi, lie as they lay. -/
structure Stays (lo hi : Nat) (W W' : World) : Prop where
  size : W.heap.size ≤ W'.heap.size
  same : ∀ k, lo ≤ k → k < hi → W'.heap[k]? = W.heap[k]?
theorem Stays.trans {lo hi : Nat} {A B C : World} (h : Stays lo hi A B) (k : Stays lo hi B C) : Stays lo hi A C := ⟨Nat.le_trans h.size k.size, fun i h1 h2 => (k.same i h1 h2).trans (h.same i h1 h2)⟩
theorem Stays.below {lo hi : Nat} {W W' : World} (h : Below W.heap.size W W') (hh : hi ≤ W.heap.size) : Stays lo hi W W' := ⟨h.size, fun i _ h2 => h.block i (by omega)⟩
theorem stays_put {lo hi : Nat} {W : World} {l : Nat} {o' : Obj} (hl : hi ≤ l) : Stays lo hi W (W.putObj l o') := ⟨by simp, fun k _ hk => World.putObj_heap_other (by omega)⟩
theorem stays_set {lo hi : Nat} {W : World} {b o : Nat} {v : Value} (hl : b < lo ∨ hi ≤ b) : Stays lo hi W (W.setCell ⟨b, o, none⟩ v) := ⟨by simp, fun k h1 h2 => Below.heap_setCell W ⟨b, o, none⟩ v k (by show k ≠ b; omega)⟩
theorem Stays.refl (lo hi : Nat) (W : World) : Stays lo hi W W := ⟨Nat.le_refl _, fun _ _ _ => rfl⟩
theorem CB.stays {W W' : World} {lo hi b : Nat} {t : TypeId} {cs : Array Value} (h : CB W b t cs) (k : Stays lo hi W W') (h1 : lo ≤ b) (h2 : b < hi) : CB W' b t cs := (k.same b h1 h2).trans h
theorem noFn : ∀ (f : FuncId), none = some f → Fence.wide.fn f := fun _ h => by cases h

theorem all_any (f : Rg) (w : World) : Calls Try.prog 44 #[lv f] w fun e w' => e = .returned (.func (.func 56) #[] #[.pointer (some ⟨w.heap.size, 0, none⟩)]) ∧ w' = w.alloc (.cells (lcs f) 27) := by
  unfold lv lcs
  obtain ⟨a, ha⟩ : ∃ a, wd f 0 = a := ⟨_, rfl⟩
  obtain ⟨b, hb⟩ : ∃ b, wd f 1 = b := ⟨_, rfl⟩
  rw [ha, hb]
  go_enter Try.func44, Try.ntmps44
  go_wp2
  go_ret
  exact ⟨rfl, rfl⟩

set_option maxRecDepth 100000 in
set_option maxHeartbeats 2000000 in
theorem all1_any (l c : Nat) (f : Rg) (J Jx : List Nat → World → Prop) (W : World) (hJ : AbW W.heap.size 0 J)
    (hY : ∀ (pre : List Nat) (x : Nat) (W1 : World), J pre W1 → pre ++ [x] <+: rungs f → W.heap.size + 0 ≤ W1.heap.size → ∀ m, YieldAt Fence.wide m Try.prog l (enc2 x) W1 fun e W' =>
      (e = .returned (.bool true) ∧ J (pre ++ [x]) W' ∧ Stays c (c + 1) W1 W') ∨ (e = .returned (.bool false) ∧ Jx (pre ++ [x]) W' ∧ Stays c (c + 1) W1 W'))
    (hb : CB W c 27 (lcs f)) (h0 : J [] W) :
    Calls Try.prog 56 #[.func (.yield l) #[] #[], .pointer (some ⟨c, 0, none⟩)] W fun e W' => (∃ v, e = .returned v) ∧
      ((∃ ys, ys = rungs f ∧ J ys W') ∨ (∃ pre, pre <+: rungs f ∧ Jx pre W')) := by
  have HYY := hi hY
  have HJ := hi hJ
  have HF := hi (fun (g p : Int) (V : World) => has_any f g p V)
  obtain ⟨a, ha⟩ : ∃ a, wd f 0 = a := ⟨_, rfl⟩
  obtain ⟨b, hb'⟩ : ∃ b, wd f 1 = b := ⟨_, rfl⟩
  unfold lv lcs at *
  rw [ha, hb'] at hb HF
  clear hY hJ ha hb'
  refine (callsIn_wide (n := 3)).1 ?_
  refine callsIn_of_wp Try.func56 rfl trivial ?_ rfl
  simp only [Try.ntmps56, List.size_toArray, List.length_cons, List.length_nil, Nat.reduceAdd, Nat.reduceSub, Array.replicate_succ, Array.replicate_zero, List.push_toArray, List.append_toArray, List.nil_append, List.cons_append]
  have H0 := hi (show Below W.heap.size W W ∧ CB W c 27 #[.int .u32 (a : Int), .int .u32 (b : Int)] ∧ J (upto f (2 * 0)) W from ⟨Below.refl _ _, hb, h0⟩)
  clear hb h0
  gi_wp2
  gi_loopw [5] (fun i wr => ∃ k : Nat, k ≤ 32 ∧ i = .int .i64 k ∧ Hi (W.heap.size ≤ wr.heap.size ∧ CB wr c 27 #[.int .u32 (a : Int), .int .u32 (b : Int)] ∧ J (upto f (2 * k)) wr))
    (fun i _ => 32 - (intOf i).toNat)
  case atStart => exact ⟨0, Nat.zero_le _, rfl, hi ⟨Nat.le_refl _, H0.out.2⟩⟩
  case round =>
    obtain ⟨k, hk, rfl, HP⟩ := hrel
    by_cases hlt : k < 32
    · obtain ⟨wo, rfl⟩ : ∃ wo : World, wo = wr := ⟨_, rfl⟩
      gi_wp2
      rw [show decide ((k : Int) < 32) = true by simp; omega]
      gi_loopw [8] (fun j wr => ∃ n : Nat, n ≤ 2 ∧ j = .int .i64 n ∧ Hi (W.heap.size ≤ wr.heap.size ∧ CB wr c 27 #[.int .u32 (a : Int), .int .u32 (b : Int)] ∧ J (upto f (2 * k + n)) wr))
        (fun j _ => 2 - (intOf j).toNat)
      case atStart => exact ⟨0, Nat.zero_le _, rfl, HP⟩
      case round =>
        obtain ⟨n, hn, rfl, HQ⟩ := hrel
        by_cases hln : n < 2
        · have hpl := plc_at k n hlt hln
          have HF1 := hi (fun V => HF.out n (8 * (k : Int)) V)
          rw [hpl] at HF1
          have c0 := HQ.out.2.1.cell 0
          have c1 := HQ.out.2.1.cell 1
          have hbd : 8 * (k : Int) ≤ 9223372036854775807 := by omega
          clear hpl
          cases hf : f (2 * k + n)
          · have HE := hi (upto_neg hf)
            rw [hf] at HF1
            clear hf
            gi_wp2_with (first
              | (refine ⟨trivial, ?_⟩; gi_at_call 57; ((with_reducible refine (callsIn_wide.2 (HF1.out _)).mono ?_); rintro e w1 ⟨rfl, hb1⟩))
              | gi_in)
            refine ⟨noFn, ?_⟩
            gi_wp2
            go_roundw
            case rel => exact ⟨n + 1, by omega, by go_num, hi ⟨Nat.le_trans HQ.out.1 hb1.size, HQ.out.2.1.below hb1, by rw [← Nat.add_assoc, HE.out]; exact HJ.out.grow HQ.out.2.2 (Below.grew hb1)⟩⟩
            case measure => simp only [intOf]; omega
          · have HE := hi (upto_pos hf)
            have HX := hi (show upto f (2 * k + n) ++ [2 * k + n] <+: rungs f by rw [← upto_pos hf]; exact upto_pre f 64 _ (by omega))
            have HI := hi (show enc2 (2 * k + n) = #[.int .i64 (8 * (k : Int)), .int .i64 (n : Int)] by unfold enc2; rw [show ((2 * k + n : Nat) : Int) / 2 = (k : Int) by omega, show ((2 * k + n : Nat) : Int) % 2 = (n : Int) by omega])
            rw [hf] at HF1
            clear hf
            gi_wp2_with (first
              | (refine ⟨trivial, ?_⟩; gi_at_call 57; ((with_reducible refine (callsIn_wide.2 (HF1.out _)).mono ?_); rintro e w1 ⟨rfl, hb1⟩; obtain ⟨fn, tmps, assign, body, hy, hRd⟩ := HYY.out _ _ w1 (HJ.out.grow HQ.out.2.2 (Below.grew hb1)) HX.out (Nat.le_trans HQ.out.1 hb1.size) (3 - 1); rw [HI.out] at hy))
              | gi_in)
            refine hRd.mono ?_
            rintro e W3 (⟨rfl, hJ3, hk3⟩ | ⟨rfl, hJx3, _⟩)
            · gi_wp2
              go_roundw
              case rel => exact ⟨n + 1, by omega, by go_num, hi ⟨Nat.le_trans HQ.out.1 (Nat.le_trans hb1.size hk3.size), (HQ.out.2.1.below hb1).stays hk3 (Nat.le_refl _) (by omega), by rw [← Nat.add_assoc, HE.out]; exact hJ3⟩⟩
              case measure => simp only [intOf]; omega
            · gi_wp2
              refine bodyPost_ret (results_none rfl _ _ _) rfl ?_
              exact ⟨⟨_, rfl⟩, .inr ⟨_, HX.out, hJx3⟩⟩
        · obtain rfl : n = 2 := by omega
          gi_wp2
          go_roundw
          case rel => exact ⟨k + 1, by omega, by go_num, hi ⟨HQ.out.1, HQ.out.2.1, HQ.out.2.2⟩⟩
          case measure => simp only [intOf]; omega
    · obtain rfl : k = 32 := by omega
      gi_wp2
      go_end0
      exact ⟨⟨_, rfl⟩, .inl ⟨_, rfl, HP.out.2.2⟩⟩

theorem all_stops (c : Nat) (f : Rg) (w : World) (hb : CB w c 27 (lcs f)) :
    SeqW 0 Try.prog 56 #[.pointer (some ⟨c, 0, none⟩)] enc2 (fun _ => Stays c (c + 1)) (fun ys => ys = rungs f) (fun pre => pre <+: rungs f) (fun pre x => pre ++ [x] <+: rungs f) w := fun l J Jx W hW hJ hJx hY h0 =>
  all1_any l c f J Jx W hJ hY (hb.below hW) h0

end Go.Proofs.Ytnnlimjbmfpalaa
