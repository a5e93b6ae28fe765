/-
  Package cmd: all's iterator, for every loop body: the fields of a kind, in order, or a first part of them where the body stops.
-/
import Derived.Test.YtfnokpajendlmaaMjD
import Derived.Test.YtfnokpajendlmaaWin
import Derived.Shelf.Abstract
import Derived.OwnWalkIn
import Derived.TacticsInMore
import Derived.LoopNIn
import Derived.LoopIn
import Derived.Maps.AppendAt
import Derived.Laws.BitsAllLaws
namespace Go.Proofs.Ytfnokpajendlmaa
open Go.ChangeShapes Go.WideShapes Go.ChangeAt Go.RowKit Go.Shelf
set_option linter.unusedVariables false
set_option linter.unusedSimpArgs false
attribute [local go_sem] Oper.semAt_some

abbrev enc1 (i : Nat) : Array Value := #[.int .i64 i]
/-- The blocks from lo on, below hi, lie as they lay. -/
structure Stays (lo hi : Nat) (W W' : World) : Prop where
  size : W.heap.size ≤ W'.heap.size
  same : ∀ k, lo ≤ k → k < hi → W'.heap[k]? = W.heap[k]?
theorem Stays.trans {lo hi : Nat} {A B C : World} (h : Stays lo hi A B) (k : Stays lo hi B C) : Stays lo hi A C := ⟨Nat.le_trans h.size k.size, fun i h1 h2 => (k.same i h1 h2).trans (h.same i h1 h2)⟩
theorem Stays.below {lo hi : Nat} {W W' : World} (h : Below W.heap.size W W') (hh : hi ≤ W.heap.size) : Stays lo hi W W' := ⟨h.size, fun i _ h2 => h.block i (by omega)⟩
theorem stays_put {lo hi : Nat} {W : World} {l : Nat} {o' : Obj} (hl : hi ≤ l) : Stays lo hi W (W.putObj l o') := ⟨by simp, fun k _ hk => World.putObj_heap_other (by omega)⟩
theorem stays_set {lo hi : Nat} {W : World} {b o : Nat} {v : Value} (hl : b < lo ∨ hi ≤ b) : Stays lo hi W (W.setCell ⟨b, o, none⟩ v) := ⟨by simp, fun k h1 h2 => Below.heap_setCell W ⟨b, o, none⟩ v k (by show k ≠ b; omega)⟩
theorem Stays.refl (lo hi : Nat) (W : World) : Stays lo hi W W := ⟨Nat.le_refl _, fun _ _ _ => rfl⟩
theorem CB.stays {W W' : World} {lo hi b : Nat} {t : TypeId} {cs : Array Value} (h : CB W b t cs) (k : Stays lo hi W W') (h1 : lo ≤ b) (h2 : b < hi) : CB W' b t cs := (k.same b h1 h2).trans h
theorem noFn : ∀ (f : FuncId), none = some f → Fence.wide.fn f := fun _ h => by cases h

/-! ### The fields below a number -/
def upto (f : Nat → Bool) : Nat → List Nat
  | 0 => []
  | n + 1 => if f n then upto f n ++ [n] else upto f n
theorem upto_pos {f : Nat → Bool} {n : Nat} (h : f n = true) : upto f (n + 1) = upto f n ++ [n] := by rw [upto, if_pos h]
theorem upto_neg {f : Nat → Bool} {n : Nat} (h : f n = false) : upto f (n + 1) = upto f n := by rw [upto, if_neg (by simp [h])]
theorem upto_pre (f : Nat → Bool) : ∀ (n k : Nat), k ≤ n → upto f k <+: upto f n
  | 0, k, h => by
    obtain rfl : k = 0 := by omega
    exact List.prefix_rfl
  | n + 1, k, h => by
    by_cases e : k = n + 1
    · rw [e]; exact List.prefix_rfl
    · have ih := upto_pre f n k (by omega)
      rw [upto]
      split
      · exact ih.trans (List.prefix_append _ _)
      · exact ih
def hasB (op : Int) (f : Nat) : Bool := decide (f ∈ fieldsL op)
theorem upto_has (op : Int) : upto (hasB op) 9 = fieldsL op := by
  cases hk : known op
  · have h : hasB op = fun _ => false := by funext f; simp [hasB, fieldsL_no hk]
    rw [h, fieldsL_no hk]; rfl
  · rcases known_cases hk with rfl | rfl | rfl | rfl | rfl | rfl | rfl | rfl | rfl | rfl | rfl | rfl <;> decide +kernel
theorem has_bit (op : Int) (f : Nat) (hf : f < 9) : (bits .and .i64 (hasN op / 2 ^ f) 1 == 1) = hasB op f := by
  have h9 : f = 0 ∨ f = 1 ∨ f = 2 ∨ f = 3 ∨ f = 4 ∨ f = 5 ∨ f = 6 ∨ f = 7 ∨ f = 8 := by omega
  cases hk : known op
  · have h : hasB op f = false := by simp [hasB, fieldsL_no hk]
    rw [h, hasN_no hk]
    rcases h9 with rfl | rfl | rfl | rfl | rfl | rfl | rfl | rfl | rfl <;> decide +kernel
  · rcases known_cases hk with rfl | rfl | rfl | rfl | rfl | rfl | rfl | rfl | rfl | rfl | rfl | rfl <;>
      rcases h9 with rfl | rfl | rfl | rfl | rfl | rfl | rfl | rfl | rfl <;> decide +kernel

abbrev kdBox (op : Int) : Array Value := Kd.cs (kop op) (nmB op) (hasN op)
theorem all_any (o : Int) (nm : ByteArray) (hs : Int) (w : World) : Calls Try.prog 70 #[Kd.v o nm hs] w fun e w' =>
    e = .returned (.func (.func 80) #[] #[.pointer (some ⟨w.heap.size, 0, none⟩)]) ∧ w' = w.alloc (.cells (Kd.cs o nm hs) 119) := by
  go_enter Try.func70, Try.ntmps70
  go_wp2
  go_ret
  exact ⟨rfl, rfl⟩

set_option maxRecDepth 100000 in
set_option maxHeartbeats 2000000 in
theorem all1_any (l b : Nat) (op : Int) (J Jx : List Nat → World → Prop) (W : World) (hJ : AbW W.heap.size 0 J)
    (hY : ∀ (pre : List Nat) (x : Nat) (W1 : World), J pre W1 → pre ++ [x] <+: fieldsL op → W.heap.size + 0 ≤ W1.heap.size → ∀ m, YieldAt Fence.wide m Try.prog l (enc1 x) W1 fun e W' =>
      (e = .returned (.bool true) ∧ J (pre ++ [x]) W' ∧ Stays b (b + 1) W1 W') ∨ (e = .returned (.bool false) ∧ Jx (pre ++ [x]) W' ∧ Stays b (b + 1) W1 W'))
    (hb : CB W b 119 (kdBox op)) (h0 : J [] W) :
    Calls Try.prog 80 #[.func (.yield l) #[] #[], .pointer (some ⟨b, 0, none⟩)] W fun e W' => (∃ v, e = .returned v) ∧
      ((∃ ys, ys = fieldsL op ∧ J ys W') ∨ (∃ pre, pre <+: fieldsL op ∧ Jx pre W')) := by
  have HYY := hi hY
  have HJ := hi hJ
  have hbl := hb.lt
  have H0 := hi (show CB W b 119 (kdBox op) ∧ J (upto (hasB op) 0) W from ⟨hb, h0⟩)
  rw [← upto_has op] at HYY ⊢
  have HBIT := hi (fun f hf => has_bit op f hf)
  obtain ⟨hs, hhs⟩ : ∃ hs, hasN op = hs := ⟨_, rfl⟩
  obtain ⟨nm, hnm⟩ : ∃ nm, nmB op = nm := ⟨_, rfl⟩
  obtain ⟨o, ho⟩ : ∃ o, kop op = o := ⟨_, rfl⟩
  obtain ⟨f, hf⟩ : ∃ f, hasB op = f := ⟨_, rfl⟩
  unfold kdBox at H0
  rw [hf] at HYY HBIT H0 ⊢
  rw [hhs, hnm, ho] at H0
  rw [hhs] at HBIT
  clear hY hJ hb h0 hf hhs hnm ho
  refine (callsIn_wide (n := 3)).1 ?_
  refine callsIn_of_wp Try.func80 rfl trivial ?_ rfl
  simp only [Try.ntmps80, List.size_toArray, List.length_cons, List.length_nil, Nat.reduceAdd, Nat.reduceSub, Array.replicate_succ, Array.replicate_zero, List.push_toArray, List.append_toArray, List.nil_append, List.cons_append]
  gi_wp2
  gi_loopw [4] (fun i wr => ∃ k : Nat, k ≤ 9 ∧ i = .int .i64 k ∧ Hi (W.heap.size ≤ wr.heap.size ∧ CB wr b 119 #[.int .i64 o, .string nm, .int .i64 hs] ∧ J (upto f k) wr))
      (fun i _ => 9 - (intOf i).toNat)
  case atStart => exact ⟨0, Nat.zero_le _, rfl, hi ⟨Nat.le_refl _, H0.out⟩⟩
  case round =>
    obtain ⟨k, hk, rfl, HP⟩ := hrel
    by_cases hlt : k < 9
    · have x1 : (k : Int) < 9 := by omega
      have hbit := HBIT.out k hlt
      have c2 := HP.out.2.1.cell 2
      cases hfk : f k
      · have HE := hi (upto_neg hfk)
        rw [hfk] at hbit
        clear hfk
        gi_wp2
        refine ⟨noFn, ?_⟩
        gi_wp2
        go_roundw
        case rel => exact ⟨k + 1, by omega, by go_num, hi ⟨HP.out.1, HP.out.2.1, by rw [HE.out]; exact HP.out.2.2⟩⟩
        case measure => simp only [intOf]; omega
      · have HE := hi (upto_pos hfk)
        have HX := hi (show upto f k ++ [k] <+: upto f 9 by rw [← upto_pos hfk]; exact upto_pre f _ _ (by omega))
        rw [hfk] at hbit
        clear hfk
        obtain ⟨fn, tmps, assign, body, hy, hRd⟩ := HYY.out _ _ wr HP.out.2.2 HX.out HP.out.1 (3 - 1)
        gi_wp2
        refine hRd.mono ?_
        rintro e W3 (⟨rfl, hJ3, hk3⟩ | ⟨rfl, hJx3, _⟩)
        · gi_wp2
          go_roundw
          case rel => exact ⟨k + 1, by omega, by go_num, hi ⟨Nat.le_trans HP.out.1 hk3.size, HP.out.2.1.stays hk3 (Nat.le_refl _) (by omega), by rw [HE.out]; exact hJ3⟩⟩
          case measure => simp only [intOf]; omega
        · gi_wp2
          refine bodyPost_ret (results_none rfl _ _ _) rfl ?_
          exact ⟨⟨_, rfl⟩, .inr ⟨_, HX.out, hJx3⟩⟩
    · have hy : k = 9 := by omega
      have HY := hi hy
      have x1 : ¬ (k : Int) < 9 := by omega
      clear hy hlt hk
      gi_wp2
      go_end0
      exact ⟨⟨_, rfl⟩, .inl (by rw [← HY.out]; exact HP.out.2.2)⟩

theorem all_stops (b : Nat) (op : Int) (w : World) (hb : CB w b 119 (kdBox op)) :
    SeqW 0 Try.prog 80 #[.pointer (some ⟨b, 0, none⟩)] enc1 (fun _ => Stays b (b + 1)) (fun ys => ys = fieldsL op) (fun pre => pre <+: fieldsL op) (fun pre x => pre ++ [x] <+: fieldsL op) w := fun l J Jx W hW hJ hJx hY h0 =>
  all1_any l b op J Jx W hJ hY (hb.below hW) h0

end Go.Proofs.Ytfnokpajendlmaa
