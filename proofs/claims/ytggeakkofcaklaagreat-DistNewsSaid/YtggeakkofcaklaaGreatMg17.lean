import Derived.Test.YtggeakkofcaklaaGreatMg07
import Derived.Test.YtggeakkofcaklaaGreatMg01
import Derived.Laws.BitsAllLaws
import Derived.Test.YtggeakkofcaklaaGreatMg05
import Derived.Shelf.Abstract
import Derived.OwnWalkIn
import Derived.TacticsInMore
import Derived.LoopNIn
import Derived.LoopIn
import Derived.Maps.AppendAt
import Derived.Test.YtggeakkofcaklaaGreatRows
import Derived.WalkKit
import Derived.ProofKit
import Derived.Lib.Hide
import Derived.BigQuiet
import Derived.Deep.QuietTactic
import Derived.Laws.AppendOwn
namespace Go.Proofs.YtggeakkofcaklaaGreat
open Go.ChangeShapes Go.WideShapes Go.ChangeAt Go.RowKit
set_option linter.unusedVariables false
theorem before_any (p a q b : Int) (w : World) : Calls Tryz.prog 136 #[.int .i64 p, .int .i64 a, .int .i64 q, .int .i64 b] w fun e w' => e = .returned (.bool (beforeB p a q b)) ∧ w = w' := by
  go_enter Tryz.func136, Tryz.ntmps136
  go_wp2
  all_goals
    go_ret
    refine ⟨ret_bool ?_, rfl⟩
    unfold beforeB
    simp [*]
theorem refBefore_any (p a q b : Int) (w : World) : Calls Tryz.prog 98 #[.int .i64 p, .int .i64 a, .int .i64 q, .int .i64 b] w fun e w' => e = .returned (.bool (beforeB p a q b)) ∧ w = w' := by
  by_cases h : p = q
  · have hb : beforeB p a q b = decide (a < b) := by simp [beforeB, h]
    have hq : (p != q) = false := by simp [h]
    rw [hb]
    clear hb h
    go_enter Tryz.func98, Tryz.ntmps98
    go_wp2
    go_ret
    exact ⟨rfl, rfl⟩
  · have hb : beforeB p a q b = decide (p < q) := by simp [beforeB, h]
    have hq : (p != q) = true := by simp [h]
    rw [hb]
    clear hb h
    go_enter Tryz.func98, Tryz.ntmps98
    go_wp2
    go_ret
    exact ⟨rfl, rfl⟩
theorem results_cand {fn : Func} {c : Tmp} (h : fn.results = #[.cell c 55]) (tmps : Array Value) (w : World) (b : Nat) (x : Cd) (hp : tmps.getD c undef = .pointer (some ⟨b, 0, none⟩)) (hb : CB w b 55 x.cs) :
    (results fn tmps).run Tryz.prog w = .ok x.v w := by
  have hp' : tmps[c]?.getD undef = .pointer (some ⟨b, 0, none⟩) := by simpa using hp
  have c0 := hb.cell 0
  have c1 := hb.cell 1
  have c2 := hb.cell 2
  have c3 := hb.cell 3
  simp [Cd.cs] at c0 c1 c2 c3
  simp [results, h, go_sem, hp', c0, c1, c2, c3]
set_option maxHeartbeats 1000000 in
theorem cand_any (id : Int) (x : Ln) (w : World) : Calls Tryz.prog 109 #[.int .i64 id, x.v] w fun e w' => e = .returned (candV id x).v ∧ Below w.heap.size w w' := by
  obtain ⟨⟨e, l, h, a⟩, en, g, p⟩ := x
  dsimp only [Ln.v]
  go_enter Tryz.func109, Tryz.ntmps109
  go_wp2
  exact bodyPost_ret (results_cand rfl _ _ (w.heap.size + 1) ⟨_, _, _, _⟩ rfl cb_second) rfl ⟨rfl, bal_two _ _ _⟩
theorem bef_any (x y : Cd) (w : World) : Calls Tryz.prog 110 #[x.v, y.v] w fun e w' => e = .returned (.bool (befC x y)) ∧ w' = (w.alloc (.cells x.cs 55)).alloc (.cells y.cs 55) := by
  obtain ⟨i, p, g, b⟩ := x
  obtain ⟨i2, p2, g2, b2⟩ := y
  have HC := hi (fun W => before_any p i p2 i2 W)
  have HR := hi (show beforeB p i p2 i2 = befC ⟨i, p, g, b⟩ ⟨i2, p2, g2, b2⟩ from rfl)
  obtain ⟨r, hr⟩ : ∃ r, beforeB p i p2 i2 = r := ⟨_, rfl⟩
  rw [hr] at HC HR
  rw [← HR.out]
  clear hr HR
  dsimp only [Cd.v, Cd.cs]
  go_enter Tryz.func110, Tryz.ntmps110
  go_wp2_with (go_at_call 136; ((with_reducible refine (HC.out _).mono ?_); rintro e w1 ⟨rfl, rfl⟩))
  go_ret
  exact ⟨rfl, rfl⟩
end Go.Proofs.YtggeakkofcaklaaGreat
namespace Go.Proofs.YtggeakkofcaklaaGreat
set_option linter.unusedVariables false
theorem i64_and1 (p : Int) : bits .and .i64 p 1 = p % 2 := by
  rw [show (1 : Int) = ((1 : Nat) : Int) from rfl, and_low p 1 (by decide), Nat.and_one_is_mod]
  unfold low8
  omega
structure Cl where
  id : Int
  all : Bool
  tg : Int
  odd : Bool
deriving DecidableEq
abbrev Cl.v (c : Cl) : Value := .agg #[.int .i64 c.id, .bool c.all, .int .i64 c.tg, .bool c.odd]
abbrev Cl.cs (c : Cl) : Array Value := #[.int .i64 c.id, .bool c.all, .int .i64 c.tg, .bool c.odd]
def Cl.zero : Cl := ⟨0, false, 0, false⟩
def callV (c : Cl) (fr : Int) (k : Nat) : Bool := if c.all then decide ((k : Int) ≠ fr) else (!c.odd && bt c.tg k)
def capN (cores : Int) : Nat := (min cores 8).toNat
theorem capN_le (cores : Int) : capN cores ≤ 8 := by unfold capN; omega
def upto (f : Nat → Bool) : Nat → List Nat
  | 0 => []
  | n + 1 => if f n then upto f n ++ [n] else upto f n
theorem upto_pos {f : Nat → Bool} {n : Nat} (h : f n = true) : upto f (n + 1) = upto f n ++ [n] := by rw [upto, if_pos h]
theorem upto_neg {f : Nat → Bool} {n : Nat} (h : f n = false) : upto f (n + 1) = upto f n := by rw [upto, if_neg (by simp [h])]
theorem upto_pre (f : Nat → Bool) : ∀ (n k : Nat), k ≤ n → upto f k <+: upto f n
  | 0, k, h => by obtain rfl : k = 0 := by omega
                  exact List.prefix_rfl
  | n + 1, k, h => by
    by_cases e : k = n + 1
    · rw [e]; exact List.prefix_rfl
    · have ih := upto_pre f n k (by omega)
      rw [upto]
      split
      · exact ih.trans (List.prefix_append _ _)
      · exact ih
theorem upto_len (f : Nat → Bool) : ∀ n : Nat, (upto f n).length ≤ n
  | 0 => by simp [upto]
  | n + 1 => by
    have := upto_len f n
    rw [upto]
    split
    · simp; omega
    · omega
theorem mem_upto (f : Nat → Bool) (i : Nat) : ∀ n : Nat, i ∈ upto f n ↔ i < n ∧ f i = true
  | 0 => by simp [upto]
  | n + 1 => by
    have ih := mem_upto f i n
    rw [upto]
    split
    · rename_i h
      rw [List.mem_append, ih, List.mem_singleton]
      constructor
      · rintro (⟨a, b⟩ | rfl)
        · exact ⟨by omega, b⟩
        · exact ⟨by omega, h⟩
      · rintro ⟨a, b⟩
        by_cases e : i = n
        · exact .inr e
        · exact .inl ⟨by omega, b⟩
    · rename_i h
      rw [ih]
      constructor
      · rintro ⟨a, b⟩; exact ⟨by omega, b⟩
      · rintro ⟨a, b⟩
        refine ⟨?_, b⟩
        by_cases e : i = n
        · subst e; exact absurd b h
        · omega
def toL (c : Cl) (fr cores : Int) : List Nat := upto (callV c fr) (capN cores)
theorem toL_len (c : Cl) (fr cores : Int) : (toL c fr cores).length ≤ 8 := Nat.le_trans (upto_len _ _) (capN_le _)
def nums (xs : List Nat) : List Int := xs.map fun (i : Nat) => (i : Int)
theorem nums_append (a b : List Nat) : nums (a ++ b) = nums a ++ nums b := by simp [nums]
theorem nums_one (i : Nat) : nums [i] = [(i : Int)] := rfl
theorem nums_len (a : List Nat) : (nums a).length = a.length := by simp [nums]
def decV (v : Nat) : Cl := ⟨((v / 2 ^ 24 % 16 : Nat) : Int), decide (v / 2 ^ 40 % 2 = 1), ((v % 65536 : Nat) : Int), decide (v &&& 72041097085255680 ≠ 0)⟩
end Go.Proofs.YtggeakkofcaklaaGreat
namespace Go.Proofs.YtggeakkofcaklaaGreat
open Go.ChangeShapes Go.WideShapes Go.ChangeAt Go.RowKit
set_option linter.unusedVariables false
theorem results_cl {fn : Func} {c : Tmp} (h : fn.results = #[.cell c 121]) (tmps : Array Value) (w : World) (b : Nat) (x : Cl) (hp : tmps.getD c undef = .pointer (some ⟨b, 0, none⟩)) (hb : CB w b 121 x.cs) :
    (results fn tmps).run Tryz.prog w = .ok x.v w := by
  have hp' : tmps[c]?.getD undef = .pointer (some ⟨b, 0, none⟩) := by simpa using hp
  have c0 := hb.cell 0
  have c1 := hb.cell 1
  have c2 := hb.cell 2
  have c3 := hb.cell 3
  simp at c0 c1 c2 c3
  simp [results, h, go_sem, hp', c0, c1, c2, c3]
theorem bit_eq (p : Int) (k : Nat) (hk : k < 64) : (bits .and .i64 (p / 2 ^ k) 1 == 1) = bt p k := by
  rw [i64_and1, bt]
  by_cases h : p / 2 ^ k % 2 = 1
  · simp [h]
  · simp [h]
set_option maxHeartbeats 1000000 in
theorem reaches_any (c : Cl) (fr : Int) (k : Nat) (hk : k < 8) (w : World) : Calls Tryz.prog 112 #[c.v, .int .i64 k, .int .i64 fr] w fun e w' => e = .returned (.bool (callV c fr k)) ∧ Below w.heap.size w w' := by
  obtain ⟨id, all, tg, odd⟩ := c
  have hb := bit_eq tg k (by omega)
  have hk2 : k < 64 := by omega
  have HB := hi hb
  clear hb
  cases all
  · cases odd
    · go_enter Tryz.func112, Tryz.ntmps112
      go_wp2
      go_ret
      exact ⟨by rw [HB.out]; rfl, bal w _⟩
    · go_enter Tryz.func112, Tryz.ntmps112
      go_wp2
      go_ret
      exact ⟨rfl, bal w _⟩
  · go_enter Tryz.func112, Tryz.ntmps112
    go_wp2
    go_ret
    refine ⟨?_, bal w _⟩
    by_cases h : (k : Int) = fr <;> simp [callV, h]
structure ToAt (b : Nat) (c : Cl) (fr cores : Int) (W : World) : Prop where
  c : CB W b 121 c.cs
  f : CB W (b + 1) 3 #[.int .i64 fr]
  n : CB W (b + 2) 3 #[.int .i64 cores]
def toW (c : Cl) (fr cores : Int) (w : World) : World := ((w.alloc (.cells c.cs 121)).alloc (.cells #[.int .i64 fr] 3)).alloc (.cells #[.int .i64 cores] 3)
theorem toW_at (c : Cl) (fr cores : Int) (w : World) : ToAt w.heap.size c fr cores (toW c fr cores w) ∧ Below w.heap.size w (toW c fr cores w) ∧ (toW c fr cores w).heap.size = w.heap.size + 3 := by
  refine ⟨⟨((CB.new w _ _).alloc _).alloc _, cb_second.alloc _, ?_⟩, (bal_two w _ _).alloc (by simp; omega) _, by simp [toW]⟩
  have := CB.new ((w.alloc (.cells c.cs 121)).alloc (.cells #[.int .i64 fr] 3)) 3 #[.int .i64 cores]
  rwa [World.size_alloc, World.size_alloc] at this
theorem to_any (c : Cl) (fr cores : Int) (w : World) : Calls Tryz.prog 73 #[c.v, .int .i64 fr, .int .i64 cores] w fun e w' =>
    e = .returned (.func (.func 111) #[] #[.pointer (some ⟨w.heap.size + 2, 0, none⟩), .pointer (some ⟨w.heap.size, 0, none⟩), .pointer (some ⟨w.heap.size + 1, 0, none⟩)]) ∧ w' = toW c fr cores w := by
  obtain ⟨id, all, tg, odd⟩ := c
  unfold toW
  go_enter Tryz.func73, Tryz.ntmps73
  go_wp2
  go_ret
  exact ⟨rfl, rfl⟩
theorem dec_parts (v : Nat) (hv : v < 18446744073709551616) :
    bits .and .u64 ((v : Int) / 16777216) 15 = ((v / 2 ^ 24 % 16 : Nat) : Int) ∧ (bits .and .u64 ((v : Int) / 1099511627776) 1 == 1) = decide (v / 2 ^ 40 % 2 = 1) ∧
    bits .and .u64 (v : Int) 65535 = ((v % 65536 : Nat) : Int) ∧ (bits .and .u64 (v : Int) 72041097085255680 != 0) = decide (v &&& 72041097085255680 ≠ 0) := by
  refine ⟨?_, ?_, ?_, ?_⟩
  · rw [show (v : Int) / 16777216 = ((v / 2 ^ 24 : Nat) : Int) by omega, show (15 : Int) = ((15 : Nat) : Int) from rfl, u64_and_nat _ _ (by omega) (by decide), nat_mask4]
  · rw [show (v : Int) / 1099511627776 = ((v / 2 ^ 40 : Nat) : Int) by omega, show (1 : Int) = ((1 : Nat) : Int) from rfl, u64_and_nat _ _ (by omega) (by decide), nat_mask1]
    by_cases h : v / 2 ^ 40 % 2 = 1
    · rw [h]; rfl
    · rw [show v / 2 ^ 40 % 2 = 0 by omega]; rfl
  · rw [show (65535 : Int) = ((65535 : Nat) : Int) from rfl, u64_and_nat _ _ hv (by decide), nat_mask16]
  · rw [show (72041097085255680 : Int) = ((72041097085255680 : Nat) : Int) from rfl, u64_and_nat _ _ hv (by decide)]
    by_cases h : v &&& 72041097085255680 = 0
    · rw [h]; rfl
    · have h2 : ((v &&& 72041097085255680 : Nat) : Int) ≠ 0 := by omega
      simp [h]
set_option maxHeartbeats 1000000 in
theorem decode_any (v : Nat) (hv : v < 18446744073709551616) (w : World) : Calls Tryz.prog 72 #[.int .u64 v] w fun e w' => e = .returned (decV v).v ∧ Below w.heap.size w w' := by
  obtain ⟨h1, h2, h3, h4⟩ := dec_parts v hv
  have hd : decV v = ⟨bits .and .u64 ((v : Int) / 16777216) 15, (bits .and .u64 ((v : Int) / 1099511627776) 1 == 1), bits .and .u64 (v : Int) 65535, (bits .and .u64 (v : Int) 72041097085255680 != 0)⟩ := by
    rw [h1, h2, h3, h4]; rfl
  have b1 : 0 ≤ bits .and .u64 ((v : Int) / 16777216) 15 ∧ bits .and .u64 ((v : Int) / 16777216) 15 < 16 := by rw [h1]; omega
  have b3 : 0 ≤ bits .and .u64 (v : Int) 65535 ∧ bits .and .u64 (v : Int) 65535 < 65536 := by rw [h3]; omega
  obtain ⟨x1, x2⟩ := b1
  obtain ⟨x3, x4⟩ := b3
  rw [hd]
  clear hd h1 h2 h3 h4
  go_enter Tryz.func72, Tryz.ntmps72
  go_wp2
  generalize bits .and .u64 ((v : Int) / 16777216) 15 = p
  generalize (bits .and .u64 ((v : Int) / 1099511627776) 1 == 1) = q
  generalize (bits .and .u64 (v : Int) 72041097085255680 != 0) = o
  generalize bits .and .u64 (v : Int) 65535 = t
  clear x1 x2 x3 x4
  exact bodyPost_ret (results_cl rfl _ _ w.heap.size ⟨p, q, t, o⟩ rfl (CB.new w _ _)) rfl ⟨rfl, bal w _⟩
end Go.Proofs.YtggeakkofcaklaaGreat
namespace Go.Proofs.YtggeakkofcaklaaGreat
open Go.ChangeShapes Go.WideShapes Go.ChangeAt Go.RowKit Go.Shelf
set_option linter.unusedVariables false
attribute [local go_sem] Oper.semAt_some
abbrev encS (i : Nat) : Array Value := #[.int .i64 i]
structure Stays (lo hi : Nat) (W W' : World) : Prop where
  size : W.heap.size ≤ W'.heap.size
  same : ∀ k, lo ≤ k → k < hi → W'.heap[k]? = W.heap[k]?
theorem Stays.trans {lo hi : Nat} {A B C : World} (h : Stays lo hi A B) (k : Stays lo hi B C) : Stays lo hi A C := ⟨Nat.le_trans h.size k.size, fun i h1 h2 => (k.same i h1 h2).trans (h.same i h1 h2)⟩
theorem Stays.below {lo hi : Nat} {W W' : World} (h : Below W.heap.size W W') (hh : hi ≤ W.heap.size) : Stays lo hi W W' := ⟨h.size, fun i _ h2 => h.block i (by omega)⟩
theorem stays_put {lo hi : Nat} {W : World} {l : Nat} {o' : Obj} (hl : hi ≤ l) : Stays lo hi W (W.putObj l o') := ⟨by simp, fun k _ hk => World.putObj_heap_other (by omega)⟩
theorem stays_set {lo hi : Nat} {W : World} {b o : Nat} {v : Value} (hl : b < lo ∨ hi ≤ b) : Stays lo hi W (W.setCell ⟨b, o, none⟩ v) := ⟨by simp, fun k h1 h2 => Below.heap_setCell W ⟨b, o, none⟩ v k (by show k ≠ b; omega)⟩
theorem Stays.refl (lo hi : Nat) (W : World) : Stays lo hi W W := ⟨Nat.le_refl _, fun _ _ _ => rfl⟩
theorem CB.stays {W W' : World} {lo hi b : Nat} {t : TypeId} {cs : Array Value} (h : CB W b t cs) (k : Stays lo hi W W') (h1 : lo ≤ b) (h2 : b < hi) : CB W' b t cs := (k.same b h1 h2).trans h
theorem ToAt.stays {b : Nat} {c : Cl} {fr cores : Int} {W W' : World} (h : ToAt b c fr cores W) (k : Stays b (b + 3) W W') : ToAt b c fr cores W' := ⟨h.c.stays k (by omega) (by omega), h.f.stays k (by omega) (by omega), h.n.stays k (by omega) (by omega)⟩
theorem ToAt.below {b : Nat} {c : Cl} {fr cores : Int} {W W' : World} (h : ToAt b c fr cores W) (k : Below W.heap.size W W') : ToAt b c fr cores W' := ⟨h.c.below k, h.f.below k, h.n.below k⟩
set_option maxRecDepth 100000 in
set_option maxHeartbeats 2000000 in
theorem to1_any (l b : Nat) (c : Cl) (fr cores : Int) (J Jx : List Nat → World → Prop) (W : World) (hJ : AbW W.heap.size 0 J)
    (hY : ∀ (pre : List Nat) (x : Nat) (W1 : World), J pre W1 → pre ++ [x] <+: toL c fr cores → W.heap.size + 0 ≤ W1.heap.size → ∀ m, YieldAt Fence.wide m Tryz.prog l (encS x) W1 fun e W' =>
      (e = .returned (.bool true) ∧ J (pre ++ [x]) W' ∧ Stays b (b + 3) W1 W') ∨ (e = .returned (.bool false) ∧ Jx (pre ++ [x]) W' ∧ Stays b (b + 3) W1 W'))
    (hb : ToAt b c fr cores W) (h0 : J [] W) :
    Calls Tryz.prog 111 #[.func (.yield l) #[] #[], .pointer (some ⟨b + 2, 0, none⟩), .pointer (some ⟨b, 0, none⟩), .pointer (some ⟨b + 1, 0, none⟩)] W fun e W' => (∃ v, e = .returned v) ∧
      ((∃ ys, ys = toL c fr cores ∧ J ys W') ∨ (∃ pre, pre <+: toL c fr cores ∧ Jx pre W')) := by
  have HYY := hi hY
  have HJ := hi hJ
  have HF := hi (fun (k : Nat) (hk : k < 8) (V : World) => reaches_any c fr k hk V)
  have n0 := hb.n.cell 0
  have hb3 : b + 3 ≤ W.heap.size := hb.n.lt
  have hcap : capN cores = (min cores 8).toNat := rfl
  have hc8 := capN_le cores
  obtain ⟨f, hf⟩ : ∃ f, callV c fr = f := ⟨_, rfl⟩
  obtain ⟨id, all, tg, odd⟩ := c
  have H0 := hi (show Below W.heap.size W W ∧ ToAt b ⟨id, all, tg, odd⟩ fr cores W ∧ J (upto f 0) W from ⟨Below.refl _ _, hb, h0⟩)
  unfold toL at HYY ⊢
  rw [hf] at HYY HF ⊢
  clear hY hJ hb h0 hf
  refine (callsIn_wide (n := 3)).1 ?_
  refine callsIn_of_wp Tryz.func111 rfl trivial ?_ rfl
  simp only [Tryz.ntmps111, List.size_toArray, List.length_cons, List.length_nil, Nat.reduceAdd, Nat.reduceSub, Array.replicate_succ, Array.replicate_zero, List.push_toArray, List.append_toArray, List.nil_append, List.cons_append]
  gi_wp2
  all_goals
    gi_loopw [8] (fun i wr => ∃ k : Nat, k ≤ capN cores ∧ i = .int .i64 k ∧ Hi (W.heap.size ≤ wr.heap.size ∧ ToAt b ⟨id, all, tg, odd⟩ fr cores wr ∧ J (upto f k) wr))
      (fun i _ => 8 - (intOf i).toNat)
    case atStart => exact ⟨0, Nat.zero_le _, rfl, hi ⟨Nat.le_refl _, H0.out.2⟩⟩
    case round =>
      obtain ⟨k, hk, rfl, HP⟩ := hrel
      by_cases hlt : k < capN cores
      · have x1 : (k : Int) < 8 := by omega
        have x2 : (k : Int) < cores := by omega
        have HF1 := hi (HF.out k (by omega))
        have c0 := HP.out.2.1.c.cell 0
        have c1 := HP.out.2.1.c.cell 1
        have c2 := HP.out.2.1.c.cell 2
        have c3 := HP.out.2.1.c.cell 3
        have f0 := HP.out.2.1.f.cell 0
        cases hfk : f k
        · have HE := hi (upto_neg hfk)
          rw [hfk] at HF1
          clear hfk
          gi_wp2_with (first
            | (refine ⟨trivial, ?_⟩; gi_at_call 112; ((with_reducible refine (callsIn_wide.2 (HF1.out _)).mono ?_); rintro e w1 ⟨rfl, hb1⟩))
            | gi_in)
          refine ⟨noFn, ?_⟩
          gi_wp2
          go_roundw
          case rel => exact ⟨k + 1, by omega, by go_num, hi ⟨Nat.le_trans HP.out.1 hb1.size, HP.out.2.1.below hb1, by rw [HE.out]; exact HJ.out.grow HP.out.2.2 (Below.grew hb1)⟩⟩
          case measure => simp only [intOf]; omega
        · have HE := hi (upto_pos hfk)
          have HX := hi (show upto f k ++ [k] <+: upto f (capN cores) by rw [← upto_pos hfk]; exact upto_pre f _ _ (by omega))
          rw [hfk] at HF1
          clear hfk
          gi_wp2_with (first
            | (refine ⟨trivial, ?_⟩; gi_at_call 112; ((with_reducible refine (callsIn_wide.2 (HF1.out _)).mono ?_); rintro e w1 ⟨rfl, hb1⟩; obtain ⟨fn, tmps, assign, body, hy, hRd⟩ := HYY.out _ _ w1 (HJ.out.grow HP.out.2.2 (Below.grew hb1)) HX.out (Nat.le_trans HP.out.1 hb1.size) (3 - 1)))
            | gi_in)
          refine hRd.mono ?_
          rintro e W3 (⟨rfl, hJ3, hk3⟩ | ⟨rfl, hJx3, _⟩)
          · gi_wp2
            go_roundw
            case rel => exact ⟨k + 1, by omega, by go_num, hi ⟨Nat.le_trans HP.out.1 (Nat.le_trans hb1.size hk3.size), (HP.out.2.1.below hb1).stays hk3, by rw [HE.out]; exact hJ3⟩⟩
            case measure => simp only [intOf]; omega
          · gi_wp2
            refine bodyPost_ret (results_none rfl _ _ _) rfl ?_
            exact ⟨⟨_, rfl⟩, .inr ⟨_, HX.out, hJx3⟩⟩
      · have hx : (cores ≤ 8 → ¬ (k : Int) < cores) ∧ (8 < cores → ¬ (k : Int) < 8) := by omega
        have hy : k = capN cores := by omega
        have HY := hi hy
        first
          | replace hx := hx.1 (by assumption)
          | replace hx := hx.2 (by assumption)
        clear hy hk hlt hcap
        gi_wp2
        go_end0
        exact ⟨⟨_, rfl⟩, .inl (by rw [← HY.out]; exact HP.out.2.2)⟩
theorem to_stops (b : Nat) (c : Cl) (fr cores : Int) (w : World) (hb : ToAt b c fr cores w) :
    SeqW 0 Tryz.prog 111 #[.pointer (some ⟨b + 2, 0, none⟩), .pointer (some ⟨b, 0, none⟩), .pointer (some ⟨b + 1, 0, none⟩)] encS (fun _ => Stays b (b + 3)) (fun ys => ys = toL c fr cores) (fun pre => pre <+: toL c fr cores) (fun pre x => pre ++ [x] <+: toL c fr cores) w := fun l J Jx W hW hJ hJx hY h0 =>
  to1_any l b c fr cores J Jx W hJ hY (hb.below hW) h0
end Go.Proofs.YtggeakkofcaklaaGreat
namespace Go.Proofs.YtggeakkofcaklaaGreat
open Go.ChangeShapes Go.WideShapes Go.ChangeAt Go.RowKit
set_option linter.unusedVariables false
def IntsAt (W : World) (v : Value) (xs : List Int) : Prop :=
  ∃ (a : Option Addr) (cap : Nat), v = .slice a xs.length cap ∧ (xs.length ≤ cap ∧ cap ≤ maxLen) ∧ (xs ≠ [] → ∃ b off : Nat, a = some ⟨b, off, none⟩ ∧ ∀ j, j < xs.length → W.cell? ⟨b, off + j, none⟩ = some (.int .i64 (xs[j]?.getD 0)))
theorem intsAt_row {W : World} {base : Nat} {v : Value} {xs : List Int} (h : W.ownsRow base 3 1 v xs.length (xs.map (Value.int .i64))) : IntsAt W v xs := by
  rcases h.2 with ⟨rfl, h0⟩ | ⟨g, cap, cur, rfl, hb, hg, h1, h2, h3, h4⟩
  · exact ⟨none, 0, by rw [h0], ⟨by omega, by unfold maxLen; omega⟩, fun hx => absurd (List.length_eq_zero_iff.1 h0) hx⟩
  · refine ⟨some ⟨g, 0, none⟩, cap, rfl, ⟨h1, h2⟩, fun _ => ⟨g, 0, rfl, fun j hj => ?_⟩⟩
    have hc : cur.toList[j]? = some (.int .i64 (xs[j]?.getD 0)) := by
      have h5 : (cur.toList.take (xs.length * 1))[j]? = (xs.map (Value.int .i64))[j]? := by rw [h4]
      rw [List.getElem?_take_of_lt (by omega)] at h5
      rw [h5]
      simp [hj]
    simp only [World.cell?, hg]
    simpa using hc
theorem list_ne {xs ys : List Int} (hl : xs.length = ys.length) (hne : xs ≠ ys) : ¬ ∀ j, j < xs.length → xs[j]?.getD 0 = ys[j]?.getD 0 := fun h => hne (by
  apply List.ext_getElem hl
  intro i h1 h2
  have := h i h1
  simpa [h1, h2] using this)
def Upto (xs ys : List Int) (k : Nat) : Prop := ∀ j, j < k → xs[j]?.getD 0 = ys[j]?.getD 0
theorem Upto.zero (xs ys : List Int) : Upto xs ys 0 := fun j h => by omega
theorem Upto.succ {xs ys : List Int} {k : Nat} (h : Upto xs ys k) (e : xs[k]?.getD 0 = ys[k]?.getD 0) : Upto xs ys (k + 1) := fun j hj => by
  by_cases x : j = k
  · subst x; exact e
  · exact h j (by omega)
def sameB (xs ys : List Int) : Bool := decide (xs = ys)
theorem sameB_upto {xs ys : List Int} (hl : xs.length = ys.length) (h : Upto xs ys xs.length) : sameB xs ys = true := by
  by_cases e : xs = ys
  · simp [sameB, e]
  · exact absurd h (list_ne hl e)
theorem sameB_at {xs ys : List Int} {k : Nat} (h : xs[k]?.getD 0 ≠ ys[k]?.getD 0) : sameB xs ys = false := by
  have : xs ≠ ys := fun e => h (by rw [e])
  simp [sameB, this]
theorem sameB_len {xs ys : List Int} (h : xs.length ≠ ys.length) : sameB xs ys = false := by
  have : xs ≠ ys := fun e => h (by rw [e])
  simp [sameB, this]
end Go.Proofs.YtggeakkofcaklaaGreat
namespace Go.Proofs.YtggeakkofcaklaaGreat
open Go.ChangeShapes Go.WideShapes Go.ChangeAt Go.RowKit Go.Shelf
set_option linter.unusedVariables false
attribute [local go_sem] Oper.semAt_some
theorem info_i : (Tryz.prog.info? 3).map (fun i => (i.zero, i.size, i.bytes)) = some (some (.int .i64 0), 1, 8) := by kernel_rfl
def ints (xs : List Int) : List Value := xs.map (Value.int .i64)
theorem ints_append (a b : List Int) : ints (a ++ b) = ints a ++ ints b := by simp [ints]
def SomeInts (w : World) (xs : List Int) (e : Ending) (W' : World) : Prop := ∃ a cap, e = .returned (.slice a xs.length cap) ∧ IntsAt W' (.slice a xs.length cap) xs ∧ Below w.heap.size w W'
theorem someInts_of {w W' : World} {xs : List Int} {o : Value} {base : Nat} (h : W'.ownsRow base 3 1 o xs.length (ints xs)) (hb : Below w.heap.size w W') : SomeInts w xs (.returned o) W' := by
  obtain ⟨a, cap, rfl, hcap, hc⟩ := intsAt_row h
  exact ⟨a, cap, rfl, ⟨a, cap, rfl, hcap, hc⟩, hb⟩
end Go.Proofs.YtggeakkofcaklaaGreat
namespace Go.Proofs.YtggeakkofcaklaaGreat
open Go.ChangeShapes Go.WideShapes Go.ChangeAt Go.RowKit Go.Shelf
set_option linter.unusedVariables false
theorem u64_bit (v k : Nat) (hv : v < 18446744073709551616) : (bits .and .u64 ((v : Int) / 2 ^ k) 1 == 1) = decide (v / 2 ^ k % 2 = 1) := by
  have e : (v : Int) / 2 ^ k = ((v / 2 ^ k : Nat) : Int) := by rw [Int.natCast_ediv, Int.natCast_pow]; rfl
  rw [e, show (1 : Int) = ((1 : Nat) : Int) from rfl, u64_and_nat _ _ (Nat.lt_of_le_of_lt (Nat.div_le_self _ _) hv) (by decide), nat_mask1]
  by_cases h : v / 2 ^ k % 2 = 1
  · rw [h]; rfl
  · rw [show v / 2 ^ k % 2 = 0 by omega]; rfl
end Go.Proofs.YtggeakkofcaklaaGreat
