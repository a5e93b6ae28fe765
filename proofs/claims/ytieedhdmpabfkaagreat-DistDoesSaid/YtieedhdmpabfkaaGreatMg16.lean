import Derived.Test.YtieedhdmpabfkaaGreatMg12
import Derived.Test.YtieedhdmpabfkaaGreatMg15
import Derived.Test.YtieedhdmpabfkaaGreatMg02
import Derived.Test.YtieedhdmpabfkaaGreatMg11
set_option linter.unusedSimpArgs false
namespace Go.Proofs.YtieedhdmpabfkaaGreat
open Go.ChangeShapes Go.WideShapes Go.ChangeAt Go.RowKit Go.Shelf
set_option linter.unusedVariables false
attribute [local go_sem] Oper.semAt_some
theorem isOne_any (v k : Nat) (hv : v < 18446744073709551616) (hk : k < 64) (w : World) : Calls Tryz.prog 75 #[.int .u64 v, .int .i64 k] w fun e w' => e = .returned (.bool (decide (v / 2 ^ k % 2 = 1))) ∧ w = w' := by
 have h1 := u64_bit v k hv
 obtain ⟨r, hr⟩ : ∃ r, decide (v / 2 ^ k % 2 = 1) = r := ⟨_, rfl⟩
 rw [hr] at h1 ⊢
 clear hr
 go_enter Tryz.func75, Tryz.ntmps75
 go_wp2
 go_ret
 exact ⟨rfl, rfl⟩
def rtN (s : Rt) : Nat := s.c.toNat + (if s.y then 2147483648 else 0)
def rtV (v : Nat) : Rt := ⟨((v % 256 : Nat) : Int), decide (v / 2 ^ 31 % 2 = 1)⟩
theorem or_any (a : Nat) (h : a ≤ 255) : bits .or .u64 (a : Int) 2147483648 = ((a + 2147483648 : Nat) : Int) := by
 have e : ((2147483648 : Int)) = ((2 ^ 31 : Nat) : Int) := rfl
 rw [e, u64_or_nat _ _ (by omega) (by decide)]
 congr 1
 rw [Nat.or_comm, ← Nat.two_pow_add_eq_or_of_lt (i := 31) (by omega) 1]
 omega
set_option maxHeartbeats 1000000 in
theorem number_any (s : Rt) (h0 : 0 ≤ s.c) (h1 : s.c ≤ 255) (w : World) : Calls Tryz.prog 79 #[s.v] w fun e w' => e = .returned (.int .u64 (rtN s : Nat)) ∧ Below w.heap.size w w' := by
 obtain ⟨c, y⟩ := s
 dsimp only at h0 h1
 obtain ⟨a, rfl⟩ : ∃ a : Nat, c = a := ⟨c.toNat, by omega⟩
 have hw : IntKind.u64.wrap (a : Int) = a := by rw [IntKind.wrap_u64]; omega
 have ho := or_any a (by omega)
 cases y
 ·simp only [rtN, Int.toNat_natCast, Bool.false_eq_true, if_false, Nat.add_zero, Rt.v]
  clear ho
  go_enter Tryz.func79, Tryz.ntmps79
  go_wp2
  go_ret
  exact ⟨rfl, bal w _⟩
 ·simp only [rtN, Int.toNat_natCast, if_true, Rt.v]
  obtain ⟨r, hr⟩ : ∃ r, a + 2147483648 = r := ⟨_, rfl⟩
  rw [hr] at ho ⊢
  clear hr
  go_enter Tryz.func79, Tryz.ntmps79
  go_wp2
  go_ret
  exact ⟨rfl, bal w _⟩
theorem results_rt {fn : Func} {c : Tmp} (h : fn.results = #[.cell c 89]) (tmps : Array Value) (w : World) (b : Nat) (x : Rt) (hp : tmps.getD c undef = .pointer (some ⟨b, 0, none⟩)) (hb : CB w b 89 #[.int .i64 x.c, .bool x.y]) :
  (results fn tmps).run Tryz.prog w = .ok x.v w := by
 have hp' : tmps[c]?.getD undef = .pointer (some ⟨b, 0, none⟩) := by simpa using hp
 have c0 := hb.cell 0
 have c1 := hb.cell 1
 simp at c0 c1
 simp [results, h, go_sem, hp', c0, c1]
theorem and_255 (v : Nat) (hv : v < 18446744073709551616) : bits .and .u64 (v : Int) 255 = ((v % 256 : Nat) : Int) := by
 have e : (255 : Int) = ((255 : Nat) : Int) := rfl
 rw [e, u64_and_nat _ _ hv (by decide), show (255 : Nat) = 2 ^ 8 - 1 from rfl, Nat.and_two_pow_sub_one_eq_mod]
set_option maxHeartbeats 1000000 in
theorem route_any (v : Nat) (hv : v < 18446744073709551616) (w : World) : Calls Tryz.prog 43 #[.int .u64 v] w fun e w' => e = .returned (rtV v).v ∧ Below w.heap.size w w' := by
 have HO := hi (show ∀ W, Calls Tryz.prog 75 #[.int .u64 v, .int .i64 31] W fun e w' => e = .returned (.bool (decide (v / 2 ^ 31 % 2 = 1))) ∧ W = w' from fun W => isOne_any v 31 hv (by decide) W)
 have h1 := and_255 v hv
 have hw : IntKind.i64.wrap ((v % 256 : Nat) : Int) = ((v % 256 : Nat) : Int) := by rw [IntKind.wrap_i64]; omega
 unfold rtV
 obtain ⟨m, hm⟩ : ∃ m, v % 256 = m := ⟨_, rfl⟩
 obtain ⟨y, hy⟩ : ∃ y, decide (v / 2 ^ 31 % 2 = 1) = y := ⟨_, rfl⟩
 rw [hy] at HO ⊢
 rw [hm] at h1 hw ⊢
 clear hm hy
 dsimp only [Rt.v]
 go_enter Tryz.func43, Tryz.ntmps43
 go_wp2_with (go_at_call 75; ((with_reducible refine (HO.out _).mono ?_); rintro e w1 ⟨rfl, rfl⟩))
 exact bodyPost_ret (results_rt rfl _ _ w.heap.size ⟨m, y⟩ rfl (CB.new _ _ _)) rfl ⟨rfl, bal w _⟩
theorem awakeCo_any (x : Nat) (sl : Bool) (w : World) : Calls Tryz.prog 108 #[.agg #[.pointer (some ⟨x, 0, none⟩), .bool sl]] w fun e w' => e = .returned (.bool (!sl)) ∧ Below w.heap.size w w' := by
 go_enter Tryz.func108, Tryz.ntmps108
 go_wp2
 go_ret
 exact ⟨rfl, bal w _⟩
def firstFrom (D : Ds) : Nat → Nat → Int
 | 0, _ => -1
 | m + 1, k => if (D.nth k).sl then firstFrom D m (k + 1) else k
def firstV (D : Ds) : Int := firstFrom D D.cs.length 0
def targV (D : Ds) (s : Rt) : Int := if s.y then firstV D else if hasN D.cs.length s.c then s.c else -1
section
variable {w : World} {lo hi' : Nat} {b c : Nat → Nat} {D : Ds}
set_option maxHeartbeats 2000000 in
theorem index_any (h : DiAt w lo hi' b c D) (ok : D.Ok) :
  Calls Tryz.prog 107 #[.slice (some ⟨b 1, 0, none⟩) D.cs.length (c 0), .func (.func 108) #[] #[]] w fun e w' => e = .returned (.int .i64 (firstV D)) ∧ Below w.heap.size w w' := by
 have HA := hi (fun x sl W => awakeCo_any x sl W)
 have H0 := hi (And.intro h (Below.refl w.heap.size w))
 have n8 := ok.n8
 obtain ⟨n, hn⟩ : ∃ n, D.cs.length = n := ⟨_, rfl⟩
 have HN := hi hn
 rw [hn] at n8 ⊢
 have HF := hi (show firstFrom D (n - 0) 0 = firstV D by rw [firstV, hn, Nat.sub_zero])
 clear h hn ok
 go_enter Tryz.func107, Tryz.ntmps107
 go_wp2
 go_loopw [8] (fun i wr => ∃ k : Nat, k ≤ n ∧ i = .int .i64 k ∧ Hi ((DiAt wr lo hi' b c D ∧ Below w.heap.size w wr) ∧ firstFrom D (n - k) k = firstV D)) (fun i _ => n - (intOf i).toNat)
 case atStart => exact ⟨0, Nat.zero_le _, rfl, hi ⟨H0.out, HF.out⟩⟩
 case round =>
  obtain ⟨k, hk, rfl, HX⟩ := hrel
  clear H0 HF
  by_cases hlt : k < n
  ·have p := HX.out.1.1.ptr (k := k) (by rw [HN.out]; exact hlt)
   have q := HX.out.1.1.slp (k := k) (by rw [HN.out]; exact hlt)
   have HS := hi (show firstFrom D (n - k) k = if (D.nth k).sl then firstFrom D (n - (k + 1)) (k + 1) else (k : Int) by rw [show n - k = (n - (k + 1)) + 1 by omega]; rfl)
   obtain ⟨sl, hs⟩ : ∃ sl, (D.nth k).sl = sl := ⟨_, rfl⟩
   obtain ⟨x, hx⟩ : ∃ x, b (4 + 2 * k) = x := ⟨_, rfl⟩
   rw [hs] at q HS
   rw [hx] at p
   clear hs hx
   cases sl
   ·have HR := hi (HX.out.2.symm.trans (HS.out.trans (if_neg (by simp))))
    clear HS
    go_wp2_with (go_at_call 108; ((with_reducible refine (HA.out _ _ _).mono ?_); rintro e w1 ⟨rfl, hb⟩; have HB := hi hb; clear hb))
    go_ret
    exact ⟨by rw [HR.out]; rfl, HX.out.1.2.trans (HB.out.mono HX.out.1.2.size)⟩
   ·have HR := hi ((HS.out.trans (if_pos rfl)).symm.trans HX.out.2)
    clear HS
    go_wp2_with (go_at_call 108; ((with_reducible refine (HA.out _ _ _).mono ?_); rintro e w1 ⟨rfl, hb⟩; have HB := hi hb; clear hb))
    go_roundw
    case rel => exact ⟨k + 1, by omega, by go_num, hi ⟨⟨HX.out.1.1.below HB.out, HX.out.1.2.trans (HB.out.mono HX.out.1.2.size)⟩, HR.out⟩⟩
    case measure => simp only [intOf]; omega
  ·obtain rfl : k = n := by omega
   have HR := hi (show firstV D = -1 by rw [← HX.out.2, Nat.sub_self]; rfl)
   go_wp2
   go_ret
   exact ⟨by rw [HR.out]; rfl, HX.out.1.2⟩
set_option maxHeartbeats 1000000 in
theorem target_any (h : DiAt w lo hi' b c D) (ok : D.Ok) (s : Rt) :
  Calls Tryz.prog 69 #[.pointer (some ⟨b 0, 0, none⟩), s.v] w fun e w' => e = .returned (.int .i64 (targV D s)) ∧ Below w.heap.size w w' := by
 obtain ⟨x, y⟩ := s
 have hb := h.below (bal w (.cells #[.int .i64 x, .bool y] 89))
 have HI := hi (index_any hb ok)
 have HH := hi (hb.has x)
 have c2 := h.box.cell 2
 have hlt := h.box.lt
 obtain ⟨n, hn⟩ : ∃ n, D.cs.length = n := ⟨_, rfl⟩
 simp only [targV, hn]
 rw [hn] at c2 HI HH
 dsimp only [Rt.v]
 cases y
 ·simp only [Bool.false_eq_true, if_false]
  obtain ⟨r, hr⟩ : ∃ r, hasN n x = r := ⟨_, rfl⟩
  rw [hr] at HH ⊢
  clear h hb ok hn hr HI
  cases r
  ·simp only [Bool.false_eq_true, if_false]
   go_enter Tryz.func69, Tryz.ntmps69
   go_wp2_with (go_at_call 71; ((with_reducible refine HH.out.mono ?_); rintro e w1 ⟨rfl, rfl⟩))
   go_ret
   exact ⟨rfl, bal w _⟩
  ·simp only [if_true]
   go_enter Tryz.func69, Tryz.ntmps69
   go_wp2_with (go_at_call 71; ((with_reducible refine HH.out.mono ?_); rintro e w1 ⟨rfl, rfl⟩))
   go_ret
   exact ⟨rfl, bal w _⟩
 ·simp only [if_true]
  obtain ⟨r, hr⟩ : ∃ r, firstV D = r := ⟨_, rfl⟩
  rw [hr] at HI ⊢
  clear h hb ok hn hr HH
  go_enter Tryz.func69, Tryz.ntmps69
  go_wp2_with (go_at_call 107; ((with_reducible refine HI.out.mono ?_); rintro e w1 ⟨rfl, hb⟩; have HB := hi ((bal w _).trans (hb.mono (bal w _).size)); clear hb))
  go_ret
  exact ⟨rfl, HB.out⟩
theorem under_b2 : Tryz.prog.underlying 79 = some (.array 2 4) := by kernel_rfl
theorem info_b : (Tryz.prog.info? 4).map (·.size) = some 1 := by kernel_rfl
theorem run_index_two (x y v : Bool) (k : Int) (W : World) (h0 : 0 ≤ k) (h1 : k < 2) (hv : (#[Value.bool x, .bool y] : Array Value)[k.toNat]? = some (.bool v)) : (Instr.index 79 (.agg #[.bool x, .bool y]) (.int .i64 k)).run Tryz.prog W = .ok (.bool v) W := by
 have h2 : (0 : Int) ≤ k ∧ k < (2 : Nat) := by omega
 cases hq : Tryz.prog.info? 4 with
 | none => have := info_b; simp [hq] at this
 | some i =>
  have hs : i.size = 1 := by have := info_b; simpa [hq] using this
  have hv2 : [Value.bool x, Value.bool y][k.toNat]? = some (.bool v) := by simpa using hv
  simp [Instr.index, run_underlying under_b2, asIntOf, h2, go_sem, sizeOf, typeInfo, hq, hs]
  rw [if_pos h1, hv2]
  rfl
def ctlrN (D : Ds) : Nat := 80 + (if D.g0 then 1 else 0) + (if D.g1 then 2 else 0)
set_option maxRecDepth 100000 in
set_option maxHeartbeats 1000000 in
theorem ctlr_any (h : DiAt w lo hi' b c D) : Calls Tryz.prog 77 #[.pointer (some ⟨b 0, 0, none⟩)] w fun e w' => e = .returned (.int .u64 (ctlrN D : Nat)) ∧ w = w' := by
 have c0 := h.box.cell 0
 have c1 := h.box.cell 1
 unfold ctlrN
 obtain ⟨g0, hg0⟩ : ∃ g0, D.g0 = g0 := ⟨_, rfl⟩
 obtain ⟨g1, hg1⟩ : ∃ g1, D.g1 = g1 := ⟨_, rfl⟩
 rw [hg0] at c0 ⊢
 rw [hg1] at c1 ⊢
 clear h hg0 hg1
 have o1 : bits .or .u64 80 1 = 81 := by decide +kernel
 have o2 : bits .or .u64 80 2 = 82 := by decide +kernel
 have o3 : bits .or .u64 81 2 = 83 := by decide +kernel
 have i0 : ∀ (x y : Bool) W, (Instr.index 79 (.agg #[.bool x, .bool y]) (.int .i64 0)).run Tryz.prog W = .ok (.bool x) W := fun x y W => run_index_two x y x 0 W (by decide) (by decide) rfl
 have i1 : ∀ (x y : Bool) W, (Instr.index 79 (.agg #[.bool x, .bool y]) (.int .i64 1)).run Tryz.prog W = .ok (.bool y) W := fun x y W => run_index_two x y y 1 W (by decide) (by decide) rfl
 cases g0
 ·cases g1
  ·go_enter Tryz.func77, Tryz.ntmps77
   go_wp2
   go_loop [3, 10] (fun v i => (i = .int .i64 0 ∧ v = .int .u64 80) ∨ (i = .int .i64 1 ∧ v = .int .u64 80) ∨ (i = .int .i64 2 ∧ v = .int .u64 80)) (fun _ i => 2 - (intOf i).toNat)
   case atStart => exact .inl ⟨rfl, rfl⟩
   case round =>
    rcases hrel with ⟨rfl, rfl⟩ | ⟨rfl, rfl⟩ | ⟨rfl, rfl⟩
    ·go_wp2
     go_round
     case rel => exact .inr (.inl ⟨by go_num, by go_num⟩)
     case measure => simp [intOf]
    ·go_wp2
     go_round
     case rel => exact .inr (.inr ⟨by go_num, by go_num⟩)
     case measure => simp [intOf]
    ·go_wp2
     go_ret
     exact ⟨rfl, rfl⟩
  ·go_enter Tryz.func77, Tryz.ntmps77
   go_wp2
   go_loop [3, 10] (fun v i => (i = .int .i64 0 ∧ v = .int .u64 80) ∨ (i = .int .i64 1 ∧ v = .int .u64 80) ∨ (i = .int .i64 2 ∧ v = .int .u64 82)) (fun _ i => 2 - (intOf i).toNat)
   case atStart => exact .inl ⟨rfl, rfl⟩
   case round =>
    rcases hrel with ⟨rfl, rfl⟩ | ⟨rfl, rfl⟩ | ⟨rfl, rfl⟩
    ·go_wp2
     go_round
     case rel => exact .inr (.inl ⟨by go_num, by go_num⟩)
     case measure => simp [intOf]
    ·go_wp2
     go_round
     case rel => exact .inr (.inr ⟨by go_num, by go_num⟩)
     case measure => simp [intOf]
    ·go_wp2
     go_ret
     exact ⟨rfl, rfl⟩
 ·cases g1
  ·go_enter Tryz.func77, Tryz.ntmps77
   go_wp2
   go_loop [3, 10] (fun v i => (i = .int .i64 0 ∧ v = .int .u64 80) ∨ (i = .int .i64 1 ∧ v = .int .u64 81) ∨ (i = .int .i64 2 ∧ v = .int .u64 81)) (fun _ i => 2 - (intOf i).toNat)
   case atStart => exact .inl ⟨rfl, rfl⟩
   case round =>
    rcases hrel with ⟨rfl, rfl⟩ | ⟨rfl, rfl⟩ | ⟨rfl, rfl⟩
    ·go_wp2
     go_round
     case rel => exact .inr (.inl ⟨by go_num, by go_num⟩)
     case measure => simp [intOf]
    ·go_wp2
     go_round
     case rel => exact .inr (.inr ⟨by go_num, by go_num⟩)
     case measure => simp [intOf]
    ·go_wp2
     go_ret
     exact ⟨rfl, rfl⟩
  ·go_enter Tryz.func77, Tryz.ntmps77
   go_wp2
   go_loop [3, 10] (fun v i => (i = .int .i64 0 ∧ v = .int .u64 80) ∨ (i = .int .i64 1 ∧ v = .int .u64 81) ∨ (i = .int .i64 2 ∧ v = .int .u64 83)) (fun _ i => 2 - (intOf i).toNat)
   case atStart => exact .inl ⟨rfl, rfl⟩
   case round =>
    rcases hrel with ⟨rfl, rfl⟩ | ⟨rfl, rfl⟩ | ⟨rfl, rfl⟩
    ·go_wp2
     go_round
     case rel => exact .inr (.inl ⟨by go_num, by go_num⟩)
     case measure => simp [intOf]
    ·go_wp2
     go_round
     case rel => exact .inr (.inr ⟨by go_num, by go_num⟩)
     case measure => simp [intOf]
    ·go_wp2
     go_ret
     exact ⟨rfl, rfl⟩
end
end Go.Proofs.YtieedhdmpabfkaaGreat
namespace Go.Proofs.YtieedhdmpabfkaaGreat
open Go.ChangeShapes Go.WideShapes Go.ChangeAt Go.RowKit Go.Shelf
set_option linter.unusedVariables false
attribute [local go_sem] Oper.semAt_some
def Pr.cs (y : Pr) : List Value := [.int .i64 y.fr, .int .i64 y.to, .int .i64 y.wd, .int .i64 y.r, .int .i64 y.n, .int .i64 y.f]
abbrev Pr.ca (y : Pr) : Array Value := #[.int .i64 y.fr, .int .i64 y.to, .int .i64 y.wd, .int .i64 y.r, .int .i64 y.n, .int .i64 y.f]
abbrev Pr.v (y : Pr) : Value := .agg #[.int .i64 y.fr, .int .i64 y.to, .int .i64 y.wd, .int .i64 y.r, .int .i64 y.n, .int .i64 y.f]
theorem pr_len (y : Pr) : y.cs.length = 6 := rfl
abbrev flP (ys : List Pr) : List Value := flat Pr.cs ys
theorem flP_len (ys : List Pr) : (flP ys).length = ys.length * 6 := flat_len pr_len ys
def distPr : List Pr := [⟨0, 4, 4, 1, 0, 0⟩, ⟨4, 8, 4, 2, 0, 0⟩, ⟨128, 256, 4, 4, 32, 0⟩, ⟨256, 384, 4, 5, 32, 0⟩, ⟨384, 512, 4, 6, 32, 0⟩, ⟨512, 640, 4, 7, 32, 0⟩, ⟨640, 768, 4, 8, 32, 0⟩, ⟨768, 896, 4, 9, 32, 0⟩, ⟨896, 1024, 4, 10, 32, 0⟩, ⟨1024, 2048, 4, 11, 4, 0⟩, ⟨3072, 3328, 4, 12, 16, 0⟩, ⟨24832, 32768, 8, 13, 1, 32⟩]
theorem dist_same : sameRows distPr distRows = true := by decide +kernel
def prOk (y : Pr) : Bool := decide (0 ≤ y.fr) && (decide (y.fr < y.to) && (decide (y.to ≤ 200000) && (decide (0 ≤ y.n) && (decide (y.n ≤ 32) && (decide (0 ≤ y.f) && (decide (y.f ≤ 64) && ((y.wd == 4 && decide (y.fr % 4 = 0)) || (y.wd == 8 && decide (y.fr % 8 = 0)))))))))
theorem distPr_ok : distPr.all prOk = true := by decide +kernel
def nthP (ys : List Pr) (k : Nat) : Pr := ys[k]?.getD default
theorem nthP_at {ys : List Pr} {k : Nat} (h : k < ys.length) : ys[k]? = some (nthP ys k) := by simp [nthP, List.getElem?_eq_getElem h]
theorem dropP_nth {ys : List Pr} {k : Nat} (h : k < ys.length) : ys.drop k = nthP ys k :: ys.drop (k + 1) := by
 rw [List.drop_eq_getElem_cons h]
 simp [nthP, h]
theorem nthP_ok {ys : List Pr} (h : ys.all prOk = true) {k : Nat} (hk : k < ys.length) : prOk (nthP ys k) = true := List.all_eq_true.1 h _ (List.mem_of_getElem? (nthP_at hk))
structure PrC (W : World) (g o : Nat) (y : Pr) : Prop where
 c0 : W.cell? ⟨g, o, none⟩ = some (.int .i64 y.fr)
 c1 : W.cell? ⟨g, o + 1, none⟩ = some (.int .i64 y.to)
 c2 : W.cell? ⟨g, o + 2, none⟩ = some (.int .i64 y.wd)
 c3 : W.cell? ⟨g, o + 3, none⟩ = some (.int .i64 y.r)
 c4 : W.cell? ⟨g, o + 4, none⟩ = some (.int .i64 y.n)
 c5 : W.cell? ⟨g, o + 5, none⟩ = some (.int .i64 y.f)
theorem Row.prc {W : World} {g : Nat} {t : TypeId} {ys : List Pr} (h : Row W g t (flP ys)) {k : Nat} {y : Pr} (hk : ys[k]? = some y) : PrC W g (k * 6) y := by
 have hl : k < ys.length := (List.getElem?_eq_some_iff.1 hk).1
 have K : ∀ c u, c < 6 → y.cs[c]? = some u → W.cell? ⟨g, k * 6 + c, none⟩ = some u := fun c u hc hu => by
  rw [h.cell (by rw [flP_len]; omega), flat_get pr_len ys k c y hc hk, hu]
 exact ⟨K 0 _ (by decide) rfl, K 1 _ (by decide) rfl, K 2 _ (by decide) rfl, K 3 _ (by decide) rfl, K 4 _ (by decide) rfl, K 5 _ (by decide) rfl⟩
set_option maxRecDepth 100000 in
set_option maxHeartbeats 1000000 in
theorem distRowsP_any (w : World) : Calls Tryz.prog 84 #[] w fun e w' => ∃ g cap, e = .returned (.slice (some ⟨g, 0, none⟩) 12 cap) ∧ Row w' g 174 (flP distPr) ∧ Below w.heap.size w w' := by
 go_enter Tryz.func84, Tryz.ntmps84
 go_wp2
 go_ret
 exact ⟨_, _, rfl, Row.of (CB.new w _ _), bal w _⟩
theorem meetsP_any (y : Pr) (off wd : Int) (w : World) (hw : IntKind.i64.wrap (off + wd) = off + wd) : Calls Tryz.prog 118 #[y.v, .int .i64 off, .int .i64 wd] w fun e w' => e = .returned (.bool (y.meets off wd)) ∧ Below w.heap.size w w' := by
 obtain ⟨fr, to, ywd, r, n, f⟩ := y
 dsimp only [Pr.v, Pr.meets]
 by_cases h : off < to
 ·have hr : (decide (off < to) && decide (fr < off + wd)) = decide (fr < off + wd) := by simp [h]
  rw [hr]
  clear hr
  go_enter Tryz.func118, Tryz.ntmps118
  go_wp2
  go_ret
  exact ⟨rfl, bal w _⟩
 ·have hr : (decide (off < to) && decide (fr < off + wd)) = false := by simp [h]
  have hd : decide (off < to) = false := by simpa using h
  rw [hr]
  clear hr h
  go_enter Tryz.func118, Tryz.ntmps118
  go_wp2
  go_ret
  exact ⟨rfl, bal w _⟩
theorem results_plc {fn : Func} {c : Tmp} (h : fn.results = #[.cell c 70]) (tmps : Array Value) (w : World) (b : Nat) (x : Pl) (hp : tmps.getD c undef = .pointer (some ⟨b, 0, none⟩)) (hb : CB w b 70 x.cs) : (results fn tmps).run Tryz.prog w = .ok x.v w := by
 have hp' : tmps[c]?.getD undef = .pointer (some ⟨b, 0, none⟩) := by simpa using hp
 have c0 := hb.cell 0
 have c1 := hb.cell 1
 have c2 := hb.cell 2
 simp at c0 c1 c2
 simp [results, h, go_sem, hp', c0, c1, c2]
set_option maxRecDepth 100000 in
set_option maxHeartbeats 2000000 in
theorem placeP_any (y : Pr) (off : Int) (w : World) (hok : prOk y = true) (h0 : y.fr ≤ off) (h1 : off ≤ 200000) : Calls Tryz.prog 119 #[y.v, .int .i64 off] w fun e w' => e = .returned (y.place off).v ∧ Below w.heap.size w w' := by
 obtain ⟨fr, to, wd, r, n, f⟩ := y
 simp only [prOk, Bool.and_eq_true, Bool.or_eq_true, decide_eq_true_eq, beq_iff_eq] at hok
 obtain ⟨hfr0, hft, hto, hn0, hn32, hf0, hf64, hk⟩ := hok
 dsimp only at h0
 have hwd : wd = 4 ∨ wd = 8 := by omega
 have hd0 : 0 ≤ off - fr := by omega
 have hw1 : IntKind.i64.wrap (off - fr) = off - fr := by rw [IntKind.wrap_i64]; omega
 have hq : (off - fr).tdiv wd = (off - fr) / wd := Int.tdiv_eq_ediv_of_nonneg hd0
 obtain ⟨q, hq2⟩ : ∃ q, (off - fr) / wd = q := ⟨_, rfl⟩
 have hqb : 0 ≤ q ∧ q ≤ 50000 := by rcases hwd with rfl | rfl <;> omega
 have m0 : 0 ≤ q * n := Int.mul_nonneg hqb.1 hn0
 have m1 : q * n ≤ 50000 * 32 := Int.mul_le_mul hqb.2 hn32 hn0 (by decide)
 have hw2 : IntKind.i64.wrap q = q := by rw [IntKind.wrap_i64]; omega
 have hw3 : IntKind.i64.wrap (q * n) = q * n := by rw [IntKind.wrap_i64]; omega
 obtain ⟨T, hT⟩ : ∃ T, q * n = T := ⟨_, rfl⟩
 rw [hT] at hw3 m0 m1
 have hw4 : IntKind.i64.wrap (f + T) = f + T := by rw [IntKind.wrap_i64]; omega
 have hz : wd ≠ 0 := by omega
 have hz2 : (wd == 0) = false := by simpa using hz
 rw [hq2] at hq
 have HP := hi (show Pr.place ⟨fr, to, wd, r, n, f⟩ off = ⟨r, f + T, n⟩ by simp only [Pr.place]; rw [hq2, hT])
 obtain ⟨df, hdf⟩ : ∃ df, off - fr = df := ⟨_, rfl⟩
 rw [hdf] at hw1 hq hd0
 have HT := hi hT
 clear hq2 hqb m0 m1 hfr0 hft hto hn0 hn32 hf0 hf64 hk hwd h0 h1
 rw [HP.out]
 dsimp only [Pr.v, Pl.v]
 have HPB := hi (cb_second (w := w) (o := .cells #[.int .i64 fr, .int .i64 to, .int .i64 wd, .int .i64 r, .int .i64 n, .int .i64 f] 174) (cs := #[.int .i64 0, .int .i64 0, .int .i64 0]) (t := 70))
 have HBB := hi (bal_two w (.cells #[.int .i64 fr, .int .i64 to, .int .i64 wd, .int .i64 r, .int .i64 n, .int .i64 f] 174) (.cells #[.int .i64 0, .int .i64 0, .int .i64 0] 70))
 go_enter Tryz.func119, Tryz.ntmps119
 go_wp2
 obtain ⟨W0, hW0⟩ : ∃ W0, (w.alloc (.cells #[.int .i64 fr, .int .i64 to, .int .i64 wd, .int .i64 r, .int .i64 n, .int .i64 f] 174)).alloc (.cells #[.int .i64 0, .int .i64 0, .int .i64 0] 70) = W0 := ⟨_, rfl⟩
 have HRB := hi (show CB W0 w.heap.size 174 (Pr.ca ⟨fr, to, wd, r, n, f⟩) by rw [← hW0]; exact (CB.new w _ _).alloc _)
 rw [hW0] at HPB HBB ⊢
 clear hW0
 refine wp_region_noPanic ?_
 refine wp_region_last_drew (S := (fun W' => CB W' w.heap.size 174 #[.int .i64 fr, .int .i64 to, .int .i64 wd, .int .i64 r, .int .i64 n, .int .i64 f])) [18] (by kernel_rfl) HRB.out.drew (fun hHeld => ?_)
 (try simp only [r1, r2, r3, r4, r5])
 have HPD := hi HPB.out.drew
 have HBD := hi (Below.drewN (m := 1) HBB.out)
 obtain ⟨Wd, hWd⟩ : ∃ Wd, W0.drew = Wd := ⟨_, rfl⟩
 have hBD : Below w.heap.size w Wd := by rw [← hWd]; exact HBD.out
 rw [hWd] at HPD hHeld ⊢
 clear hWd HBD HBB HPB
 refine tk 0 (v := ?_) rfl (Or.inl ⟨by rfl, ?_⟩) ?_
 rotate_left
 ·intro w' hSw; (try dsimp only at hSw); have d0 := hSw.cell 0; have d2 := hSw.cell 2; have d3 := hSw.cell 3; have d4 := hSw.cell 4; have d5 := hSw.cell 5; go_simp; (try with_reducible rfl)
 (try simp only [Act.put, n1, n2, n4, n5, n6])
 refine tk 1 (v := ?_) rfl (Or.inl ⟨by rfl, ?_⟩) ?_
 rotate_left
 ·intro w' hSw; (try dsimp only at hSw); have d0 := hSw.cell 0; have d2 := hSw.cell 2; have d3 := hSw.cell 3; have d4 := hSw.cell 4; have d5 := hSw.cell 5; go_simp; (try with_reducible rfl)
 (try simp only [Act.put, n1, n2, n3, n4, n5, n6])
 refine tk 2 (v := ?_) rfl (Or.inl ⟨by rfl, ?_⟩) ?_
 rotate_left
 ·intro w' hSw; (try dsimp only at hSw); have d0 := hSw.cell 0; have d2 := hSw.cell 2; have d3 := hSw.cell 3; have d4 := hSw.cell 4; have d5 := hSw.cell 5; go_simp; (try with_reducible rfl)
 (try simp only [Act.put, n1, n2, n3, n4, n5, n6])
 refine tk 3 (v := ?_) rfl (Or.inl ⟨by rfl, ?_⟩) ?_
 rotate_left
 ·intro w' hSw; (try dsimp only at hSw); have d0 := hSw.cell 0; have d2 := hSw.cell 2; have d3 := hSw.cell 3; have d4 := hSw.cell 4; have d5 := hSw.cell 5; go_simp; (try with_reducible rfl)
 (try simp only [Act.put, n1, n2, n3, n4, n5, n6])
 refine tk 4 (v := ?_) rfl (Or.inl ⟨by rfl, ?_⟩) ?_
 rotate_left
 ·intro w' hSw; (try dsimp only at hSw); have d0 := hSw.cell 0; have d2 := hSw.cell 2; have d3 := hSw.cell 3; have d4 := hSw.cell 4; have d5 := hSw.cell 5; go_simp; (try with_reducible rfl)
 (try simp only [Act.put, n1, n2, n3, n4, n5, n6])
 refine tk 5 (v := ?_) rfl (Or.inl ⟨by rfl, ?_⟩) ?_
 rotate_left
 ·intro w' hSw; (try dsimp only at hSw); have d0 := hSw.cell 0; have d2 := hSw.cell 2; have d3 := hSw.cell 3; have d4 := hSw.cell 4; have d5 := hSw.cell 5; go_simp; (try with_reducible rfl)
 (try simp only [Act.put, n1, n2, n3, n4, n5, n6])
 refine tk 6 (v := ?_) rfl (Or.inl ⟨by rfl, ?_⟩) ?_
 rotate_left
 ·intro w' hSw; (try dsimp only at hSw); have d0 := hSw.cell 0; have d2 := hSw.cell 2; have d3 := hSw.cell 3; have d4 := hSw.cell 4; have d5 := hSw.cell 5; go_simp; (try with_reducible rfl)
 (try simp only [Act.put, n1, n2, n3, n4, n5, n6])
 refine tk 7 (v := ?_) rfl (Or.inl ⟨by rfl, ?_⟩) ?_
 rotate_left
 ·intro w' hSw; (try dsimp only at hSw); have d0 := hSw.cell 0; have d2 := hSw.cell 2; have d3 := hSw.cell 3; have d4 := hSw.cell 4; have d5 := hSw.cell 5; go_simp; (try with_reducible rfl)
 (try simp only [Act.put, n1, n2, n3, n4, n5, n6])
 refine tk 8 (v := ?_) rfl (Or.inl ⟨by rfl, ?_⟩) ?_
 rotate_left
 ·intro w' hSw; (try dsimp only at hSw); have d0 := hSw.cell 0; have d2 := hSw.cell 2; have d3 := hSw.cell 3; have d4 := hSw.cell 4; have d5 := hSw.cell 5; go_simp; (try with_reducible rfl)
 (try simp only [Act.put, n1, n2, n3, n4, n5, n6])
 refine tk 9 (v := ?_) rfl (Or.inl ⟨by rfl, ?_⟩) ?_
 rotate_left
 ·intro w' hSw; (try dsimp only at hSw); have d0 := hSw.cell 0; have d2 := hSw.cell 2; have d3 := hSw.cell 3; have d4 := hSw.cell 4; have d5 := hSw.cell 5; go_simp; (try with_reducible rfl)
 (try simp only [Act.put, n1, n2, n3, n4, n5, n6])
 refine tk 10 (v := ?_) rfl (Or.inl ⟨by rfl, ?_⟩) ?_
 rotate_left
 ·intro w' hSw; (try dsimp only at hSw); have d0 := hSw.cell 0; have d2 := hSw.cell 2; have d3 := hSw.cell 3; have d4 := hSw.cell 4; have d5 := hSw.cell 5; go_simp; (try with_reducible rfl)
 (try simp only [Act.put, n1, n2, n3, n4, n5, n6])
 refine tk 11 (v := ?_) rfl (Or.inl ⟨by rfl, ?_⟩) ?_
 rotate_left
 ·intro w' hSw; (try dsimp only at hSw); have d0 := hSw.cell 0; have d2 := hSw.cell 2; have d3 := hSw.cell 3; have d4 := hSw.cell 4; have d5 := hSw.cell 5; go_simp; (try with_reducible rfl)
 (try simp only [Act.put, n1, n2, n3, n4, n5, n6])
 refine tk 12 (v := ?_) rfl (Or.inl ⟨by rfl, ?_⟩) ?_
 rotate_left
 ·intro w' hSw; (try dsimp only at hSw); have d0 := hSw.cell 0; have d2 := hSw.cell 2; have d3 := hSw.cell 3; have d4 := hSw.cell 4; have d5 := hSw.cell 5; go_simp; (try with_reducible rfl)
 (try simp only [Act.put, n1, n2, n3, n4, n5, n6])
 refine tk 13 (v := ?_) rfl (Or.inl ⟨by rfl, ?_⟩) ?_
 rotate_left
 ·intro w' hSw; (try dsimp only at hSw); have d0 := hSw.cell 0; have d2 := hSw.cell 2; have d3 := hSw.cell 3; have d4 := hSw.cell 4; have d5 := hSw.cell 5; go_simp; (try with_reducible rfl)
 (try simp only [Act.put, n1, n2, n3, n4, n5, n6])
 refine tk 14 (v := ?_) rfl (Or.inl ⟨by rfl, ?_⟩) ?_
 rotate_left
 ·intro w' hSw; (try dsimp only at hSw); have d0 := hSw.cell 0; have d2 := hSw.cell 2; have d3 := hSw.cell 3; have d4 := hSw.cell 4; have d5 := hSw.cell 5; go_simp; (try with_reducible rfl)
 (try simp only [Act.put, n1, n2, n3, n4, n5, n6])
 refine tk 15 (v := ?_) rfl (Or.inl ⟨by rfl, ?_⟩) ?_
 rotate_left
 ·intro w' hSw; (try dsimp only at hSw); have d0 := hSw.cell 0; have d2 := hSw.cell 2; have d3 := hSw.cell 3; have d4 := hSw.cell 4; have d5 := hSw.cell 5; go_simp; (try with_reducible rfl)
 (try simp only [Act.put, n1, n2, n3, n4, n5, n6])
 refine tk 16 (v := ?_) rfl (Or.inl ⟨by rfl, ?_⟩) ?_
 rotate_left
 ·intro w' hSw; (try dsimp only at hSw); have d0 := hSw.cell 0; have d2 := hSw.cell 2; have d3 := hSw.cell 3; have d4 := hSw.cell 4; have d5 := hSw.cell 5; go_simp; (try with_reducible rfl)
 (try simp only [Act.put, n1, n2, n3, n4, n5, n6])
 refine tk 17 (v := ?_) rfl (Or.inl ⟨by rfl, ?_⟩) ?_
 rotate_left
 ·intro w' hSw; (try dsimp only at hSw); have d0 := hSw.cell 0; have d2 := hSw.cell 2; have d3 := hSw.cell 3; have d4 := hSw.cell 4; have d5 := hSw.cell 5; go_simp; (try with_reducible rfl)
 (try simp only [Act.put, n1, n2, n3, n4, n5, n6])
 refine wpAnyF_ready (rs := [18]) (by kernel_rfl) (by simp) ?_
 refine AllReadyF.last (by kernel_rfl) rfl (fun KK hKK => ?_) AllReadyF.nil
 have y0 := HPD.out.cell 0
 have y1 := HPD.out.cell 1
 have y2 := HPD.out.cell 2
 have yf := HPD.out.frozen
 go_simp
 refine hKK.out _ _ ?_
 clear hKK KK
 (try simp only [Act.put, n1, n2, n3, n4, n5, n6])
 refine wpAnyF_done (by kernel_rfl) ?_ _
 refine NoPanic.normal ?_
 go_wp2
 exact bodyPost_ret (results_plc rfl _ _ (w.heap.size + 1) ⟨r, f + T, n⟩ rfl (CB.put3 HPD.out _ _ _)) rfl ⟨rfl, below_put3 hBD (by omega) _ _ _⟩
structure FP (w : World) (g : Nat) (ys : List Pr) (W : World) : Prop where
 z : CB W w.heap.size 70 #[.int .i64 0, .int .i64 0, .int .i64 0]
 row : Row W g 174 (flP ys)
 below : Below w.heap.size w W
theorem FP.later {w W W' : World} {g : Nat} {ys : List Pr} (h : FP w g ys W) (k : Below W.heap.size W W') : FP w g ys W' := ⟨h.z.below k, h.row.below k, h.below.trans (k.mono h.below.size)⟩
theorem goP_no {y : Pr} {off wd : Int} {ys : List Pr} (h : y.meets off wd = false) : goP off wd (y :: ys) = goP off wd ys := by rw [goP, h]; rfl
theorem goP_yes {y : Pr} {off wd : Int} {ys : List Pr} (h : y.meets off wd = true) (hw : y.wd = wd) : goP off wd (y :: ys) = (y.place off, 0) := by rw [goP, if_pos h, if_neg (by simp [hw])]
theorem goP_bad {y : Pr} {off wd : Int} {ys : List Pr} (h : y.meets off wd = true) (hw : y.wd ≠ wd) : goP off wd (y :: ys) = (Pl.zero, 40) := by rw [goP, if_pos h, if_pos hw]
set_option maxRecDepth 100000 in
set_option maxHeartbeats 4000000 in
theorem decodeP4_any (g cap : Nat) (ys : List Pr) (sz off : Int) (w : World) (h : Row w g 174 (flP ys)) (hall : ys.all prOk = true) (hn : ys.length ≤ 100) (hs0 : 8 ≤ sz) (hs1 : sz ≤ 200000) (ho : Int64 off) :
  Calls Tryz.prog 83 #[.slice (some ⟨g, 0, none⟩) ys.length cap, .int .i64 sz, .int .i64 off, .int .i64 4] w (Finds w (decP ys sz off 4)) := by
 obtain ⟨h1, h2⟩ := ho
 unfold decP
 rw [if_neg (by decide)]
 by_cases hm : off.tmod 4 = 0
 ·rw [if_neg (by simpa using hm)]
  have hq : (off.tmod 4 != 0) = false := by simpa using hm
  have hws : IntKind.i64.wrap (sz - 4) = sz - 4 := by rw [IntKind.wrap_i64]; omega
  by_cases hneg : off < 0
  ·rw [if_pos (.inl hneg)]
   go_enter Tryz.func83, Tryz.ntmps83
   go_wp2
   exact bodyPost_ret (results_pl rfl _ _ w.heap.size Pl.zero (.int .i64 42) rfl rfl (CB.new w _ _)) rfl ⟨rfl, bal w _⟩
  ·have hd1 : decide (off < 0) = false := by simpa using hneg
   by_cases hbig : sz - 4 < off
   ·rw [if_pos (.inr hbig)]
    clear hneg
    go_enter Tryz.func83, Tryz.ntmps83
    go_wp2
    exact bodyPost_ret (results_pl rfl _ _ w.heap.size Pl.zero (.int .i64 42) rfl rfl (CB.new w _ _)) rfl ⟨rfl, bal w _⟩
   ·rw [if_neg (by omega)]
    have hd2 : decide (sz - 4 < off) = false := by simpa using hbig
    have hm4 : off % 4 = 0 := by rw [Int.tmod_eq_emod_of_nonneg (by omega)] at hm; exact hm
    have H0 := hi (show FP w g ys (w.alloc (.cells #[.int .i64 0, .int .i64 0, .int .i64 0] 70)) from ⟨CB.new w _ _, h.below (bal w _), bal w _⟩)
    have hw4 : IntKind.i64.wrap (off + 4) = off + 4 := by rw [IntKind.wrap_i64]; omega
    have hneg0 : 0 ≤ off := by omega
    have hoff : off ≤ 200000 := by omega
    have HW4 := hi hw4
    have HM4 := hi hm4
    clear hm h hneg hbig hw4
    go_enter Tryz.func83, Tryz.ntmps83
    go_wp2
    clear hws hd1 hd2 hq hm4
    go_loopw [39] (fun i wr => ∃ k : Nat, k ≤ ys.length ∧ i = .int .i64 k ∧ Hi (FP w g ys wr ∧ goP off 4 ys = goP off 4 (ys.drop k))) (fun i _ => ys.length - (intOf i).toNat)
    case atStart => exact ⟨0, Nat.zero_le _, rfl, hi ⟨H0.out, rfl⟩⟩
    case round =>
     obtain ⟨k, hk, rfl, HX⟩ := hrel
     clear H0
     by_cases hlt : k < ys.length
     ·have hok := nthP_ok hall hlt
      have HG := hi (HX.out.2.trans (by rw [dropP_nth hlt]))
      have HRC := hi (HX.out.1.row.prc (nthP_at (ys := ys) (k := k) hlt))
      obtain ⟨y, hy⟩ : ∃ y, nthP ys k = y := ⟨_, rfl⟩
      rw [hy] at hok HRC HG
      obtain ⟨d0, d1, d2, d3, d4, d5⟩ := HRC.out
      have HMT := hi (fun W => meetsP_any y off 4 W HW4.out)
      have HOK := hi hok
      have HX2 := hi (HX.out.1.later (bal wr (.cells y.ca 174)))
      clear hy hok HRC
      obtain ⟨b, hb⟩ : ∃ b, y.meets off 4 = b := ⟨_, rfl⟩
      rw [hb] at HMT
      have HB := hi hb
      clear hb
      have hk9 : (k : Int) < ys.length := by omega
      cases b
      ·have HG2 := hi (HG.out.trans (goP_no HB.out))
       obtain ⟨fr, to, ywd, r, n, f⟩ := y
       dsimp only [Pr.v] at HMT
       dsimp only at d0 d1 d2 d3 d4 d5
       go_wp2_with (go_at_call 118; ((with_reducible refine (HMT.out _).mono ?_); rintro e w1 ⟨rfl, hb1⟩; have HX3 := hi (HX2.out.later hb1); clear hb1))
       go_roundw
       case rel => exact ⟨k + 1, by omega, by go_num, hi ⟨HX3.out, HG2.out⟩⟩
       case measure => simp only [intOf]; omega
      ·by_cases hww : y.wd = 4
       ·have HG2 := hi (HG.out.trans (goP_yes HB.out hww))
        have hle : y.fr ≤ off := by
         have h3 := HOK.out
         have h4 := HB.out
         have hm4 := HM4.out
         simp only [prOk, Bool.and_eq_true, Bool.or_eq_true, decide_eq_true_eq, beq_iff_eq] at h3
         simp only [Pr.meets, Bool.and_eq_true, decide_eq_true_eq] at h4
         omega
        have HPL := hi (fun W => placeP_any y off W HOK.out hle hoff)
        obtain ⟨P, hP⟩ : ∃ P, y.place off = P := ⟨_, rfl⟩
        rw [hP] at HPL HG2
        clear hP hle HOK HB HG
        obtain ⟨fr, to, ywd, r, n, f⟩ := y
        obtain ⟨pr, pf, pc⟩ := P
        dsimp only at hww
        subst hww
        dsimp only [Pr.v, Pl.v] at HMT HPL
        dsimp only at d0 d1 d2 d3 d4 d5
        rw [HG2.out]
        go_wp2_with (first
         | (go_at_call 118; ((with_reducible refine (HMT.out _).mono ?_); rintro e w1 ⟨rfl, hb1⟩; have HX3 := hi (HX2.out.later hb1); have hr1 := (CB.new wr 174 (Pr.ca ⟨fr, to, 4, r, n, f⟩)).below hb1; have x0 := hr1.cell 0; have x1 := hr1.cell 1; have x2 := hr1.cell 2; have x3 := hr1.cell 3; have x4 := hr1.cell 4; have x5 := hr1.cell 5; have xl := hr1.lt; clear hb1 hr1))
         | (go_at_call 119; ((with_reducible refine (HPL.out _).mono ?_); rintro e w2 ⟨rfl, hb2⟩; have HX4 := hi (HX3.out.later hb2); have z0 := HX4.out.z.cell 0; have z1 := HX4.out.z.cell 1; have z2 := HX4.out.z.cell 2; have zf := HX4.out.z.frozen; clear hb2)))
        exact bodyPost_ret (results_pl rfl _ _ w.heap.size ⟨pr, pf, pc⟩ (.int .i64 0) rfl rfl (CB.put3 HX4.out.z _ _ _)) rfl ⟨rfl, below_put3 HX4.out.below (Nat.le_refl _) _ _ _⟩
       ·have HG2 := hi (HG.out.trans (goP_bad HB.out hww))
        clear HOK HB HG
        obtain ⟨fr, to, ywd, r, n, f⟩ := y
        dsimp only at hww
        have hwq : (ywd != 4) = true := by simpa using hww
        dsimp only [Pr.v] at HMT
        dsimp only at d0 d1 d2 d3 d4 d5
        clear hww
        rw [HG2.out]
        go_wp2_with (first
         | (go_at_call 118; ((with_reducible refine (HMT.out _).mono ?_); rintro e w1 ⟨rfl, hb1⟩; have HX3 := hi (HX2.out.later hb1); have hr1 := (CB.new wr 174 (Pr.ca ⟨fr, to, ywd, r, n, f⟩)).below hb1; have x2 := hr1.cell 2; have z0 := HX3.out.z.cell 0; have z1 := HX3.out.z.cell 1; have z2 := HX3.out.z.cell 2; have zf := HX3.out.z.frozen; clear hb1 hr1)))
        exact bodyPost_ret (results_pl rfl _ _ w.heap.size Pl.zero (.int .i64 40) rfl rfl (CB.put3 HX3.out.z _ _ _)) rfl ⟨rfl, below_put3 HX3.out.below (Nat.le_refl _) _ _ _⟩
     ·obtain rfl : k = ys.length := by omega
      have HG2 := hi (HX.out.2.trans (show goP off 4 (ys.drop ys.length) = (Pl.zero, 0) by rw [List.drop_length]; rfl))
      have z0 := HX.out.1.z.cell 0
      have z1 := HX.out.1.z.cell 1
      have z2 := HX.out.1.z.cell 2
      have zf := HX.out.1.z.frozen
      rw [HG2.out]
      go_wp2
      exact bodyPost_ret (results_pl rfl _ _ w.heap.size Pl.zero (.int .i64 0) rfl rfl (CB.put3 HX.out.1.z _ _ _)) rfl ⟨by rw [HG2.out], below_put3 HX.out.1.below (Nat.le_refl _) _ _ _⟩
 ·rw [if_pos hm]
  have hq : (off.tmod 4 != 0) = true := by simpa using hm
  clear hm h hall
  go_enter Tryz.func83, Tryz.ntmps83
  go_wp2
  exact bodyPost_ret (results_pl rfl _ _ w.heap.size Pl.zero (.int .i64 41) rfl rfl (CB.new w _ _)) rfl ⟨rfl, bal w _⟩
set_option maxRecDepth 100000 in
set_option maxHeartbeats 4000000 in
theorem decodeP8_any (g cap : Nat) (ys : List Pr) (sz off : Int) (w : World) (h : Row w g 174 (flP ys)) (hall : ys.all prOk = true) (hn : ys.length ≤ 100) (hs0 : 8 ≤ sz) (hs1 : sz ≤ 200000) (ho : Int64 off) :
  Calls Tryz.prog 83 #[.slice (some ⟨g, 0, none⟩) ys.length cap, .int .i64 sz, .int .i64 off, .int .i64 8] w (Finds w (decP ys sz off 8)) := by
 obtain ⟨h1, h2⟩ := ho
 unfold decP
 rw [if_neg (by decide)]
 by_cases hm : off.tmod 8 = 0
 ·rw [if_neg (by simpa using hm)]
  have hq : (off.tmod 8 != 0) = false := by simpa using hm
  have hws : IntKind.i64.wrap (sz - 8) = sz - 8 := by rw [IntKind.wrap_i64]; omega
  by_cases hneg : off < 0
  ·rw [if_pos (.inl hneg)]
   go_enter Tryz.func83, Tryz.ntmps83
   go_wp2
   exact bodyPost_ret (results_pl rfl _ _ w.heap.size Pl.zero (.int .i64 42) rfl rfl (CB.new w _ _)) rfl ⟨rfl, bal w _⟩
  ·have hd1 : decide (off < 0) = false := by simpa using hneg
   by_cases hbig : sz - 8 < off
   ·rw [if_pos (.inr hbig)]
    clear hneg
    go_enter Tryz.func83, Tryz.ntmps83
    go_wp2
    exact bodyPost_ret (results_pl rfl _ _ w.heap.size Pl.zero (.int .i64 42) rfl rfl (CB.new w _ _)) rfl ⟨rfl, bal w _⟩
   ·rw [if_neg (by omega)]
    have hd2 : decide (sz - 8 < off) = false := by simpa using hbig
    have hm4 : off % 8 = 0 := by rw [Int.tmod_eq_emod_of_nonneg (by omega)] at hm; exact hm
    have H0 := hi (show FP w g ys (w.alloc (.cells #[.int .i64 0, .int .i64 0, .int .i64 0] 70)) from ⟨CB.new w _ _, h.below (bal w _), bal w _⟩)
    have hw4 : IntKind.i64.wrap (off + 8) = off + 8 := by rw [IntKind.wrap_i64]; omega
    have hneg0 : 0 ≤ off := by omega
    have hoff : off ≤ 200000 := by omega
    have HW4 := hi hw4
    have HM4 := hi hm4
    clear hm h hneg hbig hw4
    go_enter Tryz.func83, Tryz.ntmps83
    go_wp2
    clear hws hd1 hd2 hq hm4
    go_loopw [39] (fun i wr => ∃ k : Nat, k ≤ ys.length ∧ i = .int .i64 k ∧ Hi (FP w g ys wr ∧ goP off 8 ys = goP off 8 (ys.drop k))) (fun i _ => ys.length - (intOf i).toNat)
    case atStart => exact ⟨0, Nat.zero_le _, rfl, hi ⟨H0.out, rfl⟩⟩
    case round =>
     obtain ⟨k, hk, rfl, HX⟩ := hrel
     clear H0
     by_cases hlt : k < ys.length
     ·have hok := nthP_ok hall hlt
      have HG := hi (HX.out.2.trans (by rw [dropP_nth hlt]))
      have HRC := hi (HX.out.1.row.prc (nthP_at (ys := ys) (k := k) hlt))
      obtain ⟨y, hy⟩ : ∃ y, nthP ys k = y := ⟨_, rfl⟩
      rw [hy] at hok HRC HG
      obtain ⟨d0, d1, d2, d3, d4, d5⟩ := HRC.out
      have HMT := hi (fun W => meetsP_any y off 8 W HW4.out)
      have HOK := hi hok
      have HX2 := hi (HX.out.1.later (bal wr (.cells y.ca 174)))
      clear hy hok HRC
      obtain ⟨b, hb⟩ : ∃ b, y.meets off 8 = b := ⟨_, rfl⟩
      rw [hb] at HMT
      have HB := hi hb
      clear hb
      have hk9 : (k : Int) < ys.length := by omega
      cases b
      ·have HG2 := hi (HG.out.trans (goP_no HB.out))
       obtain ⟨fr, to, ywd, r, n, f⟩ := y
       dsimp only [Pr.v] at HMT
       dsimp only at d0 d1 d2 d3 d4 d5
       go_wp2_with (go_at_call 118; ((with_reducible refine (HMT.out _).mono ?_); rintro e w1 ⟨rfl, hb1⟩; have HX3 := hi (HX2.out.later hb1); clear hb1))
       go_roundw
       case rel => exact ⟨k + 1, by omega, by go_num, hi ⟨HX3.out, HG2.out⟩⟩
       case measure => simp only [intOf]; omega
      ·by_cases hww : y.wd = 8
       ·have HG2 := hi (HG.out.trans (goP_yes HB.out hww))
        have hle : y.fr ≤ off := by
         have h3 := HOK.out
         have h4 := HB.out
         have hm4 := HM4.out
         simp only [prOk, Bool.and_eq_true, Bool.or_eq_true, decide_eq_true_eq, beq_iff_eq] at h3
         simp only [Pr.meets, Bool.and_eq_true, decide_eq_true_eq] at h4
         omega
        have HPL := hi (fun W => placeP_any y off W HOK.out hle hoff)
        obtain ⟨P, hP⟩ : ∃ P, y.place off = P := ⟨_, rfl⟩
        rw [hP] at HPL HG2
        clear hP hle HOK HB HG
        obtain ⟨fr, to, ywd, r, n, f⟩ := y
        obtain ⟨pr, pf, pc⟩ := P
        dsimp only at hww
        subst hww
        dsimp only [Pr.v, Pl.v] at HMT HPL
        dsimp only at d0 d1 d2 d3 d4 d5
        rw [HG2.out]
        go_wp2_with (first
         | (go_at_call 118; ((with_reducible refine (HMT.out _).mono ?_); rintro e w1 ⟨rfl, hb1⟩; have HX3 := hi (HX2.out.later hb1); have hr1 := (CB.new wr 174 (Pr.ca ⟨fr, to, 8, r, n, f⟩)).below hb1; have x0 := hr1.cell 0; have x1 := hr1.cell 1; have x2 := hr1.cell 2; have x3 := hr1.cell 3; have x4 := hr1.cell 4; have x5 := hr1.cell 5; have xl := hr1.lt; clear hb1 hr1))
         | (go_at_call 119; ((with_reducible refine (HPL.out _).mono ?_); rintro e w2 ⟨rfl, hb2⟩; have HX4 := hi (HX3.out.later hb2); have z0 := HX4.out.z.cell 0; have z1 := HX4.out.z.cell 1; have z2 := HX4.out.z.cell 2; have zf := HX4.out.z.frozen; clear hb2)))
        exact bodyPost_ret (results_pl rfl _ _ w.heap.size ⟨pr, pf, pc⟩ (.int .i64 0) rfl rfl (CB.put3 HX4.out.z _ _ _)) rfl ⟨rfl, below_put3 HX4.out.below (Nat.le_refl _) _ _ _⟩
       ·have HG2 := hi (HG.out.trans (goP_bad HB.out hww))
        clear HOK HB HG
        obtain ⟨fr, to, ywd, r, n, f⟩ := y
        dsimp only at hww
        have hwq : (ywd != 8) = true := by simpa using hww
        dsimp only [Pr.v] at HMT
        dsimp only at d0 d1 d2 d3 d4 d5
        clear hww
        rw [HG2.out]
        go_wp2_with (first
         | (go_at_call 118; ((with_reducible refine (HMT.out _).mono ?_); rintro e w1 ⟨rfl, hb1⟩; have HX3 := hi (HX2.out.later hb1); have hr1 := (CB.new wr 174 (Pr.ca ⟨fr, to, ywd, r, n, f⟩)).below hb1; have x2 := hr1.cell 2; have z0 := HX3.out.z.cell 0; have z1 := HX3.out.z.cell 1; have z2 := HX3.out.z.cell 2; have zf := HX3.out.z.frozen; clear hb1 hr1)))
        exact bodyPost_ret (results_pl rfl _ _ w.heap.size Pl.zero (.int .i64 40) rfl rfl (CB.put3 HX3.out.z _ _ _)) rfl ⟨rfl, below_put3 HX3.out.below (Nat.le_refl _) _ _ _⟩
     ·obtain rfl : k = ys.length := by omega
      have HG2 := hi (HX.out.2.trans (show goP off 8 (ys.drop ys.length) = (Pl.zero, 0) by rw [List.drop_length]; rfl))
      have z0 := HX.out.1.z.cell 0
      have z1 := HX.out.1.z.cell 1
      have z2 := HX.out.1.z.cell 2
      have zf := HX.out.1.z.frozen
      rw [HG2.out]
      go_wp2
      exact bodyPost_ret (results_pl rfl _ _ w.heap.size Pl.zero (.int .i64 0) rfl rfl (CB.put3 HX.out.1.z _ _ _)) rfl ⟨by rw [HG2.out], below_put3 HX.out.1.below (Nat.le_refl _) _ _ _⟩
 ·rw [if_pos hm]
  have hq : (off.tmod 8 != 0) = true := by simpa using hm
  clear hm h hall
  go_enter Tryz.func83, Tryz.ntmps83
  go_wp2
  exact bodyPost_ret (results_pl rfl _ _ w.heap.size Pl.zero (.int .i64 41) rfl rfl (CB.new w _ _)) rfl ⟨rfl, bal w _⟩
theorem decodeP_any (g cap : Nat) (ys : List Pr) (sz off wd : Int) (w : World) (h : Row w g 174 (flP ys)) (hall : ys.all prOk = true) (hn : ys.length ≤ 100) (hs0 : 8 ≤ sz) (hs1 : sz ≤ 200000) (ho : Int64 off) :
  Calls Tryz.prog 83 #[.slice (some ⟨g, 0, none⟩) ys.length cap, .int .i64 sz, .int .i64 off, .int .i64 wd] w (Finds w (decP ys sz off wd)) := by
 by_cases h4 : wd = 4
 ·subst h4; exact decodeP4_any g cap ys sz off w h hall hn hs0 hs1 ho
 by_cases h8 : wd = 8
 ·subst h8; exact decodeP8_any g cap ys sz off w h hall hn hs0 hs1 ho
 rw [decP, if_pos ⟨h4, h8⟩]
 have t4 : (wd != 4) = true := by simpa using h4
 have t8 : (wd != 8) = true := by simpa using h8
 clear h4 h8 h hall
 go_enter Tryz.func83, Tryz.ntmps83
 go_wp2
 exact bodyPost_ret (results_pl rfl _ _ w.heap.size Pl.zero (.int .i64 40) rfl rfl (CB.new w _ _)) rfl ⟨rfl, bal w _⟩
set_option maxHeartbeats 4000000 in
theorem distP_any (off wd : Int) (w : World) (ho : Int64 off) : Calls Tryz.prog 40 #[.int .i64 off, .int .i64 wd] w (Finds w (findV distRows 65536 off wd)) := by
 rw [← decP_same dist_same]
 have CD := hi (fun W => distRowsP_any W)
 have CF := hi (fun g cap W (h : Row W g 174 (flP distPr)) => decodeP_any g cap distPr 65536 off wd W h distPr_ok (by decide) (by decide) (by decide) ho)
 rw [show distPr.length = 12 from rfl] at CF
 have H0 := hi (CB.new w 70 #[.int .i64 0, .int .i64 0, .int .i64 0])
 have HB0 := hi (bal w (.cells #[.int .i64 0, .int .i64 0, .int .i64 0] 70))
 obtain ⟨R, hR⟩ : ∃ R, decP distPr 65536 off wd = R := ⟨_, rfl⟩
 rw [hR] at CF ⊢
 clear hR
 obtain ⟨⟨r, f, c⟩, er⟩ := R
 go_enter Tryz.func40, Tryz.ntmps40
 go_wp2_with (first
  | (go_at_call 84; ((with_reducible refine (CD.out _).mono ?_); rintro e w2 ⟨g, cap, rfl, hr2, hb2⟩; have HR := hi hr2; have HF2 := hi (show FZ w w2 from ⟨H0.out.below hb2, HB0.out.trans (hb2.mono HB0.out.size)⟩); clear hr2 hb2))
  | (go_at_call 83; ((with_reducible refine (CF.out _ _ _ HR.out).mono ?_); rintro e w3 ⟨rfl, hb3⟩; have HF3 := hi (HF2.out.later hb3); have z0 := HF3.out.z.cell 0; have z1 := HF3.out.z.cell 1; have z2 := HF3.out.z.cell 2; have zf := HF3.out.z.frozen; clear hb3)))
 exact bodyPost_ret (results_pl rfl _ _ w.heap.size ⟨r, f, c⟩ (.int .i64 er) rfl rfl (CB.put3 HF3.out.z _ _ _)) rfl ⟨rfl, below_put3 HF3.out.below (Nat.le_refl _) _ _ _⟩
end Go.Proofs.YtieedhdmpabfkaaGreat
