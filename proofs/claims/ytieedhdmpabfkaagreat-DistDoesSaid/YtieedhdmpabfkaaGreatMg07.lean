import Derived.Test.YtieedhdmpabfkaaGreatMg06
import Derived.Test.YtieedhdmpabfkaaGreatMg02
import Derived.Laws.OwnMore
import Derived.Laws.MakeOwn
import Derived.Maps.AppendAt
import Derived.Laws.AppendOwn
import Derived.Shelf.Abstract
set_option linter.unusedSimpArgs false
namespace Go.Proofs.YtieedhdmpabfkaaGreat
open Go.ChangeShapes Go.WideShapes Go.ChangeAt Go.RowKit Go.Shelf
set_option linter.unusedVariables false
attribute [local go_sem] Oper.semAt_some
theorem all_iter {lo hi' pf pb g cap : Nat} {f : Int} {es : List En} {W : World} (h : ItAt lo hi' W pf pb g cap f es) (hf : Fit f es.length) (hh : hi' ≤ W.heap.size) :
  Iter lo hi' 0 (.func (.func 137) #[] #[.pointer (some ⟨pb, 0, none⟩), .pointer (some ⟨pf, 0, none⟩)]) (items f es) W :=
 ⟨_, _, rfl, enters_of Tryz.func137 (by kernel_rfl) rfl, hh, fun W' hs hk l J Jx W2 hW hJ hJx hY h0 =>
  all1_any lo hi' l pf pb g cap f es J Jx W2 hJ hf ((h.heap hk).below hW) hY h0⟩
def Yields (w : World) (k : Nat) (xs : List It) (e : Ending) (w' : World) : Prop := ∃ fv, e = .returned fv ∧ Iter w.heap.size w'.heap.size k fv xs w' ∧ Below w.heap.size w w'
theorem all_it {b g cap : Nat} {f : Int} {es : List En} {w : World} (h : BkAt w b g cap f es) (hf : Fit f es.length) :
  Calls Tryz.prog 114 #[.pointer (some ⟨b, 0, none⟩)] w (Yields w 0 (items f es)) :=
 (all_any h hf).mono fun e w' ⟨pf, pb, g', cap', he, hA, hB⟩ => ⟨_, he, all_iter hA hf (Nat.le_refl _), hB⟩
theorem noFn : ∀ (f : FuncId), none = some f → Fence.wide.fn f := fun _ h => by cases h
end Go.Proofs.YtieedhdmpabfkaaGreat
namespace Go.Proofs.YtieedhdmpabfkaaGreat
open Go.ChangeShapes Go.WideShapes Go.ChangeAt Go.RowKit Go.Shelf
set_option linter.unusedVariables false
attribute [local go_sem] Oper.semAt_some
theorem run_copy_K {P : Program} (w : World) (dT sT ty elem : TypeId) (b o dLen dCap : Nat) (a : Addr) (sLen sCap : Nat) (cs : List Value) (m K : Nat)
  (hu : P.underlying dT = some (.slice elem)) (hs : (P.info? elem).map (·.size) = some K) (hm : Nat.min sLen dLen = m) (hn : cs.length = m * K)
  (hsrc : ∀ j v, cs[j]? = some v → w.cell? (a.add j) = some v) (ht : w.there b o cs.length) (h1 : ∀ v ∈ cs, v.oneCell' = true) :
  (Builtin.copy_ #[dT, sT] ty #[.slice (some ⟨b, o, none⟩) dLen dCap, .slice (some a) sLen sCap]).run P w = .ok (goInt m) (w.setCells b o cs) := by
 have hl := run_loadCells_list (P := P) w a cs hsrc
 have hst := run_storeCells_cells (P := P) b o cs 0 w (fun j hj => by simpa using (ht j hj).1) (fun j hj => by simpa using (ht j hj).2) h1
 cases hq : P.info? elem with
 | none => simp [hq] at hs
 | some i =>
  have hi : i.size = K := by simpa [hq] using hs
  subst hi
  have hl' : (loadCells a (m * i.size)).run P w = .ok cs.toArray w := by rw [← hn]; exact hl
  have hst' : (storeCells ⟨b, o, none⟩ cs 0).run P w = .ok () (w.setCells b o cs) := by simpa using hst
  simp [Builtin.copy_, run_underlying hu, Builtin.lenOf, Builtin.firstCells, sizeOf, typeInfo, hq, hm, hl', hst']
theorem run_copy_zero {P : Program} (w : World) (dT sT ty elem : TypeId) (d a : Option Addr) (dLen dCap sLen sCap K : Nat) (hu : P.underlying dT = some (.slice elem)) (hs : (P.info? elem).map (·.size) = some K) (hn : Nat.min sLen dLen = 0) :
  (Builtin.copy_ #[dT, sT] ty #[.slice d dLen dCap, .slice a sLen sCap]).run P w = .ok (goInt 0) w := by
 cases hq : P.info? elem with
 | none => simp [hq] at hs
 | some i =>
  have hl : ∀ (x : Addr), (loadCells x 0).run P w = .ok #[] w := fun x => by simpa using run_loadCells_list (P := P) w x [] (by simp)
  cases d <;> cases a <;> simp [Builtin.copy_, run_underlying hu, Builtin.lenOf, Builtin.firstCells, sizeOf, typeInfo, hq, hn, storeCells, hl]
theorem wp_copy_run {P : Program} {o : Oper} {a : Act} {w w' : World} {K : Act → World → Prop} {Q : Exit → Act → World → Prop} (d s : Operand) (dT sT : TypeId) (dv sv r : Value)
  (ho : o.op = .call { callee := .builtin .copy, args := #[d, s], argTypes := #[dT, sT] }) (hd : a.eval d = dv) (hs : a.eval s = sv)
  (hr : (Builtin.copy_ #[dT, sT] o.type #[dv, sv]).run P w = .ok r w') (h : K (a.put o.dst r) w') : o.wp P a w K Q := by
 unfold Oper.wp execOp
 simp only [ho, resolve, invoke, builtin, Sem.run_bind, Sem.run_pure, Result.andThen_ok, List.map_toArray, List.map_cons, List.map_nil, hd, hs, hr]
 exact h
theorem and32 (n : Nat) (hn : n ≤ 16384) : bits .and .u64 (n : Int) 4294967295 = (n : Int) := by
 show IntKind.u64.wrap ((BitVec.ofInt 64 (n : Int) &&& BitVec.ofInt 64 4294967295).toNat : Int) = _
 have e : (BitVec.ofInt 64 (n : Int) &&& BitVec.ofInt 64 4294967295).toNat = n := by
  rw [BitVec.toNat_and, BitVec.ofInt_natCast, BitVec.toNat_ofNat, Nat.mod_eq_of_lt (show n < 2 ^ 64 by omega), show (BitVec.ofInt 64 4294967295).toNat = 2 ^ 32 - 1 from rfl, Nat.and_two_pow_sub_one_eq_mod]
  omega
 rw [e]
 have : IntKind.u64.wrap (n : Int) = (n : Int) % 18446744073709551616 := rfl
 omega
set_option maxHeartbeats 2000000 in
theorem mul_one_any (n : Nat) (hn : n ≤ 16384) (w : World) : Calls Tryz.prog 145 #[.int .u64 1, .int .u64 n] w fun e w' => e = .returned (.tuple #[.int .u64 0, .int .u64 n]) ∧ w = w' := by
 have h1 := and32 n hn
 have h0 : bits .and .u64 1 4294967295 = 1 := and32 1 (by decide)
 have h2 : bits .and .u64 0 4294967295 = 0 := and32 0 (by decide)
 have hd : (n : Int) / 4294967296 = 0 := by omega
 go_enter Tryz.func145, Tryz.ntmps145
 go_wp2
 go_ret2
 exact ⟨rfl, rfl⟩
theorem mul_any (n : Nat) (hn : n ≤ 16384) (w : World) : Calls Tryz.prog 134 #[.int .u64 1, .int .u64 n] w fun e w' => e = .returned (.tuple #[.int .u64 0, .int .u64 n]) ∧ w = w' := by
 go_enter Tryz.func134, Tryz.ntmps134
 go_wp2_with (go_at_call 145; ((with_reducible refine (mul_one_any n hn _).mono ?_); rintro e w1 ⟨rfl, rfl⟩))
 go_ret2
 exact ⟨rfl, rfl⟩
theorem splice_many {α : Type} {enc : α → List Value} {m : Nat} (hm : ∀ x, (enc x).length = m) (A Z M : List α) : splice (flat enc (A ++ Z)) (A.length * m) (flat enc M) = flat enc (A ++ (M ++ Z.drop M.length)) := by
 have hA : (flat enc A).length = A.length * m := flat_len hm A
 have h1 := splice_right (flat enc A) (flat enc Z) 0 (flat enc M)
 rw [Nat.add_zero, hA] at h1
 rw [flat_append, h1, flat_append, flat_append]
 congr 1
 simp only [splice, List.take_zero, List.nil_append, Nat.zero_add]
 congr 1
 rw [flat_len hm]
 by_cases hz : M.length ≤ Z.length
 ·have e : Z = Z.take M.length ++ Z.drop M.length := (List.take_append_drop _ _).symm
  have hl : (flat enc (Z.take M.length)).length = M.length * m := by rw [flat_len hm, List.length_take, Nat.min_eq_left hz]
  conv => lhs; rw [e, flat_append, ← hl, List.drop_left']
 ·rw [List.drop_eq_nil_of_le (by rw [flat_len hm]; exact Nat.mul_le_mul_right _ (by omega)), List.drop_eq_nil_of_le (by omega)]
  rfl
def fillE (x : En) (n c : Nat) : List En := List.replicate c x ++ List.replicate (n - c) En.zero
theorem fillE_len {x : En} {n c : Nat} (h : c ≤ n) : (fillE x n c).length = n := by simp [fillE]; omega
theorem fillE_more {x : En} {n c m : Nat} (h : c + m ≤ n) : splice (flE (fillE x n c)) (c * 9) (flE (List.replicate m x)) = flE (fillE x n (c + m)) := by
 have h1 := splice_many en_len (List.replicate c x) (List.replicate (n - c) En.zero) (List.replicate m x)
 rw [List.length_replicate, List.length_replicate] at h1
 rw [flE, fillE, h1, fillE]
 congr 1
 rw [← List.append_assoc, List.replicate_append_replicate, List.drop_replicate, show n - c - m = n - (c + m) by omega]
theorem fillE_all (x : En) (n : Nat) : fillE x n n = List.replicate n x := by simp [fillE]
theorem made_en (x : En) (n : Nat) : flE (fillE x n 0) = flE (List.replicate n En.zero) := by simp [fillE]
theorem madeE (n : Nat) : (madeCells #[.bool false, .bool false, .bool false, .bool false, .bool false, .int .i64 0, .int .i64 0, .int .i64 0, .bool false] (n * 9)).toList = flE (List.replicate n En.zero) := by
 apply List.ext_getElem?
 intro i
 by_cases hi' : i < n * 9
 ·have h1 : i = i / 9 * 9 + i % 9 := by omega
  have h2 := flat_get en_len (List.replicate n En.zero) (i / 9) (i % 9) En.zero (Nat.mod_lt _ (by omega)) (by rw [List.getElem?_replicate, if_pos (by omega)])
  rw [← h1] at h2
  rw [flE, h2]
  simp only [madeCells, Array.toList_map, List.getElem?_map, Array.toList_range, List.getElem?_range hi', Option.map_some]
  have h8 : i % 9 < 9 := Nat.mod_lt _ (by omega)
  show some ((#[.bool false, .bool false, .bool false, .bool false, .bool false, .int .i64 0, .int .i64 0, .int .i64 0, .bool false] : Array Value)[i % 9]!) = _
  generalize i % 9 = r at h8
  match r, h8 with
  | 0, _ => rfl
  | 1, _ => rfl
  | 2, _ => rfl
  | 3, _ => rfl
  | 4, _ => rfl
  | 5, _ => rfl
  | 6, _ => rfl
  | 7, _ => rfl
  | 8, _ => rfl
 ·rw [List.getElem?_eq_none (by rw [Array.length_toList, size_madeCells]; omega), List.getElem?_eq_none (by rw [flE_len, List.length_replicate]; omega)]
structure RK (w : World) (gi n c : Nat) (x : En) (W : World) : Prop where
 below : Below w.heap.size w W
 row : Row W gi 115 (flE (fillE x n c))
 lo : w.heap.size ≤ gi
 c1 : 1 ≤ c
theorem RK.step {w : World} {gi n c m : Nat} {x : En} {W : World} (h : RK w gi n c x W) (hm : c + m ≤ n) : RK w gi n (c + m) x (W.setCells gi (c * 9) (flE (List.replicate m x))) := by
 refine ⟨h.below.trans ?_, ?_, h.lo, by have := h.c1; omega⟩
 ·exact (kept_sets (bs := (· = gi)) (b := gi) rfl _ _ (Kept.refl (· = gi) W)).toBelow h.below.size (fun i e => by subst e; exact h.lo)
 ·rw [← fillE_more hm]
  exact h.row.sets _ _ (by rw [flE_len, flE_len, fillE_len (by omega), List.length_replicate]; omega)
def Rep (w : World) (n : Nat) (x : En) (e : Ending) (w' : World) : Prop := ∃ g', e = .returned (.slice (some ⟨g', 0, none⟩) n n) ∧ w.heap.size ≤ g' ∧ Row w' g' 115 (flE (List.replicate n x)) ∧ Below w.heap.size w w'
set_option maxRecDepth 100000 in
set_option maxHeartbeats 4000000 in
theorem repeat_any (g cap n : Nat) (x : En) (w : World) (hx : EnC w g 0 x) (hg : g < w.heap.size) (hn : n ≤ 16384) :
  Calls Tryz.prog 102 #[.slice (some ⟨g, 0, none⟩) 1 cap, .int .i64 n] w (Rep w n x) := by
 obtain ⟨i0, hi2, hz0, hz1, hz2⟩ := info_parts info_en
 have HM := hi (fun W => mul_any n hn W)
 have hmk : ∀ W : World, (Instr.makeSlice 130 (.int .i64 (n : Int)) (.int .i64 (n : Int))).run Tryz.prog W = .ok (.slice (some ⟨W.heap.size, 0, none⟩) n n) (W.alloc (.cells (madeCells #[.bool false, .bool false, .bool false, .bool false, .bool false, .int .i64 0, .int .i64 0, .int .i64 0, .bool false] (n * 9)) 115)) := fun W => by
  have h1 := run_make (P := Tryz.prog) W 130 115 i0 _ Tryz.underlying130 hi2 hz0 .i64 .i64 n n (by omega) (Int.le_refl _) (by rw [hz2]; omega) (by omega)
  rw [hz1] at h1
  simpa [Value.cells] using h1
 by_cases hn0 : n = 0
 ·subst hn0
  have hmk0 : ∀ W : World, (Instr.makeSlice 130 (.int .i64 0) (.int .i64 0)).run Tryz.prog W = .ok (.slice (some ⟨W.heap.size, 0, none⟩) 0 0) (W.alloc (.cells (madeCells #[.bool false, .bool false, .bool false, .bool false, .bool false, .int .i64 0, .int .i64 0, .int .i64 0, .bool false] 0) 115)) := fun W => hmk W
  have HM0 := hi (show ∀ W, Calls Tryz.prog 134 #[.int .u64 1, .int .u64 0] W fun e w' => e = .returned (.tuple #[.int .u64 0, .int .u64 0]) ∧ W = w' from HM.out)
  have hr0 : (⟨0, 0⟩ : Nat × Nat) = (0, 0) := rfl
  clear hmk HM
  show Calls Tryz.prog 102 #[.slice (some ⟨g, 0, none⟩) 1 cap, .int .i64 0] w (Rep w 0 x)
  go_enter Tryz.func102, Tryz.ntmps102
  go_wp2_with (first
   | (go_at_call 134; ((with_reducible refine (HM0.out _).mono ?_); rintro e w1 ⟨rfl, rfl⟩))
   | (refine wpList_plain rfl fun K hK => ?_; refine wp_copy_run (.tmp 31) (.tmp 32) 130 130 _ _ _ rfl rfl rfl (run_copy_zero (K := 9) _ _ _ _ 115 _ _ _ _ _ _ Tryz.underlying130 size_en rfl) (hK _ _ ?_)))
  obtain ⟨W1, hW1⟩ : ∃ W1, w.alloc (.cells (madeCells #[.bool false, .bool false, .bool false, .bool false, .bool false, .int .i64 0, .int .i64 0, .int .i64 0, .bool false] 0) 115) = W1 := ⟨_, rfl⟩
  have hEnd : Row W1 w.heap.size 115 (flE (List.replicate 0 x)) ∧ Below w.heap.size w W1 := by rw [← hW1]; exact ⟨⟨_, CB.new w _ _, by simp [flE, flat]⟩, bal w _⟩
  rw [hW1]
  clear hW1
  go_loopw [8] (fun i wr => i = .int .i64 0 ∧ wr = W1) (fun _ _ => 0)
  case atStart => exact ⟨rfl, rfl⟩
  case round =>
   obtain ⟨rfl, rfl⟩ := hrel
   go_wp2
   go_ret
   exact ⟨_, rfl, Nat.le_refl _, hEnd.1, hEnd.2⟩
 ·have hCP := hi (fun W (hW : Below w.heap.size w W) => (hx.heap (hW.block g hg)))
  have hXC := hi (fun W (hW : EnC W g 0 x) (j : Nat) (v : Value) (hv : x.cs[j]? = some v) => show W.cell? ((⟨g, 0, none⟩ : Addr).add j) = some v by
   rw [addr_add]
   have hj : j < 9 := by have := (List.getElem?_eq_some_iff.1 hv).1; rwa [en_len] at this
   obtain ⟨e0, e1, e2, e3, e4, e5, e6, e7, e8⟩ := hW
   match j, hj, hv with
   | 0, _, hv => simp only [En.cs, List.getElem?_cons_zero, Option.some.injEq] at hv; rw [← hv]; exact e0
   | 1, _, hv => simp only [En.cs, List.getElem?_cons_zero, List.getElem?_cons_succ, Option.some.injEq] at hv; rw [← hv]; exact e1
   | 2, _, hv => simp only [En.cs, List.getElem?_cons_zero, List.getElem?_cons_succ, Option.some.injEq] at hv; rw [← hv]; exact e2
   | 3, _, hv => simp only [En.cs, List.getElem?_cons_zero, List.getElem?_cons_succ, Option.some.injEq] at hv; rw [← hv]; exact e3
   | 4, _, hv => simp only [En.cs, List.getElem?_cons_zero, List.getElem?_cons_succ, Option.some.injEq] at hv; rw [← hv]; exact e4
   | 5, _, hv => simp only [En.cs, List.getElem?_cons_zero, List.getElem?_cons_succ, Option.some.injEq] at hv; rw [← hv]; exact e5
   | 6, _, hv => simp only [En.cs, List.getElem?_cons_zero, List.getElem?_cons_succ, Option.some.injEq] at hv; rw [← hv]; exact e6
   | 7, _, hv => simp only [En.cs, List.getElem?_cons_zero, List.getElem?_cons_succ, Option.some.injEq] at hv; rw [← hv]; exact e7
   | 8, _, hv => simp only [En.cs, List.getElem?_cons_zero, List.getElem?_cons_succ, Option.some.injEq] at hv; rw [← hv]; exact e8)
  have hm1 : Nat.min 1 n = 1 := Nat.min_eq_left (by omega)
  have hRow0 := hi (show Row (w.alloc (.cells (madeCells #[.bool false, .bool false, .bool false, .bool false, .bool false, .int .i64 0, .int .i64 0, .int .i64 0, .bool false] (n * 9)) 115)) w.heap.size 115 (flE (fillE x n 0)) from ⟨_, CB.new w _ _, by rw [madeE, made_en]; exact List.prefix_rfl⟩)
  have hTH := hi (show World.there (w.alloc (.cells (madeCells #[.bool false, .bool false, .bool false, .bool false, .bool false, .int .i64 0, .int .i64 0, .int .i64 0, .bool false] (n * 9)) 115)) w.heap.size 0 x.cs.length from hRow0.out.there (by rw [flE_len, fillE_len (by omega), en_len]; omega))
  have hRK := hi (show RK w w.heap.size n 1 x ((w.alloc (.cells (madeCells #[.bool false, .bool false, .bool false, .bool false, .bool false, .int .i64 0, .int .i64 0, .int .i64 0, .bool false] (n * 9)) 115)).setCells w.heap.size 0 x.cs) from
   ⟨(bal w _).trans ((kept_sets (bs := (· = w.heap.size)) (b := w.heap.size) rfl _ _ (Kept.refl (· = w.heap.size) _)).toBelow (bal w _).size (fun i e => by subst e; exact Nat.le_refl _)), by
    have h1 := fillE_more (x := x) (n := n) (c := 0) (m := 1) (by omega)
    have h2 := hRow0.out.sets x.cs 0 (by rw [flE_len, fillE_len (by omega), en_len]; omega)
    rw [show flE (List.replicate 1 x) = x.cs by simp [flE, flat], Nat.zero_mul] at h1
    rw [h1] at h2
    exact h2, Nat.le_refl _, Nat.le_refl _⟩)
  obtain ⟨W1, hW1⟩ : ∃ W1, w.alloc (.cells (madeCells #[.bool false, .bool false, .bool false, .bool false, .bool false, .int .i64 0, .int .i64 0, .int .i64 0, .bool false] (n * 9)) 115) = W1 := ⟨_, rfl⟩
  have hE1 := hi (show EnC W1 g 0 x by rw [← hW1]; exact hCP.out _ (bal w _))
  have hmkw := hmk w
  rw [hW1] at hTH hRK hRow0 hmkw
  clear hW1 hmk
  go_enter Tryz.func102, Tryz.ntmps102
  go_wp2_with (first
   | (go_at_call 134; ((with_reducible refine (HM.out _).mono ?_); rintro e w1 ⟨rfl, rfl⟩))
   | (refine wpList_plain rfl fun K hK => ?_; refine wp_copy_run (.tmp 31) (.tmp 32) 130 130 _ _ _ rfl rfl rfl (run_copy_K W1 _ _ _ 115 w.heap.size 0 n n ⟨g, 0, none⟩ 1 cap x.cs 1 9 Tryz.underlying130 size_en hm1 (by rw [en_len]) (hXC.out _ hE1.out) hTH.out (en_one x)) (hK _ _ ?_)))
  clear hTH hRow0 hE1 hmkw HM hCP hXC
  go_loopw [8] (fun i wr => ∃ c : Nat, c ≤ n ∧ i = .int .i64 c ∧ Hi (RK w w.heap.size n c x wr)) (fun i _ => n - (intOf i).toNat)
  case atStart => exact ⟨1, by omega, rfl, hRK⟩
  case round =>
   obtain ⟨c, hc, rfl, HX⟩ := hrel
   clear hRK
   by_cases hlt : c < n
   ·obtain ⟨m, hm⟩ : ∃ m, Nat.min c (n - c) = m := ⟨_, rfl⟩
    have hc1 := HX.out.c1
    have hm1 : 1 ≤ m ∧ m ≤ c ∧ c + m ≤ n := by rw [← hm]; simp only [Nat.min_def]; split <;> omega
    obtain ⟨hm2, hm3, hm4⟩ := hm1
    have hmm : Nat.min c (n - c) = m := hm
    have hsrc : ∀ (j : Nat) (v : Value), (flE (List.replicate m x))[j]? = some v → wr.drew.cell? ((⟨w.heap.size, 0, none⟩ : Addr).add j) = some v := fun j v hv => by
     have hj : j < m * 9 := by have := (List.getElem?_eq_some_iff.1 hv).1; rwa [flE_len, List.length_replicate] at this
     rw [addr_add, Nat.zero_add]
     show wr.cell? _ = _
     rw [HX.out.row.cell (by rw [flE_len, fillE_len hc]; omega)]
     have h1 : j = j / 9 * 9 + j % 9 := by omega
     have h8 : j % 9 < 9 := Nat.mod_lt _ (by omega)
     have e1 : (List.replicate m x)[j / 9]? = some x := by rw [List.getElem?_replicate, if_pos (by omega)]
     have e2 : (fillE x n c)[j / 9]? = some x := by rw [fillE, List.getElem?_append_left (by simp; omega), List.getElem?_replicate, if_pos (by omega)]
     rw [h1, flE, flat_get en_len _ _ _ _ h8 e1] at hv
     rw [h1, flE, flat_get en_len _ _ _ _ h8 e2]
     exact hv
    have hth : wr.drew.there w.heap.size (c * 9) (flE (List.replicate m x)).length := HX.out.row.there (by rw [flE_len, flE_len, fillE_len hc, List.length_replicate]; omega)
    have hwc : IntKind.i64.wrap ((c : Int) + (m : Int)) = ((c + m : Nat) : Int) := by rw [IntKind.wrap_i64]; omega
    have HN2 := hi (show RK w w.heap.size n (c + m) x (wr.drew.setCells w.heap.size (c * 9) (flE (List.replicate m x))) from (show RK w w.heap.size n c x wr.drew from ⟨Below.drewN (m := 1) HX.out.below, HX.out.row, HX.out.lo, HX.out.c1⟩).step hm4)
    have hncf : ¬ n = c := by omega
    clear hm
    go_wp2
    refine wp_region_noPanic ?_
    refine wp_region_held_drew (S := fun _ => True) (by kernel_rfl) trivial (fun hHeld => ?_)
    (try simp only [r1, r2, r3, r4, r5])
    refine wpAnyH_take (i := 0) (v := ?_) rfl (by kernel_rfl) (by kernel_rfl) (by kernel_rfl) (fun _ _ _ h => h) (Or.inl ⟨by rfl, ?_⟩) (by assumption) ?_
    rotate_left
    ·intro w' hSw; (try clear hSw); go_simp; (try with_reducible rfl)
    (try simp only [Act.put, n1, n2, n4, n5, n6])
    refine wpAnyH_take (i := 1) (v := ?_) rfl (by kernel_rfl) (by kernel_rfl) (by kernel_rfl) (fun _ _ _ h => h) (Or.inl ⟨by rfl, ?_⟩) (by assumption) ?_
    rotate_left
    ·intro w' hSw; (try clear hSw); go_simp; (try with_reducible rfl)
    (try simp only [Act.put, n1, n2, n3, n4, n5, n6])
    refine wpAnyH_take (i := 2) (v := ?_) rfl (by kernel_rfl) (by kernel_rfl) (by kernel_rfl) (fun _ _ _ h => h) (Or.inl ⟨by rfl, ?_⟩) (by assumption) ?_
    rotate_left
    ·intro w' hSw; (try clear hSw); go_simp; (try with_reducible rfl)
    (try simp only [Act.put, n1, n2, n3, n4, n5, n6])
    refine wpAnyH_take (i := 3) (v := ?_) rfl (by kernel_rfl) (by kernel_rfl) (by kernel_rfl) (fun _ _ _ h => h) (Or.inl ⟨by rfl, ?_⟩) (by assumption) ?_
    rotate_left
    ·intro w' hSw; (try clear hSw); go_simp; (try with_reducible rfl)
    (try simp only [Act.put, n1, n2, n3, n4, n5, n6])
    refine wpAnyH_take (i := 4) (v := ?_) rfl (by kernel_rfl) (by kernel_rfl) (by kernel_rfl) (fun _ _ _ h => h) (Or.inl ⟨by rfl, ?_⟩) (by assumption) ?_
    rotate_left
    ·intro w' hSw; (try clear hSw); go_simp; (try with_reducible rfl)
    (try simp only [Act.put, n1, n2, n3, n4, n5, n6])
    refine wpAnyH_take (i := 5) (v := ?_) rfl (by kernel_rfl) (by kernel_rfl) (by kernel_rfl) (fun _ _ _ h => h) (Or.inl ⟨by rfl, ?_⟩) (by assumption) ?_
    rotate_left
    ·intro w' hSw; (try clear hSw); go_simp; (try with_reducible rfl)
    (try simp only [Act.put, n1, n2, n3, n4, n5, n6])
    refine wpAnyH_take (i := 6) (v := ?_) rfl (by kernel_rfl) (by kernel_rfl) (by kernel_rfl) (fun _ _ _ h => h) (Or.inl ⟨by rfl, ?_⟩) (by assumption) ?_
    rotate_left
    ·intro w' hSw; (try clear hSw); go_simp; (try with_reducible rfl)
    (try simp only [Act.put, n1, n2, n3, n4, n5, n6])
    refine wpAnyH_ready (rs := [7]) (by kernel_rfl) (by simp) ?_
    refine AllReadyH.cons rfl (fun KK hKK => ?_) AllReadyH.nil
    rw [if_pos (by rfl)]
    refine wp_copy_run (.tmp 41) (.tmp 44) 130 130 (.slice (some ⟨w.heap.size, c * 9, none⟩) (n - c) (n - c)) (.slice (some ⟨w.heap.size, 0, none⟩) c n) (goInt m) rfl rfl rfl (run_copy_K wr.drew _ _ _ 115 w.heap.size (c * 9) (n - c) (n - c) ⟨w.heap.size, 0, none⟩ c n (flE (List.replicate m x)) m 9 Tryz.underlying130 size_en hmm (by rw [flE_len, List.length_replicate]) hsrc hth (flat_one_cell en_one _)) ?_
    refine hKK.out _ _ trivial (fun hHeld => ?_)
    clear hKK KK
    (try simp only [Act.put, n1, n2, n3, n4, n5, n6])
    refine wpAnyH_take (i := 8) (v := ?_) rfl (by kernel_rfl) (by kernel_rfl) (by kernel_rfl) (fun _ _ _ h => h) (Or.inl ⟨by rfl, ?_⟩) (by assumption) ?_
    rotate_left
    ·intro w' hSw; (try clear hSw); go_simp; (try with_reducible rfl)
    (try simp only [Act.put, n1, n2, n3, n4, n5, n6])
    refine wpAnyH_take (i := 9) (v := ?_) rfl (by kernel_rfl) (by kernel_rfl) (by kernel_rfl) (fun _ _ _ h => h) (Or.inl ⟨by rfl, ?_⟩) (by assumption) ?_
    rotate_left
    ·intro w' hSw; (try clear hSw); go_simp; (try with_reducible rfl)
    (try simp only [Act.put, n1, n2, n3, n4, n5, n6])
    refine wpAnyH_done (by kernel_rfl) ?_ _
    refine NoPanic.normal ?_
    go_wp2
    go_roundw
    case rel => exact ⟨c + m, hm4, by go_num, HN2⟩
    case measure => simp only [intOf]; omega
   ·obtain rfl : c = n := by omega
    go_wp2
    go_ret
    have hrow := HX.out.row
    rw [fillE_all] at hrow
    exact ⟨_, rfl, HX.out.lo, hrow, HX.out.below⟩
end Go.Proofs.YtieedhdmpabfkaaGreat
namespace Go.Proofs.YtieedhdmpabfkaaGreat
open Go.ChangeShapes Go.WideShapes Go.ChangeAt Go.RowKit Go.Shelf
set_option linter.unusedVariables false
attribute [local go_sem] Oper.semAt_some
def NewOk (f n : Int) : Prop := 0 ≤ f ∧ 0 ≤ n ∧ f + n ≤ 16384
def fresh (n : Nat) (s : Rt) : List En := List.replicate n ⟨Ln.zero, s⟩
def Made (w : World) (f : Int) (n : Nat) (s : Rt) (e : Ending) (w' : World) : Prop :=
 ∃ b g, e = .returned (.tuple #[.pointer (some ⟨b, 0, none⟩), .int .i64 0]) ∧ w.heap.size ≤ b ∧ w.heap.size ≤ g ∧ BkAt w' b g n f (fresh n s) ∧ Below w.heap.size w w'
set_option maxHeartbeats 2000000 in
theorem new_yes (f : Int) (n : Nat) (s : Rt) (w : World) (h : NewOk f n) :
  Calls Tryz.prog 63 #[.int .i64 f, .int .i64 n, s.v] w (Made w f n s) := by
 obtain ⟨f1, n1, hs⟩ := h
 have hd1 : decide (f < 0) = false := by simp; omega
 have hd2 : decide ((n : Int) < 0) = false := by simp
 have hw : IntKind.i64.wrap (16384 - f) = 16384 - f := by rw [IntKind.wrap_i64]; omega
 have h3 : decide (16384 - f < (n : Int)) = false := by simp; omega
 have HR := hi (repeat_any (w.heap.size + 1) 1 n ⟨Ln.zero, s⟩ ((w.alloc (.cells #[.int .i64 s.c, .bool s.y] 89)).alloc (.cells (En.ca ⟨Ln.zero, s⟩) 115)) (CB.ent cb_second) (by simp) (by omega))
 dsimp only [En.ca, Ln.zero, St.zero] at HR
 go_enter Tryz.func63, Tryz.ntmps63
 go_wp2_with (go_at_call 102; ((with_reducible refine HR.out.mono ?_); rintro e w1 ⟨g', rfl, hg, hr, hb⟩; have HG := hi hg; have HRR := hi hr; have HB := hi hb; clear hg hr hb))
 go_ret2
 have hB : Below w.heap.size w w1 := (bal_two w _ _).trans (HB.out.mono (bal_two w _ _).size)
 have hg := HG.out
 rw [World.size_alloc, World.size_alloc] at hg
 have hgl := HRR.out.lt
 refine ⟨w1.heap.size, g', rfl, hB.size, by omega, ⟨?_, HRR.out.below (bal _ _), by omega⟩, hB.alloc hB.size _⟩
 rw [show (fresh n s).length = n by simp [fresh]]
 exact CB.new _ _ _
end Go.Proofs.YtieedhdmpabfkaaGreat
namespace Go.Proofs.YtieedhdmpabfkaaGreat
open Go.ChangeShapes Go.WideShapes Go.ChangeAt Go.RowKit Go.Shelf
set_option linter.unusedVariables false
attribute [local go_sem] Oper.semAt_some
theorem own_slice {W : World} {base sz : Nat} {te : TypeId} {v : Value} {n : Nat} {cs : List Value} (h : W.ownsRow base te sz v n cs) : ∃ a c, v = .slice a n c := by
 rcases h.2 with ⟨rfl, h0⟩ | ⟨g, cap, cur, rfl, _⟩
 ·exact ⟨_, _, by rw [h0]⟩
 ·exact ⟨_, _, rfl⟩
theorem own_base {W : World} {base base' sz : Nat} {te : TypeId} {v : Value} {n : Nat} {cs : List Value} (h : W.ownsRow base te sz v n cs) (hb : base' ≤ base) : W.ownsRow base' te sz v n cs := by
 rcases h with ⟨h0, h1 | ⟨g, cap, cur, e, hg, rest⟩⟩
 ·exact ⟨h0, .inl h1⟩
 ·exact ⟨h0, .inr ⟨g, cap, cur, e, Nat.le_trans hb hg, rest⟩⟩
theorem below_put {n : Nat} {w W : World} (h : Below n w W) {l : Nat} (o : Obj) (hn : n ≤ W.heap.size) (hl : n ≤ l) : Below n w (W.putObj l o) :=
 h.trans ⟨rfl, rfl, rfl, by simp, fun i hi' => World.putObj_heap_other (by omega)⟩
theorem kpx_put {lo hi k B : Nat} {W : World} {l : Nat} {o' : Obj} (h1 : hi ≤ l) (h2 : l < B) : KpX lo hi k B W (W.putObj l o') := ⟨by simp, fun i q => World.putObj_heap_other (by omega)⟩
theorem kpx_set {lo hi k B : Nat} {W : World} {b o : Nat} {v : Value} (h1 : hi ≤ b ∨ b < lo) (h2 : b < B) : KpX lo hi k B W (W.setCell ⟨b, o, none⟩ v) := ⟨by simp, fun i q => Below.heap_setCell W ⟨b, o, none⟩ v i (show i ≠ b by omega)⟩
theorem results_cellb {fn : Func} {c : Tmp} (h : fn.results = #[.cell c 4]) (tmps : Array Value) (w : World) (b : Nat) (v : Bool) (hp : tmps.getD c undef = .pointer (some ⟨b, 0, none⟩)) (hb : CB w b 4 #[.bool v]) : (results fn tmps).run Tryz.prog w = .ok (.bool v) w := by
 have hp' : tmps[c]?.getD undef = .pointer (some ⟨b, 0, none⟩) := by simpa using hp
 have c0 := hb.cell 0
 simp at c0
 simp [results, h, go_sem, hp', c0]
theorem CB.keptB {W W' : World} {B : Nat} {t : TypeId} {cs : Array Value} {bs : Nat → Prop} (h : CB W B t cs) (k : Kept bs W W') (hn : ¬ bs B) : CB W' B t cs := h.heap (k.block B h.lt hn)
end Go.Proofs.YtieedhdmpabfkaaGreat
