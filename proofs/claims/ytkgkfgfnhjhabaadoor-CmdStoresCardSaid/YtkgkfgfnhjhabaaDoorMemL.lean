/-
  The law's acts, by the program: an append onto nothing; Does at every act; New.
-/
import Derived.Test.YtkgkfgfnhjhabaaDoorMemI
import Derived.Deep.OwnRows
namespace Go.Proofs.YtkgkfgfnhjhabaaDoor
open Go.ChangeShapes Go.WideShapes Go.ChangeAt Go.RowKit
set_option linter.unusedVariables false
set_option linter.unusedSimpArgs false

/-- What an append onto nothing makes. -/
def OwnN (W : World) (base : Nat) (v : Value) (ys : List Nat) : Prop := (v = .slice none 0 0 ∧ ys = []) ∨ ∃ g, OwnB W base g v ys
theorem OwnN.bytesIn {W : World} {base : Nat} {v : Value} {ys : List Nat} (h : OwnN W base v ys) : BytesIn W v ys := by
  rcases h with ⟨rfl, rfl⟩ | ⟨g, h⟩
  · exact ⟨none, 0, rfl, Nat.le_refl _, (fun x hx => by simp at hx), fun h => absurd rfl h⟩
  · exact h.bytesIn

theorem run_append_nil8 (w : World) (c : Nat) (ty : TypeId) : (Builtin.append_ #[48, 48] ty #[.slice none 0 0, .slice none 0 c]).run Tryd.prog w = .ok (.slice none 0 0) w := by
  obtain ⟨i0, hi, hz0, hz1, hz2⟩ := info_parts info_u8
  simp [Builtin.append_, run_underlying Tryd.underlying48, sizeOf, typeInfo, hi, Builtin.lenOf, Builtin.firstCells, go_sem]

theorem wpList_append_bytes {ops : Array Oper} {rest : List Oper} {o : Oper} {a : Act} {w : World} {Q : Exit → Act → World → Prop} (hgd : o.guard = none) (s x : Operand)
    (ho : o.op = .call { callee := .builtin .append, args := #[s, x], argTypes := #[48, 48] })
    (hs : a.eval s = .slice none 0 0) (xv : Value) (ys : List Nat) (hx : a.eval x = xv) (hy : BytesIn w xv ys) (hl : ys.length ≤ 140737488355328)
    (h : ∀ v' w', OwnN w' w.heap.size v' ys → Below w.heap.size w w' → wpList Tryd.prog ops Q rest (a.put o.dst v') w') : wpList Tryd.prog ops Q (o :: rest) a w := by
  obtain ⟨sa, sc, rfl, hsc, hm, hcell⟩ := hy
  cases sa with
  | none =>
    have h0 : ys = [] := by
      cases ys with
      | nil => rfl
      | cons y r => obtain ⟨b, off, e, _⟩ := hcell (by simp); cases e
    subst h0
    refine wpList_plain hgd fun _ hK => ?_
    have hrun := run_append_nil8 w sc o.type
    unfold Oper.wp execOp
    simp only [List.length_nil] at hx
    simp only [ho, resolve, invoke, builtin, Sem.run_bind, Sem.run_pure, Result.andThen_ok, List.map_toArray, List.map_cons, List.map_nil, hs, hx, hrun]
    exact hK _ _ (h _ w (.inl ⟨rfl, rfl⟩) (Below.refl _ _))
  | some ad =>
    obtain ⟨i0, hi', hz0, hz1, hz2⟩ := info_parts info_u8
    refine wpList_append_own _ hgd s x 48 ho w.heap.size 5 i0 (.int .u8 0) 1 1 Tryd.underlying48 hi' hz0 hz1 hz2 rfl (by decide) (.slice none 0 0) 0 [] hs (World.ownsRow_nil _ _ _ _) ad ys.length sc (u8s ys) hx (by rw [u8s_len, Nat.mul_one]) ?_ (u8s_one ys) (by unfold maxLen; omega) (by omega) (Nat.le_refl _) ?_
    · intro j u hu
      have hj : j < ys.length := by
        have := (List.getElem?_eq_some_iff.1 hu).1
        rwa [u8s_len] at this
      obtain ⟨b, off, e, hc⟩ := hcell (fun e => by rw [e] at hj; simp at hj)
      cases e
      rw [add_mid_, hc j hj]
      rw [u8s_get ys j hj] at hu
      exact hu
    · intro v' w' h1 h2 h3
      have hb : Below w.heap.size w w' := (Below.refl _ _).grown h2 (Nat.le_refl _) (by intro k hk; simp [Value.ownBlock] at hk)
      refine h v' w' ?_ hb
      simp only [Nat.zero_add, List.nil_append] at h1
      by_cases hv : v' = .slice none 0 0
      · left
        refine ⟨hv, ?_⟩
        have := h1.1
        rcases h1.2 with ⟨_, e⟩ | ⟨g, cap, cur, e, _⟩
        · exact List.length_eq_zero_iff.1 e
        · rw [hv] at e; cases e
      · right
        exact OwnB.of_row h1 hm hv

/-- An act: what to do, the window, the place, the width, the number, the bytes. -/
structure ActD where
  d : Int
  a : Int
  s : Int
  off : Int
  wd : Int
  v : Nat
  ys : List Nat
def ActD.val (x : ActD) (bv : Value) : Value := .agg #[.int .i64 x.d, .int .i64 x.a, .int .i64 x.s, .int .i64 x.off, .int .i64 x.wd, .int .u64 x.v, bv]
structure ActD.Fair (x : ActD) : Prop where
  a0 : -9223372036854775808 ≤ x.a
  a1 : x.a ≤ 9223372036854775807
  s0 : -9223372036854775808 ≤ x.s
  s1 : x.s ≤ 9223372036854775807
  o0 : -9223372036854775808 ≤ x.off
  o1 : x.off ≤ 9223372036854775807
  w0 : -9223372036854775808 ≤ x.wd
  w1 : x.wd ≤ 9223372036854775807
  v1 : x.v < 18446744073709551616
  yl : x.ys.length ≤ 140737488355328
def doE (bs : List Nat) (x : ActD) : Int :=
  if x.d = 1 then accE bs.length x.a x.s x.off x.wd else if x.d = 2 then putE bs.length x.a x.s x.ys.length else if x.d = 3 then bytesE bs.length x.a x.s else 0
def doL (bs : List Nat) (x : ActD) : List Nat :=
  if x.d = 1 then wrB bs x.a x.s x.off x.wd x.v else if x.d = 2 then putL bs x.a x.s x.ys else if x.d = 3 then wipeL bs x.a x.s else bs
def boxed (w : World) (x : ActD) (bv : Value) : World := w.alloc (.cells #[.int .i64 x.d, .int .i64 x.a, .int .i64 x.s, .int .i64 x.off, .int .i64 x.wd, .int .u64 x.v, bv] 50)
theorem boxed_below (w : World) (x : ActD) (bv : Value) : Below w.heap.size w (boxed w x bv) := bal w _

set_option maxHeartbeats 2000000 in
theorem does_1 (p g cap : Nat) (bs : List Nat) (x : ActD) (bv : Value) (w : World) (hd : x.d = 1) (hx : x.Fair) (hM : MemAt 126 w p g cap bs) :
    Calls Tryd.prog 19 #[ptr p, x.val bv] w fun e w' => e = .returned (.int .i64 (doE bs x)) ∧ MemAt 126 w' p g cap (doL bs x) ∧ Kept (· = g) w w' := by
  have HB := hi (boxed_below w x bv)
  have HW := hi (write_any p g cap bs x.a x.s x.off x.wd x.v (boxed w x bv) (hM.below (boxed_below w x bv)) hx.a0 hx.a1 hx.s0 hx.s1 hx.v1)
  have e1 : doE bs x = accE bs.length x.a x.s x.off x.wd := by simp [doE, hd]
  have e2 : doL bs x = wrB bs x.a x.s x.off x.wd x.v := by simp [doL, hd]
  rw [e1, e2]
  clear e1 e2 hM hx
  obtain ⟨d, a, s, off, wd, v, ys⟩ := x
  subst hd
  unfold ptr ActD.val
  unfold boxed at HB HW
  unfold win at HW
  dsimp only at HB HW ⊢
  go_enter Tryd.func19, Tryd.ntmps19
  go_wp2_with (go_at_call 40; ((with_reducible refine HW.out.mono ?_); rintro e w1 ⟨rfl, hm1, hk1⟩))
  go_ret
  exact ⟨rfl, hm1, (Kept.of HB.out).trans hk1⟩

set_option maxHeartbeats 2000000 in
theorem does_3 (p g cap : Nat) (bs : List Nat) (x : ActD) (bv : Value) (w : World) (hd : x.d = 3) (hx : x.Fair) (hM : MemAt 126 w p g cap bs) :
    Calls Tryd.prog 19 #[ptr p, x.val bv] w fun e w' => e = .returned (.int .i64 (doE bs x)) ∧ MemAt 126 w' p g cap (doL bs x) ∧ Kept (· = g) w w' := by
  have HB := hi (boxed_below w x bv)
  have HW := hi (wipe_any p g cap bs x.a x.s (boxed w x bv) (hM.below (boxed_below w x bv)) hx.a0 hx.a1 hx.s0 hx.s1)
  have e1 : doE bs x = bytesE bs.length x.a x.s := by simp [doE, hd]
  have e2 : doL bs x = wipeL bs x.a x.s := by simp [doL, hd]
  rw [e1, e2]
  clear e1 e2 hM hx
  obtain ⟨d, a, s, off, wd, v, ys⟩ := x
  subst hd
  unfold ptr ActD.val
  unfold boxed at HB HW
  unfold win at HW
  dsimp only at HB HW ⊢
  go_enter Tryd.func19, Tryd.ntmps19
  go_wp2_with (go_at_call 42; ((with_reducible refine HW.out.mono ?_); rintro e w1 ⟨rfl, hm1, hk1⟩))
  go_ret
  exact ⟨rfl, hm1, (Kept.of HB.out).trans hk1⟩

set_option maxHeartbeats 2000000 in
theorem does_0 (p g cap : Nat) (bs : List Nat) (x : ActD) (bv : Value) (w : World) (h1 : x.d ≠ 1) (h2 : x.d ≠ 2) (h3 : x.d ≠ 3) (hM : MemAt 126 w p g cap bs) :
    Calls Tryd.prog 19 #[ptr p, x.val bv] w fun e w' => e = .returned (.int .i64 (doE bs x)) ∧ MemAt 126 w' p g cap (doL bs x) ∧ Kept (· = g) w w' := by
  have HB := hi (boxed_below w x bv)
  have HM := hi hM
  have e1 : doE bs x = 0 := by simp [doE, h1, h2, h3]
  have e2 : doL bs x = bs := by simp [doL, h1, h2, h3]
  rw [e1, e2]
  clear e1 e2 hM
  obtain ⟨d, a, s, off, wd, v, ys⟩ := x
  have g1 : (d == 1) = false := by simpa using h1
  have g2 : (d == 2) = false := by simpa using h2
  have g3 : (d == 3) = false := by simpa using h3
  clear h1 h2 h3
  unfold ptr ActD.val
  unfold boxed at HB
  dsimp only at HB ⊢
  go_enter Tryd.func19, Tryd.ntmps19
  go_wp2
  go_ret
  exact ⟨rfl, HM.out.below HB.out, Kept.of HB.out⟩

theorem Kept.new {bs : Nat → Prop} {A B C : World} {ob : Nat} (h : Kept bs A B) (k : Kept (· = ob) B C) (ho : A.heap.size ≤ ob) : Kept bs A C :=
  ⟨k.os.trans h.os, k.tape.trans h.tape, k.output.trans h.output, Nat.le_trans h.size k.size, fun i hi hn => (k.block i (Nat.lt_of_lt_of_le hi h.size) (fun (e : i = ob) => by omega)).trans (h.block i hi hn)⟩

set_option maxHeartbeats 2000000 in
theorem does_2 (p g cap : Nat) (bs : List Nat) (x : ActD) (bv : Value) (w : World) (hd : x.d = 2) (hx : x.Fair) (hM : MemAt 126 w p g cap bs) (hy : BytesIn w bv x.ys) :
    Calls Tryd.prog 19 #[ptr p, x.val bv] w fun e w' => e = .returned (.int .i64 (doE bs x)) ∧ MemAt 126 w' p g cap (doL bs x) ∧ Kept (· = g) w w' := by
  have HB := hi (boxed_below w x bv)
  have HM := hi hM
  have HY := hi (hy.below (boxed_below w x bv))
  have HL := hi hx.yl
  have HP := hi (fun W sv (hW : MemAt 126 W p g cap bs) (hs : BytesIn W sv x.ys) => put_any p g cap bs x.a x.s sv x.ys W hW hs (by have := hx.yl; omega) hx.a0 hx.a1 hx.s0 hx.s1)
  have e1 : doE bs x = putE bs.length x.a x.s x.ys.length := by simp [doE, hd]
  have e2 : doL bs x = putL bs x.a x.s x.ys := by simp [doL, hd]
  rw [e1, e2]
  clear e1 e2 hM hx hy
  obtain ⟨d, a, s, off, wd, v, ys⟩ := x
  subst hd
  unfold ptr ActD.val
  unfold boxed at HB HY
  unfold win at HP
  dsimp only at HB HY HL HP ⊢
  go_enter Tryd.func19, Tryd.ntmps19
  go_wp2_with (first
    | (refine wpList_append_bytes rfl _ _ rfl rfl _ ys rfl HY.out HL.out ?_; intro v1 w1 ho1 hb1; obtain ⟨hc1, _⟩ := bcell hb1; have HO := hi ho1; have HB1 := hi (HB.out.trans (hb1.mono HB.out.size)); clear ho1 hb1)
    | (go_at_call 41; ((with_reducible refine (HP.out _ _ (HM.out.below HB1.out) HO.out.bytesIn).mono ?_); rintro e w2 ⟨rfl, hm2, hk2⟩)))
  rcases HO.out with ⟨rfl, rfl⟩ | ⟨ob, cap2, rfl, hge, hB, hle, hcap⟩
  · have HK := hi (Kept.trans (Kept.of HB1.out) hk2)
    have HM2 := hi hm2
    clear hm2 hk2
    go_loopw [7] (fun i wr => i = .int .i64 0 ∧ w2 = wr) (fun i _ => 0)
    case atStart => exact ⟨rfl, rfl⟩
    case round =>
      obtain ⟨rfl, rfl⟩ := hrel
      go_wp2
      go_ret
      exact ⟨rfl, HM2.out, HK.out⟩
  · have hgl := HM.out.bytes.lt
    have hpl := HM.out.plt
    have hge2 : w.heap.size ≤ ob := by simp at hge; omega
    have HG := hi (And.intro hge2 (And.intro hgl hpl))
    have HK := hi (Kept.trans (Kept.of HB1.out) hk2)
    have HM2 := hi hm2
    have HB2 := hi (hB.of_block (hk2.block ob hB.lt (fun (e : ob = g) => by omega)))
    have hn63 : ys.length ≤ 9223372036854775807 := by have := HL.out; omega
    clear hm2 hk2 hB hge hle hcap hgl hpl hge2
    go_loopw [7] (fun i wr => ∃ j : Nat, i = .int .i64 j ∧ Hi (j ≤ ys.length ∧ Kept (· = ob) w2 wr ∧ ∃ zs : List Nat, zs.length = ys.length ∧ BytesAt wr ob zs)) (fun i _ => ys.length - (intOf i).toNat)
    case atStart => exact ⟨0, rfl, hi ⟨Nat.zero_le _, Kept.refl _ _, ys, rfl, HB2.out⟩⟩
    case round =>
      obtain ⟨j, rfl, HJ⟩ := hrel
      have hj := HJ.out.1
      by_cases hlt : j < ys.length
      · obtain ⟨zs, hzl, hzb⟩ := HJ.out.2.2
        have hcell := hzb.cell j (by omega)
        have hfr := hzb.frozen j
        obtain ⟨x, hx⟩ : ∃ x, zs[j]?.getD 0 = x := ⟨_, rfl⟩
        rw [hx] at hcell
        have HZ := hi (And.intro hzl hzb)
        clear hx hzl hzb
        go_wp2
        go_roundw
        case rel => exact ⟨j + 1, by go_num, hi ⟨hlt, HJ.out.2.1.trans (kept_setCell _ _ _ _), zs.set j 77, by rw [List.length_set]; exact HZ.out.1, HZ.out.2.set j 77 (by rw [HZ.out.1]; exact hlt) (by omega)⟩⟩
        case measure => simp [intOf]; omega
      · have e : j = ys.length := by omega
        subst e
        go_wp2
        go_ret
        have hG := HG.out
        exact ⟨rfl, HM2.out.kept HJ.out.2.1 (fun (e : p = ob) => by omega) (fun (e : g = ob) => by omega), HK.out.new HJ.out.2.1 hG.1⟩

/-- An act at all. -/
theorem does_any (p g cap : Nat) (bs : List Nat) (x : ActD) (bv : Value) (w : World) (hx : x.Fair) (hM : MemAt 126 w p g cap bs) (hy : BytesIn w bv x.ys) :
    Calls Tryd.prog 19 #[ptr p, x.val bv] w fun e w' => e = .returned (.int .i64 (doE bs x)) ∧ MemAt 126 w' p g cap (doL bs x) ∧ Kept (· = g) w w' := by
  by_cases h1 : x.d = 1
  · exact does_1 p g cap bs x bv w h1 hx hM
  by_cases h2 : x.d = 2
  · exact does_2 p g cap bs x bv w h2 hx hM hy
  by_cases h3 : x.d = 3
  · exact does_3 p g cap bs x bv w h3 hx hM
  exact does_0 p g cap bs x bv w h1 h2 h3 hM

theorem splice_fit (bs cs : List Nat) (o : Nat) (h : o + cs.length ≤ bs.length) : (splice bs o cs).length = bs.length := length_splice bs o cs h
theorem doL_len {bs : List Nat} {x : ActD} (hl : bs.length ≤ 131072) : (doL bs x).length = bs.length := by
  unfold doL
  split
  · exact wrB_len hl
  split
  · unfold putL
    split
    · rename_i h
      simp only [putOk, Bool.and_eq_true, decide_eq_true_eq] at h
      obtain ⟨A, S, e1, e2, hA⟩ := holdsB_out h.1
      exact splice_fit _ _ _ (by omega)
    · rfl
  split
  · unfold wipeL
    split
    · rename_i h
      obtain ⟨A, S, e1, e2, hA⟩ := holdsB_out h
      exact splice_fit _ _ _ (by simp; omega)
    · rfl
  · rfl

end Go.Proofs.YtkgkfgfnhjhabaaDoor
