/-
  The document's Bytes; the law's Model.
-/
import Derived.Test.YthndfkggahhleaaMemQ
import Derived.Deep.RegionLaw
namespace Go.Proofs.Ythndfkggahhleaa
open Go.ChangeShapes Go.WideShapes Go.ChangeAt Go.RowKit
set_option linter.unusedVariables false

theorem step_append_bytes {ops : Array Oper} {o : Oper} {a : Act} {w : World} {K : Act → World → Prop} {Q : Exit → Act → World → Prop} {E : Prop} (hgd : o.guard = none) (s x : Operand)
    (ho : o.op = .call { callee := .builtin .append, args := #[s, x], argTypes := #[31, 31] })
    (hs : a.eval s = .slice none 0 0) (xv : Value) (ys : List Nat) (hx : a.eval x = xv) (hy : BytesIn w xv ys) (hl : ys.length ≤ 140737488355328)
    (h : ∀ v' w', OwnN w' w.heap.size v' ys → Below w.heap.size w w' → K (a.put o.dst v') w') :
    if Region.wanted o (yielded ops a.tmps) = true then Oper.wp Try.prog o a w K Q else E := by
  have hw : Region.wanted o (yielded ops a.tmps) = true := by simp [Region.wanted, hgd]
  rw [if_pos hw]
  obtain ⟨sa, sc, rfl, hsc, hm, hcell⟩ := hy
  cases sa with
  | none =>
    have h0 : ys = [] := by
      cases ys with
      | nil => rfl
      | cons y r => obtain ⟨b, off, e, _⟩ := hcell (by simp); cases e
    subst h0
    have hrun := run_append_nil8 w sc o.type
    unfold Oper.wp execOp
    simp only [List.length_nil] at hx
    simp only [ho, resolve, invoke, builtin, Sem.run_bind, Sem.run_pure, Result.andThen_ok, List.map_toArray, List.map_cons, List.map_nil, hs, hx, hrun]
    exact h _ w (.inl ⟨rfl, rfl⟩) (Below.refl _ _)
  | some ad =>
    obtain ⟨i0, hi', hz0, hz1, hz2⟩ := info_parts info_u8
    refine wp_append_own w s x 31 ho w.heap.size 5 i0 (.int .u8 0) 1 1 Try.underlying31 hi' hz0 hz1 hz2 rfl (by decide) (.slice none 0 0) 0 [] hs (World.ownsRow_nil _ _ _ _) ad ys.length sc (u8s ys) hx (by rw [u8s_len, Nat.mul_one]) ?_ (u8s_one ys) (by unfold maxLen; omega) (by omega) (Nat.le_refl _) ?_
    · intro j u hu
      have hj : j < ys.length := by
        have := (List.getElem?_eq_some_iff.1 hu).1
        rwa [u8s_len] at this
      obtain ⟨b, off, e, hc⟩ := hcell (fun e => by rw [e] at hj; simp at hj)
      cases e
      rw [add_mid_, hc j hj]
      rw [u8s_get ys j hj] at hu
      exact hu
    · intro v' w' h1 h2 h3
      have hb : Below w.heap.size w w' := (Below.refl _ _).grown h2 (Nat.le_refl _) (by intro k hk; simp [Value.ownBlock] at hk)
      refine h v' w' ?_ hb
      simp only [Nat.zero_add, List.nil_append] at h1
      by_cases hv : v' = .slice none 0 0
      · left
        refine ⟨hv, ?_⟩
        rcases h1.2 with ⟨_, e⟩ | ⟨g, cap, cur, e, _⟩
        · exact List.length_eq_zero_iff.1 e
        · rw [hv] at e; cases e
      · right
        exact OwnB.of_row h1 hm hv

theorem OwnN.base {W : World} {b b' : Nat} {v : Value} {ys : List Nat} (h : OwnN W b v ys) (hb : b' ≤ b) : OwnN W b' v ys := by
  rcases h with h | ⟨g, cap, e, h1, h2⟩
  · exact .inl h
  · exact .inr ⟨g, cap, e, Nat.le_trans hb h1, h2⟩
theorem slOf_cut {g A S cap : Nat} (h : A + S ≤ cap) : SlOf g A S (.slice (if cap = A then some ⟨g, 0, none⟩ else some ⟨g, A, none⟩) S (cap - A)) := by
  by_cases e : cap = A
  · rw [if_pos e]
    exact ⟨_, _, rfl, fun hS => by omega, by omega, _, rfl⟩
  · rw [if_neg e]
    exact ⟨_, _, rfl, fun _ => rfl, by omega, _, rfl⟩

set_option maxHeartbeats 2000000 in
theorem rbytes_yes (p g cap : Nat) (bs : List Nat) (A S : Nat) (w : World) (hM : MemAt 57 w p g cap bs) (hA : A + S ≤ bs.length) :
    Calls Try.prog 20 #[.pointer (some ⟨p, 0, none⟩), win A S] w fun e w' => ∃ v, e = .returned (tup v 0) ∧ OwnN w' w.heap.size v (sub bs A S) ∧ Below w.heap.size w w' := by
  have hh : holdsB bs.length A S = true := by simp only [holdsB, decide_eq_true_eq]; omega
  have hl := hM.len
  have HH := hi (rholds_any p g cap bs A S (w.alloc (.cells #[.int .i64 A, .int .i64 S] 29)) (hM.below (bal w _)) (by omega) (by omega) (by omega) (by omega))
  rw [hh] at HH
  have HM := hi hM
  have HL := hi hA
  have hAl : A + S ≤ 131072 := by omega
  clear hM hA hh hl
  unfold tup
  unfold win at HH ⊢
  go_enter Try.func20, Try.ntmps20
  go_wp2_with (go_at_call 22; ((with_reducible refine HH.out.mono ?_); rintro e w1 ⟨rfl, hb1⟩; have HB := hi ((bal w (.cells #[.int .i64 (A : Int), .int .i64 (S : Int)] 29)).trans (hb1.mono (by simp))); obtain ⟨c0, c1, _⟩ := (box2_new w (.int .i64 (A : Int)) (.int .i64 (S : Int)) 29).below hb1; clear hb1))
  have HM1 := hi (HM.out.below HB.out)
  have hcp := HM1.out.cell
  have hn : bs.length ≤ 131072 := HM1.out.len
  have hle := HM1.out.le
  have hcapx := HM1.out.cap
  have hcap' : cap ≤ 9223372036854775807 := by unfold maxLen at hcapx; omega
  have hin : A + S ≤ bs.length := HL.out
  obtain ⟨n, hn2⟩ : ∃ n, bs.length = n := ⟨_, rfl⟩
  rw [hn2] at hcp hn hle hin
  have hw4 : IntKind.i64.wrap ((A : Int) + (S : Int)) = (A : Int) + (S : Int) := by rw [IntKind.wrap_i64]; omega
  have hs1 : (0 : Int) ≤ (A : Int) + (S : Int) := by omega
  have hs2 : (A : Int) + (S : Int) ≤ (cap : Int) := by omega
  have hs3 : ((A : Int) + (S : Int)).toNat = A + S := by omega
  have hs4 : A ≤ A + S := by omega
  have hs5 : A + S - A = S := by omega
  have hcs : A + S ≤ cap := by omega
  clear hn2 hcapx
  go_region_law (refine step_append_bytes rfl _ _ rfl rfl _ (sub bs A S) rfl (BytesIn.of (g := g) (o := A) (n := S) (HM1.out.bytes.drew) (slOf_cut hcs) HL.out) (by rw [sub_len HL.out]; omega) ?_; intro v1 w2 ho1 hb2)
  all_goals go_wp2
  all_goals go_ret2
  all_goals exact ⟨_, rfl, ho1.base HB.out.size, HB.out.drew.trans (hb2.mono HB.out.size)⟩

set_option maxHeartbeats 2000000 in
theorem rbytes_no (p g cap : Nat) (bs : List Nat) (a s : Int) (w : World) (hM : MemAt 57 w p g cap bs)
    (ha0 : -9223372036854775808 ≤ a) (ha1 : a ≤ 9223372036854775807) (hs0 : -9223372036854775808 ≤ s) (hs1 : s ≤ 9223372036854775807) (hh : holdsB bs.length a s = false) :
    Calls Try.prog 20 #[.pointer (some ⟨p, 0, none⟩), win a s] w fun e w' => e = .returned (tup (.slice none 0 0) 42) ∧ Below w.heap.size w w' := by
  have HH := hi (rholds_any p g cap bs a s (w.alloc (.cells #[.int .i64 a, .int .i64 s] 29)) (hM.below (bal w _)) ha0 ha1 hs0 hs1)
  rw [hh] at HH
  clear hM ha0 ha1 hs0 hs1 hh
  unfold tup
  unfold win at HH ⊢
  go_enter Try.func20, Try.ntmps20
  go_wp2_with (go_at_call 22; ((with_reducible refine HH.out.mono ?_); rintro e w1 ⟨rfl, hb1⟩))
  go_ret2
  exact ⟨rfl, (bal w _).trans (hb1.mono (by simp))⟩

theorem rbytes_any (p g cap : Nat) (bs : List Nat) (a s : Int) (w : World) (hM : MemAt 57 w p g cap bs)
    (ha0 : -9223372036854775808 ≤ a) (ha1 : a ≤ 9223372036854775807) (hs0 : -9223372036854775808 ≤ s) (hs1 : s ≤ 9223372036854775807) :
    Calls Try.prog 20 #[.pointer (some ⟨p, 0, none⟩), win a s] w fun e w' => ∃ v, e = .returned (tup v (bytesE bs.length a s)) ∧ OwnN w' w.heap.size v (bytesL bs a s) ∧ Below w.heap.size w w' := by
  cases hh : holdsB bs.length a s
  · rw [show bytesE bs.length a s = 42 by simp [bytesE, hh], show bytesL bs a s = [] by simp [bytesL, hh]]
    refine (rbytes_no p g cap bs a s w hM ha0 ha1 hs0 hs1 hh).mono ?_
    rintro e w' ⟨rfl, hb⟩
    exact ⟨_, rfl, .inl ⟨rfl, rfl⟩, hb⟩
  · rw [show bytesE bs.length a s = 0 by simp [bytesE, hh], show bytesL bs a s = sub bs a.toNat s.toNat by simp [bytesL, hh]]
    obtain ⟨A, S, rfl, rfl, hA⟩ := holdsB_out hh
    exact rbytes_yes p g cap bs A S w hM hA

/-- Model, at every act. -/
def modelPost (T : TypeId) (q h c : Nat) (bs : List Nat) (x : ActD) (w : World) (e : Ending) (w' : World) : Prop := e = .returned (.int .i64 (doE bs x)) ∧ MemAt T w' q h c (doL bs x) ∧ Kept (· = h) w w'

set_option maxHeartbeats 2000000 in
theorem model_any (q h c : Nat) (bs : List Nat) (x : ActD) (bv : Value) (w : World) (hx : x.Fair) (hM : MemAt 57 w q h c bs) (hy : BytesIn w bv x.ys)
    (hap : ∀ b off cp, bv = .slice (some ⟨b, off, none⟩) x.ys.length cp → x.ys ≠ [] → ¬ b = h) :
    Calls Try.prog 15 #[.pointer (some ⟨q, 0, none⟩), .agg #[.int .i64 x.d, .int .i64 x.a, .int .i64 x.s, .int .i64 x.off, .int .i64 x.wd, .int .u64 x.v, bv]] w (modelPost 57 q h c bs x w) := by
  unfold modelPost
  have HB := hi (boxed_below w x bv)
  have HM := hi hM
  have HM1 := hM.below (boxed_below w x bv)
  by_cases h1 : x.d = 1
  · have HW := hi (rwrite_any q h c bs x.a x.s x.off x.wd x.v (boxed w x bv) HM1 hx.a0 hx.a1 hx.s0 hx.s1 hx.v1)
    have e1 : doE bs x = accE bs.length x.a x.s x.off x.wd := by simp [doE, h1]
    have e2 : doL bs x = wrB bs x.a x.s x.off x.wd x.v := by simp [doL, h1]
    rw [e1, e2]
    clear e1 e2 hM hx hy hap HM1
    obtain ⟨d, a, s, off, wd, v, ys⟩ := x
    subst h1
    unfold boxed at HB HW
    unfold win at HW
    dsimp only at HB HW ⊢
    go_enter Try.func15, Try.ntmps15
    go_wp2_with (go_at_call 32; ((with_reducible refine HW.out.mono ?_); rintro e w1 ⟨rfl, hm1, hk1⟩))
    go_ret
    exact ⟨rfl, hm1, (Kept.of HB.out).trans hk1⟩
  by_cases h2 : x.d = 2
  · have HW := hi (rput_any q h c bs x.a x.s bv x.ys (boxed w x bv) HM1 (hy.below (boxed_below w x bv)) (by have := hx.yl; omega) hap hx.a0 hx.a1 hx.s0 hx.s1)
    have e1 : doE bs x = putE bs.length x.a x.s x.ys.length := by simp [doE, h2]
    have e2 : doL bs x = putL bs x.a x.s x.ys := by simp [doL, h2]
    rw [e1, e2]
    clear e1 e2 hM hx hy hap HM1 h1
    obtain ⟨d, a, s, off, wd, v, ys⟩ := x
    subst h2
    unfold boxed at HB HW
    unfold win at HW
    dsimp only at HB HW ⊢
    go_enter Try.func15, Try.ntmps15
    go_wp2_with (go_at_call 33; ((with_reducible refine HW.out.mono ?_); rintro e w1 ⟨rfl, hm1, hk1⟩))
    go_ret
    exact ⟨rfl, hm1, (Kept.of HB.out).trans hk1⟩
  by_cases h3 : x.d = 3
  · have HW := hi (rwipe_any q h c bs x.a x.s (boxed w x bv) HM1 hx.a0 hx.a1 hx.s0 hx.s1)
    have e1 : doE bs x = bytesE bs.length x.a x.s := by simp [doE, h3]
    have e2 : doL bs x = wipeL bs x.a x.s := by simp [doL, h3]
    rw [e1, e2]
    clear e1 e2 hM hx hy hap HM1 h1 h2
    obtain ⟨d, a, s, off, wd, v, ys⟩ := x
    subst h3
    unfold boxed at HB HW
    unfold win at HW
    dsimp only at HB HW ⊢
    go_enter Try.func15, Try.ntmps15
    go_wp2_with (go_at_call 34; ((with_reducible refine HW.out.mono ?_); rintro e w1 ⟨rfl, hm1, hk1⟩))
    go_ret
    exact ⟨rfl, hm1, (Kept.of HB.out).trans hk1⟩
  have e1 : doE bs x = 0 := by simp [doE, h1, h2, h3]
  have e2 : doL bs x = bs := by simp [doL, h1, h2, h3]
  rw [e1, e2]
  clear e1 e2 hM hx hy hap HM1
  obtain ⟨d, a, s, off, wd, v, ys⟩ := x
  have g1 : (d == 1) = false := by simpa using h1
  have g2 : (d == 2) = false := by simpa using h2
  have g3 : (d == 3) = false := by simpa using h3
  clear h1 h2 h3
  unfold boxed at HB
  dsimp only at HB ⊢
  go_enter Try.func15, Try.ntmps15
  go_wp2
  go_ret
  exact ⟨rfl, HM.out.below HB.out, Kept.of HB.out⟩

end Go.Proofs.Ythndfkggahhleaa
