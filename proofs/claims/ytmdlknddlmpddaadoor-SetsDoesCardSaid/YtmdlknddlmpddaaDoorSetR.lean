/-
  For SetsDoes: an append of a slice that came in (nil let in); a script of acts in memory; a list's first number.
-/
import Derived.Test.YtmdlknddlmpddaaDoorSetsJoin
namespace Go.Proofs.YtmdlknddlmpddaaDoor
open Go.ChangeShapes Go.WideShapes Go.ChangeAt Go.RowKit Go.Shelf
set_option linter.unusedVariables false

theorem run_append_nil (w : World) (base n : Nat) (v : Value) (xs : List Value) (i : TypeInfo) (hi : Tryd.prog.info? 3 = some i) (hown : w.ownsRow base 3 1 v n xs) (c : Nat) :
    (Builtin.append_ #[22, 22] 22 #[v, .slice none 0 c]).run Tryd.prog w = .ok v w := by
  rcases hown.2 with ⟨rfl, rfl⟩ | ⟨g, cap, cur, rfl, _, _, hnc, _⟩
  · simp [Builtin.append_, run_underlying Tryd.underlying22, sizeOf, typeInfo, hi, Builtin.lenOf, Builtin.firstCells, go_sem]
  · simp [Builtin.append_, run_underlying Tryd.underlying22, sizeOf, typeInfo, hi, Builtin.lenOf, Builtin.firstCells, hnc, go_sem]

theorem wpList_append_ints {ops : Array Oper} {rest : List Oper} {o : Oper} {a : Act} {w : World} {Q : Exit → Act → World → Prop} (hgd : o.guard = none) (s x : Operand)
    (ho : o.op = .call { callee := .builtin .append, args := #[s, x], argTypes := #[22, 22] }) (hty : o.type = 22)
    (base : Nat) (v : Value) (xs : List Int) (hs : a.eval s = v) (hown : w.ownsRow base 3 1 v xs.length (xs.map (Value.int .i64)))
    (A : Option Addr) (c : Nat) (ys : List Int) (hx : a.eval x = .slice A ys.length c) (hy : IntsAt w (.slice A ys.length c) ys)
    (hl : xs.length + ys.length ≤ 1000000) (hbase : base ≤ w.heap.size)
    (h : ∀ v' w', w'.ownsRow base 3 1 v' (xs.length + ys.length) ((xs ++ ys).map (Value.int .i64)) → w.grownBy w' v.ownBlock → wpList Tryd.prog ops Q rest (a.put o.dst v') w') : wpList Tryd.prog ops Q (o :: rest) a w := by
  obtain ⟨i0, hi', hz0, hz1, hz2⟩ := info_parts info_int
  cases A with
  | none =>
    have h0 : ys = [] := by
      obtain ⟨a', cap', e, _, hc⟩ := hy
      simp only [Value.slice.injEq] at e
      obtain ⟨rfl, _⟩ := e
      cases ys with
      | nil => rfl
      | cons y r => obtain ⟨b, off, e, _⟩ := hc (by simp); cases e
    subst h0
    refine wpList_plain hgd fun _ hK => ?_
    have hrun := run_append_nil w base xs.length v (xs.map (Value.int .i64)) i0 hi' hown c
    unfold Oper.wp execOp
    simp only [List.length_nil] at hx
    simp only [ho, hty, resolve, invoke, builtin, Sem.run_bind, Sem.run_pure, Result.andThen_ok, List.map_toArray, List.map_cons, List.map_nil, hs, hx, hrun]
    exact hK _ _ (h v w (by simpa using hown) (World.grownBy.refl w _))
  | some ad =>
    refine wpList_append_own _ hgd s x 22 ho base 3 i0 (.int .i64 0) 1 8 Tryd.underlying22 hi' hz0 hz1 hz2 rfl (by decide) v xs.length (xs.map (Value.int .i64)) hs hown ad ys.length c (ys.map (Value.int .i64)) hx (by simp) ?_ (by simp [Value.oneCell']) (by unfold maxLen; omega) (by omega) hbase ?_
    · intro j u hu
      have hj : j < ys.length := by have := (List.getElem?_eq_some_iff.1 hu).1; simpa using this
      obtain ⟨a', cap', e, _, hc⟩ := hy
      simp only [Value.slice.injEq] at e
      obtain ⟨rfl, _, _⟩ := e
      obtain ⟨b, off, e, hcs⟩ := hc (fun e => by simp [e] at hj)
      cases e
      rw [Addr.add_mid, hcs j hj]
      simp [hj] at hu
      rw [← hu]; simp [hj]
    · intro v' w' h1 h2 _
      exact h v' w' (by simpa using h1) h2

/-- The slice v holds the acts: what to do, and the number. -/
def ActsAt (W : World) (v : Value) (acts : List (Int × Int)) : Prop :=
  ∃ (a : Option Addr) (cap : Nat), v = .slice a acts.length cap ∧ (acts ≠ [] → ∃ b off : Nat, a = some ⟨b, off, none⟩ ∧ ∀ j, j < acts.length → W.cell? ⟨b, off + j * 2, none⟩ = some (.int .i64 (acts[j]?.getD (0, 0)).1) ∧ W.cell? ⟨b, off + j * 2 + 1, none⟩ = some (.int .i64 (acts[j]?.getD (0, 0)).2))
theorem actsAt_read {w W : World} {a : Option Addr} {cap k : Nat} {acts : List (Int × Int)} (h : ActsAt w (.slice a acts.length cap) acts) (hb : Below w.heap.size w W) (hk : k < acts.length) :
    ∃ b off : Nat, a = some ⟨b, off, none⟩ ∧ W.cell? ⟨b, off + k * 2, none⟩ = some (.int .i64 (acts[k]?.getD (0, 0)).1) ∧ W.cell? ⟨b, off + k * 2 + 1, none⟩ = some (.int .i64 (acts[k]?.getD (0, 0)).2) := by
  obtain ⟨a', cap', e, hcs⟩ := h
  simp only [Value.slice.injEq, true_and] at e
  obtain ⟨rfl, rfl⟩ := e
  obtain ⟨b, off, rfl, hc⟩ := hcs (fun e => by simp [e] at hk)
  obtain ⟨h1, h2⟩ := hc k hk
  have hbl := World.block_lt_of_cell? w _ h1
  exact ⟨b, off, rfl, (hb.cell (p := ⟨b, off + k * 2, none⟩) hbl).trans h1, (hb.cell (p := ⟨b, off + k * 2 + 1, none⟩) hbl).trans h2⟩

set_option maxHeartbeats 400000 in
theorem l0_any (l : List Int) (a : Option Addr) (ca : Nat) (w : World) (hv : IntsAt w (.slice a l.length ca) l) :
    Calls Tryd.prog 17 #[.slice a l.length ca] w fun e w' => e = .returned (.int .i64 (at0 l 0)) ∧ w = w' := by
  by_cases h : 0 < l.length
  · obtain ⟨b, off, rfl, hbl, hr0, _⟩ := intsAt_read hv (Below.refl _ _) h
    rw [show l[0]?.getD 0 = at0 l 0 from rfl, Nat.add_zero] at hr0
    obtain ⟨x, ex⟩ : ∃ x, at0 l 0 = x := ⟨_, rfl⟩
    rw [ex] at hr0 ⊢
    have hi0 : (0 : Int) < (l.length : Int) := by omega
    clear hv h ex
    go_enter Tryd.func17, Tryd.ntmps17
    go_wp2
    go_ret
    exact ⟨rfl, rfl⟩
  · have e : l = [] := List.eq_nil_of_length_eq_zero (by omega)
    subst e
    clear hv h
    go_enter Tryd.func17, Tryd.ntmps17
    go_wp2
    go_ret
    exact ⟨rfl, rfl⟩

end Go.Proofs.YtmdlknddlmpddaaDoor
