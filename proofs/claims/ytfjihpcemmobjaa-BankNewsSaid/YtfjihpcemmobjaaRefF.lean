/-
  The document's bank: Sorted, of some numbers.
-/
import Derived.Test.YtfjihpcemmobjaaRefE
namespace Go.Proofs.Ytfjihpcemmobjaa
open Go.ChangeShapes Go.WideShapes Go.ChangeAt Go.RowKit Go.Shelf
set_option linter.unusedVariables false
attribute [local go_sem] Oper.semAt_some

/-! ### Plain: selecting the best one, over and over -/
theorem stepC_cases (c : Cd) (x : It) : stepC c x = candV x.1 x.2.ln ∨ (stepC c x = c ∧ c.is = true) := by
  unfold stepC
  cases h : c.is
  · left; simp
  · cases h2 : befC (candV x.1 x.2.ln) c
    · right; simp
    · left; simp
theorem bestC_mem : ∀ (xs : List It), xs ≠ [] → ∃ x ∈ xs, bestC xs = candV x.1 x.2.ln := by
  intro xs
  have key : ∀ (ys : List It) (c : Cd), (c.is = true ∨ ys ≠ []) → (∃ x ∈ ys, ys.foldl stepC c = candV x.1 x.2.ln) ∨ (ys.foldl stepC c = c ∧ c.is = true) := by
    intro ys
    induction ys with
    | nil => intro c h; rcases h with h | h
             · exact .inr ⟨rfl, h⟩
             · exact absurd rfl h
    | cons y r ih =>
      intro c h
      rw [List.foldl_cons]
      rcases stepC_cases c y with e | ⟨e, hc⟩
      · rcases ih (stepC c y) (.inl (by rw [e]; rfl)) with ⟨x, hx, h2⟩ | ⟨h2, _⟩
        · exact .inl ⟨x, List.mem_cons_of_mem _ hx, h2⟩
        · exact .inl ⟨y, by simp, by rw [h2, e]⟩
      · rw [e]
        rcases ih c (.inl hc) with ⟨x, hx, h2⟩ | h2
        · exact .inl ⟨x, List.mem_cons_of_mem _ hx, h2⟩
        · exact .inr h2
  intro hne
  rcases key xs Cd.zero (.inr hne) with h | ⟨_, h⟩
  · exact h
  · cases h
/-- Those that have another number. -/
def dropI (xs : List It) (id : Int) : List It := xs.filter fun x => decide (x.1 ≠ id)
def sel : Nat → List It → List Int
  | 0, _ => []
  | n + 1, xs => if xs = [] then [] else (bestC xs).id :: sel n (dropI xs (bestC xs).id)
theorem sel_nil (n : Nat) : sel n [] = [] := by cases n <;> simp [sel]
theorem sel_cons {n : Nat} {xs : List It} (h : xs ≠ []) : sel (n + 1) xs = (bestC xs).id :: sel n (dropI xs (bestC xs).id) := by rw [sel, if_neg h]
theorem dropI_lt {xs : List It} (h : xs ≠ []) : (dropI xs (bestC xs).id).length < xs.length := by
  obtain ⟨x, hx, e⟩ := bestC_mem xs h
  have h1 : (xs.filter fun y => decide (y.1 ≠ (bestC xs).id)).length < xs.length := List.length_filter_lt_length_iff_exists.2 ⟨x, hx, by rw [e]; simp [candV]⟩
  exact h1
theorem sel_len : ∀ (n : Nat) (xs : List It), xs.length ≤ n → (sel n xs).length ≤ xs.length
  | 0, xs, _ => by simp [sel]
  | n + 1, xs, hn => by
    by_cases h : xs = []
    · subst h; simp [sel]
    · rw [sel_cons h, List.length_cons]
      have h1 := dropI_lt h
      have h2 := sel_len n (dropI xs (bestC xs).id) (by omega)
      omega
theorem Of09.sub {f : Int} {es : List En} {xs ys : List It} (h : Of09 f es xs) (hs : ∀ x ∈ ys, x ∈ xs) : Of09 f es ys := fun x hx => h x (hs x hx)

/-! ### Rows apart from one another -/
def Apart (v v' : Value) : Prop := v.ownBlock = none ∨ v.ownBlock ≠ v'.ownBlock
theorem Apart.symm {v v' : Value} (h : Apart v v') : Apart v' v := by
  rcases h with h | h
  · by_cases h2 : v'.ownBlock = none
    · exact .inl h2
    · exact .inr (fun e => h2 (by rw [e]; exact h))
  · exact .inr (Ne.symm h)
theorem apart_nil (v : Value) : Apart v (.slice none 0 0) := by
  by_cases h : v.ownBlock = none
  · exact .inl h
  · exact .inr (fun e => h (by rw [e]; rfl))
/-- Behind an append: still apart. -/
theorem Apart.grown {W : World} {base n : Nat} {te : TypeId} {v v' u : Value} {cs : List Value} (h : Apart u v) (hu : W.ownsRow base te 1 u n cs) (ha : v'.ownBlock = v.ownBlock ∨ v'.ownBlock = some W.heap.size) : Apart u v' := by
  rcases ha with e | e
  · unfold Apart; rw [e]; exact h
  · refine .inr fun e2 => ?_
    rw [e] at e2
    have := (hu.lt _ e2).2
    omega

theorem run_append_nilI (w : World) (c : Nat) (ty : TypeId) : (Builtin.append_ #[43, 43] ty #[.slice none 0 0, .slice none 0 c]).run Try.prog w = .ok (.slice none 0 0) w := by
  obtain ⟨i0, hi, hz0, hz1, hz2⟩ := info_parts info_i
  simp [Builtin.append_, run_underlying Try.underlying43, sizeOf, typeInfo, hi, Builtin.lenOf, Builtin.firstCells, go_sem]
theorem wpList_append_ints {ops : Array Oper} {rest : List Oper} {o : Oper} {a : Act} {w : World} {Q : Exit → Act → World → Prop} (hgd : o.guard = none) (s x : Operand)
    (ho : o.op = .call { callee := .builtin .append, args := #[s, x], argTypes := #[43, 43] })
    (hs : a.eval s = .slice none 0 0) (xv : Value) (xs : List Int) (hx : a.eval x = xv) (hy : IntsAt w xv xs) (hl : xs.length ≤ 20000)
    (h : ∀ v' w', w'.ownsRow w.heap.size 3 1 v' xs.length (ints xs) → Below w.heap.size w w' → wpList Try.prog ops Q rest (a.put o.dst v') w') : wpList Try.prog ops Q (o :: rest) a w := by
  obtain ⟨sa, sc, rfl, _, hcell⟩ := hy
  cases sa with
  | none =>
    have h0 : xs = [] := by
      cases xs with
      | nil => rfl
      | cons y r => obtain ⟨b, off, e, _⟩ := hcell (by simp); cases e
    subst h0
    refine wpList_plain hgd fun _ hK => ?_
    have hrun := run_append_nilI w sc o.type
    unfold Oper.wp execOp
    simp only [List.length_nil] at hx
    simp only [ho, resolve, invoke, builtin, Sem.run_bind, Sem.run_pure, Result.andThen_ok, List.map_toArray, List.map_cons, List.map_nil, hs, hx, hrun]
    exact hK _ _ (h _ w (World.ownsRow_nil _ _ _ _) (Below.refl _ _))
  | some ad =>
    obtain ⟨i0, hi', hz0, hz1, hz2⟩ := info_parts info_i
    refine wpList_append_own _ hgd s x 43 ho w.heap.size 3 i0 (.int .i64 0) 1 8 Try.underlying43 hi' hz0 hz1 hz2 rfl (by decide) (.slice none 0 0) 0 [] hs (World.ownsRow_nil _ _ _ _) ad xs.length sc (ints xs) hx (by simp [ints]) ?_ (by simp [ints, Value.oneCell']) (by unfold maxLen; omega) (by omega) (Nat.le_refl _) ?_
    · intro j u hu
      have hj : j < xs.length := by have := (List.getElem?_eq_some_iff.1 hu).1; simpa [ints] using this
      obtain ⟨g, off, e, hc⟩ := hcell (fun e => by rw [e] at hj; simp at hj)
      cases e
      rw [addr_add, hc j hj]
      simp [ints, hj] at hu
      simp [hj, hu]
    · intro v' w' h1 h2 h3
      have hb : Below w.heap.size w w' := (Below.refl _ _).grown h2 (Nat.le_refl _) (by intro k hk; simp [Value.ownBlock] at hk)
      simp only [Nat.zero_add, List.nil_append] at h1
      exact h v' w' h1 hb

/-- Where Sorted's loops stand: what came out, what is left, what is kept for the next time. -/
structure RS (w : World) (o l x : Value) (no nl nx : Nat) (co cl cx : List Value) (W : World) : Prop where
  ro : W.ownsRow w.heap.size 3 1 o no co
  rl : W.ownsRow w.heap.size 3 1 l nl cl
  rx : W.ownsRow w.heap.size 3 1 x nx cx
  ol : Apart o l
  ox : Apart o x
  lx : Apart l x
  below : Below w.heap.size w W
section
variable {w W W' w9 : World} {o l x v' : Value} {no nl nx m : Nat} {co cl cx c' : List Value} {tmp : Obj}
theorem RS.later (h : RS w o l x no nl nx co cl cx W) (k : Below W.heap.size W W') : RS w o l x no nl nx co cl cx W' :=
  ⟨own_later h.ro k, own_later h.rl k, own_later h.rx k, h.ol, h.ox, h.lx, h.below.trans (k.mono h.below.size)⟩
theorem RS.growO (h : RS w o l x no nl nx co cl cx W) (ho : w9.ownsRow w.heap.size 3 1 v' m c') (hg : (W.alloc tmp).grownBy w9 o.ownBlock) (ha : v'.ownBlock = o.ownBlock ∨ v'.ownBlock = some (W.alloc tmp).heap.size) : RS w v' l x m nl nx c' cl cx w9 :=
  ⟨ho, (h.rl.alloc tmp).kept hg h.ol.symm, (h.rx.alloc tmp).kept hg h.ox.symm, (Apart.grown h.ol.symm (h.rl.alloc tmp) ha).symm, (Apart.grown h.ox.symm (h.rx.alloc tmp) ha).symm, h.lx,
   (h.below.alloc h.below.size tmp).grown hg (by have := h.below.size; simp; omega) (fun j e => (h.ro.lt j e).1)⟩
theorem RS.growX (h : RS w o l x no nl nx co cl cx W) (ho : w9.ownsRow w.heap.size 3 1 v' m c') (hg : (W.alloc tmp).grownBy w9 x.ownBlock) (ha : v'.ownBlock = x.ownBlock ∨ v'.ownBlock = some (W.alloc tmp).heap.size) : RS w o l v' no nl m co cl c' w9 :=
  ⟨(h.ro.alloc tmp).kept hg h.ox, (h.rl.alloc tmp).kept hg h.lx, ho, h.ol, Apart.grown h.ox (h.ro.alloc tmp) ha, Apart.grown h.lx (h.rl.alloc tmp) ha,
   (h.below.alloc h.below.size tmp).grown hg (by have := h.below.size; simp; omega) (fun j e => (h.rx.lt j e).1)⟩
/-- A round's end: what was kept is what is left. -/
theorem RS.turn (h : RS w o l x no nl nx co cl cx W) : RS w o x (.slice none 0 0) no nx 0 co cx [] W := ⟨h.ro, h.rx, World.ownsRow_nil _ _ _ _, h.ox, apart_nil _, apart_nil _, h.below⟩
end

end Go.Proofs.Ytfjihpcemmobjaa
