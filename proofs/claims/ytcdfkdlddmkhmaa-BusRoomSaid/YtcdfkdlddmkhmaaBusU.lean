/-
  BusFinds.
-/
import Derived.Test.YtcdfkdlddmkhmaaBusT
import Derived.Deep.MidRow
namespace Go.Proofs.Ytcdfkdlddmkhmaa
open Go.ChangeShapes Go.WideShapes Go.ChangeAt Go.RowKit
set_option linter.unusedVariables false
attribute [local go_sem high] neq4 eql4 guard4

theorem run_append_nilS (w : World) (c : Nat) (ty : TypeId) : (Builtin.append_ #[22, 22] ty #[.slice none 0 0, .slice none 0 c]).run Try.prog w = .ok (.slice none 0 0) w := by
  obtain ⟨i0, hi, hz0, hz1, hz2⟩ := info_parts info_sp
  simp [Builtin.append_, run_underlying Try.underlying22, sizeOf, typeInfo, hi, Builtin.lenOf, Builtin.firstCells, go_sem]
theorem flatS_one_cell (xs : List Sp) : ∀ u ∈ flatS xs, u.oneCell' = true := by
  intro u hu
  simp only [flatS, List.mem_flatMap] at hu
  obtain ⟨x, _, hx⟩ := hu
  simp only [Sp.cs, List.mem_cons, List.not_mem_nil, or_false] at hx
  rcases hx with rfl | rfl | rfl | rfl <;> rfl
theorem flatS_cells {W : World} {g o : Nat} {xs : List Sp} (h : SpCells W g o xs) : ∀ j u, (flatS xs)[j]? = some u → W.cell? ((⟨g, o, none⟩ : Addr).add j) = some u := by
  intro j u hu
  have hj : j < xs.length * 4 := by have := (List.getElem?_eq_some_iff.1 hu).1; rwa [flatS_len] at this
  have hq : j / 4 < xs.length := by omega
  obtain ⟨c0, c1, c2, c3⟩ := h (j / 4) xs[j / 4] (List.getElem?_eq_getElem hq)
  have e : j = j / 4 * 4 + j % 4 := by omega
  rw [e, flatS_get xs (j / 4) (j % 4) xs[j / 4] (by omega) (List.getElem?_eq_getElem hq)] at hu
  rw [addr_add, e]
  have hm : j % 4 = 0 ∨ j % 4 = 1 ∨ j % 4 = 2 ∨ j % 4 = 3 := by omega
  rw [← Nat.add_assoc]
  rcases hm with hm | hm | hm | hm <;> rw [hm] at hu ⊢ <;> simp only [Sp.cs, List.getElem?_cons_zero, List.getElem?_cons_succ, Option.some.injEq] at hu <;> subst hu
  · exact c0
  · exact c1
  · exact c2
  · exact c3

theorem wpList_append_spans {ops : Array Oper} {rest : List Oper} {o : Oper} {a : Act} {w : World} {Q : Exit → Act → World → Prop} (hgd : o.guard = none) (s x : Operand)
    (ho : o.op = .call { callee := .builtin .append, args := #[s, x], argTypes := #[22, 22] })
    (hs : a.eval s = .slice none 0 0) (lo hi' : Nat) (xv : Value) (xs : List Sp) (hx : a.eval x = xv) (hy : SpIn lo hi' w xv xs)
    (h : ∀ v' w', w'.ownsRow w.heap.size 33 4 v' xs.length (flatS xs) → Below w.heap.size w w' → wpList Try.prog ops Q rest (a.put o.dst v') w') : wpList Try.prog ops Q (o :: rest) a w := by
  obtain ⟨sa, sc, rfl, hl, hf, hcell⟩ := hy
  cases sa with
  | none =>
    have h0 : xs = [] := by
      cases xs with
      | nil => rfl
      | cons y r => obtain ⟨b, off, e, _⟩ := hcell (by simp); cases e
    subst h0
    refine wpList_plain hgd fun _ hK => ?_
    have hrun := run_append_nilS w sc o.type
    unfold Oper.wp execOp
    simp only [List.length_nil] at hx
    simp only [ho, resolve, invoke, builtin, Sem.run_bind, Sem.run_pure, Result.andThen_ok, List.map_toArray, List.map_cons, List.map_nil, hs, hx, hrun]
    exact hK _ _ (h _ w (World.ownsRow_nil _ _ _ _) (Below.refl _ _))
  | some ad =>
    obtain ⟨i0, hi', hz0, hz1, hz2⟩ := info_parts info_sp
    refine wpList_append_own _ hgd s x 22 ho w.heap.size 33 i0 (.agg #[.int .i64 0, .int .i64 0, .int .i64 0, .int .i64 0]) 4 32 Try.underlying22 hi' hz0 hz1 hz2 rfl (by decide) (.slice none 0 0) 0 [] hs (World.ownsRow_nil _ _ _ _) ad xs.length sc (flatS xs) hx (flatS_len xs) ?_ (flatS_one_cell xs) (by unfold maxLen; omega) (by omega) (Nat.le_refl _) ?_
    · intro j u hu
      have hne : xs ≠ [] := fun e => by rw [e] at hu; simp [flatS] at hu
      obtain ⟨g, off, e, _, _, hc⟩ := hcell hne
      cases e
      exact flatS_cells hc j u hu
    · intro v' w' h1 h2 h3
      have hb : Below w.heap.size w w' := (Below.refl _ _).grown h2 (Nat.le_refl _) (by intro k hk; simp [Value.ownBlock] at hk)
      simp only [Nat.zero_add, List.nil_append] at h1
      exact h v' w' h1 hb

theorem Kept.set {bs : Nat → Prop} {A W : World} (h : Kept bs A W) (p : Addr) (v : Value) (hb : bs p.block) : Kept bs A (W.setCell p v) :=
  h.trans (by
    have k := (Below.refl p.block W).setCell (p := p) (Nat.le_refl _) v
    exact ⟨k.os, k.tape, k.output, k.size, fun i hi hn => Below.heap_setCell W p v i (fun e => hn (by rw [e]; exact hb))⟩)

/-- The row that v owns lies there, n spans long at least. -/
def RowIs (W : World) (g n : Nat) : Prop := ∃ cur, W.heap[g]? = some (.cells cur 33 (0, 0)) ∧ n * 4 ≤ cur.size
theorem RowIs.set {W : World} {g n : Nat} (h : RowIs W g n) (o : Nat) (v : Value) : RowIs (W.setCell ⟨g, o, none⟩ v) g n := by
  obtain ⟨cur, h1, h2⟩ := h
  refine ⟨cur.setIfInBounds o v, ?_, by simpa using h2⟩
  rw [Go.Sort.setCell_eq]
  show (W.heap.modify g _)[g]? = _
  rw [Array.getElem?_modify, if_pos rfl, h1]
  rfl
theorem RowIs.cell {W : World} {g n : Nat} (h : RowIs W g n) {j : Nat} (hj : j < n * 4) : ∃ u, W.cell? ⟨g, j, none⟩ = some u := by
  obtain ⟨cur, h1, h2⟩ := h
  exact ⟨cur[j]'(by omega), by simp [World.cell?, h1, show j < cur.size by omega]⟩
theorem RowIs.frozen {W : World} {g n : Nat} (h : RowIs W g n) (o : Nat) : W.frozen? ⟨g, o, none⟩ = false := by
  obtain ⟨cur, h1, h2⟩ := h
  simp [World.frozen?, h1]
theorem kept_sets {bs : Nat → Prop} {A : World} {b : Nat} (hb : bs b) : ∀ (vs : List Value) (o : Nat) {W : World}, Kept bs A W → Kept bs A (W.setCells b o vs)
  | [], _, _, h => h
  | v :: r, o, W, h => kept_sets hb r (o + 1) (h.set ⟨b, o, none⟩ v hb)
theorem RowIs.sets {g n : Nat} : ∀ (vs : List Value) (o : Nat) {W : World}, RowIs W g n → RowIs (W.setCells g o vs) g n
  | [], _, _, h => h
  | v :: r, o, W, h => RowIs.sets r (o + 1) (h.set o v)
theorem RowIs.there {W : World} {g n k : Nat} (h : RowIs W g n) (hk : k < n) : W.there g (k * 4) 4 := fun j hj => by
  obtain ⟨u, hu⟩ := h.cell (j := k * 4 + j) (by omega)
  exact ⟨by rw [hu]; rfl, h.frozen _⟩
theorem zero_one : (#[Value.int .i64 0, .int .i64 0, .int .i64 0, .int .i64 0] : Array Value).all (·.oneCell') = true := by simp [Value.oneCell']
theorem size_sp4 : (Try.prog.info? 33).map (·.size) = some 4 := by kernel_rfl
theorem RowIs.kept {W W' : World} {g n : Nat} (h : RowIs W g n) (e : W'.heap[g]? = W.heap[g]?) : RowIs W' g n := by
  obtain ⟨cur, h1, h2⟩ := h
  exact ⟨cur, e.trans h1, h2⟩

theorem findV_tup (xs : List Sp) (addr width : Int) : ∃ (x : Sp) (off er : Int), findV xs addr width = tup x off er := by
  rcases findV_cases xs addr width with ⟨m, _, e⟩ | ⟨x, _, _, _, e⟩
  · exact ⟨_, _, _, e⟩
  · exact ⟨_, _, _, e⟩

theorem new_yes2 (lo hi' : Nat) (v : Value) (xs : List Sp) (w : World) (h : SpIn lo hi' w v xs) (hh : hi' ≤ w.heap.size) (he : newE xs = 0) :
    Calls Try.prog 10 #[v] w fun e w' => ∃ p sv, e = .returned (.tuple #[.pointer (some ⟨p, 0, none⟩), .int .i64 0]) ∧ BusAt w.heap.size w'.heap.size w' p sv (sortB xs) ∧ Below w.heap.size w w' := by
  refine (new_any lo hi' v xs w h hh).mono ?_
  rintro e w' ⟨hk, ⟨h0, _⟩ | ⟨_, p, sv, rfl, hB⟩⟩
  · exact absurd he h0
  · exact ⟨p, sv, rfl, hB, hk⟩
theorem rnew_yes2 (lo hi' : Nat) (v : Value) (xs : List Sp) (w : World) (h : SpIn lo hi' w v xs) (hh : hi' ≤ w.heap.size) (he : newE xs = 0) :
    Calls Try.prog 11 #[v] w fun e w' => ∃ sv, e = .returned (.tuple #[sv, .int .i64 0]) ∧ SpIn w.heap.size w'.heap.size w' sv (sortB xs) ∧ Below w.heap.size w w' := by
  refine (rnew_any lo hi' v xs w h hh).mono ?_
  rintro e w' ⟨hk, ⟨h0, _⟩ | ⟨_, sv, rfl, hB⟩⟩
  · exact absurd he h0
  · exact ⟨sv, rfl, hB, hk⟩

end Go.Proofs.Ytcdfkdlddmkhmaa
