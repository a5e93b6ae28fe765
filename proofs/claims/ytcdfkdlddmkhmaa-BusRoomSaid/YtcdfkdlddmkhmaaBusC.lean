/-
  slices.AppendSeq, Collect, SortFunc, SortedFunc at spans.
-/
import Derived.Test.YtcdfkdlddmkhmaaBusB
import Derived.Test.YtcdfkdlddmkhmaaBusS
import Derived.Test.YtcdfkdlddmkhmaaSort
import Derived.Maps.AppendAt
namespace Go.Proofs.Ytcdfkdlddmkhmaa
open Go.ChangeShapes Go.WideShapes Go.ChangeAt Go.RowKit Go.Shelf
set_option linter.unusedVariables false
attribute [local go_sem] Oper.semAt_some

theorem info_sp : (Try.prog.info? 33).map (fun i => (i.zero, i.size, i.bytes)) = some (some (.agg #[.int .i64 0, .int .i64 0, .int .i64 0, .int .i64 0]), 4, 32) := by kernel_rfl

theorem addr_add (b o c : Nat) : (⟨b, o, none⟩ : Addr).add c = ⟨b, o + c, none⟩ := by
  unfold Addr.add
  split <;> simp_all
/-- The cells of spans, one behind the other. -/
def flatS (xs : List Sp) : List Value := xs.flatMap Sp.cs
theorem cs_len (x : Sp) : x.cs.length = 4 := rfl
theorem flatS_len : ∀ xs, (flatS xs).length = xs.length * 4
  | [] => rfl
  | x :: r => by
    have := flatS_len r
    simp only [flatS, List.flatMap_cons, List.length_append, List.length_cons, cs_len] at this ⊢
    omega
theorem flatS_append (xs ys : List Sp) : flatS (xs ++ ys) = flatS xs ++ flatS ys := by simp [flatS]
theorem flatS_one (x : Sp) : flatS [x] = x.cs := by simp [flatS]
theorem flatS_get : ∀ (xs : List Sp) (j c : Nat) (x : Sp), c < 4 → xs[j]? = some x → (flatS xs)[j * 4 + c]? = x.cs[c]?
  | [], j, c, x, _, h => by simp at h
  | y :: r, 0, c, x, hc, h => by
    simp only [List.getElem?_cons_zero, Option.some.injEq] at h
    subst h
    simp only [flatS, List.flatMap_cons, Nat.zero_mul, Nat.zero_add]
    rw [List.getElem?_append_left (by rw [cs_len]; exact hc)]
  | y :: r, j + 1, c, x, hc, h => by
    simp only [flatS, List.flatMap_cons]
    rw [List.getElem?_append_right (by rw [cs_len]; omega), cs_len, show (j + 1) * 4 + c - 4 = j * 4 + c by omega]
    exact flatS_get r j c x hc (by simpa using h)
/-- A slice that owns its spans' cells, as a slice that holds them. -/
theorem spCells_of_own {W : World} {base : Nat} {g : Nat} {n cap : Nat} {xs : List Sp} (h : W.ownsRow base 33 4 (.slice (some ⟨g, 0, none⟩) n cap) xs.length (flatS xs)) : SpCells W g 0 xs := fun j x hx => by
  have hc := h.cells (g := g) rfl
  have K : ∀ c, c < 4 → ∀ u, x.cs[c]? = some u → W.cell? ⟨g, 0 + j * 4 + c, none⟩ = some u := fun c hc4 u hu => by
    have := hc (j * 4 + c) u (by rw [flatS_get xs j c x hc4 hx]; exact hu)
    rwa [addr_add, ← Nat.add_assoc] at this
  exact ⟨K 0 (by omega) _ rfl, K 1 (by omega) _ rfl, K 2 (by omega) _ rfl, K 3 (by omega) _ rfl⟩
theorem spIn_of_own {W : World} {base : Nat} {v : Value} {xs : List Sp} (h : W.ownsRow base 33 4 v xs.length (flatS xs)) (hl : xs.length ≤ 4398046511104) (hf : ∀ x ∈ xs, x.Fair) : SpIn base W.heap.size W v xs := by
  rcases h.2 with ⟨rfl, h0⟩ | ⟨g, cap, cur, rfl, hb, hg, _⟩
  · refine ⟨none, 0, by rw [h0], hl, hf, fun hne => absurd (List.length_eq_zero_iff.1 h0) hne⟩
  · exact ⟨some ⟨g, 0, none⟩, cap, rfl, hl, hf, fun hne => ⟨g, 0, rfl, hb, (Array.getElem?_eq_some_iff.1 hg).1, spCells_of_own h⟩⟩

theorem cell_four_new (w : World) (x : Sp) (t : TypeId) : ∀ j u, x.cs[j]? = some u → (w.alloc (.cells #[.int .i64 x.b, .int .i64 x.s, .int .i64 x.k, .int .i64 x.i] t)).cell? ((⟨w.heap.size, 0, none⟩ : Addr).add j) = some u := by
  intro j u h
  match j, h with
  | 0, h => simp [Sp.cs] at h; subst h; rw [addr_add]; simp
  | 1, h => simp [Sp.cs] at h; subst h; rw [addr_add]; simp
  | 2, h => simp [Sp.cs] at h; subst h; rw [addr_add]; simp
  | 3, h => simp [Sp.cs] at h; subst h; rw [addr_add]; simp
  | j + 4, h => simp [Sp.cs] at h

/-- A span in a box. -/
def SpBox (W : World) (B : Nat) (x : Sp) : Prop := W.heap[B]? = some (.cells #[.int .i64 x.b, .int .i64 x.s, .int .i64 x.k, .int .i64 x.i] 33 (0, 0))
theorem SpBox.lt {W : World} {B : Nat} {x : Sp} (h : SpBox W B x) : B < W.heap.size := (Array.getElem?_eq_some_iff.1 h).1
theorem SpBox.cells {W : World} {B : Nat} {x : Sp} (h : SpBox W B x) : W.cell? ⟨B, 0, none⟩ = some (.int .i64 x.b) ∧ W.cell? ⟨B, 1, none⟩ = some (.int .i64 x.s) ∧ W.cell? ⟨B, 2, none⟩ = some (.int .i64 x.k) ∧ W.cell? ⟨B, 3, none⟩ = some (.int .i64 x.i) := by
  simp [World.cell?, show W.heap[B]? = _ from h]
theorem SpBox.frozen {W : World} {B : Nat} {x : Sp} (h : SpBox W B x) (o : Nat) : W.frozen? ⟨B, o, none⟩ = false := by simp [World.frozen?, show W.heap[B]? = _ from h]
theorem SpBox.new (W : World) (x : Sp) : SpBox (W.alloc (.cells #[.int .i64 x.b, .int .i64 x.s, .int .i64 x.k, .int .i64 x.i] 33)) W.heap.size x := World.alloc_heap_new W _
theorem SpBox.kept {W W' : World} {B : Nat} {x : Sp} {row : Option Nat} (h : SpBox W B x) (hg : W.grownBy W' row) (hne : some B ≠ row) : SpBox W' B x := (hg.block B h.lt hne).trans h
theorem SpBox.own {B : Nat} {x : Sp} : Own (fun (_ : Unit) W => SpBox W B x) := fun s A A' row hs hg hrow =>
  hs.kept hg (fun e' => by obtain ⟨o, ho, hc⟩ := hrow B e'.symm; rw [show A.heap[B]? = _ from hs] at ho; cases ho; cases hc)

theorem belowK2 {n₀ : Nat} {w : World} (hn : n₀ ≤ w.heap.size) (W : World) (l : Nat) (o o' : Obj) (hl : w.heap.size ≤ l) (_ : l < w.heap.size + 2) (h : W.heap[l]? = some o) (_ : o.isCells = false) : Below n₀ W (W.putObj l o') :=
  (Below.refl n₀ W).grown (grownBy_putObj' W l o') (by have := (Array.getElem?_eq_some_iff.1 h).1; omega) (fun k e => by cases e; omega)

set_option maxRecDepth 100000 in
set_option maxHeartbeats 2000000 in
theorem appendSeq_any (Bs lo n₀ base k0 : Nat) (sv v0 : Value) (c0 : List Value) (xs : List Sp) (w : World) (hBs : Bs < w.heap.size) (hc : w.cell? ⟨Bs, 0, none⟩ = some sv) (h : SpIn lo n₀ w sv xs)
    (hn₀ : n₀ ≤ base) (hbase : base ≤ w.heap.size) (hv0 : w.ownsRow base 33 4 v0 k0 c0) (hlen : k0 + xs.length ≤ 4398046511104) :
    Calls Try.prog 34 #[v0, .func (.func 38) #[] #[.pointer (some ⟨Bs, 0, none⟩)]] w fun e w' =>
      ∃ v, e = .returned v ∧ w'.ownsRow base 33 4 v (k0 + xs.length) (c0 ++ flatS xs) ∧ Below base w w' := by
  obtain ⟨i0, hi', hz0, hz1, hz2⟩ := info_parts info_sp
  obtain ⟨w2, hw2⟩ : ∃ w2, w.alloc (.cells #[v0] 22) = w2 := ⟨_, rfl⟩
  have bV : Boxed w2 w.heap.size 22 v0 := by rw [← hw2]; exact Boxed.new w _ _
  have hz2' : w2.heap.size = w.heap.size + 1 := by rw [← hw2]; simp
  have hb2 : Below w.heap.size w w2 := by rw [← hw2]; exact bal w _
  have hrow2 : w2.ownsRow base 33 4 v0 k0 c0 := by rw [← hw2]; exact hv0.alloc _
  have hstop := values_stops Bs lo n₀ sv xs w2 (by omega) (by omega) ((hb2.cell (p := ⟨Bs, 0, none⟩) hBs).trans hc) (h.below hb2 (by omega))
  have hv0s : ∃ a n cap, v0 = .slice a n cap := by
    rcases hv0.2 with ⟨rfl, _⟩ | ⟨g, cap, cur, rfl, _⟩
    · exact ⟨_, _, _, rfl⟩
    · exact ⟨_, _, _, rfl⟩
  obtain ⟨va, vn, vc, rfl⟩ := hv0s
  clear hv0 hc h
  refine (callsIn_wide (n := 3)).1 ?_
  refine callsIn_of_wp_marks Try.func34 rfl trivial ?_ rfl
  simp only [Try.ntmps34, List.size_toArray, List.length_cons, List.length_nil, Nat.reduceAdd, Nat.reduceSub, Array.replicate_succ, Array.replicate_zero, List.push_toArray, List.append_toArray, List.nil_append, List.cons_append]
  gi_wp2
  refine range_win (n := 3) (by omega) (gf := 38) (lb := #[.pointer (some ⟨Bs, 0, none⟩)]) rfl (enters_of Try.func38 (by kernel_rfl) rfl)
    hstop (fun a b => belowK_t a b) (belowK2 (by omega)) (Below.refl _ _) (fun _ => rfl)
    (fun pre W => (∃ v, Boxed W w.heap.size 22 v ∧ W.ownsRow base 33 4 v (k0 + pre.length) (c0 ++ flatS pre) ∧ True) ∧ Below base w W)
    (fun _ _ _ => False)
    (AbL.and (AbL.own (holdsRow_own base w.heap.size 22 33 4 (fun pre => k0 + List.length pre) (fun pre => c0 ++ flatS pre) (fun _ _ => True))) (AbL.below hbase (by omega)))
    (fun _ _ _ _ _ hs _ _ => hs)
    ⟨⟨_, bV, by simpa [flatS] using hrow2, trivial⟩, hb2.mono hbase⟩
    (fun x a' W => ∃ Bx, SpBox W Bx x ∧ a' = { tmps := #[.slice va vn vc, .func (.func 38) #[] #[.pointer (some ⟨Bs, 0, none⟩)], .pointer (some ⟨w.heap.size, 0, none⟩), undef, .slice none 0 0, .pointer (some ⟨Bx, 0, none⟩), .func (.func 38) #[] #[.pointer (some ⟨Bs, 0, none⟩)], x.v, undef, undef, undef, undef, undef], defers := [] })
    (fun x a' => AbL.own (fun s A B row hs hg hr => by obtain ⟨Bx, e1, e2⟩ := hs; exact ⟨Bx, SpBox.own () A B row e1 hg hr, e2⟩))
    ?assign ?body ?done ?stop
  case assign =>
    rintro l pre x W K ⟨⟨v, hv, hrow, _⟩, hB⟩ hsz hK
    gi_wp2
    exact hK _ _ (KW.of_below (bal W _)) ((bal W _).mono (by have := hB.size; omega)) ⟨⟨v, hv.alloc _, hrow.alloc _, trivial⟩, hB.trans ((bal W _).mono (by have := hB.size; omega))⟩ ⟨W.heap.size, SpBox.new W x, rfl⟩
  case body =>
    rintro l pre x a' W hsz ⟨⟨v, hv, hrow, _⟩, hB⟩ ⟨Bx, hbx, rfl⟩ hpx
    have hlt : pre.length < xs.length := by have := hpx.length_le; simp at this; omega
    clear hpx
    have hcv := hv.cell
    obtain ⟨x0, x1, x2, x3⟩ := hbx.cells
    have hWs := hB.size
    obtain ⟨q, hq⟩ : ∃ q, c0 ++ flatS pre = q := ⟨_, rfl⟩
    obtain ⟨m, hm⟩ : ∃ m, k0 + pre.length = m := ⟨_, rfl⟩
    rw [hq, hm] at hrow
    have hmb : m + 1 ≤ 4398046511104 := by omega
    have HQ := hi hq
    have HM := hi hm
    have HBX := hi hbx
    clear hq hm hbx
    gi_wp2_with (first
      | (gi_at_builtin; refine wpListIn_append_own _ rfl _ _ 22 rfl base 33 i0 (.agg #[.int .i64 0, .int .i64 0, .int .i64 0, .int .i64 0]) 4 32 Try.underlying22 hi' hz0 hz1 hz2 rfl (by decide) _ _ _ rfl (hrow.alloc _) ⟨W.heap.size, 0, none⟩ 1 1 x.cs rfl rfl (cell_four_new _ _ _) (by simp [Sp.cs, Value.oneCell']) (by unfold maxLen; omega) (by omega) (by simp; omega) ?_; intro v' w1 hown' hgrow _; obtain ⟨g', cap', rfl⟩ := ownsRow_succ hown'; obtain ⟨hv1, hv2, hr2, hk2, hb2'⟩ := hv.appended (by decide) hrow (by omega) (by omega) hown' hgrow; have hc1 := hv1.cell; have hf1 := hv1.frozen)
      | gi_in)
    exact ⟨KW.of_others hk2, hb2'.mono hn₀, ⟨_, hv2, by rw [flatS_append, flatS_one, ← List.append_assoc, HQ.out, List.length_append, ← Nat.add_assoc, HM.out]; exact hr2, trivial⟩, hB.trans hb2'⟩
  case done =>
    rintro ys W rfl ⟨⟨v, hv, hrow, _⟩, hB⟩ hK _
    have hcv := hv.cell
    gi_wp2
    refine ⟨by simp, .inl ⟨_, _, rfl, run_takeDeferred hK, ?_⟩⟩
    exact ⟨_, results_tmp rfl _ _ _, v, rfl, ownsRow_putObj hrow _ hK rfl, hB.trans (belowK2 (w := w2) (by omega) W w2.heap.size _ _ (Nat.le_refl _) (by omega) hK rfl)⟩
  case stop =>
    rintro c pre W _ h _ _
    exact h.elim

theorem collect_any (Bs lo n₀ : Nat) (sv : Value) (xs : List Sp) (w : World) (hBs : Bs < w.heap.size) (hc : w.cell? ⟨Bs, 0, none⟩ = some sv) (h : SpIn lo n₀ w sv xs) (hn₀ : n₀ ≤ w.heap.size) :
    Calls Try.prog 36 #[.func (.func 38) #[] #[.pointer (some ⟨Bs, 0, none⟩)]] w fun e w' =>
      ∃ v, e = .returned v ∧ w'.ownsRow w.heap.size 33 4 v xs.length (flatS xs) ∧ Below w.heap.size w w' := by
  have HA := hi (appendSeq_any Bs lo n₀ w.heap.size 0 sv (.slice none 0 0) [] xs w hBs hc h hn₀ (Nat.le_refl _) (World.ownsRow_nil _ _ _ _) (by have := h.len; omega))
  clear hc h
  go_enter Try.func36, Try.ntmps36
  go_wp2_with (go_at_call 34; ((with_reducible refine HA.out.mono ?_); rintro e w1 ⟨v, rfl, hr, hb⟩; have HR := hi hr; clear hr))
  go_ret
  exact ⟨v, rfl, by have := HR.out; simpa using this, hb⟩

end Go.Proofs.Ytcdfkdlddmkhmaa
