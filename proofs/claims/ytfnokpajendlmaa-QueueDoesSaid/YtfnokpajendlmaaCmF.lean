/-
  Package cmd: split at every call: the kind, the numbers in the fields, and whether the command is valid.
-/
import Derived.Test.YtfnokpajendlmaaCmE
import Derived.Test.YtfnokpajendlmaaCmQ
import Derived.Test.YtfnokpajendlmaaLast
import Derived.Test.YtfnokpajendlmaaRnd
namespace Go.Proofs.Ytfnokpajendlmaa
open Go.ChangeShapes Go.WideShapes Go.ChangeAt Go.RowKit Go.Shelf
set_option linter.unusedVariables false
set_option linter.unusedSimpArgs false
attribute [local go_sem] Oper.semAt_some
attribute [local go_sem high] eql_cm neq_cm guard_cm

theorem AbL.cb {β : Type} {B k : Nat} (b : Nat) (t : TypeId) (f : β → Array Value) (hb : b < B) : AbL B k (fun s W => CB W b t (f s)) := AbL.of (m := 2 + k) (fun s A A' row hs hg hr => hs.kept hg (fun e => by have := hr b e.symm; omega)) rfl
theorem below_put {n : Nat} {w W : World} (h : Below n w W) {l : Nat} (o : Obj) (hn : n ≤ W.heap.size) (hl : n ≤ l) : Below n w (W.putObj l o) :=
  h.trans ⟨rfl, rfl, rfl, by simp, fun i hi' => World.putObj_heap_other (by omega)⟩
abbrev nz : Ns := fun _ => 0
theorem results_sp {fn : Func} {c d t : Tmp} (h : fn.results = #[.cell c 119, .cell d 123, .tmp t]) (tmps : Array Value) (w : World) (b g : Nat) (v0 v1 v2 u0 u1 u2 u3 u4 u5 u6 u7 u8 v : Value)
    (hp : tmps.getD c undef = .pointer (some ⟨b, 0, none⟩)) (hq : tmps.getD d undef = .pointer (some ⟨g, 0, none⟩)) (ht : tmps.getD t undef = v) (hb : CB w b 119 #[v0, v1, v2]) (hg : CB w g 123 #[u0, u1, u2, u3, u4, u5, u6, u7, u8]) :
    (results fn tmps).run Try.prog w = .ok (.tuple #[.agg #[v0, v1, v2], .agg #[u0, u1, u2, u3, u4, u5, u6, u7, u8], v]) w := by
  have hp' : tmps[c]?.getD undef = .pointer (some ⟨b, 0, none⟩) := by simpa using hp
  have hq' : tmps[d]?.getD undef = .pointer (some ⟨g, 0, none⟩) := by simpa using hq
  have ht' : tmps[t]?.getD undef = v := by simpa using ht
  have c0 := hb.cell 0
  have c1 := hb.cell 1
  have c2 := hb.cell 2
  have d0 := hg.cell 0
  have d1 := hg.cell 1
  have d2 := hg.cell 2
  have d3 := hg.cell 3
  have d4 := hg.cell 4
  have d5 := hg.cell 5
  have d6 := hg.cell 6
  have d7 := hg.cell 7
  have d8 := hg.cell 8
  simp at c0 c1 c2 d0 d1 d2 d3 d4 d5 d6 d7 d8
  simp [results, h, go_sem, hp', hq', ht', c0, c1, c2, d0, d1, d2, d3, d4, d5, d6, d7, d8]

theorem CB.nine {W : World} {b : Nat} {t : TypeId} {v0 v1 v2 v3 v4 v5 v6 v7 v8 : Value} (h : CB W b t #[v0, v1, v2, v3, v4, v5, v6, v7, v8]) : W.cell? ⟨b, 0, none⟩ = some v0 ∧ W.cell? ⟨b, 1, none⟩ = some v1 ∧ W.cell? ⟨b, 2, none⟩ = some v2 ∧ W.cell? ⟨b, 3, none⟩ = some v3 ∧ W.cell? ⟨b, 4, none⟩ = some v4 ∧ W.cell? ⟨b, 5, none⟩ = some v5 ∧ W.cell? ⟨b, 6, none⟩ = some v6 ∧ W.cell? ⟨b, 7, none⟩ = some v7 ∧ W.cell? ⟨b, 8, none⟩ = some v8 := ⟨h.cell 0, h.cell 1, h.cell 2, h.cell 3, h.cell 4, h.cell 5, h.cell 6, h.cell 7, h.cell 8⟩
theorem CB.three {W : World} {b : Nat} {t : TypeId} {v0 v1 v2 : Value} (h : CB W b t #[v0, v1, v2]) : W.cell? ⟨b, 0, none⟩ = some v0 ∧ W.cell? ⟨b, 1, none⟩ = some v1 ∧ W.cell? ⟨b, 2, none⟩ = some v2 := ⟨h.cell 0, h.cell 1, h.cell 2⟩
/-- Whether some fields hold what fits. -/
def okS (c : Cm) (L : List Nat) : Bool := known c.op && L.all fun f => fits f (numC c f)
theorem okS_snoc (c : Cm) (L : List Nat) (x : Nat) : okS c (L ++ [x]) = (okS c L && fits x (numC c x)) := by simp [okS, Bool.and_assoc]
theorem okS_nil (c : Cm) : okS c [] = known c.op := by simp [okS]

theorem zip_one (i : Nat) (v : Value) (t : Array Value) : Array.foldl (fun t x => t.setIfInBounds x.fst x.snd) t ((#[i] : Array Nat).zip #[v]) = t.setIfInBounds i v := by simp
theorem ns_at (n : Ns) {x : Nat} (h : x < 9) : (Ns.cs n)[x]? = some (.int .i64 (n x)) := by
  have : x = 0 ∨ x = 1 ∨ x = 2 ∨ x = 3 ∨ x = 4 ∨ x = 5 ∨ x = 6 ∨ x = 7 ∨ x = 8 := by omega
  rcases this with rfl | rfl | rfl | rfl | rfl | rfl | rfl | rfl | rfl <;> rfl
theorem ns_set (n : Ns) {x : Nat} (h : x < 9) (v : Int) : (Ns.cs n).setIfInBounds x (.int .i64 v) = Ns.cs (upd n x v) := by
  have : x = 0 ∨ x = 1 ∨ x = 2 ∨ x = 3 ∨ x = 4 ∨ x = 5 ∨ x = 6 ∨ x = 7 ∨ x = 8 := by omega
  rcases this with rfl | rfl | rfl | rfl | rfl | rfl | rfl | rfl | rfl <;> rfl
theorem CB.ns {W : World} {b : Nat} {t : TypeId} {n : Ns} (h : CB W b t (Ns.cs n)) {x : Nat} (hx : x < 9) : W.cell? ⟨b, x, none⟩ = some (.int .i64 (n x)) := (h.cell x).trans (ns_at n hx)
theorem CB.anyN {W : World} {b : Nat} {t : TypeId} {n : Ns} (h : CB W b t (Ns.cs n)) {x : Nat} (hx : x < 9) : ∃ v, W.cell? ⟨b, x, none⟩ = some v := ⟨_, h.ns hx⟩
/-- What split keeps through its loop. -/
structure SpI (w : World) (p q : Nat) (c : Cm) (nums : Ns) (o : Int) (nm : ByteArray) (hs : Int) (sb : Bool) (own : Ns) (V : World) : Prop where
  k : CB V p 119 (Kd.cs o nm hs)
  s : CB V (p + 1) 4 #[.bool sb]
  e : CB V q 123 (Ns.cs nums)
  n : CB V (q + 1) 123 (Ns.cs own)
  c : CB V w.heap.size 36 c.cs
  rk : CB V (w.heap.size + 1) 119 #[.int .i64 0, .string ⟨#[]⟩, .int .i64 0]
  rn : CB V (w.heap.size + 1 + 1) 123 (Ns.cs nz)
  below : Below w.heap.size w V
theorem SpI.later {w : World} {p q : Nat} {c : Cm} {nums : Ns} {o : Int} {nm : ByteArray} {hs : Int} {sb : Bool} {own : Ns} {V V' : World} (h : SpI w p q c nums o nm hs sb own V) (k : Below V.heap.size V V') : SpI w p q c nums o nm hs sb own V' :=
  ⟨h.k.below k, h.s.below k, h.e.below k, h.n.below k, h.c.below k, h.rk.below k, h.rn.below k, h.below.trans (k.mono h.below.size)⟩
theorem SpI.abl {w : World} {p q B : Nat} {c : Cm} {nums : Ns} {o : Int} {nm : ByteArray} {hs : Int} {sb : List Nat → Bool} {own : List Nat → Ns} (hp : p + 1 < B) (hq : q + 1 < B) (hw : w.heap.size + 1 + 1 < B) :
    AbL B 0 (fun pre V => SpI w p q c nums o nm hs (sb pre) (own pre) V) := fun s A A' row h hg hr => by
  have ne : ∀ b, b < B → some b ≠ row := fun b hb e => by rcases hr b e.symm with ⟨h1, _⟩ | ⟨h1, h2⟩ <;> omega
  exact ⟨h.k.kept hg (ne _ (by omega)), h.s.kept hg (ne _ (by omega)), h.e.kept hg (ne _ (by omega)), h.n.kept hg (ne _ (by omega)), h.c.kept hg (ne _ (by omega)), h.rk.kept hg (ne _ (by omega)), h.rn.kept hg (ne _ (by omega)),
    h.below.grown hg h.below.size (fun r e => by rcases hr r e with ⟨h1, _⟩ | ⟨h1, h2⟩ <;> omega)⟩
/-- What the round's second statement reads. -/
structure SpS (w : World) (p q : Nat) (c : Cm) (nums : Ns) (o : Int) (nm : ByteArray) (hs : Int) (sb : Bool) (x : Nat) (own : Ns) (V : World) : Prop where
  sc : V.cell? ⟨p + 1, 0, none⟩ = some (.bool sb)
  nc : V.cell? ⟨q + 1, x, none⟩ = some (.int .i64 (nums x))
  sf : V.frozen? ⟨p + 1, 0, none⟩ = false
  j : SpI w p q c nums o nm hs sb own V
theorem SpS.of {w : World} {p q : Nat} {c : Cm} {nums : Ns} {o : Int} {nm : ByteArray} {hs : Int} {sb : Bool} {x : Nat} {own : Ns} {V : World} (hx : x < 9) (ho : own x = nums x) (h : SpI w p q c nums o nm hs sb own V) : SpS w p q c nums o nm hs sb x own V :=
  ⟨h.s.cell 0, by rw [← ho]; exact h.n.ns hx, h.s.frozen _, h⟩
theorem SpS.later {w : World} {p q : Nat} {c : Cm} {nums : Ns} {o : Int} {nm : ByteArray} {hs : Int} {sb : Bool} {x : Nat} {own : Ns} {V V' : World} (h : SpS w p q c nums o nm hs sb x own V) (k : Below V.heap.size V V') : SpS w p q c nums o nm hs sb x own V' :=
  ⟨(k.cell (p := ⟨p + 1, 0, none⟩) h.j.s.lt).trans h.sc, (k.cell (p := ⟨q + 1, x, none⟩) h.j.n.lt).trans h.nc, (k.frozen (p := ⟨p + 1, 0, none⟩) h.j.s.lt).trans h.sf, h.j.later k⟩
theorem SpI.step {w : World} {p q : Nat} {c : Cm} {nums : Ns} {o : Int} {nm : ByteArray} {hs : Int} {sb : Bool} {V : World} {x : Nat} (pre : List Nat) (hx : x < 9) (h : SpI w p q c nums o nm hs sb (ownF nums pre) V) (hd : p + 1 < q) (hw : w.heap.size + 1 + 1 < p) :
    SpS w p q c nums o nm hs sb x (ownF nums (pre ++ [x])) (V.setCell ⟨q + 1, x, none⟩ (.int .i64 (nums x))) := by
  refine SpS.of hx (by rw [ownF_snoc]; simp [upd]) ⟨h.k.other _ _ _ (by omega), h.s.other _ _ _ (by omega), h.e.other _ _ _ (by omega), ?_, h.c.other _ _ _ (by omega), h.rk.other _ _ _ (by omega), h.rn.other _ _ _ (by omega), below_set h.below (by omega) _⟩
  rw [ownF_snoc, ← ns_set _ hx]
  exact h.n.set x _

theorem SpI.mark {w : World} {p q : Nat} {c : Cm} {nums : Ns} {o : Int} {nm : ByteArray} {hs : Int} {sb : Bool} {own : Ns} {V : World} (h : SpI w p q c nums o nm hs sb own V) (hd : p + 1 < q) (hw : w.heap.size + 1 + 1 < p) (b : Bool) :
    SpI w p q c nums o nm hs b own (V.setCell ⟨p + 1, 0, none⟩ (.bool b)) :=
  ⟨h.k.other _ _ _ (by omega), h.s.set 0 _, h.e.other _ _ _ (by omega), h.n.other _ _ _ (by omega), h.c.other _ _ _ (by omega), h.rk.other _ _ _ (by omega), h.rn.other _ _ _ (by omega), below_set h.below (by omega) _⟩
theorem below_drew (V : World) : Below V.heap.size V V.drew := ⟨rfl, rfl, rfl, Nat.le_refl _, fun _ _ => rfl⟩
theorem kw_drew {B : Nat} (W : World) : KW B W W.drew := ⟨Nat.le_refl _, fun i o _ _ c _ => c⟩
theorem stays_drew {lo hi : Nat} (W : World) : Stays lo hi W W.drew := ⟨Nat.le_refl _, fun i _ _ => rfl⟩

/-- What the statement behind the loop reads, and that it may write its results. -/
structure SpE (w : World) (p q B : Nat) (c : Cm) (o : Int) (nm : ByteArray) (hs : Int) (sb : Bool) (own : Ns) (V : World) : Prop where
  k : CB V p 119 (Kd.cs o nm hs)
  s : CB V (p + 1) 4 #[.bool sb]
  n : CB V (q + 1) 123 (Ns.cs own)
  c : CB V w.heap.size 36 c.cs
  rk : ∃ v0 v1 v2, CB V (w.heap.size + 1) 119 #[v0, v1, v2]
  rn : ∃ u0 u1 u2 u3 u4 u5 u6 u7 u8, CB V (w.heap.size + 1 + 1) 123 #[u0, u1, u2, u3, u4, u5, u6, u7, u8]
  dm : V.heap[B]? = some (.deferred (some []))
  below : Below w.heap.size w V
theorem SpE.later {w : World} {p q B : Nat} {c : Cm} {o : Int} {nm : ByteArray} {hs : Int} {sb : Bool} {own : Ns} {V V' : World} (h : SpE w p q B c o nm hs sb own V) (k : Below V.heap.size V V') : SpE w p q B c o nm hs sb own V' := by
  obtain ⟨v0, v1, v2, h1⟩ := h.rk
  obtain ⟨u0, u1, u2, u3, u4, u5, u6, u7, u8, h2⟩ := h.rn
  exact ⟨h.k.below k, h.s.below k, h.n.below k, h.c.below k, ⟨_, _, _, h1.below k⟩, ⟨_, _, _, _, _, _, _, _, _, h2.below k⟩, (k.block B (Array.getElem?_eq_some_iff.1 h.dm).1).trans h.dm, h.below.trans (k.mono h.below.size)⟩
theorem CB.putO {W : World} {b l : Nat} {t : TypeId} {cs : Array Value} {o : Obj} (hn : b ≠ l) (h : CB W b t cs) : CB (W.putObj l o) b t cs := (World.putObj_heap_other (by omega)).trans h
abbrev set9 (W : World) (b : Nat) (v0 v1 v2 v3 v4 v5 v6 v7 v8 : Value) : World := ((((((((W.setCell ⟨b, 0, none⟩ v0).setCell ⟨b, 1, none⟩ v1).setCell ⟨b, 2, none⟩ v2).setCell ⟨b, 3, none⟩ v3).setCell ⟨b, 4, none⟩ v4).setCell ⟨b, 5, none⟩ v5).setCell ⟨b, 6, none⟩ v6).setCell ⟨b, 7, none⟩ v7).setCell ⟨b, 8, none⟩ v8
theorem CB.set9 {W : World} {b : Nat} {t : TypeId} {a0 a1 a2 a3 a4 a5 a6 a7 a8 : Value} (h : CB W b t #[a0, a1, a2, a3, a4, a5, a6, a7, a8]) (v0 v1 v2 v3 v4 v5 v6 v7 v8 : Value) : CB (set9 W b v0 v1 v2 v3 v4 v5 v6 v7 v8) b t #[v0, v1, v2, v3, v4, v5, v6, v7, v8] := by
  simpa only [List.setIfInBounds_toArray, List.set_cons_zero, List.set_cons_succ] using ((((((((h.set 0 v0).set 1 v1).set 2 v2).set 3 v3).set 4 v4).set 5 v5).set 6 v6).set 7 v7).set 8 v8
theorem heap_set3 (W : World) (b : Nat) (v0 v1 v2 : Value) (k : Nat) (h : k ≠ b) : (set3 W b v0 v1 v2).heap[k]? = W.heap[k]? := by
  rw [Below.heap_setCell _ ⟨b, 2, none⟩ _ k h, Below.heap_setCell _ ⟨b, 1, none⟩ _ k h, Below.heap_setCell _ ⟨b, 0, none⟩ _ k h]
theorem heap_set9 (W : World) (b : Nat) (v0 v1 v2 v3 v4 v5 v6 v7 v8 : Value) (k : Nat) (h : k ≠ b) : (set9 W b v0 v1 v2 v3 v4 v5 v6 v7 v8).heap[k]? = W.heap[k]? := by
  rw [Below.heap_setCell _ ⟨b, 8, none⟩ _ k h, Below.heap_setCell _ ⟨b, 7, none⟩ _ k h, Below.heap_setCell _ ⟨b, 6, none⟩ _ k h, Below.heap_setCell _ ⟨b, 5, none⟩ _ k h, Below.heap_setCell _ ⟨b, 4, none⟩ _ k h, Below.heap_setCell _ ⟨b, 3, none⟩ _ k h, Below.heap_setCell _ ⟨b, 2, none⟩ _ k h, Below.heap_setCell _ ⟨b, 1, none⟩ _ k h, Below.heap_setCell _ ⟨b, 0, none⟩ _ k h]
theorem below_set9 {n : Nat} {w W : World} (h : Below n w W) {b : Nat} (hb : n ≤ b) (v0 v1 v2 v3 v4 v5 v6 v7 v8 : Value) : Below n w (set9 W b v0 v1 v2 v3 v4 v5 v6 v7 v8) :=
  below_set (below_set (below_set (below_set (below_set (below_set (below_set (below_set (below_set h hb _) hb _) hb _) hb _) hb _) hb _) hb _) hb _) hb _
theorem SpE.put3 {w : World} {p q B : Nat} {c : Cm} {o : Int} {nm : ByteArray} {hs : Int} {sb : Bool} {own : Ns} {V : World} (h : SpE w p q B c o nm hs sb own V) (hp : w.heap.size + 1 + 1 < p) (hq : p + 1 < q) (hB : q + 1 < B) (v0 v1 v2 : Value) :
    SpE w p q B c o nm hs sb own (set3 V (w.heap.size + 1) v0 v1 v2) ∧ CB (set3 V (w.heap.size + 1) v0 v1 v2) (w.heap.size + 1) 119 #[v0, v1, v2] := by
  obtain ⟨a0, a1, a2, h1⟩ := h.rk
  obtain ⟨u0, u1, u2, u3, u4, u5, u6, u7, u8, h2⟩ := h.rn
  have e : ∀ k, k ≠ w.heap.size + 1 → _ := fun k hk => heap_set3 V (w.heap.size + 1) v0 v1 v2 k hk
  exact ⟨⟨(e p (by omega)).trans h.k, (e (p + 1) (by omega)).trans h.s, (e (q + 1) (by omega)).trans h.n, (e w.heap.size (by omega)).trans h.c, ⟨_, _, _, h1.set3 v0 v1 v2⟩, ⟨_, _, _, _, _, _, _, _, _, (e _ (by omega)).trans h2⟩, (e B (by omega)).trans h.dm, below_set3 h.below (by omega) _ _ _⟩, h1.set3 v0 v1 v2⟩
theorem SpE.put9 {w : World} {p q B : Nat} {c : Cm} {o : Int} {nm : ByteArray} {hs : Int} {sb : Bool} {own : Ns} {V : World} {k0 k1 k2 : Value} (h : SpE w p q B c o nm hs sb own V ∧ CB V (w.heap.size + 1) 119 #[k0, k1, k2]) (hp : w.heap.size + 1 + 1 < p) (hq : p + 1 < q) (hB : q + 1 < B) (v0 v1 v2 v3 v4 v5 v6 v7 v8 : Value) :
    SpE w p q B c o nm hs sb own (set9 V (w.heap.size + 1 + 1) v0 v1 v2 v3 v4 v5 v6 v7 v8) ∧ CB (set9 V (w.heap.size + 1 + 1) v0 v1 v2 v3 v4 v5 v6 v7 v8) (w.heap.size + 1) 119 #[k0, k1, k2] ∧ CB (set9 V (w.heap.size + 1 + 1) v0 v1 v2 v3 v4 v5 v6 v7 v8) (w.heap.size + 1 + 1) 123 #[v0, v1, v2, v3, v4, v5, v6, v7, v8] := by
  obtain ⟨h, hk⟩ := h
  obtain ⟨u0, u1, u2, u3, u4, u5, u6, u7, u8, h2⟩ := h.rn
  have e : ∀ k, k ≠ w.heap.size + 1 + 1 → _ := fun k hk => heap_set9 V (w.heap.size + 1 + 1) v0 v1 v2 v3 v4 v5 v6 v7 v8 k hk
  exact ⟨⟨(e p (by omega)).trans h.k, (e (p + 1) (by omega)).trans h.s, (e (q + 1) (by omega)).trans h.n, (e w.heap.size (by omega)).trans h.c, ⟨_, _, _, (e _ (by omega)).trans hk⟩, ⟨_, _, _, _, _, _, _, _, _, h2.set9 v0 v1 v2 v3 v4 v5 v6 v7 v8⟩, (e B (by omega)).trans h.dm, below_set9 h.below (by omega) _ _ _ _ _ _ _ _ _⟩, (e _ (by omega)).trans hk, h2.set9 v0 v1 v2 v3 v4 v5 v6 v7 v8⟩

set_option maxRecDepth 100000 in
set_option maxHeartbeats 4000000 in
theorem split_any (c : Cm) (hc : i64B c.addr) (w : World) : Calls Try.prog 74 #[c.v] w fun e w' =>
    e = .returned (.tuple #[Kd.v (kop c.op) (nmB c.op) (hasN c.op), Nv (ownF (numC c) (fieldsL c.op)), .bool (validC c)]) ∧ Below w.heap.size w w' := by
  have HBY := hi (fun W => byOp_any c.op W)
  have HNO := hi (fun W => numbersOf_any c W hc)
  have HAL := hi (fun W => all_any (kop c.op) (nmB c.op) (hasN c.op) W)
  obtain ⟨op, dev, ev, num, coll, tgt, bit, addr, valid⟩ := c
  obtain ⟨nums, hn⟩ : ∃ n, numC ⟨op, dev, ev, num, coll, tgt, bit, addr, valid⟩ = n := ⟨_, rfl⟩
  rw [hn] at HNO
  obtain ⟨o, ho⟩ : ∃ o, kop op = o := ⟨_, rfl⟩
  obtain ⟨nm, hnm⟩ : ∃ nm, nmB op = nm := ⟨_, rfl⟩
  obtain ⟨hs, hhs⟩ : ∃ hs, hasN op = hs := ⟨_, rfl⟩
  obtain ⟨kn, hkn⟩ : ∃ kn, known op = kn := ⟨_, rfl⟩
  dsimp only [Cm.v] at HNO HBY HAL ⊢
  rw [ho, hnm, hhs] at HBY HAL ⊢
  rw [hkn] at HBY
  have HN := hi hn
  have HX0 := hi (((CB.new w 36 (Cm.cs ⟨op, dev, ev, num, coll, tgt, bit, addr, valid⟩)).alloc (.cells #[.int .i64 0, .string ⟨#[]⟩, .int .i64 0] 119)).alloc (.cells (Ns.cs nz) 123))
  clear hn hc
  have HO := hi (And.intro ho (And.intro hnm (And.intro hhs hkn)))
  have hval : validC ⟨op, dev, ev, num, coll, tgt, bit, addr, valid⟩ = ((kn && (fieldsL op).all fun f => fits f (nums f)) && eqCm (joinC o (ownF nums (fieldsL op))) ⟨op, dev, ev, num, coll, tgt, bit, addr, valid⟩) := by
    rw [eqCm_iff, validC]
    dsimp only
    rw [HN.out, hkn]
    cases kn
    · rfl
    · rw [← ho, kop_yes hkn]
  rw [HN.out, hval]
  clear ho hnm hhs hkn hval
  obtain ⟨ow, how⟩ : ∃ ow, ownF nums (fieldsL op) = ow := ⟨_, rfl⟩
  have HOW := hi how
  rw [how]
  obtain ⟨D, hD⟩ : ∃ D, joinC o ow = D := ⟨_, rfl⟩
  have HJ := hi (fun W => join_any o nm hs ow W)
  rw [hD] at HJ ⊢
  obtain ⟨d1, d2, d3, d4, d5, d6, d7, d8, d9⟩ := D
  obtain ⟨rv, hrv⟩ : ∃ rv, ((kn && (fieldsL op).all fun f => fits f (nums f)) && eqCm ⟨d1, d2, d3, d4, d5, d6, d7, d8, d9⟩ ⟨op, dev, ev, num, coll, tgt, bit, addr, valid⟩) = rv := ⟨_, rfl⟩
  rw [hrv]
  have HRV := hi hrv
  clear how hD hrv
  refine (callsIn_wide (n := 6)).1 ?_
  refine callsIn_of_wp_marks Try.func74 rfl trivial ?_ rfl
  simp only [Try.ntmps74, List.size_toArray, List.length_cons, List.length_nil, Nat.reduceAdd, Nat.reduceSub, Array.replicate_succ, Array.replicate_zero, List.push_toArray, List.append_toArray, List.nil_append, List.cons_append]
  refine wpIn_wide.2 ?_
  go_wp2_with (first
    | (go_at_call 69; ((with_reducible refine (HBY.out _).mono ?_); rintro e w1 ⟨rfl, hb1⟩; have HB1 := hi hb1; obtain ⟨c0, c1, c2, c3, c4, c5, c6, c7, c8⟩ := (HX0.out.below hb1).nine; have hz1 : w.heap.size < w1.heap.size := (HX0.out.below hb1).lt; clear hb1))
    | (go_at_call 81; ((with_reducible refine (HNO.out _).mono ?_); rintro e w2 ⟨rfl, hb2⟩; have HB2 := hi hb2; obtain ⟨k0, k1, k2⟩ := ((((CB.new w1 119 (Kd.cs o nm hs)).alloc _).below hb2)).three; have hz2 : w1.heap.size < w2.heap.size := (((CB.new w1 119 (Kd.cs o nm hs)).alloc _).below hb2).lt; clear hb2))
    | (go_at_call 70; ((with_reducible refine (HAL.out _).mono ?_); rintro e w3 ⟨rfl, rfl⟩)))
  -- RANGE
  have hza : w.heap.size + 1 + 1 < w1.heap.size := by have := HB1.out.size; simp at this; omega
  have hzb : w1.heap.size + 1 < w2.heap.size := by have := HB2.out.size; simp at this; omega
  obtain ⟨W3, hW3⟩ : ∃ W3, ((w2.alloc (.cells (Ns.cs nums) 123)).alloc (.cells (Ns.cs nz) 123)).alloc (.cells (Kd.cs o nm hs) 119) = W3 := ⟨_, rfl⟩
  have hz3 : W3.heap.size = w2.heap.size + 3 := by rw [← hW3]; simp
  have H3 : SpI w w1.heap.size w2.heap.size ⟨op, dev, ev, num, coll, tgt, bit, addr, valid⟩ nums o nm hs kn nz W3 ∧ CB W3 (w2.heap.size + 1 + 1) 119 (Kd.cs o nm hs) := by
    rw [← hW3]
    have k1 := HX0.out.below HB1.out
    have k2 := (((CB.new w 36 (Cm.cs ⟨op, dev, ev, num, coll, tgt, bit, addr, valid⟩)).alloc (.cells #[.int .i64 0, .string ⟨#[]⟩, .int .i64 0] 119)).alloc (.cells (Ns.cs nz) 123))
    have k3 := ((cb_second (w := w) (o := .cells (Cm.cs ⟨op, dev, ev, num, coll, tgt, bit, addr, valid⟩) 36) (cs := #[.int .i64 0, .string ⟨#[]⟩, .int .i64 0]) (t := 119)).alloc (.cells (Ns.cs nz) 123)).below HB1.out
    have k4 := (cb_third (w := w) (o := .cells (Cm.cs ⟨op, dev, ev, num, coll, tgt, bit, addr, valid⟩) 36) (o' := .cells #[.int .i64 0, .string ⟨#[]⟩, .int .i64 0] 119) (cs := Ns.cs nz) (t := 123)).below HB1.out
    have b1 : Below w.heap.size w w1 := (bal_three w _ _ _).trans (HB1.out.mono (by simp; omega))
    have b2 : Below w1.heap.size w1 w2 := (bal_two w1 _ _).trans (HB2.out.mono (by simp; omega))
    have b3 := bal_three w2 (.cells (Ns.cs nums) 123) (.cells (Ns.cs nz) 123) (.cells (Kd.cs o nm hs) 119)
    have b4 := b2.trans (b3.mono b2.size)
    exact ⟨⟨(((CB.new w1 119 (Kd.cs o nm hs)).alloc _).below HB2.out).below b3, (cb_second.below HB2.out).below b3, ((CB.new w2 _ _).alloc _).alloc _, cb_second.alloc _, k1.below b4, k3.below b4, k4.below b4, b1.trans (b4.mono b1.size)⟩, cb_third⟩
  have HW3 := hi hW3
  clear hW3
  change Code.wp _ _ _ _ (((w2.alloc (.cells (Ns.cs nums) 123)).alloc (.cells (Ns.cs nz) 123)).alloc (.cells (Kd.cs o nm hs) 119))
  rw [HW3.out]
  have hI3 := H3.1
  have hst := all_stops (w2.heap.size + 1 + 1) op W3 (by have := H3.2; unfold kdBox; rw [HO.out.1, HO.out.2.1, HO.out.2.2.1]; exact this)
  clear H3
  have H3 := hi hI3
  clear hI3 k0 k1 k2 c0 c1 c2 c3 c4 c5 c6 c7 c8
  refine (wpIn_wide (n := 6)).1 ?_
  refine range_win (n := 6) (by omega) (gf := 80) (lb := #[.pointer (some ⟨w2.heap.size + 1 + 1, 0, none⟩)]) rfl (enters_of Try.func80 (by kernel_rfl) rfl)
    hst (fun a b => Stays.trans a b) (fun W l o o' h1 h2 h3 h4 => stays_put (by omega)) (Below.refl _ _) (fun _ => rfl)
    (fun pre V => SpI w w1.heap.size w2.heap.size ⟨op, dev, ev, num, coll, tgt, bit, addr, valid⟩ nums o nm hs (kn && pre.all fun f => fits f (nums f)) (ownF nums pre) V)
    (fun cd pre V => False)
    (SpI.abl (by omega) (by omega) (by omega))
    (fun _ _ _ _ _ hs _ _ => hs)
    (by rw [ownF_nil]; simpa using H3.out)
    (fun x a' V => a' = { tmps := #[.agg #[.int .i64 op, .int .i64 dev, .int .i64 ev, .int .i64 num, .int .i64 coll, .int .i64 tgt, .int .i64 bit, .int .i64 addr, .bool valid], .pointer (some ⟨w.heap.size, 0, none⟩), .pointer (some ⟨w.heap.size + 1, 0, none⟩), .pointer (some ⟨w.heap.size + 1 + 1, 0, none⟩), .bool false, .pointer (some ⟨w1.heap.size, 0, none⟩), .pointer (some ⟨w1.heap.size + 1, 0, none⟩), .pointer (some ⟨w2.heap.size, 0, none⟩), .pointer (some ⟨w2.heap.size + 1, 0, none⟩), .int .i64 x, .tuple #[Kd.v o nm hs, .bool kn], .pointer (some ⟨w.heap.size, 0, none⟩), .int .i64 op, .tuple #[Kd.v o nm hs, .bool kn], Kd.v o nm hs, .bool kn, .agg #[.int .i64 op, .int .i64 dev, .int .i64 ev, .int .i64 num, .int .i64 coll, .int .i64 tgt, .int .i64 bit, .int .i64 addr, .bool valid], Nv nums, .agg #[.int .i64 o, .string nm, .int .i64 hs], .func (.func 80) #[] #[.pointer (some ⟨w2.heap.size + 1 + 1, 0, none⟩)], .int .i64 x, undef, undef, undef, undef, undef, undef, undef, undef, undef, undef, undef, undef, undef, undef, undef, undef, undef, undef, undef, undef, undef, undef, undef, undef, undef, undef, undef, undef, undef, undef, undef], defers := [] })
    (fun x a' => AbL.pure _ _ _)
    ?assign ?body ?done ?stop
  case assign =>
    rintro l' pre x V K h hsz hK
    rw [zip_one]
    gi_wp2
    exact hK _ _ (KW.refl _ _) (Stays.refl _ _ _) h rfl
  case body =>
    rintro l' pre x a' V hsz hI rfl hpx
    have hx9 : x < 9 := by
      have : x ∈ fieldsL op := hpx.subset (by simp)
      exact fieldsL_lt op x this
    have HPL := hi (fun W => place_any x hx9 W)
    have HMO := hi (fun W => most_any x hx9 W)
    have HX9 := hi hx9
    have x1 : (x : Int) < 9 := by omega
    have ec := hI.e.ns hx9
    have nf := hI.n.frozen
    obtain ⟨nv, hnv⟩ := hI.n.anyN hx9
    obtain ⟨sb, hsb⟩ : ∃ sb, (kn && pre.all fun f => fits f (nums f)) = sb := ⟨_, rfl⟩
    rw [hsb] at hI
    have HSB := hi hsb
    have HI := hi hI
    have hwz : w2.heap.size + 1 < V.heap.size := by omega
    have hwz0 : w2.heap.size < V.heap.size := by omega
    clear hI hsb hpx hx9
    obtain ⟨vx, hvx⟩ : ∃ vx, nums x = vx := ⟨_, rfl⟩
    have HVX := hi hvx
    rw [hvx] at ec
    clear hvx
    gi_wp2
    obtain ⟨V2, hV2⟩ : ∃ V2, V.setCell ⟨w2.heap.size + 1, x, none⟩ (.int .i64 vx) = V2 := ⟨_, rfl⟩
    rw [hV2]
    have HS : Hi (SpS w w1.heap.size w2.heap.size ⟨op, dev, ev, num, coll, tgt, bit, addr, valid⟩ nums o nm hs sb x (ownF nums (pre ++ [x])) V2) := hi (by
      rw [← hV2, ← HVX.out]
      exact HI.out.step pre HX9.out (by omega) (by omega))
    have HKW := hi (show KW W3.heap.size V V2 ∧ Stays (w2.heap.size + 1 + 1) (w2.heap.size + 1 + 1 + 1) V V2 by rw [← hV2]; exact ⟨KW.set _ _ _, stays_set (by omega)⟩)
    have hz2' : V2.heap.size = V.heap.size := by rw [← hV2]; simp
    clear hV2 ec nf hnv nv
    have HFIT := hi (show (kn && (pre ++ [x]).all fun f => fits f (nums f)) = (sb && (decide (0 ≤ vx) && decide (vx ≤ (pr x : Int) - 1))) by
      rw [← HSB.out, ← HVX.out]; simp [fits, Bool.and_assoc])
    have HSD := hi (show SpS w w1.heap.size w2.heap.size ⟨op, dev, ev, num, coll, tgt, bit, addr, valid⟩ nums o nm hs sb x (ownF nums (pre ++ [x])) V2.drew from HS.out.later (below_drew V2))
    cases sb
    · refine region_last_r (S := (fun w' => SpS w w1.heap.size w2.heap.size ⟨op, dev, ev, num, coll, tgt, bit, addr, valid⟩ nums o nm hs false x (ownF nums (pre ++ [x])) w')) [16] (by kernel_rfl) (by rfl) HSD.out (fun hHeld => ?_)
      (try simp only [Array.replicate_succ, Array.replicate_zero, List.push_toArray, List.nil_append, List.cons_append])
      refine wpAnyF_take (i := 0) (v := ?_) (by kernel_rfl) (by kernel_rfl) rfl (by kernel_rfl) (by kernel_rfl) (by kernel_rfl) (fun _ _ _ h => h) (Or.inl ⟨by rfl, ?_⟩) (by assumption) ?_
      rotate_left
      · intro w' hSw; (try dsimp only at hSw); obtain ⟨sc, nc, sf, jj⟩ := hSw; rw [HVX.out] at nc; clear sf jj; go_simp; (try with_reducible rfl)
      (try simp only [Act.put, List.getElem_toArray, List.getElem_cons_zero, List.getElem_cons_succ, List.setIfInBounds_toArray, List.set_cons_zero, List.set_cons_succ])
      refine wpAnyF_take (i := 1) (v := ?_) (by kernel_rfl) (by kernel_rfl) rfl (by kernel_rfl) (by kernel_rfl) (by kernel_rfl) (fun _ _ _ h => h) (Or.inl ⟨by rfl, ?_⟩) (by assumption) ?_
      rotate_left
      · intro w' hSw; (try dsimp only at hSw); go_simp; (try with_reducible rfl)
      (try simp only [Act.put, List.getElem_toArray, List.getElem_cons_zero, List.getElem_cons_succ, List.setIfInBounds_toArray, List.set_cons_zero, List.set_cons_succ])
      refine wpAnyF_take (i := 2) (v := undef) (by kernel_rfl) (by kernel_rfl) rfl (by kernel_rfl) (by kernel_rfl) (by kernel_rfl) (fun _ _ _ h => h) (Or.inr ⟨by rfl, rfl⟩) (by assumption) ?_
      (try simp only [Act.put, List.getElem_toArray, List.getElem_cons_zero, List.getElem_cons_succ, List.setIfInBounds_toArray, List.set_cons_zero, List.set_cons_succ])
      refine wpAnyF_take (i := 3) (v := undef) (by kernel_rfl) (by kernel_rfl) rfl (by kernel_rfl) (by kernel_rfl) (by kernel_rfl) (fun _ _ _ h => h) (Or.inr ⟨by rfl, rfl⟩) (by assumption) ?_
      (try simp only [Act.put, List.getElem_toArray, List.getElem_cons_zero, List.getElem_cons_succ, List.setIfInBounds_toArray, List.set_cons_zero, List.set_cons_succ])
      refine wpAnyF_take (i := 4) (v := undef) (by kernel_rfl) (by kernel_rfl) rfl (by kernel_rfl) (by kernel_rfl) (by kernel_rfl) (fun _ _ _ h => h) (Or.inr ⟨by rfl, rfl⟩) (by assumption) ?_
      (try simp only [Act.put, List.getElem_toArray, List.getElem_cons_zero, List.getElem_cons_succ, List.setIfInBounds_toArray, List.set_cons_zero, List.set_cons_succ])
      refine wpAnyF_take (i := 5) (v := undef) (by kernel_rfl) (by kernel_rfl) rfl (by kernel_rfl) (by kernel_rfl) (by kernel_rfl) (fun _ _ _ h => h) (Or.inr ⟨by rfl, rfl⟩) (by assumption) ?_
      (try simp only [Act.put, List.getElem_toArray, List.getElem_cons_zero, List.getElem_cons_succ, List.setIfInBounds_toArray, List.set_cons_zero, List.set_cons_succ])
      refine wpAnyF_take (i := 6) (v := ?_) (by kernel_rfl) (by kernel_rfl) rfl (by kernel_rfl) (by kernel_rfl) (by kernel_rfl) (fun _ _ _ h => h) (Or.inl ⟨by rfl, ?_⟩) (by assumption) ?_
      rotate_left
      · intro w' hSw; (try dsimp only at hSw); go_simp; (try with_reducible rfl)
      (try simp only [Act.put, List.getElem_toArray, List.getElem_cons_zero, List.getElem_cons_succ, List.setIfInBounds_toArray, List.set_cons_zero, List.set_cons_succ])
      refine wpAnyF_take (i := 7) (v := ?_) (by kernel_rfl) (by kernel_rfl) rfl (by kernel_rfl) (by kernel_rfl) (by kernel_rfl) (fun _ _ _ h => h) (Or.inl ⟨by rfl, ?_⟩) (by assumption) ?_
      rotate_left
      · intro w' hSw; (try dsimp only at hSw); go_simp; (try with_reducible rfl)
      (try simp only [Act.put, List.getElem_toArray, List.getElem_cons_zero, List.getElem_cons_succ, List.setIfInBounds_toArray, List.set_cons_zero, List.set_cons_succ])
      refine wpAnyF_take (i := 8) (v := undef) (by kernel_rfl) (by kernel_rfl) rfl (by kernel_rfl) (by kernel_rfl) (by kernel_rfl) (fun _ _ _ h => h) (Or.inr ⟨by rfl, rfl⟩) (by assumption) ?_
      (try simp only [Act.put, List.getElem_toArray, List.getElem_cons_zero, List.getElem_cons_succ, List.setIfInBounds_toArray, List.set_cons_zero, List.set_cons_succ])
      refine wpAnyF_take (i := 9) (v := undef) (by kernel_rfl) (by kernel_rfl) rfl (by kernel_rfl) (by kernel_rfl) (by kernel_rfl) (fun _ _ _ h => h) (Or.inr ⟨by rfl, rfl⟩) (by assumption) ?_
      (try simp only [Act.put, List.getElem_toArray, List.getElem_cons_zero, List.getElem_cons_succ, List.setIfInBounds_toArray, List.set_cons_zero, List.set_cons_succ])
      refine wpAnyF_take (i := 10) (v := undef) (by kernel_rfl) (by kernel_rfl) rfl (by kernel_rfl) (by kernel_rfl) (by kernel_rfl) (fun _ _ _ h => h) (Or.inr ⟨by rfl, rfl⟩) (by assumption) ?_
      (try simp only [Act.put, List.getElem_toArray, List.getElem_cons_zero, List.getElem_cons_succ, List.setIfInBounds_toArray, List.set_cons_zero, List.set_cons_succ])
      refine wpAnyF_take (i := 11) (v := undef) (by kernel_rfl) (by kernel_rfl) rfl (by kernel_rfl) (by kernel_rfl) (by kernel_rfl) (fun _ _ _ h => h) (Or.inr ⟨by rfl, rfl⟩) (by assumption) ?_
      (try simp only [Act.put, List.getElem_toArray, List.getElem_cons_zero, List.getElem_cons_succ, List.setIfInBounds_toArray, List.set_cons_zero, List.set_cons_succ])
      refine wpAnyF_take (i := 12) (v := undef) (by kernel_rfl) (by kernel_rfl) rfl (by kernel_rfl) (by kernel_rfl) (by kernel_rfl) (fun _ _ _ h => h) (Or.inr ⟨by rfl, rfl⟩) (by assumption) ?_
      (try simp only [Act.put, List.getElem_toArray, List.getElem_cons_zero, List.getElem_cons_succ, List.setIfInBounds_toArray, List.set_cons_zero, List.set_cons_succ])
      refine wpAnyF_take (i := 13) (v := undef) (by kernel_rfl) (by kernel_rfl) rfl (by kernel_rfl) (by kernel_rfl) (by kernel_rfl) (fun _ _ _ h => h) (Or.inr ⟨by rfl, rfl⟩) (by assumption) ?_
      (try simp only [Act.put, List.getElem_toArray, List.getElem_cons_zero, List.getElem_cons_succ, List.setIfInBounds_toArray, List.set_cons_zero, List.set_cons_succ])
      refine wpAnyF_take (i := 14) (v := undef) (by kernel_rfl) (by kernel_rfl) rfl (by kernel_rfl) (by kernel_rfl) (by kernel_rfl) (fun _ _ _ h => h) (Or.inr ⟨by rfl, rfl⟩) (by assumption) ?_
      (try simp only [Act.put, List.getElem_toArray, List.getElem_cons_zero, List.getElem_cons_succ, List.setIfInBounds_toArray, List.set_cons_zero, List.set_cons_succ])
      refine wpAnyF_take (i := 15) (v := ?_) (by kernel_rfl) (by kernel_rfl) rfl (by kernel_rfl) (by kernel_rfl) (by kernel_rfl) (fun _ _ _ h => h) (Or.inl ⟨by rfl, ?_⟩) (by assumption) ?_
      rotate_left
      · intro w' hSw; (try dsimp only at hSw); go_simp; (try with_reducible rfl)
      (try simp only [Act.put, List.getElem_toArray, List.getElem_cons_zero, List.getElem_cons_succ, List.setIfInBounds_toArray, List.set_cons_zero, List.set_cons_succ])
      refine wpAnyF_ready (rs := [16]) (by kernel_rfl) (by simp) ?_
      refine AllReadyF.last (by kernel_rfl) rfl (fun KK hKK => ?_) AllReadyF.nil
      have sc := HS.out.sc
      have sf := HS.out.sf
      go_simp
      refine hKK.out _ _ ?_
      clear hKK KK
      (try simp only [Act.put, List.getElem_toArray, List.getElem_cons_zero, List.getElem_cons_succ, List.setIfInBounds_toArray, List.set_cons_zero, List.set_cons_succ])
      refine wpAnyF_done (by kernel_rfl) ?_ _
      refine normQ_in ?_
      exact ⟨(HKW.out.1.trans (KW.set _ _ _)).trans (kw_drew _), (HKW.out.2.trans (stays_set (by omega))).trans (stays_drew _), show SpI _ _ _ _ _ _ _ _ (kn && (pre ++ [x]).all fun f => fits f (nums f)) _ _ by rw [HFIT.out]; exact (HS.out.j.mark (by omega) (by omega) _).later (below_drew _)⟩
    · by_cases h0 : 0 ≤ vx
      · refine region_last_r (S := (fun w' => SpS w w1.heap.size w2.heap.size ⟨op, dev, ev, num, coll, tgt, bit, addr, valid⟩ nums o nm hs true x (ownF nums (pre ++ [x])) w')) [16] (by kernel_rfl) (by rfl) HSD.out (fun hHeld => ?_)
        (try simp only [Array.replicate_succ, Array.replicate_zero, List.push_toArray, List.nil_append, List.cons_append])
        refine wpAnyF_take (i := 0) (v := ?_) (by kernel_rfl) (by kernel_rfl) rfl (by kernel_rfl) (by kernel_rfl) (by kernel_rfl) (fun _ _ _ h => h) (Or.inl ⟨by rfl, ?_⟩) (by assumption) ?_
        rotate_left
        · intro w' hSw; (try dsimp only at hSw); obtain ⟨sc, nc, sf, jj⟩ := hSw; rw [HVX.out] at nc; clear sf jj; go_simp; (try with_reducible rfl)
        (try simp only [Act.put, List.getElem_toArray, List.getElem_cons_zero, List.getElem_cons_succ, List.setIfInBounds_toArray, List.set_cons_zero, List.set_cons_succ])
        refine wpAnyF_take (i := 1) (v := ?_) (by kernel_rfl) (by kernel_rfl) rfl (by kernel_rfl) (by kernel_rfl) (by kernel_rfl) (fun _ _ _ h => h) (Or.inl ⟨by rfl, ?_⟩) (by assumption) ?_
        rotate_left
        · intro w' hSw; (try dsimp only at hSw); go_simp; (try with_reducible rfl)
        (try simp only [Act.put, List.getElem_toArray, List.getElem_cons_zero, List.getElem_cons_succ, List.setIfInBounds_toArray, List.set_cons_zero, List.set_cons_succ])
        refine wpAnyF_take (i := 2) (v := ?_) (by kernel_rfl) (by kernel_rfl) rfl (by kernel_rfl) (by kernel_rfl) (by kernel_rfl) (fun _ _ _ h => h) (Or.inl ⟨by rfl, ?_⟩) (by assumption) ?_
        rotate_left
        · intro w' hSw; (try dsimp only at hSw); go_simp; (try with_reducible rfl)
        (try simp only [Act.put, List.getElem_toArray, List.getElem_cons_zero, List.getElem_cons_succ, List.setIfInBounds_toArray, List.set_cons_zero, List.set_cons_succ])
        refine wpAnyF_take (i := 3) (v := ?_) (by kernel_rfl) (by kernel_rfl) rfl (by kernel_rfl) (by kernel_rfl) (by kernel_rfl) (fun _ _ _ h => h) (Or.inl ⟨by rfl, ?_⟩) (by assumption) ?_
        rotate_left
        · intro w' hSw; (try dsimp only at hSw); go_simp; (try with_reducible rfl)
        (try simp only [Act.put, List.getElem_toArray, List.getElem_cons_zero, List.getElem_cons_succ, List.setIfInBounds_toArray, List.set_cons_zero, List.set_cons_succ])
        refine wpAnyF_take (i := 4) (v := ?_) (by kernel_rfl) (by kernel_rfl) rfl (by kernel_rfl) (by kernel_rfl) (by kernel_rfl) (fun _ _ _ h => h) (Or.inl ⟨by rfl, ?_⟩) (by assumption) ?_
        rotate_left
        · intro w' hSw; (try dsimp only at hSw); obtain ⟨sc, nc, sf, jj⟩ := hSw; rw [HVX.out] at nc; clear sf jj; go_simp; (try with_reducible rfl)
        (try simp only [Act.put, List.getElem_toArray, List.getElem_cons_zero, List.getElem_cons_succ, List.setIfInBounds_toArray, List.set_cons_zero, List.set_cons_succ])
        refine wpAnyF_take (i := 5) (v := ?_) (by kernel_rfl) (by kernel_rfl) rfl (by kernel_rfl) (by kernel_rfl) (by kernel_rfl) (fun _ _ _ h => h) (Or.inl ⟨by rfl, ?_⟩) (by assumption) ?_
        rotate_left
        · intro w' hSw; (try dsimp only at hSw); go_simp; (try with_reducible rfl)
        (try simp only [Act.put, List.getElem_toArray, List.getElem_cons_zero, List.getElem_cons_succ, List.setIfInBounds_toArray, List.set_cons_zero, List.set_cons_succ])
        refine wpAnyF_take (i := 6) (v := ?_) (by kernel_rfl) (by kernel_rfl) rfl (by kernel_rfl) (by kernel_rfl) (by kernel_rfl) (fun _ _ _ h => h) (Or.inl ⟨by rfl, ?_⟩) (by assumption) ?_
        rotate_left
        · intro w' hSw; (try dsimp only at hSw); go_simp; (try with_reducible rfl)
        (try simp only [Act.put, List.getElem_toArray, List.getElem_cons_zero, List.getElem_cons_succ, List.setIfInBounds_toArray, List.set_cons_zero, List.set_cons_succ])
        refine wpAnyF_take (i := 7) (v := ?_) (by kernel_rfl) (by kernel_rfl) rfl (by kernel_rfl) (by kernel_rfl) (by kernel_rfl) (fun _ _ _ h => h) (Or.inl ⟨by rfl, ?_⟩) (by assumption) ?_
        rotate_left
        · intro w' hSw; (try dsimp only at hSw); go_simp; (try with_reducible rfl)
        (try simp only [Act.put, List.getElem_toArray, List.getElem_cons_zero, List.getElem_cons_succ, List.setIfInBounds_toArray, List.set_cons_zero, List.set_cons_succ])
        refine wpAnyF_take (i := 8) (v := ?_) (by kernel_rfl) (by kernel_rfl) rfl (by kernel_rfl) (by kernel_rfl) (by kernel_rfl) (fun _ _ _ h => h) (Or.inl ⟨by rfl, ?_⟩) (by assumption) ?_
        rotate_left
        · intro w' hSw; (try dsimp only at hSw); go_simp; (try with_reducible rfl)
        (try simp only [Act.put, List.getElem_toArray, List.getElem_cons_zero, List.getElem_cons_succ, List.setIfInBounds_toArray, List.set_cons_zero, List.set_cons_succ])
        refine wpAnyF_take (i := 9) (v := ?_) (by kernel_rfl) (by kernel_rfl) rfl (by kernel_rfl) (by kernel_rfl) (by kernel_rfl) (fun _ _ _ h => h) (Or.inl ⟨by rfl, ?_⟩) (by assumption) ?_
        rotate_left
        · intro w' hSw; (try dsimp only at hSw); go_simp; (try with_reducible rfl)
        (try simp only [Act.put, List.getElem_toArray, List.getElem_cons_zero, List.getElem_cons_succ, List.setIfInBounds_toArray, List.set_cons_zero, List.set_cons_succ])
        refine wpAnyF_take (i := 10) (v := ?_) (by kernel_rfl) (by kernel_rfl) rfl (by kernel_rfl) (by kernel_rfl) (by kernel_rfl) (fun _ _ _ h => h) (Or.inl ⟨by rfl, ?_⟩) (by assumption) ?_
        rotate_left
        · intro w' hSw; (try dsimp only at hSw); obtain ⟨sc, nc, sf, jj⟩ := hSw; rw [HVX.out] at nc; clear sf jj; go_simp; (try with_reducible rfl)
        (try simp only [Act.put, List.getElem_toArray, List.getElem_cons_zero, List.getElem_cons_succ, List.setIfInBounds_toArray, List.set_cons_zero, List.set_cons_succ])
        refine wpAnyF_take (i := 11) (v := ?_) (by kernel_rfl) (by kernel_rfl) rfl (by kernel_rfl) (by kernel_rfl) (by kernel_rfl) (fun _ _ _ h => h) (Or.inl ⟨by rfl, ?_⟩) (by assumption) ?_
        rotate_left
        · intro w' hSw; (try dsimp only at hSw); go_simp; (try with_reducible rfl)
        (try simp only [Act.put, List.getElem_toArray, List.getElem_cons_zero, List.getElem_cons_succ, List.setIfInBounds_toArray, List.set_cons_zero, List.set_cons_succ])
        refine wpAnyF_ready (rs := [12]) (by kernel_rfl) (by simp) ?_
        refine AllReadyF.cons rfl (fun KK hKK => ?_) AllReadyF.nil
        go_simp
        ((with_reducible refine (HPL.out _).mono ?_); rintro e' w5 ⟨rfl, hb5⟩; have HB5 := hi hb5; clear hb5)
        (try go_simp)
        refine hKK.out _ _ (hHeld.later HB5.out) (fun hHeld => ?_)
        clear hKK KK
        (try simp only [Act.put, List.getElem_toArray, List.getElem_cons_zero, List.getElem_cons_succ, List.setIfInBounds_toArray, List.set_cons_zero, List.set_cons_succ])
        refine wpAnyF_ready (rs := [13]) (by kernel_rfl) (by simp) ?_
        refine AllReadyF.cons rfl (fun KK hKK => ?_) AllReadyF.nil
        go_simp
        ((with_reducible refine (HMO.out _).mono ?_); rintro e' w6 ⟨rfl, hb6⟩; have HB6 := hi (HB5.out.trans (hb6.mono HB5.out.size)); have hH6 := hHeld.later hb6; clear hb6)
        (try go_simp)
        refine hKK.out _ _ hH6 (fun hHeld => ?_)
        clear hKK KK
        (try simp only [Act.put, List.getElem_toArray, List.getElem_cons_zero, List.getElem_cons_succ, List.setIfInBounds_toArray, List.set_cons_zero, List.set_cons_succ])
        refine wpAnyF_take (i := 14) (v := ?_) (by kernel_rfl) (by kernel_rfl) rfl (by kernel_rfl) (by kernel_rfl) (by kernel_rfl) (fun _ _ _ h => h) (Or.inl ⟨by rfl, ?_⟩) (by assumption) ?_
        rotate_left
        · intro w' hSw; (try dsimp only at hSw); go_simp; (try with_reducible rfl)
        (try simp only [Act.put, List.getElem_toArray, List.getElem_cons_zero, List.getElem_cons_succ, List.setIfInBounds_toArray, List.set_cons_zero, List.set_cons_succ])
        refine wpAnyF_take (i := 15) (v := ?_) (by kernel_rfl) (by kernel_rfl) rfl (by kernel_rfl) (by kernel_rfl) (by kernel_rfl) (fun _ _ _ h => h) (Or.inl ⟨by rfl, ?_⟩) (by assumption) ?_
        rotate_left
        · intro w' hSw; (try dsimp only at hSw); go_simp; (try with_reducible rfl)
        (try simp only [Act.put, List.getElem_toArray, List.getElem_cons_zero, List.getElem_cons_succ, List.setIfInBounds_toArray, List.set_cons_zero, List.set_cons_succ])
        refine wpAnyF_ready (rs := [16]) (by kernel_rfl) (by simp) ?_
        refine AllReadyF.last (by kernel_rfl) rfl (fun KK hKK => ?_) AllReadyF.nil
        have sc := hHeld.sc
        have sf := hHeld.sf
        go_simp
        refine hKK.out _ _ ?_
        clear hKK KK
        (try simp only [Act.put, List.getElem_toArray, List.getElem_cons_zero, List.getElem_cons_succ, List.setIfInBounds_toArray, List.set_cons_zero, List.set_cons_succ])
        refine wpAnyF_done (by kernel_rfl) ?_ _
        refine normQ_in ?_
        exact ⟨HKW.out.1.trans ((kw_drew V2).trans ((KW.of_below HB6.out).trans (KW.set _ _ _))), HKW.out.2.trans ((stays_drew V2).trans ((Stays.below HB6.out (by show _ ≤ V2.heap.size; omega)).trans (stays_set (by omega)))), show SpI _ _ _ _ _ _ _ _ (kn && (pre ++ [x]).all fun f => fits f (nums f)) _ _ by rw [HFIT.out]; simp only [h0, decide_true, Bool.true_and]; exact hH6.j.mark (by omega) (by omega) _⟩
      · have h1 : vx < 0 := by omega
        refine region_last_r (S := (fun w' => SpS w w1.heap.size w2.heap.size ⟨op, dev, ev, num, coll, tgt, bit, addr, valid⟩ nums o nm hs true x (ownF nums (pre ++ [x])) w')) [16] (by kernel_rfl) (by rfl) HSD.out (fun hHeld => ?_)
        (try simp only [Array.replicate_succ, Array.replicate_zero, List.push_toArray, List.nil_append, List.cons_append])
        refine wpAnyF_take (i := 0) (v := ?_) (by kernel_rfl) (by kernel_rfl) rfl (by kernel_rfl) (by kernel_rfl) (by kernel_rfl) (fun _ _ _ h => h) (Or.inl ⟨by rfl, ?_⟩) (by assumption) ?_
        rotate_left
        · intro w' hSw; (try dsimp only at hSw); obtain ⟨sc, nc, sf, jj⟩ := hSw; rw [HVX.out] at nc; clear sf jj; go_simp; (try with_reducible rfl)
        (try simp only [Act.put, List.getElem_toArray, List.getElem_cons_zero, List.getElem_cons_succ, List.setIfInBounds_toArray, List.set_cons_zero, List.set_cons_succ])
        refine wpAnyF_take (i := 1) (v := ?_) (by kernel_rfl) (by kernel_rfl) rfl (by kernel_rfl) (by kernel_rfl) (by kernel_rfl) (fun _ _ _ h => h) (Or.inl ⟨by rfl, ?_⟩) (by assumption) ?_
        rotate_left
        · intro w' hSw; (try dsimp only at hSw); go_simp; (try with_reducible rfl)
        (try simp only [Act.put, List.getElem_toArray, List.getElem_cons_zero, List.getElem_cons_succ, List.setIfInBounds_toArray, List.set_cons_zero, List.set_cons_succ])
        refine wpAnyF_take (i := 2) (v := ?_) (by kernel_rfl) (by kernel_rfl) rfl (by kernel_rfl) (by kernel_rfl) (by kernel_rfl) (fun _ _ _ h => h) (Or.inl ⟨by rfl, ?_⟩) (by assumption) ?_
        rotate_left
        · intro w' hSw; (try dsimp only at hSw); go_simp; (try with_reducible rfl)
        (try simp only [Act.put, List.getElem_toArray, List.getElem_cons_zero, List.getElem_cons_succ, List.setIfInBounds_toArray, List.set_cons_zero, List.set_cons_succ])
        refine wpAnyF_take (i := 3) (v := ?_) (by kernel_rfl) (by kernel_rfl) rfl (by kernel_rfl) (by kernel_rfl) (by kernel_rfl) (fun _ _ _ h => h) (Or.inl ⟨by rfl, ?_⟩) (by assumption) ?_
        rotate_left
        · intro w' hSw; (try dsimp only at hSw); go_simp; (try with_reducible rfl)
        (try simp only [Act.put, List.getElem_toArray, List.getElem_cons_zero, List.getElem_cons_succ, List.setIfInBounds_toArray, List.set_cons_zero, List.set_cons_succ])
        refine wpAnyF_take (i := 4) (v := ?_) (by kernel_rfl) (by kernel_rfl) rfl (by kernel_rfl) (by kernel_rfl) (by kernel_rfl) (fun _ _ _ h => h) (Or.inl ⟨by rfl, ?_⟩) (by assumption) ?_
        rotate_left
        · intro w' hSw; (try dsimp only at hSw); obtain ⟨sc, nc, sf, jj⟩ := hSw; rw [HVX.out] at nc; clear sf jj; go_simp; (try with_reducible rfl)
        (try simp only [Act.put, List.getElem_toArray, List.getElem_cons_zero, List.getElem_cons_succ, List.setIfInBounds_toArray, List.set_cons_zero, List.set_cons_succ])
        refine wpAnyF_take (i := 5) (v := ?_) (by kernel_rfl) (by kernel_rfl) rfl (by kernel_rfl) (by kernel_rfl) (by kernel_rfl) (fun _ _ _ h => h) (Or.inl ⟨by rfl, ?_⟩) (by assumption) ?_
        rotate_left
        · intro w' hSw; (try dsimp only at hSw); go_simp; (try with_reducible rfl)
        (try simp only [Act.put, List.getElem_toArray, List.getElem_cons_zero, List.getElem_cons_succ, List.setIfInBounds_toArray, List.set_cons_zero, List.set_cons_succ])
        refine wpAnyF_take (i := 6) (v := ?_) (by kernel_rfl) (by kernel_rfl) rfl (by kernel_rfl) (by kernel_rfl) (by kernel_rfl) (fun _ _ _ h => h) (Or.inl ⟨by rfl, ?_⟩) (by assumption) ?_
        rotate_left
        · intro w' hSw; (try dsimp only at hSw); go_simp; (try with_reducible rfl)
        (try simp only [Act.put, List.getElem_toArray, List.getElem_cons_zero, List.getElem_cons_succ, List.setIfInBounds_toArray, List.set_cons_zero, List.set_cons_succ])
        refine wpAnyF_take (i := 7) (v := ?_) (by kernel_rfl) (by kernel_rfl) rfl (by kernel_rfl) (by kernel_rfl) (by kernel_rfl) (fun _ _ _ h => h) (Or.inl ⟨by rfl, ?_⟩) (by assumption) ?_
        rotate_left
        · intro w' hSw; (try dsimp only at hSw); go_simp; (try with_reducible rfl)
        (try simp only [Act.put, List.getElem_toArray, List.getElem_cons_zero, List.getElem_cons_succ, List.setIfInBounds_toArray, List.set_cons_zero, List.set_cons_succ])
        refine wpAnyF_take (i := 8) (v := undef) (by kernel_rfl) (by kernel_rfl) rfl (by kernel_rfl) (by kernel_rfl) (by kernel_rfl) (fun _ _ _ h => h) (Or.inr ⟨by rfl, rfl⟩) (by assumption) ?_
        (try simp only [Act.put, List.getElem_toArray, List.getElem_cons_zero, List.getElem_cons_succ, List.setIfInBounds_toArray, List.set_cons_zero, List.set_cons_succ])
        refine wpAnyF_take (i := 9) (v := undef) (by kernel_rfl) (by kernel_rfl) rfl (by kernel_rfl) (by kernel_rfl) (by kernel_rfl) (fun _ _ _ h => h) (Or.inr ⟨by rfl, rfl⟩) (by assumption) ?_
        (try simp only [Act.put, List.getElem_toArray, List.getElem_cons_zero, List.getElem_cons_succ, List.setIfInBounds_toArray, List.set_cons_zero, List.set_cons_succ])
        refine wpAnyF_take (i := 10) (v := undef) (by kernel_rfl) (by kernel_rfl) rfl (by kernel_rfl) (by kernel_rfl) (by kernel_rfl) (fun _ _ _ h => h) (Or.inr ⟨by rfl, rfl⟩) (by assumption) ?_
        (try simp only [Act.put, List.getElem_toArray, List.getElem_cons_zero, List.getElem_cons_succ, List.setIfInBounds_toArray, List.set_cons_zero, List.set_cons_succ])
        refine wpAnyF_take (i := 11) (v := undef) (by kernel_rfl) (by kernel_rfl) rfl (by kernel_rfl) (by kernel_rfl) (by kernel_rfl) (fun _ _ _ h => h) (Or.inr ⟨by rfl, rfl⟩) (by assumption) ?_
        (try simp only [Act.put, List.getElem_toArray, List.getElem_cons_zero, List.getElem_cons_succ, List.setIfInBounds_toArray, List.set_cons_zero, List.set_cons_succ])
        refine wpAnyF_take (i := 12) (v := undef) (by kernel_rfl) (by kernel_rfl) rfl (by kernel_rfl) (by kernel_rfl) (by kernel_rfl) (fun _ _ _ h => h) (Or.inr ⟨by rfl, rfl⟩) (by assumption) ?_
        (try simp only [Act.put, List.getElem_toArray, List.getElem_cons_zero, List.getElem_cons_succ, List.setIfInBounds_toArray, List.set_cons_zero, List.set_cons_succ])
        refine wpAnyF_take (i := 13) (v := undef) (by kernel_rfl) (by kernel_rfl) rfl (by kernel_rfl) (by kernel_rfl) (by kernel_rfl) (fun _ _ _ h => h) (Or.inr ⟨by rfl, rfl⟩) (by assumption) ?_
        (try simp only [Act.put, List.getElem_toArray, List.getElem_cons_zero, List.getElem_cons_succ, List.setIfInBounds_toArray, List.set_cons_zero, List.set_cons_succ])
        refine wpAnyF_take (i := 14) (v := undef) (by kernel_rfl) (by kernel_rfl) rfl (by kernel_rfl) (by kernel_rfl) (by kernel_rfl) (fun _ _ _ h => h) (Or.inr ⟨by rfl, rfl⟩) (by assumption) ?_
        (try simp only [Act.put, List.getElem_toArray, List.getElem_cons_zero, List.getElem_cons_succ, List.setIfInBounds_toArray, List.set_cons_zero, List.set_cons_succ])
        refine wpAnyF_take (i := 15) (v := ?_) (by kernel_rfl) (by kernel_rfl) rfl (by kernel_rfl) (by kernel_rfl) (by kernel_rfl) (fun _ _ _ h => h) (Or.inl ⟨by rfl, ?_⟩) (by assumption) ?_
        rotate_left
        · intro w' hSw; (try dsimp only at hSw); go_simp; (try with_reducible rfl)
        (try simp only [Act.put, List.getElem_toArray, List.getElem_cons_zero, List.getElem_cons_succ, List.setIfInBounds_toArray, List.set_cons_zero, List.set_cons_succ])
        refine wpAnyF_ready (rs := [16]) (by kernel_rfl) (by simp) ?_
        refine AllReadyF.last (by kernel_rfl) rfl (fun KK hKK => ?_) AllReadyF.nil
        have sc := HS.out.sc
        have sf := HS.out.sf
        go_simp
        refine hKK.out _ _ ?_
        clear hKK KK
        (try simp only [Act.put, List.getElem_toArray, List.getElem_cons_zero, List.getElem_cons_succ, List.setIfInBounds_toArray, List.set_cons_zero, List.set_cons_succ])
        refine wpAnyF_done (by kernel_rfl) ?_ _
        refine normQ_in ?_
        exact ⟨(HKW.out.1.trans (KW.set _ _ _)).trans (kw_drew _), (HKW.out.2.trans (stays_set (by omega))).trans (stays_drew _), show SpI _ _ _ _ _ _ _ _ (kn && (pre ++ [x]).all fun f => fits f (nums f)) _ _ by rw [HFIT.out]; simp only [h0, decide_false, Bool.false_and, Bool.and_false]; exact (HS.out.j.mark (by omega) (by omega) _).later (below_drew _)⟩
  case done =>
    rintro ys V rfl hI hK hs2
    have hE : SpE w w1.heap.size w2.heap.size W3.heap.size ⟨op, dev, ev, num, coll, tgt, bit, addr, valid⟩ o nm hs (kn && (fieldsL op).all fun f => fits f (nums f)) (ownF nums (fieldsL op)) V := ⟨hI.k, hI.s, hI.n, hI.c, ⟨_, _, _, hI.rk⟩, ⟨_, _, _, _, _, _, _, _, _, hI.rn⟩, hK, hI.below⟩
    rw [HOW.out] at hE
    obtain ⟨sb, hsb⟩ : ∃ sb, (kn && (fieldsL op).all fun f => fits f (nums f)) = sb := ⟨_, rfl⟩
    rw [hsb] at hE
    have HRV2 := HRV.out
    rw [hsb] at HRV2
    have HRV3 := hi HRV2
    have hza2 : w2.heap.size + 1 < W3.heap.size := by omega
    clear hsb hI hK HRV2
    go_wp2
    cases sb
    · refine wp_region_noPanic ?_
      refine wp_region_last_drew (S := (fun w' => SpE w w1.heap.size w2.heap.size W3.heap.size ⟨op, dev, ev, num, coll, tgt, bit, addr, valid⟩ o nm hs false ow w')) [] (by kernel_rfl) (hE.later (below_drew V)) (fun hHeld => ?_)
      (try simp only [Array.replicate_succ, Array.replicate_zero, List.push_toArray, List.nil_append, List.cons_append])
      refine wpAnyF_take (i := 0) (v := ?_) (by kernel_rfl) (by kernel_rfl) rfl (by kernel_rfl) (by kernel_rfl) (by kernel_rfl) (fun _ _ _ h => h) (Or.inl ⟨by rfl, ?_⟩) (by assumption) ?_
      rotate_left
      · intro w' hSw; (try dsimp only at hSw); obtain ⟨e0, e1, e2⟩ := hSw.k.three; go_simp; (try with_reducible rfl)
      (try simp only [Act.put, List.getElem_toArray, List.getElem_cons_zero, List.getElem_cons_succ, List.setIfInBounds_toArray, List.set_cons_zero, List.set_cons_succ])
      refine wpAnyF_take (i := 1) (v := ?_) (by kernel_rfl) (by kernel_rfl) rfl (by kernel_rfl) (by kernel_rfl) (by kernel_rfl) (fun _ _ _ h => h) (Or.inl ⟨by rfl, ?_⟩) (by assumption) ?_
      rotate_left
      · intro w' hSw; (try dsimp only at hSw); obtain ⟨e0, e1, e2, e3, e4, e5, e6, e7, e8⟩ := CB.nine hSw.n; go_simp; (try with_reducible rfl)
      (try simp only [Act.put, List.getElem_toArray, List.getElem_cons_zero, List.getElem_cons_succ, List.setIfInBounds_toArray, List.set_cons_zero, List.set_cons_succ])
      refine wpAnyF_take (i := 2) (v := ?_) (by kernel_rfl) (by kernel_rfl) rfl (by kernel_rfl) (by kernel_rfl) (by kernel_rfl) (fun _ _ _ h => h) (Or.inl ⟨by rfl, ?_⟩) (by assumption) ?_
      rotate_left
      · intro w' hSw; (try dsimp only at hSw); have e0 := hSw.s.cell 0; go_simp; (try with_reducible rfl)
      (try simp only [Act.put, List.getElem_toArray, List.getElem_cons_zero, List.getElem_cons_succ, List.setIfInBounds_toArray, List.set_cons_zero, List.set_cons_succ])
      refine wpAnyF_take (i := 3) (v := ?_) (by kernel_rfl) (by kernel_rfl) rfl (by kernel_rfl) (by kernel_rfl) (by kernel_rfl) (fun _ _ _ h => h) (Or.inl ⟨by rfl, ?_⟩) (by assumption) ?_
      rotate_left
      · intro w' hSw; (try dsimp only at hSw); go_simp; (try with_reducible rfl)
      (try simp only [Act.put, List.getElem_toArray, List.getElem_cons_zero, List.getElem_cons_succ, List.setIfInBounds_toArray, List.set_cons_zero, List.set_cons_succ])
      refine wpAnyF_take (i := 4) (v := undef) (by kernel_rfl) (by kernel_rfl) rfl (by kernel_rfl) (by kernel_rfl) (by kernel_rfl) (fun _ _ _ h => h) (Or.inr ⟨by rfl, rfl⟩) (by assumption) ?_
      (try simp only [Act.put, List.getElem_toArray, List.getElem_cons_zero, List.getElem_cons_succ, List.setIfInBounds_toArray, List.set_cons_zero, List.set_cons_succ])
      refine wpAnyF_take (i := 5) (v := undef) (by kernel_rfl) (by kernel_rfl) rfl (by kernel_rfl) (by kernel_rfl) (by kernel_rfl) (fun _ _ _ h => h) (Or.inr ⟨by rfl, rfl⟩) (by assumption) ?_
      (try simp only [Act.put, List.getElem_toArray, List.getElem_cons_zero, List.getElem_cons_succ, List.setIfInBounds_toArray, List.set_cons_zero, List.set_cons_succ])
      refine wpAnyF_take (i := 6) (v := undef) (by kernel_rfl) (by kernel_rfl) rfl (by kernel_rfl) (by kernel_rfl) (by kernel_rfl) (fun _ _ _ h => h) (Or.inr ⟨by rfl, rfl⟩) (by assumption) ?_
      (try simp only [Act.put, List.getElem_toArray, List.getElem_cons_zero, List.getElem_cons_succ, List.setIfInBounds_toArray, List.set_cons_zero, List.set_cons_succ])
      refine wpAnyF_take (i := 7) (v := undef) (by kernel_rfl) (by kernel_rfl) rfl (by kernel_rfl) (by kernel_rfl) (by kernel_rfl) (fun _ _ _ h => h) (Or.inr ⟨by rfl, rfl⟩) (by assumption) ?_
      (try simp only [Act.put, List.getElem_toArray, List.getElem_cons_zero, List.getElem_cons_succ, List.setIfInBounds_toArray, List.set_cons_zero, List.set_cons_succ])
      refine wpAnyF_take (i := 8) (v := undef) (by kernel_rfl) (by kernel_rfl) rfl (by kernel_rfl) (by kernel_rfl) (by kernel_rfl) (fun _ _ _ h => h) (Or.inr ⟨by rfl, rfl⟩) (by assumption) ?_
      (try simp only [Act.put, List.getElem_toArray, List.getElem_cons_zero, List.getElem_cons_succ, List.setIfInBounds_toArray, List.set_cons_zero, List.set_cons_succ])
      refine wpAnyF_take (i := 9) (v := ?_) (by kernel_rfl) (by kernel_rfl) rfl (by kernel_rfl) (by kernel_rfl) (by kernel_rfl) (fun _ _ _ h => h) (Or.inl ⟨by rfl, ?_⟩) (by assumption) ?_
      rotate_left
      · intro w' hSw; (try dsimp only at hSw); go_simp; (try with_reducible rfl)
      (try simp only [Act.put, List.getElem_toArray, List.getElem_cons_zero, List.getElem_cons_succ, List.setIfInBounds_toArray, List.set_cons_zero, List.set_cons_succ])
      refine wpAnyF_ready (rs := [10]) (by kernel_rfl) (by simp) ?_
      refine AllReadyF.cons rfl (fun KK hKK => ?_) AllReadyF.nil
      go_simp
      obtain ⟨a0, a1, a2, ha⟩ := hE.rk
      obtain ⟨q0, q1, q2⟩ := ha.three
      have qf := ha.frozen
      clear ha
      go_simp
      have hP := hE.put3 (by omega) (by omega) (by omega) (.int .i64 o) (.string nm) (.int .i64 hs)
      refine hKK.out _ _ (hP.1.later (below_drew _)) (fun hHeld => ?_)
      clear hKK KK
      (try simp only [Act.put, List.getElem_toArray, List.getElem_cons_zero, List.getElem_cons_succ, List.setIfInBounds_toArray, List.set_cons_zero, List.set_cons_succ])
      refine wpAnyF_ready (rs := [11]) (by kernel_rfl) (by simp) ?_
      refine AllReadyF.cons rfl (fun KK hKK => ?_) AllReadyF.nil
      go_simp
      obtain ⟨a0, a1, a2, a3, a4, a5, a6, a7, a8, ha⟩ := hE.rn
      obtain ⟨q0, q1, q2, q3, q4, q5, q6, q7, q8⟩ := CB.nine ha
      have qf := ha.frozen
      clear ha
      go_simp
      have hP2 := SpE.put9 hP (by omega) (by omega) (by omega) (.int .i64 (ow 0)) (.int .i64 (ow 1)) (.int .i64 (ow 2)) (.int .i64 (ow 3)) (.int .i64 (ow 4)) (.int .i64 (ow 5)) (.int .i64 (ow 6)) (.int .i64 (ow 7)) (.int .i64 (ow 8))
      refine hKK.out _ _ (hP2.1.later (below_drew _)) (fun hHeld => ?_)
      clear hKK KK
      (try simp only [Act.put, List.getElem_toArray, List.getElem_cons_zero, List.getElem_cons_succ, List.setIfInBounds_toArray, List.set_cons_zero, List.set_cons_succ])
      refine wpAnyF_take (i := 12) (v := ?_) (by kernel_rfl) (by kernel_rfl) rfl (by kernel_rfl) (by kernel_rfl) (by kernel_rfl) (fun _ _ _ h => h) (Or.inl ⟨by rfl, ?_⟩) (by assumption) ?_
      rotate_left
      · intro w' hSw; (try dsimp only at hSw); go_simp; (try with_reducible rfl)
      (try simp only [Act.put, List.getElem_toArray, List.getElem_cons_zero, List.getElem_cons_succ, List.setIfInBounds_toArray, List.set_cons_zero, List.set_cons_succ])
      refine wpAnyF_done (by kernel_rfl) ?_ _
      refine NoPanic.normal ?_
      have hF := hP2.1.later (below_drew _)
      have hDM := hF.dm
      rw [hz3] at hDM
      have hRV := HRV3.out
      simp only [Bool.false_and, Bool.true_and] at hRV
      go_wp2
      refine ⟨by simp, .inl ⟨_, _, rfl, run_takeDeferred hDM, ?_⟩⟩
      exact ⟨_, results_sp rfl _ _ (w.heap.size + 1) (w.heap.size + 1 + 1) _ _ _ _ _ _ _ _ _ _ _ _ _ rfl rfl rfl (CB.putO (by omega) (hP2.2.1.below (below_drew _))) (CB.putO (by omega) (hP2.2.2.below (below_drew _))), (by rw [← hRV]; rfl), below_put hF.below _ hF.below.size (by omega)⟩
    · refine wp_region_noPanic ?_
      refine wp_region_last_drew (S := (fun w' => SpE w w1.heap.size w2.heap.size W3.heap.size ⟨op, dev, ev, num, coll, tgt, bit, addr, valid⟩ o nm hs true ow w')) [] (by kernel_rfl) (hE.later (below_drew V)) (fun hHeld => ?_)
      (try simp only [Array.replicate_succ, Array.replicate_zero, List.push_toArray, List.nil_append, List.cons_append])
      refine wpAnyF_take (i := 0) (v := ?_) (by kernel_rfl) (by kernel_rfl) rfl (by kernel_rfl) (by kernel_rfl) (by kernel_rfl) (fun _ _ _ h => h) (Or.inl ⟨by rfl, ?_⟩) (by assumption) ?_
      rotate_left
      · intro w' hSw; (try dsimp only at hSw); obtain ⟨e0, e1, e2⟩ := hSw.k.three; go_simp; (try with_reducible rfl)
      (try simp only [Act.put, List.getElem_toArray, List.getElem_cons_zero, List.getElem_cons_succ, List.setIfInBounds_toArray, List.set_cons_zero, List.set_cons_succ])
      refine wpAnyF_take (i := 1) (v := ?_) (by kernel_rfl) (by kernel_rfl) rfl (by kernel_rfl) (by kernel_rfl) (by kernel_rfl) (fun _ _ _ h => h) (Or.inl ⟨by rfl, ?_⟩) (by assumption) ?_
      rotate_left
      · intro w' hSw; (try dsimp only at hSw); obtain ⟨e0, e1, e2, e3, e4, e5, e6, e7, e8⟩ := CB.nine hSw.n; go_simp; (try with_reducible rfl)
      (try simp only [Act.put, List.getElem_toArray, List.getElem_cons_zero, List.getElem_cons_succ, List.setIfInBounds_toArray, List.set_cons_zero, List.set_cons_succ])
      refine wpAnyF_take (i := 2) (v := ?_) (by kernel_rfl) (by kernel_rfl) rfl (by kernel_rfl) (by kernel_rfl) (by kernel_rfl) (fun _ _ _ h => h) (Or.inl ⟨by rfl, ?_⟩) (by assumption) ?_
      rotate_left
      · intro w' hSw; (try dsimp only at hSw); have e0 := hSw.s.cell 0; go_simp; (try with_reducible rfl)
      (try simp only [Act.put, List.getElem_toArray, List.getElem_cons_zero, List.getElem_cons_succ, List.setIfInBounds_toArray, List.set_cons_zero, List.set_cons_succ])
      refine wpAnyF_take (i := 3) (v := ?_) (by kernel_rfl) (by kernel_rfl) rfl (by kernel_rfl) (by kernel_rfl) (by kernel_rfl) (fun _ _ _ h => h) (Or.inl ⟨by rfl, ?_⟩) (by assumption) ?_
      rotate_left
      · intro w' hSw; (try dsimp only at hSw); go_simp; (try with_reducible rfl)
      (try simp only [Act.put, List.getElem_toArray, List.getElem_cons_zero, List.getElem_cons_succ, List.setIfInBounds_toArray, List.set_cons_zero, List.set_cons_succ])
      refine wpAnyF_take (i := 4) (v := ?_) (by kernel_rfl) (by kernel_rfl) rfl (by kernel_rfl) (by kernel_rfl) (by kernel_rfl) (fun _ _ _ h => h) (Or.inl ⟨by rfl, ?_⟩) (by assumption) ?_
      rotate_left
      · intro w' hSw; (try dsimp only at hSw); obtain ⟨e0, e1, e2⟩ := hSw.k.three; go_simp; (try with_reducible rfl)
      (try simp only [Act.put, List.getElem_toArray, List.getElem_cons_zero, List.getElem_cons_succ, List.setIfInBounds_toArray, List.set_cons_zero, List.set_cons_succ])
      refine wpAnyF_take (i := 5) (v := ?_) (by kernel_rfl) (by kernel_rfl) rfl (by kernel_rfl) (by kernel_rfl) (by kernel_rfl) (fun _ _ _ h => h) (Or.inl ⟨by rfl, ?_⟩) (by assumption) ?_
      rotate_left
      · intro w' hSw; (try dsimp only at hSw); obtain ⟨e0, e1, e2, e3, e4, e5, e6, e7, e8⟩ := CB.nine hSw.n; go_simp; (try with_reducible rfl)
      (try simp only [Act.put, List.getElem_toArray, List.getElem_cons_zero, List.getElem_cons_succ, List.setIfInBounds_toArray, List.set_cons_zero, List.set_cons_succ])
      refine wpAnyF_take (i := 7) (v := ?_) (by kernel_rfl) (by kernel_rfl) rfl (by kernel_rfl) (by kernel_rfl) (by kernel_rfl) (fun _ _ _ h => h) (Or.inl ⟨by rfl, ?_⟩) (by assumption) ?_
      rotate_left
      · intro w' hSw; (try dsimp only at hSw); obtain ⟨e0, e1, e2, e3, e4, e5, e6, e7, e8⟩ := CB.nine hSw.c; go_simp; (try with_reducible rfl)
      (try simp only [Act.put, List.getElem_toArray, List.getElem_cons_zero, List.getElem_cons_succ, List.setIfInBounds_toArray, List.set_cons_zero, List.set_cons_succ])
      refine wpAnyF_ready (rs := [6]) (by kernel_rfl) (by simp) ?_
      refine AllReadyF.cons rfl (fun KK hKK => ?_) AllReadyF.nil
      go_simp
      ((with_reducible refine (HJ.out _).mono ?_); rintro e' w7 ⟨rfl, hb7⟩; have hH7 := hHeld.later hb7)
      (try go_simp)
      refine hKK.out _ _ hH7 (fun hHeld => ?_)
      clear hKK KK
      (try simp only [Act.put, List.getElem_toArray, List.getElem_cons_zero, List.getElem_cons_succ, List.setIfInBounds_toArray, List.set_cons_zero, List.set_cons_succ])
      refine wpAnyF_take (i := 8) (v := ?_) (by kernel_rfl) (by kernel_rfl) rfl (by kernel_rfl) (by kernel_rfl) (by kernel_rfl) (fun _ _ _ h => h) (Or.inl ⟨by rfl, ?_⟩) (by assumption) ?_
      rotate_left
      · intro w' hSw; (try dsimp only at hSw); go_simp; (try with_reducible rfl)
      (try simp only [Act.put, List.getElem_toArray, List.getElem_cons_zero, List.getElem_cons_succ, List.setIfInBounds_toArray, List.set_cons_zero, List.set_cons_succ])
      refine wpAnyF_take (i := 9) (v := ?_) (by kernel_rfl) (by kernel_rfl) rfl (by kernel_rfl) (by kernel_rfl) (by kernel_rfl) (fun _ _ _ h => h) (Or.inl ⟨by rfl, ?_⟩) (by assumption) ?_
      rotate_left
      · intro w' hSw; (try dsimp only at hSw); go_simp; (try with_reducible rfl)
      (try simp only [Act.put, List.getElem_toArray, List.getElem_cons_zero, List.getElem_cons_succ, List.setIfInBounds_toArray, List.set_cons_zero, List.set_cons_succ])
      refine wpAnyF_ready (rs := [10]) (by kernel_rfl) (by simp) ?_
      refine AllReadyF.cons rfl (fun KK hKK => ?_) AllReadyF.nil
      go_simp
      obtain ⟨a0, a1, a2, ha⟩ := hH7.rk
      obtain ⟨q0, q1, q2⟩ := ha.three
      have qf := ha.frozen
      clear ha
      go_simp
      have hP := hH7.put3 (by omega) (by omega) (by omega) (.int .i64 o) (.string nm) (.int .i64 hs)
      refine hKK.out _ _ hP.1 (fun hHeld => ?_)
      clear hKK KK
      (try simp only [Act.put, List.getElem_toArray, List.getElem_cons_zero, List.getElem_cons_succ, List.setIfInBounds_toArray, List.set_cons_zero, List.set_cons_succ])
      refine wpAnyF_ready (rs := [11]) (by kernel_rfl) (by simp) ?_
      refine AllReadyF.cons rfl (fun KK hKK => ?_) AllReadyF.nil
      go_simp
      obtain ⟨a0, a1, a2, a3, a4, a5, a6, a7, a8, ha⟩ := hH7.rn
      obtain ⟨q0, q1, q2, q3, q4, q5, q6, q7, q8⟩ := CB.nine ha
      have qf := ha.frozen
      clear ha
      go_simp
      have hP2 := SpE.put9 hP (by omega) (by omega) (by omega) (.int .i64 (ow 0)) (.int .i64 (ow 1)) (.int .i64 (ow 2)) (.int .i64 (ow 3)) (.int .i64 (ow 4)) (.int .i64 (ow 5)) (.int .i64 (ow 6)) (.int .i64 (ow 7)) (.int .i64 (ow 8))
      refine hKK.out _ _ hP2.1 (fun hHeld => ?_)
      clear hKK KK
      (try simp only [Act.put, List.getElem_toArray, List.getElem_cons_zero, List.getElem_cons_succ, List.setIfInBounds_toArray, List.set_cons_zero, List.set_cons_succ])
      refine wpAnyF_take (i := 12) (v := ?_) (by kernel_rfl) (by kernel_rfl) rfl (by kernel_rfl) (by kernel_rfl) (by kernel_rfl) (fun _ _ _ h => h) (Or.inl ⟨by rfl, ?_⟩) (by assumption) ?_
      rotate_left
      · intro w' hSw; (try dsimp only at hSw); go_simp; (try with_reducible rfl)
      (try simp only [Act.put, List.getElem_toArray, List.getElem_cons_zero, List.getElem_cons_succ, List.setIfInBounds_toArray, List.set_cons_zero, List.set_cons_succ])
      refine wpAnyF_done (by kernel_rfl) ?_ _
      refine NoPanic.normal ?_
      have hF := hP2.1
      have hDM := hF.dm
      rw [hz3] at hDM
      have hRV := HRV3.out
      simp only [Bool.false_and, Bool.true_and] at hRV
      go_wp2
      refine ⟨by simp, .inl ⟨_, _, rfl, run_takeDeferred hDM, ?_⟩⟩
      exact ⟨_, results_sp rfl _ _ (w.heap.size + 1) (w.heap.size + 1 + 1) _ _ _ _ _ _ _ _ _ _ _ _ _ rfl rfl rfl (CB.putO (by omega) hP2.2.1) (CB.putO (by omega) hP2.2.2), (by rw [← hRV]; rfl), below_put hF.below _ hF.below.size (by omega)⟩
  case stop =>
    rintro cd pre V hpre h _ _
    exact h.elim

end Go.Proofs.Ytfnokpajendlmaa
