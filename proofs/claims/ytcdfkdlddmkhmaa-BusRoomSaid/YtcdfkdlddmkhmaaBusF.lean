/-
  Find.
-/
import Derived.Test.YtcdfkdlddmkhmaaBusE
import Derived.Test.YtcdfkdlddmkhmaaQr
namespace Go.Proofs.Ytcdfkdlddmkhmaa
open Go.ChangeShapes Go.WideShapes Go.ChangeAt Go.RowKit Go.Shelf
open Go.Sort (grow)
set_option linter.unusedVariables false
attribute [local go_sem] Oper.semAt_some

/-- Does a span contain an access? -/
def covB (addr width : Int) (x : Sp) : Bool := decide (x.b ≤ addr ∧ addr + width ≤ x.b + x.s)
def tup (x : Sp) (off e : Int) : Value := .tuple #[.agg #[.int .i64 x.b, .int .i64 x.s, .int .i64 x.k, .int .i64 x.i], .int .i64 off, .int .i64 e]
def findT (addr : Int) : Option Sp → Value
  | some x => tup x (addr - x.b) 0
  | none => tup Sp.zero 0 42
def findV (xs : List Sp) (addr width : Int) : Value :=
  if mayE 1099511627776 addr width = 0 then findT addr (xs.find? (covB addr width)) else tup Sp.zero 0 (mayE 1099511627776 addr width)
/-- What an access that may be is. -/
theorem may_out {addr width : Int} (h : mayE 1099511627776 addr width = 0) : (width = 1 ∨ width = 4 ∨ width = 8) ∧ 0 ≤ addr ∧ addr + width ≤ 1099511627776 := by
  by_cases h1 : width ≠ 1 ∧ width ≠ 4 ∧ width ≠ 8
  · simp [mayE, h1] at h
  have hw : width = 1 ∨ width = 4 ∨ width = 8 := by omega
  cases g : (addr.tmod width != 0)
  · by_cases k : addr < 0 ∨ wrap64 (1099511627776 - width) < addr
    · rw [mayE42 hw g k] at h; cases h
    · have hwr : wrap64 (1099511627776 - width) = 1099511627776 - width := by simp only [wrap64]; omega
      rw [hwr] at k
      omega
  · rw [mayE41 hw g] at h; cases h
theorem find_none {xs : List Sp} {p : Sp → Bool} (h : ∀ x ∈ xs, p x = false) : xs.find? p = none := List.find?_eq_none.2 fun x hx => by simp [h x hx]
theorem find_some {xs ini : List Sp} {x : Sp} {p : Sp → Bool} (hp : ini ++ [x] <+: xs) (h : ∀ z ∈ ini, p z = false) (hx : p x = true) : xs.find? p = some x := by
  obtain ⟨r, rfl⟩ := hp
  rw [List.find?_append, List.find?_append, find_none h]
  simp [hx]

theorem results_find {fn : Func} {c1 c2 c3 : Tmp} (h : fn.results = #[.cell c1 33, .cell c2 3, .cell c3 25]) (tmps : Array Value) (w : World) (b1 b2 b3 : Nat) (x : Sp) (off e : Int)
    (h1 : tmps.getD c1 undef = .pointer (some ⟨b1, 0, none⟩)) (h2 : tmps.getD c2 undef = .pointer (some ⟨b2, 0, none⟩)) (h3 : tmps.getD c3 undef = .pointer (some ⟨b3, 0, none⟩))
    (hx : SpBox w b1 x) (ho : Boxed w b2 3 (.int .i64 off)) (he : Boxed w b3 25 (.int .i64 e)) :
    (results fn tmps).run Try.prog w = .ok (tup x off e) w := by
  have h1' : tmps[c1]?.getD undef = .pointer (some ⟨b1, 0, none⟩) := by simpa using h1
  have h2' : tmps[c2]?.getD undef = .pointer (some ⟨b2, 0, none⟩) := by simpa using h2
  have h3' : tmps[c3]?.getD undef = .pointer (some ⟨b3, 0, none⟩) := by simpa using h3
  obtain ⟨x0, x1, x2, x3⟩ := hx.cells
  have hoc := ho.cell
  have hec := he.cell
  simp [results, h, go_sem, h1', h2', h3', x0, x1, x2, x3, hoc, hec, tup]

/-- The result boxes of Find, behind the boxes of what came. -/
structure FRes (W : World) (b : Nat) (addr width : Int) (x : Sp) (off e : Int) : Prop where
  addr : Boxed W b 3 (.int .i64 addr)
  width : Boxed W (b + 1) 3 (.int .i64 width)
  x : SpBox W (b + 2) x
  off : Boxed W (b + 3) 3 (.int .i64 off)
  e : Boxed W (b + 4) 25 (.int .i64 e)

set_option maxRecDepth 100000 in
set_option maxHeartbeats 4000000 in
theorem find_err (p : Nat) (addr width : Int) (w : World) (he : mayE 1099511627776 addr width ≠ 0) :
    Calls Try.prog 13 #[.pointer (some ⟨p, 0, none⟩), .int .i64 addr, .int .i64 width] w fun e w' => e = .returned (tup Sp.zero 0 (mayE 1099511627776 addr width)) ∧ Below w.heap.size w w' := by
  have HM := hi (fun W => may_any 1099511627776 addr width W)
  obtain ⟨m, hm⟩ : ∃ m, mayE 1099511627776 addr width = m := ⟨_, rfl⟩
  rw [hm] at HM he ⊢
  have hd : (m != 0) = true := by simpa using he
  clear hm he
  refine (callsIn_wide (n := 6)).1 ?_
  refine callsIn_of_wp_marks Try.func13 rfl trivial ?_ rfl
  simp only [Try.ntmps13, List.size_toArray, List.length_cons, List.length_nil, Nat.reduceAdd, Nat.reduceSub, Array.replicate_succ, Array.replicate_zero, List.push_toArray, List.append_toArray, List.nil_append, List.cons_append]
  gi_wp2_with (first
    | (refine ⟨trivial, ?_⟩; gi_at_call 29; ((with_reducible refine (callsIn_wide.2 (HM.out _)).mono ?_); rintro e w1 ⟨rfl, rfl⟩))
    | gi_in)
  exact ⟨_, results_find rfl _ _ (w.heap.size + 1 + 1) (w.heap.size + 1 + 1 + 1) (w.heap.size + 1 + 1 + 1 + 1) Sp.zero 0 m rfl rfl rfl (by
      refine (Below.heap_alloc _ _ _ (by simp)).trans ((Below.heap_alloc _ _ _ (by simp)).trans ?_)
      have := World.alloc_heap_new ((w.alloc (.cells #[.int .i64 addr] 3)).alloc (.cells #[.int .i64 width] 3)) (.cells #[.int .i64 0, .int .i64 0, .int .i64 0, .int .i64 0] 33)
      simpa [Sp.zero] using this) (by
      refine (Below.heap_alloc _ _ _ (by simp)).trans ?_
      have := Boxed.new (((w.alloc (.cells #[.int .i64 addr] 3)).alloc (.cells #[.int .i64 width] 3)).alloc (.cells #[.int .i64 0, .int .i64 0, .int .i64 0, .int .i64 0] 33)) 3 (.int .i64 0)
      simpa [Boxed] using this) (by
      have := Boxed.new ((((w.alloc (.cells #[.int .i64 addr] 3)).alloc (.cells #[.int .i64 width] 3)).alloc (.cells #[.int .i64 0, .int .i64 0, .int .i64 0, .int .i64 0] 33)).alloc (.cells #[.int .i64 0] 3)) 25 (.int .i64 m)
      simpa [Boxed] using this), rfl, ((((bal w _).alloc (by simp) _).alloc (by simp; omega) _).alloc (by simp; omega) _).alloc (by simp; omega) _⟩

theorem SpBox.setOther {W : World} {B : Nat} {x : Sp} (h : SpBox W B x) (b o : Nat) (v : Value) (hne : B ≠ b) : SpBox (W.setCell ⟨b, o, none⟩ v) B x := (Below.heap_setCell W ⟨b, o, none⟩ v B hne).trans h
theorem box_other {W : World} {B : Nat} {t : TypeId} {u : Value} (h : Boxed W B t u) (b o : Nat) (v : Value) (hne : B ≠ b) : Boxed (W.setCell ⟨b, o, none⟩ v) B t u := (Below.heap_setCell W ⟨b, o, none⟩ v B hne).trans h
theorem SpBox.set4 {W : World} {B : Nat} {z : Sp} (h : SpBox W B z) (x : Sp) : SpBox ((((W.setCell ⟨B, 0, none⟩ (.int .i64 x.b)).setCell ⟨B, 1, none⟩ (.int .i64 x.s)).setCell ⟨B, 2, none⟩ (.int .i64 x.k)).setCell ⟨B, 3, none⟩ (.int .i64 x.i)) B x := by
  have K : ∀ (V : World) (c : Array Value) (o : Nat) (v : Value), V.heap[B]? = some (.cells c 33 (0, 0)) → (V.setCell ⟨B, o, none⟩ v).heap[B]? = some (.cells (c.setIfInBounds o v) 33 (0, 0)) := fun V c o v hV => by
    rw [Go.Sort.setCell_eq]
    show (V.heap.modify B _)[B]? = _
    rw [Array.getElem?_modify, if_pos rfl, hV]
    rfl
  exact K _ _ 3 _ (K _ _ 2 _ (K _ _ 1 _ (K _ _ 0 _ h)))

/-- What the region that returns reads and writes. -/
structure FS (Bx b : Nat) (addr : Int) (x : Sp) (W : World) : Prop where
  ne : b + 4 < Bx
  bx : SpBox W Bx x
  ad : Boxed W b 3 (.int .i64 addr)
  s2 : ∃ z, SpBox W (b + 1 + 1) z
  s3 : ∃ z : Int, Boxed W (b + 1 + 1 + 1) 3 (.int .i64 z)
  s4 : ∃ z : Int, Boxed W (b + 1 + 1 + 1 + 1) 25 (.int .i64 z)
theorem FS.cells {Bx b : Nat} {addr : Int} {x : Sp} {W : World} (h : FS Bx b addr x W) : W.cell? ⟨Bx, 0, none⟩ = some (.int .i64 x.b) ∧ W.cell? ⟨Bx, 1, none⟩ = some (.int .i64 x.s) ∧ W.cell? ⟨Bx, 2, none⟩ = some (.int .i64 x.k) ∧ W.cell? ⟨Bx, 3, none⟩ = some (.int .i64 x.i) ∧ W.cell? ⟨b, 0, none⟩ = some (.int .i64 addr) :=
  ⟨h.bx.cells.1, h.bx.cells.2.1, h.bx.cells.2.2.1, h.bx.cells.2.2.2, h.ad.cell⟩

theorem FS.set2 {Bx b : Nat} {addr : Int} {x : Sp} {W : World} (h : FS Bx b addr x W) (u : Sp) : FS Bx b addr x ((((W.setCell ⟨b + 1 + 1, 0, none⟩ (.int .i64 u.b)).setCell ⟨b + 1 + 1, 1, none⟩ (.int .i64 u.s)).setCell ⟨b + 1 + 1, 2, none⟩ (.int .i64 u.k)).setCell ⟨b + 1 + 1, 3, none⟩ (.int .i64 u.i)) := by
  have hne := h.ne
  obtain ⟨z, hz⟩ := h.s2
  obtain ⟨z3, hz3⟩ := h.s3
  obtain ⟨z4, hz4⟩ := h.s4
  exact ⟨hne, (((h.bx.setOther _ _ _ (by omega)).setOther _ _ _ (by omega)).setOther _ _ _ (by omega)).setOther _ _ _ (by omega),
    box_other (box_other (box_other (box_other (h.ad) _ _ _ (by omega)) _ _ _ (by omega)) _ _ _ (by omega)) _ _ _ (by omega), ⟨u, hz.set4 u⟩,
    ⟨z3, box_other (box_other (box_other (box_other (hz3) _ _ _ (by omega)) _ _ _ (by omega)) _ _ _ (by omega)) _ _ _ (by omega)⟩,
    ⟨z4, box_other (box_other (box_other (box_other (hz4) _ _ _ (by omega)) _ _ _ (by omega)) _ _ _ (by omega)) _ _ _ (by omega)⟩⟩
theorem FS.set3 {Bx b : Nat} {addr : Int} {x : Sp} {W : World} (h : FS Bx b addr x W) (v : Int) : FS Bx b addr x (W.setCell ⟨b + 1 + 1 + 1, 0, none⟩ (.int .i64 v)) := by
  have hne := h.ne
  obtain ⟨z, hz⟩ := h.s2
  obtain ⟨z3, hz3⟩ := h.s3
  obtain ⟨z4, hz4⟩ := h.s4
  exact ⟨hne, h.bx.setOther _ _ _ (by omega), box_other (h.ad) _ _ _ (by omega), ⟨z, hz.setOther _ _ _ (by omega)⟩, ⟨v, hz3.set _⟩, ⟨z4, box_other (hz4) _ _ _ (by omega)⟩⟩
theorem FS.set4 {Bx b : Nat} {addr : Int} {x : Sp} {W : World} (h : FS Bx b addr x W) (v : Int) : FS Bx b addr x (W.setCell ⟨b + 1 + 1 + 1 + 1, 0, none⟩ (.int .i64 v)) := by
  have hne := h.ne
  obtain ⟨z, hz⟩ := h.s2
  obtain ⟨z3, hz3⟩ := h.s3
  obtain ⟨z4, hz4⟩ := h.s4
  exact ⟨hne, h.bx.setOther _ _ _ (by omega), box_other (h.ad) _ _ _ (by omega), ⟨z, hz.setOther _ _ _ (by omega)⟩, ⟨z3, box_other (hz3) _ _ _ (by omega)⟩, ⟨v, hz4.set _⟩⟩
theorem FS.own {Bx b : Nat} {addr : Int} {x : Sp} {W W' : World} (h : FS Bx b addr x W) (k : Below W.heap.size W W') : FS Bx b addr x W' := by
  obtain ⟨z, hz⟩ := h.s2
  obtain ⟨z3, hz3⟩ := h.s3
  obtain ⟨z4, hz4⟩ := h.s4
  have K : ∀ i, i < W.heap.size → W'.heap[i]? = W.heap[i]? := fun i hi => k.block i hi
  exact ⟨h.ne, (K _ h.bx.lt).trans h.bx, (K _ h.ad.lt).trans h.ad, ⟨z, (K _ hz.lt).trans hz⟩, ⟨z3, (K _ hz3.lt).trans hz3⟩, ⟨z4, (K _ hz4.lt).trans hz4⟩⟩

/-- Between two rounds: no span has contained the access; the boxes stand as they stood. -/
structure FI (b : Nat) (addr width : Int) (W : World) : Prop where
  ad : Boxed W b 3 (.int .i64 addr)
  wd : Boxed W (b + 1) 3 (.int .i64 width)
  s2 : SpBox W (b + 1 + 1) Sp.zero
  s3 : Boxed W (b + 1 + 1 + 1) 3 (.int .i64 0)
  s4 : Boxed W (b + 1 + 1 + 1 + 1) 25 (.int .i64 0)
theorem FI.kept {b : Nat} {addr width : Int} {W W' : World} (h : FI b addr width W) (k : ∀ (i : Nat) (o : Obj), W.heap[i]? = some o → o.isCells = true → W'.heap[i]? = some o) : FI b addr width W' :=
  ⟨k _ _ h.ad rfl, k _ _ h.wd rfl, k _ _ h.s2 rfl, k _ _ h.s3 rfl, k _ _ h.s4 rfl⟩
theorem own_keeps {A B : World} {row : Option Nat} (hg : A.grownBy B row) (hr : ∀ r, row = some r → ∃ o : Obj, A.heap[r]? = some o ∧ o.isCells = false) : ∀ (i : Nat) (o : Obj), A.heap[i]? = some o → o.isCells = true → B.heap[i]? = some o := fun i o h hc =>
  (hg.block i (Array.getElem?_eq_some_iff.1 h).1 (fun e => by obtain ⟨o', h', hc'⟩ := hr i e.symm; rw [h] at h'; cases h'; rw [hc] at hc'; cases hc')).trans h
theorem FI.own {b : Nat} {addr width : Int} {β : Type} : Own (fun (_ : β) W => FI b addr width W) := fun s A B row hs hg hr => hs.kept (own_keeps hg hr)
theorem below_keeps {A B : World} (k : Below A.heap.size A B) : ∀ (i : Nat) (o : Obj), A.heap[i]? = some o → o.isCells = true → B.heap[i]? = some o := fun i o h _ => (k.block i (Array.getElem?_eq_some_iff.1 h).1).trans h

/-- What a round that returns has left. -/
structure FR (b : Nat) (x : Sp) (off : Int) (W : World) : Prop where
  s2 : SpBox W (b + 1 + 1) x
  s3 : Boxed W (b + 1 + 1 + 1) 3 (.int .i64 off)
  s4 : Boxed W (b + 1 + 1 + 1 + 1) 25 (.int .i64 0)
theorem FR.kept {b : Nat} {x : Sp} {off : Int} {W W' : World} (h : FR b x off W) (k : ∀ (i : Nat) (o : Obj), W.heap[i]? = some o → o.isCells = true → W'.heap[i]? = some o) : FR b x off W' :=
  ⟨k _ _ h.s2 rfl, k _ _ h.s3 rfl, k _ _ h.s4 rfl⟩

/-- covB, the sum as it wraps. -/
def covW (addr width : Int) (x : Sp) : Bool := decide (x.b ≤ addr) && decide (addr + width ≤ IntKind.i64.wrap (x.b + x.s))
theorem covW_ok {addr width : Int} {x : Sp} (h : x.Ok) : covW addr width x = covB addr width x := by
  have e : IntKind.i64.wrap (x.b + x.s) = x.b + x.s := by rw [IntKind.wrap_i64]; have := h.e1; have := h.s1; have := h.b0; omega
  unfold covW covB
  rw [e, Bool.decide_and]
def FIx (addr width : Int) (b : Nat) (pre : List Sp) (W : World) : Prop := ∃ ini x, pre = ini ++ [x] ∧ (∀ z ∈ ini, covW addr width z = false) ∧ covW addr width x = true ∧ FR b x (IntKind.i64.wrap (addr - x.b)) W


end Go.Proofs.Ytcdfkdlddmkhmaa
