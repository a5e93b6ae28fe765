/-
  For MemDoes: both memories and an act's box, along the calls of one round.
-/
import Derived.Test.YthndfkggahhleaaMemS
import Derived.Test.YthndfkggahhleaaMemKeeps
namespace Go.Proofs.Ythndfkggahhleaa
open Go.ChangeShapes Go.WideShapes Go.ChangeAt Go.RowKit
set_option linter.unusedVariables false

/-- Both memories, made since w. -/
structure Two (w : World) (p g c q h d : Nat) (bs bs2 : List Nat) (W : World) : Prop where
  mem : MemAt 60 W p g c bs
  ref : MemAt 57 W q h d bs2
  below : Below w.heap.size w W
  lp : w.heap.size ≤ p
  lg : w.heap.size ≤ g
  lq : w.heap.size ≤ q
  lh : w.heap.size ≤ h
  gh : g ≠ h
  pq : p ≠ q
theorem MemAt.neb {T T2 : TypeId} {W : World} {p g c q h d : Nat} {bs bs2 : List Nat} (a : MemAt T W p g c bs) (b : MemAt T2 W q h d bs2) : p ≠ h := by
  intro e
  obtain ⟨⟨r, h1⟩, _⟩ := b.bytes
  have h2 := a.box
  rw [e, h1] at h2
  simp only [Option.some.injEq, Obj.cells.injEq] at h2
  exact a.type h2.2.1.symm
theorem Two.sz {w : World} {p g c q h d : Nat} {bs bs2 : List Nat} {W : World} (t : Two w p g c q h d bs bs2 W) : w.heap.size ≤ W.heap.size := t.below.size
theorem Two.later {w : World} {p g c q h d : Nat} {bs bs2 : List Nat} {W W' : World} (t : Two w p g c q h d bs bs2 W) (k : Below W.heap.size W W') : Two w p g c q h d bs bs2 W' :=
  ⟨t.mem.below k, t.ref.below k, t.below.trans (k.mono t.sz), t.lp, t.lg, t.lq, t.lh, t.gh, t.pq⟩
theorem Two.mem_step {w : World} {p g c q h d : Nat} {bs bs2 bs' : List Nat} {W W' : World} (t : Two w p g c q h d bs bs2 W) (k : Kept (· = g) W W') (m : MemAt 60 W' p g c bs') : Two w p g c q h d bs' bs2 W' :=
  ⟨m, t.ref.kept k (fun (e : q = g) => t.ref.neb t.mem e) (fun (e : h = g) => t.gh e.symm), t.below.trans (k.toBelow t.sz (fun x (e : x = g) => by have := t.lg; omega)), t.lp, t.lg, t.lq, t.lh, t.gh, t.pq⟩
theorem Two.ref_step {w : World} {p g c q h d : Nat} {bs bs2 bs' : List Nat} {W W' : World} (t : Two w p g c q h d bs bs2 W) (k : Kept (· = h) W W') (m : MemAt 57 W' q h d bs') : Two w p g c q h d bs bs' W' :=
  ⟨t.mem.kept k (fun (e : p = h) => t.mem.neb t.ref e) (fun (e : g = h) => t.gh e), m, t.below.trans (k.toBelow t.sz (fun x (e : x = h) => by have := t.lh; omega)), t.lp, t.lg, t.lq, t.lh, t.gh, t.pq⟩
theorem Two.own_step {w : World} {p g c q h d ob : Nat} {bs bs2 : List Nat} {W0 W W' : World} (t : Two w p g c q h d bs bs2 W) (k : Kept (· = ob) W W') (t0 : Two w p g c q h d bs bs2 W0) (ho : W0.heap.size ≤ ob) : Two w p g c q h d bs bs2 W' := by
  have h1 := t0.mem.plt
  have h2 := t0.mem.bytes.lt
  have h3 := t0.ref.plt
  have h4 := t0.ref.bytes.lt
  exact ⟨t.mem.kept k (fun (e : p = ob) => by omega) (fun (e : g = ob) => by omega), t.ref.kept k (fun (e : q = ob) => by omega) (fun (e : h = ob) => by omega), t.below.trans (k.toBelow t.sz (fun x (e : x = ob) => by have := t0.sz; omega)), t.lp, t.lg, t.lq, t.lh, t.gh, t.pq⟩
theorem Two.of_both {w w1 : World} {p g c q h d : Nat} {bs : List Nat} {W : World} (b : Both w1 p g c q h d bs W) (k : Below w.heap.size w w1) : Two w p g c q h d bs bs W :=
  ⟨b.mem.mem, b.ref, k.trans (b.mem.below.mono k.size), Nat.le_trans k.size b.mem.p, Nat.le_trans k.size b.mem.g, Nat.le_trans k.size b.ql, Nat.le_trans k.size b.hl, b.apart, fun e => b.qp e.symm⟩

def xb (x : ActD) (bv : Value) : Array Value := #[.int .i64 x.d, .int .i64 x.a, .int .i64 x.s, .int .i64 x.off, .int .i64 x.wd, .int .u64 x.v, bv]
/-- The act's box lies at X. -/
structure BoxX (w : World) (X : Nat) (x : ActD) (bv : Value) (W : World) : Prop where
  box : W.heap[X]? = some (.cells (xb x bv) 33 (0, 0))
theorem BoxX.kept {w : World} {X : Nat} {x : ActD} {bv : Value} {W W' : World} (b : BoxX w X x bv W) {bs : Nat → Prop} (k : Kept bs W W') (hn : ¬ bs X) : BoxX w X x bv W' :=
  ⟨(k.block X (Array.getElem?_eq_some_iff.1 b.box).1 hn).trans b.box⟩
theorem BoxX.later {w : World} {X : Nat} {x : ActD} {bv : Value} {W W' : World} (b : BoxX w X x bv W) (k : Below W.heap.size W W') : BoxX w X x bv W' :=
  b.kept (bs := fun _ => False) (Kept.of k) (fun e => e)
theorem BoxX.cells {w : World} {X : Nat} {x : ActD} {bv : Value} {W : World} (b : BoxX w X x bv W) :
    W.cell? ⟨X, 0, none⟩ = some (.int .i64 x.d) ∧ W.cell? ⟨X, 1, none⟩ = some (.int .i64 x.a) ∧ W.cell? ⟨X, 2, none⟩ = some (.int .i64 x.s) ∧ W.cell? ⟨X, 3, none⟩ = some (.int .i64 x.off) ∧ W.cell? ⟨X, 4, none⟩ = some (.int .i64 x.wd) ∧ W.cell? ⟨X, 5, none⟩ = some (.int .u64 (x.v : Int)) ∧ W.cell? ⟨X, 6, none⟩ = some bv := box7_cells b.box
theorem BoxX.drew {w : World} {X : Nat} {x : ActD} {bv : Value} {W : World} (b : BoxX w X x bv W) : BoxX w X x bv W.drew := ⟨b.box⟩
theorem Two.drew {w : World} {p g c q h d : Nat} {bs bs2 : List Nat} {W : World} (t : Two w p g c q h d bs bs2 W) : Two w p g c q h d bs bs2 W.drew :=
  ⟨t.mem.drewN 1, t.ref.drewN 1, t.below.drew, t.lp, t.lg, t.lq, t.lh, t.gh, t.pq⟩

/-- Does and Model, the error by a name. -/
theorem does_E (p g c : Nat) (bs bs' : List Nat) (x : ActD) (bv : Value) (E : Int) (hE : doE bs x = E) (hL : doL bs x = bs') (w : World) (hx : x.Fair) (hM : MemAt 60 w p g c bs) (hy : BytesIn w bv x.ys) :
    Calls Try.prog 14 #[.pointer (some ⟨p, 0, none⟩), .agg #[.int .i64 x.d, .int .i64 x.a, .int .i64 x.s, .int .i64 x.off, .int .i64 x.wd, .int .u64 x.v, bv]] w fun e w' => e = .returned (.int .i64 E) ∧ MemAt 60 w' p g c bs' ∧ Kept (· = g) w w' := by
  subst hE; subst hL
  exact does_out p g c bs x bv w hx hM hy
theorem model_E (q h d : Nat) (bs bs' : List Nat) (x : ActD) (bv : Value) (E : Int) (hE : doE bs x = E) (hL : doL bs x = bs') (w0 w : World) (hx : x.Fair) (hM : MemAt 57 w q h d bs) (hy : BytesIn w0 bv x.ys) (hb : Below w0.heap.size w0 w) (hh : w0.heap.size ≤ h) :
    Calls Try.prog 15 #[.pointer (some ⟨q, 0, none⟩), .agg #[.int .i64 x.d, .int .i64 x.a, .int .i64 x.s, .int .i64 x.off, .int .i64 x.wd, .int .u64 x.v, bv]] w fun e w' => e = .returned (.int .i64 E) ∧ MemAt 57 w' q h d bs' ∧ Kept (· = h) w w' := by
  subst hE; subst hL
  refine model_any q h d bs x bv w hx hM (hy.below hb) ?_
  intro b off cp e hne (e2 : b = h)
  obtain ⟨a, cap, e3, _, _, hr⟩ := hy
  obtain ⟨b', off', e4, hc⟩ := hr hne
  rw [e] at e3
  simp only [Value.slice.injEq] at e3
  obtain ⟨e5, _⟩ := e3
  rw [e4] at e5
  cases e5
  have hpos : 0 < x.ys.length := List.length_pos_iff.2 hne
  have := World.block_lt_of_cell? w0 _ (hc 0 hpos)
  simp only at this
  omega

theorem read_E (p g c : Nat) (bs : List Nat) (a s off wd : Int) (N : Nat) (E : Int) (hN : rdE bs a s off wd = N) (hE : accE bs.length a s off wd = E) (w : World) (hM : MemAt 60 w p g c bs)
    (ha0 : -9223372036854775808 ≤ a) (ha1 : a ≤ 9223372036854775807) (hs0 : -9223372036854775808 ≤ s) (hs1 : s ≤ 9223372036854775807) :
    Calls Try.prog 17 #[.pointer (some ⟨p, 0, none⟩), .agg #[.int .i64 a, .int .i64 s], .int .i64 off, .int .i64 wd] w fun e w' => e = .returned (.tuple #[.int .u64 (N : Int), .int .i64 E]) ∧ Below w.heap.size w w' := by
  subst hN; subst hE
  exact read_any p g c bs a s off wd w hM ha0 ha1 hs0 hs1
theorem rread_E (p g c : Nat) (bs : List Nat) (a s off wd : Int) (N : Nat) (E : Int) (hN : rdE bs a s off wd = N) (hE : accE bs.length a s off wd = E) (w : World) (hM : MemAt 57 w p g c bs)
    (ha0 : -9223372036854775808 ≤ a) (ha1 : a ≤ 9223372036854775807) (hs0 : -9223372036854775808 ≤ s) (hs1 : s ≤ 9223372036854775807) :
    Calls Try.prog 18 #[.pointer (some ⟨p, 0, none⟩), .agg #[.int .i64 a, .int .i64 s], .int .i64 off, .int .i64 wd] w fun e w' => e = .returned (.tuple #[.int .u64 (N : Int), .int .i64 E]) ∧ Below w.heap.size w w' := by
  subst hN; subst hE
  exact rread_any p g c bs a s off wd w hM ha0 ha1 hs0 hs1
theorem bytes_E (p g c : Nat) (bs l : List Nat) (a s : Int) (E : Int) (hE : bytesE bs.length a s = E) (hl : bytesL bs a s = l) (w : World) (hM : MemAt 60 w p g c bs)
    (ha0 : -9223372036854775808 ≤ a) (ha1 : a ≤ 9223372036854775807) (hs0 : -9223372036854775808 ≤ s) (hs1 : s ≤ 9223372036854775807) :
    Calls Try.prog 19 #[.pointer (some ⟨p, 0, none⟩), .agg #[.int .i64 a, .int .i64 s]] w fun e w' => ∃ v, e = .returned (.tuple #[v, .int .i64 E]) ∧ OwnN w' w.heap.size v l ∧ Below w.heap.size w w' := by
  subst hE; subst hl
  exact bytes_any p g c bs a s w hM ha0 ha1 hs0 hs1
theorem rbytes_E (p g c : Nat) (bs l : List Nat) (a s : Int) (E : Int) (hE : bytesE bs.length a s = E) (hl : bytesL bs a s = l) (w : World) (hM : MemAt 57 w p g c bs)
    (ha0 : -9223372036854775808 ≤ a) (ha1 : a ≤ 9223372036854775807) (hs0 : -9223372036854775808 ≤ s) (hs1 : s ≤ 9223372036854775807) :
    Calls Try.prog 20 #[.pointer (some ⟨p, 0, none⟩), .agg #[.int .i64 a, .int .i64 s]] w fun e w' => ∃ v, e = .returned (.tuple #[v, .int .i64 E]) ∧ OwnN w' w.heap.size v l ∧ Below w.heap.size w w' := by
  subst hE; subst hl
  exact rbytes_any p g c bs a s w hM ha0 ha1 hs0 hs1
theorem holds_E (p g c : Nat) (bs : List Nat) (a s : Int) (B : Bool) (hB : holdsB bs.length a s = B) (w : World) (hM : MemAt 60 w p g c bs)
    (ha0 : -9223372036854775808 ≤ a) (ha1 : a ≤ 9223372036854775807) (hs0 : -9223372036854775808 ≤ s) (hs1 : s ≤ 9223372036854775807) :
    Calls Try.prog 21 #[.pointer (some ⟨p, 0, none⟩), .agg #[.int .i64 a, .int .i64 s]] w fun e w' => e = .returned (.bool B) ∧ Below w.heap.size w w' := by
  subst hB
  exact holds_any p g c bs a s w hM ha0 ha1 hs0 hs1
theorem rholds_E (p g c : Nat) (bs : List Nat) (a s : Int) (B : Bool) (hB : holdsB bs.length a s = B) (w : World) (hM : MemAt 57 w p g c bs)
    (ha0 : -9223372036854775808 ≤ a) (ha1 : a ≤ 9223372036854775807) (hs0 : -9223372036854775808 ≤ s) (hs1 : s ≤ 9223372036854775807) :
    Calls Try.prog 22 #[.pointer (some ⟨p, 0, none⟩), .agg #[.int .i64 a, .int .i64 s]] w fun e w' => e = .returned (.bool B) ∧ Below w.heap.size w w' := by
  subst hB
  exact rholds_any p g c bs a s w hM ha0 ha1 hs0 hs1

end Go.Proofs.Ythndfkggahhleaa
