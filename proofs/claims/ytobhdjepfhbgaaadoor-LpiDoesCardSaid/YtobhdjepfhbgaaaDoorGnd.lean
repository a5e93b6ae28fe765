/-
  Ground for layer 4: a world kept but for some blocks; bytes in a block. Nothing of the program but the numbers of []byte and byte.
-/
import Derived.Test.YtobhdjepfhbgaaaDoorHi
import Derived.WalkKit
import Derived.ProofKit
import Derived.BigQuiet
import Derived.BigRegion
import Derived.Deep.QuietTactic
import Derived.Laws.CopyOwn
import Derived.Laws.IdiomCopy
import Derived.OwnWalk
import Derived.Lib.SliceRun
import Derived.Sort.Row
import Derived.RangeFuncRecord
namespace Go.Proofs.YtobhdjepfhbgaaaDoor
open Go.ChangeShapes Go.WideShapes Go.ChangeAt Go.RowKit
set_option linter.unusedVariables false

theorem Below.grew {W W' : World} (h : Below W.heap.size W W') : W.grownBy W' none := ⟨h.os, h.tape, h.output, h.size, fun k hk _ => h.block k hk⟩

/-- Whatever lay in A lies so in W, but for the blocks bs. -/
structure Kept (bs : Nat → Prop) (A W : World) : Prop where
  os : W.os = A.os
  tape : W.tape = A.tape
  output : W.output = A.output
  size : A.heap.size ≤ W.heap.size
  block : ∀ k, k < A.heap.size → ¬ bs k → W.heap[k]? = A.heap[k]?
theorem Kept.refl (bs : Nat → Prop) (A : World) : Kept bs A A := ⟨rfl, rfl, rfl, Nat.le_refl _, fun _ _ _ => rfl⟩
theorem Kept.trans {bs : Nat → Prop} {A B C : World} (h : Kept bs A B) (k : Kept bs B C) : Kept bs A C :=
  ⟨k.os.trans h.os, k.tape.trans h.tape, k.output.trans h.output, Nat.le_trans h.size k.size, fun i hi hn => (k.block i (Nat.lt_of_lt_of_le hi h.size) hn).trans (h.block i hi hn)⟩
theorem Kept.mono {bs cs : Nat → Prop} {A B : World} (h : Kept bs A B) (hs : ∀ k, bs k → cs k) : Kept cs A B :=
  ⟨h.os, h.tape, h.output, h.size, fun i hi hn => h.block i hi (fun x => hn (hs i x))⟩
theorem Kept.mono' {bs cs : Nat → Prop} {A B : World} (h : Kept bs A B) (hs : ∀ k, k < A.heap.size → bs k → cs k) : Kept cs A B :=
  ⟨h.os, h.tape, h.output, h.size, fun i hi hn => h.block i hi (fun x => hn (hs i hi x))⟩
theorem Kept.of {bs : Nat → Prop} {A B : World} (k : Below A.heap.size A B) : Kept bs A B := ⟨k.os, k.tape, k.output, k.size, fun i hi _ => k.block i hi⟩
theorem Kept.below {bs : Nat → Prop} {A B C : World} (h : Kept bs A B) (k : Below B.heap.size B C) : Kept bs A C := h.trans (Kept.of k)
theorem Kept.toBelow {bs : Nat → Prop} {A B : World} (h : Kept bs A B) {n : Nat} (hn : n ≤ A.heap.size) (hb : ∀ k, bs k → n ≤ k) : Below n A B :=
  ⟨h.os, h.tape, h.output, h.size, fun k hk => h.block k (by omega) (fun x => by have := hb k x; omega)⟩
theorem Kept.none {A B : World} (h : Kept (fun _ => False) A B) : Below A.heap.size A B := h.toBelow (Nat.le_refl _) (fun _ x => x.elim)

theorem bcell {W w1 : World} (hb : Below W.heap.size W w1) : (∀ b o, b < W.heap.size → w1.cell? ⟨b, o, none⟩ = W.cell? ⟨b, o, none⟩) ∧ (∀ b o, b < W.heap.size → w1.frozen? ⟨b, o, none⟩ = W.frozen? ⟨b, o, none⟩) :=
  ⟨fun b o h => hb.cell (p := ⟨b, o, none⟩) h, fun b o h => hb.frozen (p := ⟨b, o, none⟩) h⟩

/-- The values of bytes. -/
def u8s (bs : List Nat) : List Value := bs.map fun x : Nat => Value.int .u8 (x : Int)
theorem u8s_len (bs : List Nat) : (u8s bs).length = bs.length := by simp [u8s]
theorem u8s_get (bs : List Nat) (j : Nat) (h : j < bs.length) : (u8s bs)[j]? = some (.int .u8 (bs[j]?.getD 0 : Nat)) := by simp [u8s, h]
theorem u8s_one (bs : List Nat) : ∀ v ∈ u8s bs, v.oneCell' = true := by
  intro v hv
  simp only [u8s, List.mem_map] at hv
  obtain ⟨x, _, rfl⟩ := hv
  rfl

/-- The block g holds the bytes bs, and then others. -/
def BytesAt (W : World) (g : Nat) (bs : List Nat) : Prop := (∃ rest : List Value, W.heap[g]? = some (.cells (u8s bs ++ rest).toArray 5 (0, 0))) ∧ ∀ x ∈ bs, x < 256
theorem BytesAt.lt {W : World} {g : Nat} {bs : List Nat} (h : BytesAt W g bs) : g < W.heap.size := by
  obtain ⟨⟨r, e⟩, _⟩ := h
  exact (Array.getElem?_eq_some_iff.1 e).1
theorem BytesAt.cell {W : World} {g : Nat} {bs : List Nat} (h : BytesAt W g bs) (j : Nat) (hj : j < bs.length) : W.cell? ⟨g, j, none⟩ = some (.int .u8 (bs[j]?.getD 0 : Nat)) := by
  obtain ⟨⟨r, e⟩, _⟩ := h
  simp only [World.cell?, e]
  simp only [List.getElem?_toArray, List.getElem?_append, u8s_len, hj, if_true]
  exact u8s_get bs j hj
theorem BytesAt.frozen {W : World} {g : Nat} {bs : List Nat} (h : BytesAt W g bs) (j : Nat) : W.frozen? ⟨g, j, none⟩ = false := by
  obtain ⟨⟨r, e⟩, _⟩ := h
  simp [World.frozen?, e]
theorem BytesAt.of_block {A W : World} {g : Nat} {bs : List Nat} (h : BytesAt A g bs) (e : W.heap[g]? = A.heap[g]?) : BytesAt W g bs := by
  obtain ⟨⟨r, h1⟩, h2⟩ := h
  exact ⟨⟨r, e.trans h1⟩, h2⟩
theorem splice_u8s (bs : List Nat) (o : Nat) (cs : List Nat) (r : List Value) (h : o + cs.length ≤ bs.length) : splice (u8s bs ++ r) o (u8s cs) = u8s (splice bs o cs) ++ r := by
  simp only [splice, u8s_len]
  rw [List.take_append_of_le_length (by rw [u8s_len]; omega), List.drop_append_of_le_length (by rw [u8s_len]; omega)]
  simp [u8s]
theorem splice_mem {bs : List Nat} {o : Nat} {cs : List Nat} (h1 : ∀ x ∈ bs, x < 256) (h2 : ∀ x ∈ cs, x < 256) : ∀ x ∈ splice bs o cs, x < 256 := by
  intro x hx
  simp only [splice, List.mem_append] at hx
  rcases hx with a | a | a
  · exact h1 x (List.mem_of_mem_take a)
  · exact h2 x a
  · exact h1 x (List.mem_of_mem_drop a)

/-- A memory: the pointer leads to a box of a slice of bytes. -/
structure MemAt (T : TypeId) (W : World) (p g cap : Nat) (bs : List Nat) : Prop where
  box : W.heap[p]? = some (.cells #[.slice (some ⟨g, 0, none⟩) bs.length cap] T (0, 0))
  bytes : BytesAt W g bs
  le : bs.length ≤ cap
  cap : cap ≤ maxLen
  len : bs.length ≤ 131072
  type : T ≠ 5
theorem MemAt.ne {T : TypeId} {W : World} {p g cap : Nat} {bs : List Nat} (h : MemAt T W p g cap bs) : p ≠ g := by
  intro e
  obtain ⟨⟨r, h1⟩, _⟩ := h.bytes
  have := h.box
  rw [e, h1] at this
  simp only [Option.some.injEq, Obj.cells.injEq] at this
  exact h.type this.2.1.symm
theorem MemAt.cell {T : TypeId} {W : World} {p g cap : Nat} {bs : List Nat} (h : MemAt T W p g cap bs) : W.cell? ⟨p, 0, none⟩ = some (.slice (some ⟨g, 0, none⟩) bs.length cap) := by
  simp [World.cell?, h.box]
theorem MemAt.plt {T : TypeId} {W : World} {p g cap : Nat} {bs : List Nat} (h : MemAt T W p g cap bs) : p < W.heap.size := (Array.getElem?_eq_some_iff.1 h.box).1
theorem MemAt.kept {T : TypeId} {A W : World} {p g cap : Nat} {bs : List Nat} (h : MemAt T A p g cap bs) {xs : Nat → Prop} (k : Kept xs A W) (h1 : ¬ xs p) (h2 : ¬ xs g) : MemAt T W p g cap bs :=
  ⟨(k.block p h.plt h1).trans h.box, h.bytes.of_block (k.block g h.bytes.lt h2), h.le, h.cap, h.len, h.type⟩
theorem MemAt.below {T : TypeId} {A W : World} {p g cap : Nat} {bs : List Nat} (h : MemAt T A p g cap bs) (k : Below A.heap.size A W) : MemAt T W p g cap bs :=
  h.kept (xs := fun _ => False) (Kept.of k) (fun x => x) (fun x => x)
theorem MemAt.set {T : TypeId} {A W : World} {p g cap : Nat} {bs cs : List Nat} (h : MemAt T A p g cap bs) (k : Kept (· = g) A W) (hb : BytesAt W g cs) (hl : cs.length = bs.length) : MemAt T W p g cap cs :=
  ⟨by rw [hl]; exact (k.block p h.plt h.ne).trans h.box, hb, by rw [hl]; exact h.le, h.cap, by rw [hl]; exact h.len, h.type⟩

/-- Is a window held? -/
def holdsB (n : Nat) (a s : Int) : Bool := decide (0 ≤ a ∧ 0 ≤ s ∧ a + s ≤ n)
theorem holdsB_out {n : Nat} {a s : Int} (h : holdsB n a s = true) : ∃ A S : Nat, a = A ∧ s = S ∧ A + S ≤ n := by
  simp only [holdsB, decide_eq_true_eq] at h
  exact ⟨a.toNat, s.toNat, by omega, by omega, by omega⟩
theorem holdsB_no {n : Nat} {a s : Int} (h : holdsB n a s = false) : a < 0 ∨ s < 0 ∨ (n : Int) < a + s := by
  simp only [holdsB, decide_eq_false_iff_not] at h
  omega


theorem bal (w : World) (o : Obj) : Below w.heap.size w (w.alloc o) := (Below.refl _ _).alloc (Nat.le_refl _) o
theorem bald (w : World) (o : Obj) (n : Nat) : Below w.heap.size w ((w.alloc o).drewN n) := ⟨(bal w o).os, (bal w o).tape, (bal w o).output, (bal w o).size, (bal w o).block⟩
theorem Below.drewN {n m : Nat} {A B : World} (h : Below n A B) : Below n A (B.drewN m) := ⟨h.os, h.tape, h.output, h.size, h.block⟩

/-- A block of cells of a type. -/
def CB (W : World) (B : Nat) (t : TypeId) (cs : Array Value) : Prop := W.heap[B]? = some (.cells cs t (0, 0))
theorem CB.lt {W : World} {B : Nat} {t : TypeId} {cs : Array Value} (h : CB W B t cs) : B < W.heap.size := (Array.getElem?_eq_some_iff.1 h).1
theorem CB.cell {W : World} {B : Nat} {t : TypeId} {cs : Array Value} (h : CB W B t cs) (j : Nat) : W.cell? ⟨B, j, none⟩ = cs[j]? := by simp [World.cell?, show W.heap[B]? = _ from h]
theorem CB.frozen {W : World} {B : Nat} {t : TypeId} {cs : Array Value} (h : CB W B t cs) (o : Nat) : W.frozen? ⟨B, o, none⟩ = false := by simp [World.frozen?, show W.heap[B]? = _ from h]
theorem CB.new (W : World) (t : TypeId) (cs : Array Value) : CB (W.alloc (.cells cs t)) W.heap.size t cs := World.alloc_heap_new W _
theorem CB.below {W W' : World} {B : Nat} {t : TypeId} {cs : Array Value} (h : CB W B t cs) (k : Below W.heap.size W W') : CB W' B t cs := (k.block B h.lt).trans h
theorem CB.alloc {W : World} {B : Nat} {t : TypeId} {cs : Array Value} (h : CB W B t cs) (o : Obj) : CB (W.alloc o) B t cs := h.below (bal W o)
theorem CB.set {W : World} {B : Nat} {t : TypeId} {cs : Array Value} (h : CB W B t cs) (o : Nat) (v : Value) : CB (W.setCell ⟨B, o, none⟩ v) B t (cs.setIfInBounds o v) := by
  rw [Go.Sort.setCell_eq]
  show (W.heap.modify B _)[B]? = _
  rw [Array.getElem?_modify, if_pos rfl, show W.heap[B]? = _ from h]
  rfl
theorem CB.other {W : World} {B : Nat} {t : TypeId} {cs : Array Value} (h : CB W B t cs) (b o : Nat) (v : Value) (hne : B ≠ b) : CB (W.setCell ⟨b, o, none⟩ v) B t cs := (Below.heap_setCell W ⟨b, o, none⟩ v B hne).trans h
theorem CB.kept {W W' : World} {B : Nat} {t : TypeId} {cs : Array Value} {row : Option Nat} (h : CB W B t cs) (hg : W.grownBy W' row) (hne : some B ≠ row) : CB W' B t cs := (hg.block B h.lt hne).trans h
theorem CB.drew {W : World} {B : Nat} {t : TypeId} {cs : Array Value} (h : CB W B t cs) : CB W.drew B t cs := h
theorem box_call {w w1 : World} {cs : Array Value} {t : TypeId} (hb : Below (w.alloc (.cells cs t)).heap.size (w.alloc (.cells cs t)) w1) : CB w1 w.heap.size t cs ∧ Below w.heap.size w w1 :=
  ⟨(CB.new w t cs).below hb, (bal w _).trans (hb.mono (by simp))⟩

end Go.Proofs.YtobhdjepfhbgaaaDoor
