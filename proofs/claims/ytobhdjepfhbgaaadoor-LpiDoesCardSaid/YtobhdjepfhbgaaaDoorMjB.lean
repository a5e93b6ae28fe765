/-
  Bounded windows, Meet and Part, the program's and the document's.
  Part, the program's and the document's.
  The law's acts, by the program: an append onto nothing; Does at every act; New.
  The law's New; a script of acts in memory; bytes as a string.
  A script of acts in memory; what is written is read: plain reckoning.
-/
import Derived.Test.YtobhdjepfhbgaaaDoorMjA
import Derived.Deep.OwnRows
import Derived.Laws.BytesArg
import Derived.Laws.IdiomStrings
namespace Go.Proofs.YtobhdjepfhbgaaaDoor
open Go.ChangeShapes Go.WideShapes Go.ChangeAt Go.RowKit
set_option linter.unusedVariables false

def fairB (a s : Int) : Bool := decide (0 ≤ a ∧ a ≤ 1099511627776 ∧ 0 ≤ s ∧ s ≤ 1099511627776)
theorem fairB_out {a s : Int} (h : fairB a s = true) : 0 ≤ a ∧ a ≤ 1099511627776 ∧ 0 ≤ s ∧ s ≤ 1099511627776 := by simpa [fairB] using h
theorem ret_bool {b c : Bool} (h : b = c) : Ending.returned (.bool b) = .returned (.bool c) := by rw [h]

theorem bal2 {w w1 w2 : World} {o o' : Obj} (h : Below ((w.alloc o).alloc o').heap.size ((w.alloc o).alloc o') w1) (k : Below w1.heap.size w1 w2) : Below w.heap.size w w2 :=
  ((bal w o).alloc (by simp) o').trans ((h.mono (by simp; omega)).trans (k.mono (by have := h.size; simp at this; omega)))

theorem cell_of_box {W : World} {B : Nat} {cs : Array Value} {t : TypeId} (h : W.heap[B]? = some (.cells cs t (0, 0))) (j : Nat) : W.cell? ⟨B, j, none⟩ = cs[j]? := by
  simp [World.cell?, h]
theorem box_new {w : World} {cs ds : Array Value} {T U : TypeId} (o : Nat) : ((w.alloc (.cells cs T)).alloc (.cells ds U)).cell? ⟨w.heap.size, o, none⟩ = cs[o]? ∧ ((w.alloc (.cells cs T)).alloc (.cells ds U)).cell? ⟨w.heap.size + 1, o, none⟩ = ds[o]? := by
  have h1 : ((w.alloc (.cells cs T)).alloc (.cells ds U)).heap[w.heap.size]? = some (.cells cs T (0, 0)) := (Below.heap_alloc _ _ _ (by simp)).trans (heap_new _ _)
  have h2 : ((w.alloc (.cells cs T)).alloc (.cells ds U)).heap[w.heap.size + 1]? = some (.cells ds U (0, 0)) := by
    have := heap_new (w.alloc (.cells cs T)) (.cells ds U)
    rwa [show (w.alloc (.cells cs T)).heap.size = w.heap.size + 1 by simp] at this
  exact ⟨cell_of_box h1 o, cell_of_box h2 o⟩
theorem two_boxes {w w1 : World} {x y z u : Value} {T U : TypeId} (h : Below ((w.alloc (.cells #[x, y] T)).alloc (.cells #[z, u] U)).heap.size ((w.alloc (.cells #[x, y] T)).alloc (.cells #[z, u] U)) w1) :
    w1.cell? ⟨w.heap.size, 0, none⟩ = some x ∧ w1.cell? ⟨w.heap.size, 1, none⟩ = some y ∧ w1.cell? ⟨w.heap.size + 1, 0, none⟩ = some z ∧ w1.cell? ⟨w.heap.size + 1, 1, none⟩ = some u :=
  ⟨(h.cell (p := ⟨w.heap.size, 0, none⟩) (by simp; omega)).trans (box_new 0).1, (h.cell (p := ⟨w.heap.size, 1, none⟩) (by simp; omega)).trans (box_new 1).1, (h.cell (p := ⟨w.heap.size + 1, 0, none⟩) (by simp)).trans (box_new 0).2, (h.cell (p := ⟨w.heap.size + 1, 1, none⟩) (by simp)).trans (box_new 1).2⟩

/-- Whether two windows share a byte. -/
def meetB (a s b t : Int) : Bool := fairB a s && fairB b t && decide (a < b + t ∧ b < a + s ∧ 0 < s ∧ 0 < t)

end Go.Proofs.YtobhdjepfhbgaaaDoor

namespace Go.Proofs.YtobhdjepfhbgaaaDoor
open Go.ChangeShapes Go.WideShapes Go.ChangeAt Go.RowKit
set_option linter.unusedVariables false

theorem results_win {fn : Func} {c t : Tmp} (h : fn.results = #[.cell c 49, .tmp t]) (tmps : Array Value) (w : World) (b : Nat) (x y : Int) (hp : tmps.getD c undef = .pointer (some ⟨b, 0, none⟩))
    (h0 : w.cell? ⟨b, 0, none⟩ = some (.int .i64 x)) (h1 : w.cell? ⟨b, 1, none⟩ = some (.int .i64 y)) :
    (results fn tmps).run Tryd.prog w = .ok (.tuple #[.agg #[.int .i64 x, .int .i64 y], tmps.getD t undef]) w := by
  have hp' : tmps[c]?.getD undef = .pointer (some ⟨b, 0, none⟩) := by simpa using hp
  simp [results, h, go_sem, hp', h0, h1]

theorem two_frozen {w w1 : World} {x y z u : Value} {T U : TypeId} (h : Below ((w.alloc (.cells #[x, y] T)).alloc (.cells #[z, u] U)).heap.size ((w.alloc (.cells #[x, y] T)).alloc (.cells #[z, u] U)) w1) (o : Nat) : w1.frozen? ⟨w.heap.size + 1, o, none⟩ = false := by
  have h2 : ((w.alloc (.cells #[x, y] T)).alloc (.cells #[z, u] U)).heap[w.heap.size + 1]? = some (.cells #[z, u] U (0, 0)) := by
    have := heap_new (w.alloc (.cells #[x, y] T)) (.cells #[z, u] U)
    rwa [show (w.alloc (.cells #[x, y] T)).heap.size = w.heap.size + 1 by simp] at this
  have h3 := (h.block (w.heap.size + 1) (by simp)).trans h2
  simp [World.frozen?, h3]
theorem set2_cells {W : World} {b : Nat} {p q u v : Value} (h0 : W.cell? ⟨b, 0, none⟩ = some p) (h1 : W.cell? ⟨b, 1, none⟩ = some q) :
    ((W.setCell ⟨b, 0, none⟩ u).setCell ⟨b, 1, none⟩ v).cell? ⟨b, 0, none⟩ = some u ∧ ((W.setCell ⟨b, 0, none⟩ u).setCell ⟨b, 1, none⟩ v).cell? ⟨b, 1, none⟩ = some v := by
  have e0 : (W.setCell ⟨b, 0, none⟩ u).cell? ⟨b, 1, none⟩ = some q := by
    rw [World.cell?_setCell_other _ _ _ _ (by simp)]; exact h1
  constructor
  · rw [World.cell?_setCell_other _ _ _ _ (by simp)]
    exact World.cell?_setCell_same _ _ _ h0
  · exact World.cell?_setCell_same _ _ _ e0
theorem below_set2 {w W : World} {b : Nat} {u v : Value} (h : Below w.heap.size w W) (hb : w.heap.size ≤ b) : Below w.heap.size w ((W.setCell ⟨b, 0, none⟩ u).setCell ⟨b, 1, none⟩ v) :=
  ((Kept.of h).trans (((kept_setCell W b 0 u).trans (kept_setCell _ b 1 v)).mono (cs := (· = b)) (fun _ e => e))).toBelow (Nat.le_refl _) (fun k (e : k = b) => by omega)

def partOk (a s x n : Int) : Bool := fairB a s && decide (0 ≤ x ∧ 0 ≤ n ∧ x + n ≤ s)
def partV (a s x n : Int) : Value := if partOk a s x n = true then .tuple #[.agg #[.int .i64 (a + x), .int .i64 n], .int .i64 0] else .tuple #[.agg #[.int .i64 0, .int .i64 0], .int .i64 42]

end Go.Proofs.YtobhdjepfhbgaaaDoor

namespace Go.Proofs.YtobhdjepfhbgaaaDoor
open Go.ChangeShapes Go.WideShapes Go.ChangeAt Go.RowKit
set_option linter.unusedVariables false

/-- What an append onto nothing makes. -/
def OwnN (W : World) (base : Nat) (v : Value) (ys : List Nat) : Prop := (v = .slice none 0 0 ∧ ys = []) ∨ ∃ g, OwnB W base g v ys
theorem OwnN.bytesIn {W : World} {base : Nat} {v : Value} {ys : List Nat} (h : OwnN W base v ys) : BytesIn W v ys := by
  rcases h with ⟨rfl, rfl⟩ | ⟨g, h⟩
  · exact ⟨none, 0, rfl, Nat.le_refl _, (fun x hx => by simp at hx), fun h => absurd rfl h⟩
  · exact h.bytesIn

theorem run_append_nil8 (w : World) (c : Nat) (ty : TypeId) : (Builtin.append_ #[22, 22] ty #[.slice none 0 0, .slice none 0 c]).run Tryd.prog w = .ok (.slice none 0 0) w := by
  obtain ⟨i0, hi, hz0, hz1, hz2⟩ := info_parts info_u8
  simp [Builtin.append_, run_underlying Tryd.underlying22, sizeOf, typeInfo, hi, Builtin.lenOf, Builtin.firstCells, go_sem]

theorem wpList_append_bytes {ops : Array Oper} {rest : List Oper} {o : Oper} {a : Act} {w : World} {Q : Exit → Act → World → Prop} (hgd : o.guard = none) (s x : Operand)
    (ho : o.op = .call { callee := .builtin .append, args := #[s, x], argTypes := #[22, 22] })
    (hs : a.eval s = .slice none 0 0) (xv : Value) (ys : List Nat) (hx : a.eval x = xv) (hy : BytesIn w xv ys) (hl : ys.length ≤ 140737488355328)
    (h : ∀ v' w', OwnN w' w.heap.size v' ys → Below w.heap.size w w' → wpList Tryd.prog ops Q rest (a.put o.dst v') w') : wpList Tryd.prog ops Q (o :: rest) a w := by
  obtain ⟨sa, sc, rfl, hsc, hm, hcell⟩ := hy
  cases sa with
  | none =>
    have h0 : ys = [] := by
      cases ys with
      | nil => rfl
      | cons y r => obtain ⟨b, off, e, _⟩ := hcell (by simp); cases e
    subst h0
    refine wpList_plain hgd fun _ hK => ?_
    have hrun := run_append_nil8 w sc o.type
    unfold Oper.wp execOp
    simp only [List.length_nil] at hx
    simp only [ho, resolve, invoke, builtin, Sem.run_bind, Sem.run_pure, Result.andThen_ok, List.map_toArray, List.map_cons, List.map_nil, hs, hx, hrun]
    exact hK _ _ (h _ w (.inl ⟨rfl, rfl⟩) (Below.refl _ _))
  | some ad =>
    obtain ⟨i0, hi', hz0, hz1, hz2⟩ := info_parts info_u8
    refine wpList_append_own _ hgd s x 22 ho w.heap.size 5 i0 (.int .u8 0) 1 1 Tryd.underlying22 hi' hz0 hz1 hz2 rfl (by decide) (.slice none 0 0) 0 [] hs (World.ownsRow_nil _ _ _ _) ad ys.length sc (u8s ys) hx (by rw [u8s_len, Nat.mul_one]) ?_ (u8s_one ys) (by unfold maxLen; omega) (by omega) (Nat.le_refl _) ?_
    · intro j u hu
      have hj : j < ys.length := by
        have := (List.getElem?_eq_some_iff.1 hu).1
        rwa [u8s_len] at this
      obtain ⟨b, off, e, hc⟩ := hcell (fun e => by rw [e] at hj; simp at hj)
      cases e
      rw [add_mid_, hc j hj]
      rw [u8s_get ys j hj] at hu
      exact hu
    · intro v' w' h1 h2 h3
      have hb : Below w.heap.size w w' := (Below.refl _ _).grown h2 (Nat.le_refl _) (by intro k hk; simp [Value.ownBlock] at hk)
      refine h v' w' ?_ hb
      simp only [Nat.zero_add, List.nil_append] at h1
      by_cases hv : v' = .slice none 0 0
      · left
        refine ⟨hv, ?_⟩
        have := h1.1
        rcases h1.2 with ⟨_, e⟩ | ⟨g, cap, cur, e, _⟩
        · exact List.length_eq_zero_iff.1 e
        · rw [hv] at e; cases e
      · right
        exact OwnB.of_row h1 hm hv

theorem Kept.new {bs : Nat → Prop} {A B C : World} {ob : Nat} (h : Kept bs A B) (k : Kept (· = ob) B C) (ho : A.heap.size ≤ ob) : Kept bs A C :=
  ⟨k.os.trans h.os, k.tape.trans h.tape, k.output.trans h.output, Nat.le_trans h.size k.size, fun i hi hn => (k.block i (Nat.lt_of_lt_of_le hi h.size) (fun (e : i = ob) => by omega)).trans (h.block i hi hn)⟩

theorem splice_fit (bs cs : List Nat) (o : Nat) (h : o + cs.length ≤ bs.length) : (splice bs o cs).length = bs.length := length_splice bs o cs h
end Go.Proofs.YtobhdjepfhbgaaaDoor

namespace Go.Proofs.YtobhdjepfhbgaaaDoor
open Go.ChangeShapes Go.WideShapes Go.ChangeAt Go.RowKit
set_option linter.unusedVariables false

/-- The string of bytes. -/
def strB (ys : List Nat) : ByteArray := ⟨(ys.map UInt8.ofNat).toArray⟩
set_option maxRecDepth 100000 in
theorem conv_bytes {w : World} {v : Value} {ys : List Nat} (h : BytesIn w v ys) : (convert 22 9 v).run Tryd.prog w = .ok (.string (strB ys)) w := by
  obtain ⟨a, cap, rfl, hc, hm, hr⟩ := h
  have hs : Tryd.prog.underlying 9 = some .string := by kernel_rfl
  have h8 : Tryd.prog.underlying 5 = some (.int .u8) := by kernel_rfl
  cases a with
  | none =>
    have h0 : ys = [] := by
      cases ys with
      | nil => rfl
      | cons y r => obtain ⟨b, off, e, _⟩ := hr (by simp); cases e
    subst h0
    exact run_convert_bytes_nil w _ _ Tryd.underlying22 h8 _ _ _ hs
  | some ad =>
    have := run_convert_bytes_back (P := Tryd.prog) w 22 9 5 ad cap (ys.map UInt8.ofNat) Tryd.underlying22 h8 hs (fun j hj => by
      have hj' : j < ys.length := by simpa using hj
      obtain ⟨b, off, e, hcell⟩ := hr (fun e => by rw [e] at hj'; simp at hj')
      cases e
      rw [add_mid_, hcell j hj']
      have hlt := hm _ (List.getElem_mem hj')
      simp only [List.getElem?_eq_getElem hj', Option.getD_some, List.getElem_map, UInt8.toNat_ofNat', Nat.reducePow]
      congr 3
      omega)
    rwa [List.length_map] at this

/-- The length that New takes. -/
def newN (size : Int) : Nat := if 0 ≤ size ∧ size ≤ 4096 then size.toNat else 200
theorem newN_le (size : Int) : newN size ≤ 4096 := by unfold newN; split <;> omega

theorem new_z (z : Int) (n : Nat) (hz : z = n) (w : World) (hn : n ≤ 131072) :
    Calls Tryd.prog 34 #[.int .i64 z] w fun e w' => ∃ p g, e = .returned (.tuple #[.pointer (some ⟨p, 0, none⟩), .int .i64 0]) ∧ Since w p g n (List.replicate n 0) w' := by
  subst hz
  refine (new_yes n w hn).mono ?_
  rintro e w' ⟨p, g, rfl, h1, h2, h3, h4⟩
  exact ⟨p, g, rfl, h1, h2, h3, h4⟩

theorem size_al (W : World) (o : Obj) : (W.alloc o).heap.size = W.heap.size + 1 := by simp

/-- Two memories, the program's and the document's, made since w. -/
structure Both (w : World) (p g c q h d : Nat) (bs : List Nat) (W : World) : Prop where
  mem : Since w p g c bs W
  ref : MemAt 107 W q h d bs
  ql : w.heap.size ≤ q
  hl : w.heap.size ≤ h
  apart : g ≠ h
  qp : q ≠ p

theorem two_new {w w1 : World} {p g n : Nat} (h : Since w p g n (List.replicate n 0) w1) (hn : n ≤ 131072) :
    Both w p g n (w1.heap.size + 1) w1.heap.size n (List.replicate n 0) (((w1.drew).alloc (.cells (madeCells #[.int .u8 0] n) 5)).alloc (.cells #[.slice (some ⟨w1.heap.size, 0, none⟩) n n] 107)) := by
  have hs := h.sz
  have hb : Below w1.heap.size w1 (((w1.drew).alloc (.cells (madeCells #[.int .u8 0] n) 5)).alloc (.cells #[.slice (some ⟨w1.heap.size, 0, none⟩) n n] 107)) :=
    (((Below.refl _ _).drew).alloc (Nat.le_refl _) _).alloc (by rw [size_al]; exact Nat.le_succ _) _
  have z1 : (w1.drew.alloc (.cells (madeCells #[.int .u8 0] n) 5)).heap.size = w1.heap.size + 1 := size_al _ _
  have e1 : (((w1.drew).alloc (.cells (madeCells #[.int .u8 0] n) 5)).alloc (.cells #[.slice (some ⟨w1.heap.size, 0, none⟩) n n] 107)).heap[w1.heap.size]? = some (.cells (madeCells #[.int .u8 0] n) 5 (0, 0)) :=
    (Below.heap_alloc _ _ _ (by rw [z1]; omega)).trans (heap_new w1.drew (.cells (madeCells #[.int .u8 0] n) 5))
  have e2 := heap_new (w1.drew.alloc (.cells (madeCells #[.int .u8 0] n) 5)) (.cells #[.slice (some ⟨w1.heap.size, 0, none⟩) n n] 107)
  rw [z1] at e2
  have e3 : (madeCells #[Value.int .u8 0] n) = (u8s (List.replicate n 0) ++ []).toArray := by
    have := made_u8 n
    rw [Nat.mul_one] at this
    rw [List.append_nil, ← this]
    rfl
  have hg := h.mem.bytes.lt
  have hp := h.mem.plt
  refine ⟨h.later hb, ⟨?_, ⟨⟨[], ?_⟩, fun x hx => by rw [List.eq_of_mem_replicate hx]; omega⟩, by simp, by unfold maxLen; omega, by simp; exact hn, by decide⟩, by omega, hs, by omega, by omega⟩
  · rw [List.length_replicate]; exact e2
  · rw [← e3]; exact e1

set_option maxHeartbeats 2000000 in
theorem lawNew_any (size : Int) (w : World) :
    Calls Tryd.prog 19 #[.int .i64 size] w fun e w' => ∃ p g q h, e = .returned (.tuple #[.pointer (some ⟨p, 0, none⟩), .pointer (some ⟨q, 0, none⟩)]) ∧ Both w p g (newN size) q h (newN size) (List.replicate (newN size) 0) w' := by
  by_cases hs : 0 ≤ size ∧ size ≤ 4096
  · obtain ⟨n, rfl⟩ : ∃ n : Nat, size = n := ⟨size.toNat, by omega⟩
    have e : newN n = n := by simp [newN]; omega
    rw [e]
    have hn : n ≤ 4096 := by omega
    have HN := hi (new_z n n rfl w (by omega))
    have hmk := run_make_row' (P := Tryd.prog) 22 5 (.int .u8 0) 1 Tryd.underlying22 info_u8 rfl .i64 .i64 n (by omega) (by omega)
    clear e hs
    go_enter Tryd.func19, Tryd.ntmps19
    go_wp2_with (go_at_call 34; ((with_reducible refine HN.out.mono ?_); rintro e w1 ⟨p, g, rfl, hs1⟩; have HS := hi hs1; clear hs1))
    go_region
    go_wp2
    go_ret2
    exact ⟨p, g, _, _, rfl, two_new HS.out (by omega)⟩
  · have e : newN size = 200 := by simp [newN, hs]
    rw [e]
    have HN := hi (new_z 200 200 rfl w (by omega))
    have hmk := run_make_row' (P := Tryd.prog) 22 5 (.int .u8 0) 1 Tryd.underlying22 info_u8 rfl .i64 .i64 200 (by omega) (by omega)
    have hmk' : ∀ (w : World), Sem.run Tryd.prog (Instr.makeSlice 22 (.int .i64 200) (.int .i64 200)) w = .ok (.slice (some ⟨w.heap.size, 0, none⟩) 200 200) (w.alloc (.cells (madeCells #[.int .u8 0] 200) 5)) := hmk
    clear e hmk
    by_cases h0 : size < 0
    · clear hs
      go_enter Tryd.func19, Tryd.ntmps19
      go_wp2_with (go_at_call 34; ((with_reducible refine HN.out.mono ?_); rintro e w1 ⟨p, g, rfl, hs1⟩; have HS := hi hs1; clear hs1))
      go_region
      go_wp2
      go_ret2
      exact ⟨p, g, _, _, rfl, two_new HS.out (by omega)⟩
    · have h1 : 4096 < size := by omega
      have h2 : 0 ≤ size := by omega
      clear hs h0
      go_enter Tryd.func19, Tryd.ntmps19
      go_wp2_with (go_at_call 34; ((with_reducible refine HN.out.mono ?_); rintro e w1 ⟨p, g, rfl, hs1⟩; have HS := hi hs1; clear hs1))
      go_region
      go_wp2
      go_ret2
      exact ⟨p, g, _, _, rfl, two_new HS.out (by omega)⟩

end Go.Proofs.YtobhdjepfhbgaaaDoor

namespace Go.Proofs.YtobhdjepfhbgaaaDoor
open Go.ChangeShapes Go.WideShapes Go.ChangeAt Go.RowKit
set_option linter.unusedVariables false

theorem Since.base {w w1 : World} {p g c : Nat} {bs : List Nat} {W : World} (h : Since w1 p g c bs W) (k : Below w.heap.size w w1) : Since w p g c bs W :=
  ⟨h.mem, Nat.le_trans k.size h.p, Nat.le_trans k.size h.g, k.trans (h.below.mono k.size)⟩

theorem sub_splice (bs cs : List Nat) (o : Nat) (h : o + cs.length ≤ bs.length) : sub (splice bs o cs) o cs.length = cs := by
  have h1 : (bs.take o).length = o := by simp; omega
  simp only [sub, splice]
  rw [List.drop_append_of_le_length (by omega), List.drop_of_length_le (by omega), List.nil_append, List.take_append_of_le_length (by omega), List.take_of_length_le (by omega)]
theorem num_le (v : Nat) : ∀ k, num (le k v) = v % 256 ^ k
  | 0 => by simp [le, num, Nat.mod_one]
  | k + 1 => by
    rw [le_succ, num_append, num_le v k, le_len, Nat.mod_pow_succ, Nat.mul_comm (256 ^ k)]
theorem splice_in (bs cs : List Nat) (o j : Nat) (h : o + cs.length ≤ bs.length) (hj : j < cs.length) : (splice bs o cs)[o + j]? = cs[j]? := by
  have h1 : (bs.take o).length = o := by simp; omega
  simp only [splice]
  rw [List.getElem?_append_right (by omega), h1, Nat.add_sub_cancel_left, List.getElem?_append_left hj]
theorem le_get (k v j : Nat) (h : j < k) : (le k v)[j]? = some (v / 256 ^ j % 256) := by simp [le, h]
theorem sub_one (bs : List Nat) (o x : Nat) (h : bs[o]? = some x) : num (sub bs o 1) = x := by
  have hl : o < bs.length := (List.getElem?_eq_some_iff.1 h).1
  have e : sub bs o 1 = [x] := by
    simp only [sub]
    rw [List.drop_eq_getElem_cons hl]
    have := (List.getElem?_eq_some_iff.1 h).2
    simp [this]
  rw [e]; simp [num]
/-- A byte of what was written. -/
theorem num_byte (bs : List Nat) (o k v j : Nat) (h : o + k ≤ bs.length) (hj : j < k) : num (sub (splice bs o (le k v)) (o + j) 1) = v / 256 ^ j % 256 :=
  sub_one _ _ _ (by rw [splice_in _ _ _ _ (by rw [le_len]; exact h) (by rw [le_len]; exact hj), le_get _ _ _ hj])
theorem num_all (bs : List Nat) (o k v : Nat) (h : o + k ≤ bs.length) : num (sub (splice bs o (le k v)) o k) = v % 256 ^ k := by
  have := sub_splice bs (le k v) o (by rw [le_len]; exact h)
  rw [le_len] at this
  rw [this, num_le]
theorem mayE_one (S o : Nat) (h : o + 1 ≤ S) (hS : S ≤ 131072) : mayE S o 1 = 0 := by
  refine mayE0 (by decide) (tmod1 _) ⟨by omega, ?_⟩
  have : wrap64 ((S : Int) - 1) = (S : Int) - 1 := by simp only [wrap64]; omega
  rw [this]; omega
theorem and255 (x : Nat) (hx : x < 18446744073709551616) : bits .and .u64 (x : Int) 255 = ((x % 256 : Nat) : Int) := by
  rw [show (255 : Int) = ((255 : Nat) : Int) from rfl, u64_and_nat x 255 hx (by omega), show (255 : Nat) = 2 ^ 8 - 1 by rfl, Nat.and_two_pow_sub_one_eq_mod]
theorem and32 (x : Nat) (hx : x < 18446744073709551616) : bits .and .u64 (x : Int) 4294967295 = ((x % 4294967296 : Nat) : Int) := by
  rw [show (4294967295 : Int) = ((4294967295 : Nat) : Int) from rfl, u64_and_nat x 4294967295 hx (by omega), show (4294967295 : Nat) = 2 ^ 32 - 1 by rfl, Nat.and_two_pow_sub_one_eq_mod]
theorem shr_and (v j : Nat) (hv : v < 18446744073709551616) : bits .and .u64 ((v : Int) / 2 ^ (8 * j)) 255 = ((v / 256 ^ j % 256 : Nat) : Int) := by
  have e0 : ((2 : Int) ^ (8 * j)) = ((256 ^ j : Nat) : Int) := by rw [Int.pow_mul]; simp
  have h1 : v / 256 ^ j < 18446744073709551616 := Nat.lt_of_le_of_lt (Nat.div_le_self _ _) hv
  rw [e0, ← Int.natCast_ediv, and255 _ h1]

end Go.Proofs.YtobhdjepfhbgaaaDoor
