/-
  Package sets: Least, Copy, From, All: what a loop over From goes through is laid in a block of its own.
-/
import Derived.Test.YtmdlknddlmpddaaDoorSetC
import Derived.RangeFuncBox
import Derived.RangeFuncLeaves
import Derived.RangeFuncCalls
import Derived.RangeFuncNested
import Derived.Shelf.Abstract
import Derived.OwnWalkIn
import Derived.TacticsInMore
import Derived.LoopNIn
import Derived.LoopIn
import Derived.Maps.AppendAt
namespace Go.Proofs.YtmdlknddlmpddaaDoor
open Go.ChangeShapes Go.WideShapes Go.ChangeAt Go.RowKit Go.Shelf
set_option linter.unusedVariables false

/-- Cells laid over a block's cells. -/
def ow : Array Value → Nat → List Value → Array Value
  | c, _, [] => c
  | c, o, v :: r => ow (c.setIfInBounds o v) (o + 1) r
theorem ow_size : ∀ (vs : List Value) (c : Array Value) (o : Nat), (ow c o vs).size = c.size
  | [], _, _ => rfl
  | v :: r, c, o => by rw [ow, ow_size r]; simp
theorem ow_get : ∀ (vs : List Value) (c : Array Value) (o i : Nat), o + vs.length ≤ c.size → i < c.size → (ow c o vs)[i]? = if o ≤ i ∧ i < o + vs.length then vs[i - o]? else c[i]?
  | [], c, o, i, h, hi => by rw [ow, if_neg (by simp)]
  | v :: r, c, o, i, h, hi => by
    simp only [List.length_cons] at h ⊢
    rw [ow, ow_get r (c.setIfInBounds o v) (o + 1) i (by simp; omega) (by simp; exact hi)]
    by_cases h1 : o + 1 ≤ i ∧ i < o + 1 + r.length
    · rw [if_pos h1, if_pos (by omega)]
      have e : i - o = (i - (o + 1)) + 1 := by omega
      rw [e]; simp
    · rw [if_neg h1]
      by_cases h2 : i = o
      · subst h2
        rw [if_pos (by omega)]
        simp [hi]
      · rw [if_neg (by omega), Array.getElem?_setIfInBounds_ne (fun x => h2 x.symm)]
theorem ow_all (vs : List Value) (c : Array Value) (h : c.size = vs.length) : ow c 0 vs = vs.toArray := by
  apply Array.ext_getElem?
  intro i
  by_cases hi : i < c.size
  · rw [ow_get vs c 0 i (by omega) hi, if_pos (by omega)]; simp
  · have h1 : ¬ i < (ow c 0 vs).size := by rw [ow_size]; exact hi
    rw [Array.getElem?_eq_none (by omega), Array.getElem?_eq_none (by simp; omega)]

theorem heap_setCells (b : Nat) (T : TypeId) (fr : Nat × Nat) : ∀ (vs : List Value) (o : Nat) (w : World) (c : Array Value), w.heap[b]? = some (.cells c T fr) → (w.setCells b o vs).heap[b]? = some (.cells (ow c o vs) T fr)
  | [], o, w, c, h => h
  | v :: r, o, w, c, h => by
    rw [World.setCells, ow]
    refine heap_setCells b T fr r (o + 1) _ _ ?_
    obtain ⟨hlt, hk⟩ := Array.getElem?_eq_some_iff.1 h
    show (w.heap.modify b _)[b]? = _
    rw [Array.getElem?_eq_getElem (by rw [Array.size_modify]; exact hlt), Array.getElem_modify_self, hk]
    rfl
theorem heap_setCells_other (b : Nat) : ∀ (vs : List Value) (o : Nat) (w : World) (k : Nat), k ≠ b → (w.setCells b o vs).heap[k]? = w.heap[k]?
  | [], _, _, _, _ => rfl
  | v :: r, o, w, k, h => by
    rw [World.setCells, heap_setCells_other b r (o + 1) _ k h]
    exact Below.heap_setCell _ _ _ k h
theorem os_setCells (b : Nat) : ∀ (vs : List Value) (o : Nat) (w : World), (w.setCells b o vs).os = w.os
  | [], _, _ => rfl
  | v :: r, o, w => by rw [World.setCells, os_setCells b r]; rfl
theorem tape_setCells (b : Nat) : ∀ (vs : List Value) (o : Nat) (w : World), (w.setCells b o vs).tape = w.tape
  | [], _, _ => rfl
  | v :: r, o, w => by rw [World.setCells, tape_setCells b r]; rfl
theorem output_setCells (b : Nat) : ∀ (vs : List Value) (o : Nat) (w : World), (w.setCells b o vs).output = w.output
  | [], _, _ => rfl
  | v :: r, o, w => by rw [World.setCells, output_setCells b r]; rfl
theorem size_setCells (b : Nat) : ∀ (vs : List Value) (o : Nat) (w : World), (w.setCells b o vs).heap.size = w.heap.size
  | [], _, _ => rfl
  | v :: r, o, w => by rw [World.setCells, size_setCells b r]; simp [World.setCell]

theorem rowCells_list (S : Words) : rowCells S = (rowList S).toArray := rfl

/-- A row of zeros. -/
def zeroRow : Array Value := rowCells fun _ => 0
theorem run_alloc_row (W : World) : (Instr.alloc 56 true (.tuple #[])).run Tryd.prog W = .ok (.pointer (some ⟨W.heap.size, 0, none⟩)) (W.alloc (.cells zeroRow 56)) := by
  kernel_rfl

theorem fold_ow : ∀ (vs : List Value) (o : Nat) (c : Array Value), List.foldl (fun cs x => cs.setIfInBounds x.snd x.fst) c (vs.zipIdx o) = ow c o vs
  | [], _, _ => rfl
  | v :: r, o, c => by rw [List.zipIdx_cons, List.foldl_cons, fold_ow r (o + 1), ow]

theorem run_build_zero (W : World) : (Instr.build 58 #[]).run Tryd.prog W = .ok (.agg zeroRow) W := by
  kernel_rfl
theorem under_set : ∃ f, Tryd.prog.underlying 58 = some (.struct #[f]) ∧ f.offset = 0 ∧ f.type = 56 := ⟨_, Tryd.underlying58, rfl, rfl⟩
theorem zero_set (W : World) : (zeroValue 58).run Tryd.prog W = .ok (.agg zeroRow) W := by kernel_rfl
theorem run_build_row (cs : List Value) (hn : cs.length = 256) (W : World) : (Instr.build 58 #[(0, .agg cs.toArray)]).run Tryd.prog W = .ok (.agg cs.toArray) W := by
  obtain ⟨f, hf, ho, ht⟩ := under_set
  cases hq : Tryd.prog.info? 56 with
  | none => have := size_row; simp [hq] at this
  | some i =>
    have hs : i.size = 256 := by have := size_row; simpa [hq] using this
    have hz : zeroRow.size = 256 := rowCells_size _
    unfold Instr.build
    simp [Sem.run_bind, zero_set, run_underlying hf, ho, ht, sizeOf, typeInfo, hq, hs, Instr.fill, Value.cells, hn, hz]
    rw [fold_ow, ow_all cs _ (by rw [hz, hn])]

theorem wpList_build_row {ops : Array Oper} {rest : List Oper} {op : Oper} {a : Act} {w : World} {Q : Exit → Act → World → Prop} (hgd : op.guard = none) (x : Operand) (ho : op.op = .build 58 #[(0, x)])
    (cs : List Value) (hx : a.eval x = .agg cs.toArray) (hn : cs.length = 256) (h : wpList Tryd.prog ops Q rest (a.put op.dst (.agg cs.toArray)) w) : wpList Tryd.prog ops Q (op :: rest) a w :=
  wpList_plain hgd fun _ hK => by
    unfold Oper.wp execOp
    simp only [ho, List.map_toArray, List.map_cons, List.map_nil, hx, Sem.run_bind, Result.andThen_ok, run_build_row cs hn]
    exact hK _ _ h
theorem wpList_build_zero {ops : Array Oper} {rest : List Oper} {op : Oper} {a : Act} {w : World} {Q : Exit → Act → World → Prop} (hgd : op.guard = none) (ho : op.op = .build 58 #[])
    (h : wpList Tryd.prog ops Q rest (a.put op.dst (.agg zeroRow)) w) : wpList Tryd.prog ops Q (op :: rest) a w :=
  wpList_plain hgd fun _ hK => by
    unfold Oper.wp execOp
    simp only [ho, List.map_toArray, List.map_nil, Sem.run_bind, Result.andThen_ok, run_build_zero]
    exact hK _ _ h

theorem wpList_alloc_row {ops : Array Oper} {rest : List Oper} {op : Oper} {a : Act} {w : World} {Q : Exit → Act → World → Prop} (hgd : op.guard = none) (ho : op.op = .alloc 56)
    (h : wpList Tryd.prog ops Q rest (a.put op.dst (.pointer (some ⟨w.heap.size, 0, none⟩))) (w.alloc (.cells zeroRow 56))) : wpList Tryd.prog ops Q (op :: rest) a w :=
  wpList_plain hgd fun _ hK => by
    unfold Oper.wp execOp
    simp only [ho, Sem.run_bind, Result.andThen_ok, run_alloc_row]
    exact hK _ _ h

set_option maxHeartbeats 400000 in
theorem least_some (b : Nat) (S : Words) (r : Nat) (w : World) (hR : RowAt 58 w b S) (hT : TabW w) (hr : IsNx (memS S) 0 r) (hl : r < 16384) :
    Calls Tryd.prog 36 #[.pointer (some ⟨b, 0, none⟩)] w fun e w' => e = .returned (.tuple #[.int .i64 (r : Int), .bool true]) ∧ w = w' := by
  have hc := hR.cell 0 (by omega)
  have h := next_near _ b S 0 r w hR hT (by omega) hr
  have HH := Lib.hid h
  have hne : ((r : Int) == 16384) = false := by simp; omega
  clear h hR hT hr hl
  go_enter Tryd.func36, Tryd.ntmps36
  go_wp2_with (go_at_call 50; refine HH.out.mono ?_; rintro e w' ⟨rfl, rfl⟩)
  go_ret2
  exact ⟨rfl, rfl⟩
set_option maxHeartbeats 400000 in
theorem least_none (b : Nat) (S : Words) (w : World) (hR : RowAt 58 w b S) (hT : TabW w) (hr : IsNx (memS S) 0 16384) :
    Calls Tryd.prog 36 #[.pointer (some ⟨b, 0, none⟩)] w fun e w' => e = .returned (.tuple #[.int .i64 0, .bool false]) ∧ w = w' := by
  have hc := hR.cell 0 (by omega)
  have h := next_near _ b S 0 16384 w hR hT (by omega) hr
  have HH := Lib.hid h
  clear h hR hT hr
  go_enter Tryd.func36, Tryd.ntmps36
  go_wp2_with (go_at_call 50; refine HH.out.mono ?_; rintro e w' ⟨rfl, rfl⟩)
  go_ret2
  exact ⟨rfl, rfl⟩

theorem rowList_one (S : Words) : (rowList S).toArray.all (·.oneCell') = true :=
  all_oneCell_toArray fun v hv => by
    simp only [rowList, List.mem_map] at hv
    obtain ⟨i, _, rfl⟩ := hv
    rfl

/-- What From lays: the row's copy, and where to begin. -/
def FromAt (W : World) (b : Nat) (S : Words) (f : Int) : Prop := RowAt 56 W b S ∧ W.heap[b + 1]? = some (.cells #[.int .i64 f] 3 (0, 0))

theorem zeroRow_size : zeroRow.size = 256 := rowCells_size _

/-- The two new blocks behind the store. -/
theorem laid_new (w : World) (Z : Array Value) (cs : List Value) (hZ : Z.size = cs.length) :
    ((w.alloc (.cells Z 56)).alloc (.cells #[.int .i64 0] 3)).there w.heap.size 0 cs.toArray.size ∧
    (((w.alloc (.cells Z 56)).alloc (.cells #[.int .i64 0] 3)).setCells w.heap.size 0 cs).heap[w.heap.size]? = some (.cells cs.toArray 56 (0, 0)) ∧
    Boxed (((w.alloc (.cells Z 56)).alloc (.cells #[.int .i64 0] 3)).setCells w.heap.size 0 cs) (w.heap.size + 1) 3 (.int .i64 0) ∧
    (((w.alloc (.cells Z 56)).alloc (.cells #[.int .i64 0] 3)).setCells w.heap.size 0 cs).heap.size = w.heap.size + 2 ∧
    Below w.heap.size w (((w.alloc (.cells Z 56)).alloc (.cells #[.int .i64 0] 3)).setCells w.heap.size 0 cs) := by
  have h0 : ((w.alloc (.cells Z 56)).alloc (.cells #[.int .i64 0] 3)).heap[w.heap.size]? = some (.cells Z 56 (0, 0)) :=
    (Below.heap_alloc _ _ _ (by simp)).trans (World.alloc_heap_new w _)
  have h1 : ((w.alloc (.cells Z 56)).alloc (.cells #[.int .i64 0] 3)).heap[w.heap.size + 1]? = some (.cells #[.int .i64 0] 3 (0, 0)) := by
    have := World.alloc_heap_new (w.alloc (.cells Z 56)) (.cells #[.int .i64 0] 3)
    rwa [World.size_alloc] at this
  refine ⟨fun j hj => ?_, ?_, ?_, ?_, ?_⟩
  · have hj' : j < Z.size := by rw [hZ]; simpa using hj
    constructor
    · simp [World.cell?, h0, hj']
    · simp [World.frozen?, h0]
  · rw [heap_setCells _ _ _ cs 0 _ _ h0, ow_all cs Z hZ]
  · exact (heap_setCells_other _ cs 0 _ _ (by omega)).trans h1
  · rw [size_setCells]; simp
  · have hb : Below w.heap.size w ((w.alloc (.cells Z 56)).alloc (.cells #[.int .i64 0] 3)) := ((Below.refl _ w).alloc (Nat.le_refl _) _).alloc (by simp) _
    exact hb.trans ⟨os_setCells _ _ _ _, tape_setCells _ _ _ _, output_setCells _ _ _ _, by rw [size_setCells]; exact Nat.le_refl _, fun k hk => heap_setCells_other _ cs 0 _ k (by omega)⟩

set_option maxRecDepth 100000 in
set_option maxHeartbeats 1000000 in
theorem from_any (b : Nat) (S : Words) (m : Int) (w : World) (hR : RowAt 58 w b S) :
    Calls Tryd.prog 34 #[.pointer (some ⟨b, 0, none⟩), .int .i64 m] w fun e w' =>
      e = .returned (.func (.func 49) #[] #[.pointer (some ⟨w.heap.size, 0, none⟩), .pointer (some ⟨w.heap.size + 1, 0, none⟩)]) ∧ FromAt w' w.heap.size S (max m 0) ∧ Below w.heap.size w w' ∧ w'.heap.size = w.heap.size + 2 := by
  have hl := hR.range
  have hc := hR.cell 0 (by omega)
  have hn := rowList_len S
  have h1 := rowList_one S
  obtain ⟨cs, ecs⟩ : ∃ cs, rowList S = cs := ⟨_, rfl⟩
  obtain ⟨Z, eZ⟩ : ∃ Z, zeroRow = Z := ⟨_, rfl⟩
  rw [ecs] at hl hn h1
  have HL := Lib.hid hl
  have HN := Lib.hid hn
  have H1 := Lib.hid h1
  have ECS := Lib.hid ecs
  have hln := laid_new w Z cs (by rw [← eZ, hn]; exact zeroRow_size)
  obtain ⟨W2, hW2⟩ : ∃ W2, ((w.alloc (.cells Z 56)).alloc (.cells #[.int .i64 0] 3)).setCells w.heap.size 0 cs = W2 := ⟨_, rfl⟩
  rw [hW2] at hln
  have LN := Lib.hid hln
  have HW2 := Lib.hid hW2
  have EZ := Lib.hid eZ
  have HR := Lib.hid hR
  clear hln hW2
  clear hl hn h1 ecs hR eZ
  go_enter Tryd.func34, Tryd.ntmps34
  go_wp2_with (first
    | (refine wpList_load_mid rfl 56 (.tmp 9) rfl b 0 rfl cs _ HL.out under_row rfl (by rw [HN.out]; exact size_row) ?_)
    | (refine wpList_alloc_row rfl rfl ?_; rw [EZ.out])
    | (refine wpList_store_mid rfl 56 (.tmp 5) (.tmp 10) rfl w.heap.size 0 cs.toArray rfl rfl LN.out.1 (by simp only [List.size_toArray]; rw [HN.out]; exact size_row) H1.out ?_; simp only [List.toList_toArray]; rw [HW2.out]; have hc2 := LN.out.2.2.1.cell; have hf2 := LN.out.2.2.1.frozen))
  · have e : max m 0 = 0 := by have : m < 0 := by assumption
                               omega
    rw [e]
    go_ret
    exact ⟨rfl, ⟨⟨(Below.heap_setCell _ _ _ _ (by simp)).trans (LN.out.2.1.trans (by rw [← ECS.out]; rfl)), HR.out.2⟩, LN.out.2.2.1.set _⟩, LN.out.2.2.2.2.setCell (by simp) _, by simp [World.setCell]; exact LN.out.2.2.2.1⟩
  · have e : max m 0 = m := by have : 0 ≤ m := by assumption
                               omega
    rw [e]
    go_ret
    exact ⟨rfl, ⟨⟨(Below.heap_setCell _ _ _ _ (by simp)).trans (LN.out.2.1.trans (by rw [← ECS.out]; rfl)), HR.out.2⟩, LN.out.2.2.1.set _⟩, LN.out.2.2.2.2.setCell (by simp) _, by simp [World.setCell]; exact LN.out.2.2.2.1⟩

set_option maxHeartbeats 400000 in
theorem all_any (b : Nat) (S : Words) (w : World) (hR : RowAt 58 w b S) :
    Calls Tryd.prog 48 #[.pointer (some ⟨b, 0, none⟩)] w fun e w' =>
      e = .returned (.func (.func 49) #[] #[.pointer (some ⟨w.heap.size, 0, none⟩), .pointer (some ⟨w.heap.size + 1, 0, none⟩)]) ∧ FromAt w' w.heap.size S 0 ∧ Below w.heap.size w w' ∧ w'.heap.size = w.heap.size + 2 := by
  have h := from_any b S 0 w hR
  rw [show max (0 : Int) 0 = 0 from rfl] at h
  have HH := Lib.hid h
  clear h hR
  go_enter Tryd.func48, Tryd.ntmps48
  go_wp2_with (go_at_call 34; refine HH.out.mono ?_; rintro e w' ⟨rfl, h1, h2, h3⟩)
  go_ret
  exact ⟨rfl, h1, h2, h3⟩

set_option maxRecDepth 100000 in
set_option maxHeartbeats 1000000 in
theorem copy_any (b : Nat) (S : Words) (w : World) (hR : RowAt 58 w b S) :
    Calls Tryd.prog 14 #[.pointer (some ⟨b, 0, none⟩)] w fun e w' =>
      e = .returned (.pointer (some ⟨w.heap.size, 0, none⟩)) ∧ RowAt 58 w' w.heap.size S ∧ Below w.heap.size w w' ∧ w'.heap.size = w.heap.size + 1 := by
  have hl := hR.range
  have hc := hR.cell 0 (by omega)
  have hn := rowList_len S
  have h1 := rowList_one S
  obtain ⟨cs, ecs⟩ : ∃ cs, rowList S = cs := ⟨_, rfl⟩
  rw [ecs] at hl hn h1
  have HL := Lib.hid hl
  have HN := Lib.hid hn
  have H1 := Lib.hid h1
  have ECS := Lib.hid ecs
  have HR := Lib.hid hR
  clear hl hn h1 ecs hR
  go_enter Tryd.func14, Tryd.ntmps14
  go_wp2_with (first
    | (refine wpList_load_mid rfl 56 (.tmp 5) rfl b 0 rfl cs _ HL.out under_row rfl (by rw [HN.out]; exact size_row) ?_)
    | (refine wpList_build_row rfl (.tmp 6) rfl cs rfl HN.out ?_))
  go_ret
  refine ⟨rfl, ⟨(World.alloc_heap_new w _).trans (by rw [← ECS.out]; rfl), HR.out.2⟩, (Below.refl _ _).alloc (Nat.le_refl _) _, by simp⟩

end Go.Proofs.YtmdlknddlmpddaaDoor
