/-
  MemParts: which part of a window a window is, and whether two share a byte: its walk.
-/
import Derived.Test.YthndfkggahhleaaMemK
import Derived.Deep.RegionHeld3
namespace Go.Proofs.Ythndfkggahhleaa
open Go.ChangeShapes Go.WideShapes Go.ChangeAt Go.RowKit
set_option linter.unusedVariables false

theorem partV_form (a s x n : Int) : ∃ u v e : Int, partV a s x n = .tuple #[.agg #[.int .i64 u, .int .i64 v], .int .i64 e] := by
  unfold partV
  split
  · exact ⟨_, _, _, rfl⟩
  · exact ⟨_, _, _, rfl⟩
theorem meetB_comm (a s b t : Int) : meetB b t a s = meetB a s b t := by
  simp only [meetB]
  rw [Bool.and_comm (fairB b t)]
  congr 1
  rw [decide_eq_decide]
  omega

/-- A box of two cells. -/
structure Box2 (W : World) (p : Nat) (x y : Value) : Prop where
  c0 : W.cell? ⟨p, 0, none⟩ = some x
  c1 : W.cell? ⟨p, 1, none⟩ = some y
  lt : p < W.heap.size
theorem Box2.below {A W : World} {p : Nat} {x y : Value} (h : Box2 A p x y) (k : Below A.heap.size A W) : Box2 W p x y :=
  ⟨(k.cell (p := ⟨p, 0, none⟩) h.lt).trans h.c0, (k.cell (p := ⟨p, 1, none⟩) h.lt).trans h.c1, Nat.lt_of_lt_of_le h.lt k.size⟩
theorem Box2.alloc {A : World} {p : Nat} {x y : Value} (h : Box2 A p x y) (o : Obj) : Box2 (A.alloc o) p x y := h.below (bal A o)
theorem Box2.kept {A W : World} {p : Nat} {x y : Value} (h : Box2 A p x y) {bs : Nat → Prop} (k : Kept bs A W) (hp : ¬ bs p) : Box2 W p x y :=
  ⟨(World.cell?_of_block (w := A) (a := ⟨p, 0, none⟩) (k.block p h.lt hp)).trans h.c0, (World.cell?_of_block (w := A) (a := ⟨p, 1, none⟩) (k.block p h.lt hp)).trans h.c1, Nat.lt_of_lt_of_le h.lt k.size⟩
theorem box2_new (A : World) (x y : Value) (T : TypeId) : Box2 (A.alloc (.cells #[x, y] T)) A.heap.size x y :=
  ⟨cell_of_box (heap_new A (.cells #[x, y] T)) 0, cell_of_box (heap_new A (.cells #[x, y] T)) 1, by simp⟩

structure StP (w : World) (p1 p2 p3 p4 : Nat) (W : World) : Prop where
  below : Below w.heap.size w W
  l1 : p1 < W.heap.size
  l2 : p2 < W.heap.size
  l3 : p3 < W.heap.size
  l4 : p4 < W.heap.size
theorem StP.drew {w : World} {p1 p2 p3 p4 : Nat} {W : World} (h : StP w p1 p2 p3 p4 W) : StP w p1 p2 p3 p4 W.drew := ⟨h.below.drew, h.l1, h.l2, h.l3, h.l4⟩
theorem keepP {w W W' : World} {p1 p2 p3 p4 : Nat} {a s b t u v : Int} (k : Below W.heap.size W W') (h : W.cell? ⟨p1, 0, none⟩ = some (.int .i64 a) ∧ W.cell? ⟨p1, 1, none⟩ = some (.int .i64 s) ∧ W.cell? ⟨p2, 0, none⟩ = some (.int .i64 b) ∧ W.cell? ⟨p2, 1, none⟩ = some (.int .i64 t) ∧ W.cell? ⟨p3, 0, none⟩ = some (.int .i64 u) ∧ W.cell? ⟨p3, 1, none⟩ = some (.int .i64 v) ∧ W.cell? ⟨p4, 0, none⟩ = some (.int .i64 u) ∧ W.cell? ⟨p4, 1, none⟩ = some (.int .i64 v) ∧ StP w p1 p2 p3 p4 W) :
    W'.cell? ⟨p1, 0, none⟩ = some (.int .i64 a) ∧ W'.cell? ⟨p1, 1, none⟩ = some (.int .i64 s) ∧ W'.cell? ⟨p2, 0, none⟩ = some (.int .i64 b) ∧ W'.cell? ⟨p2, 1, none⟩ = some (.int .i64 t) ∧ W'.cell? ⟨p3, 0, none⟩ = some (.int .i64 u) ∧ W'.cell? ⟨p3, 1, none⟩ = some (.int .i64 v) ∧ W'.cell? ⟨p4, 0, none⟩ = some (.int .i64 u) ∧ W'.cell? ⟨p4, 1, none⟩ = some (.int .i64 v) ∧ StP w p1 p2 p3 p4 W' := by
  obtain ⟨c1, c2, c3, c4, c5, c6, c7, c8, ⟨hb, l1, l2, l3, l4⟩⟩ := h
  have hz := k.size
  exact ⟨(k.cell (p := ⟨p1, 0, none⟩) l1).trans c1, (k.cell (p := ⟨p1, 1, none⟩) l1).trans c2, (k.cell (p := ⟨p2, 0, none⟩) l2).trans c3, (k.cell (p := ⟨p2, 1, none⟩) l2).trans c4, (k.cell (p := ⟨p3, 0, none⟩) l3).trans c5, (k.cell (p := ⟨p3, 1, none⟩) l3).trans c6, (k.cell (p := ⟨p4, 0, none⟩) l4).trans c7, (k.cell (p := ⟨p4, 1, none⟩) l4).trans c8, ⟨hb.trans (k.mono hb.size), by omega, by omega, by omega, by omega⟩⟩

set_option maxHeartbeats 4000000 in
theorem memParts_walk (a s b t x n : Int) (w : World) (hn1 : n ≤ 9223372036854775807) (hx1 : x ≤ 9223372036854775807) :
    Calls Try.prog 4 #[win a s, win b t, .int .i64 x, .int .i64 n] w fun e w' => e = .returned (.bool true) ∧ Below w.heap.size w w' := by
  obtain ⟨u, v, e, he⟩ := partV_form a s x n
  have HP := hi (fun W => part_any a s x n W hn1 hx1)
  have HR := hi (fun W => rpart_any a s x n W hn1 hx1)
  rw [he] at HP HR
  have HM := hi (meet_any a s b t)
  have HN := hi (rmeet_any a s b t)
  have HO := hi (meet_any b t a s)
  rw [meetB_comm a s b t] at HO
  obtain ⟨m, hm⟩ : ∃ m, meetB a s b t = m := ⟨_, rfl⟩
  rw [hm] at HM HN HO
  clear hm he hn1 hx1
  unfold win at HP HR HM HN HO ⊢
  go_enter Try.func4, Try.ntmps4
  go_wp2_with (first
    | (go_at_call 8; ((with_reducible refine (awake_any _).mono ?_); rintro e w1 ⟨rfl, hb1⟩; have B1 := hi (((box2_new w _ _ _).alloc _).below hb1); have B2 := hi ((box2_new (w.alloc (.cells #[.int .i64 a, .int .i64 s] 29)) _ _ _).below hb1); have HK1 := hi (((bal w (.cells #[.int .i64 a, .int .i64 s] 29)).alloc (by simp) (.cells #[.int .i64 b, .int .i64 t] 29)).trans (hb1.mono (by simp; omega))); rw [show (w.alloc (.cells #[.int .i64 a, .int .i64 s] 29)).heap.size = w.heap.size + 1 by simp] at B2; obtain ⟨b10, b11, b12⟩ := B1.out; obtain ⟨b20, b21, b22⟩ := B2.out; clear hb1))
    | (go_at_call 23; ((with_reducible refine (HP.out _).mono ?_); rintro e w2 ⟨rfl, hb2⟩; have B1' := hi (B1.out.below hb2); have B2' := hi (B2.out.below hb2); have HK2 := hi (HK1.out.trans (hb2.mono HK1.out.size)); have B3 := hi (box2_new w2 (.int .i64 u) (.int .i64 v) 29); obtain ⟨b30, b31, b32⟩ := (B1'.out.alloc (.cells #[.int .i64 u, .int .i64 v] 29)); obtain ⟨b40, b41, b42⟩ := (B2'.out.alloc (.cells #[.int .i64 u, .int .i64 v] 29)); clear hb2))
    | (go_at_call 24; ((with_reducible refine (HR.out _).mono ?_); rintro e w3 ⟨rfl, hb3⟩; have C1 := hi (((B1'.out.alloc _).below hb3).alloc (.cells #[.int .i64 u, .int .i64 v] 29)); have C2 := hi (((B2'.out.alloc _).below hb3).alloc (.cells #[.int .i64 u, .int .i64 v] 29)); have C3 := hi ((B3.out.below hb3).alloc (.cells #[.int .i64 u, .int .i64 v] 29)); have C4 := hi (box2_new w3 (.int .i64 u) (.int .i64 v) 29); have HK3 := hi ((HK2.out.alloc HK2.out.size _).trans (hb3.mono (by have := HK2.out.size; simp; omega))); clear hb3)))
  obtain ⟨a1, a2, l1⟩ := C1.out
  obtain ⟨a3, a4, l2⟩ := C2.out
  obtain ⟨a5, a6, l3⟩ := C3.out
  obtain ⟨a7, a8, l4⟩ := C4.out
  have HS : StP w w.heap.size (w.heap.size + 1) w2.heap.size w3.heap.size (w3.alloc (.cells #[.int .i64 u, .int .i64 v] 29)) := ⟨HK3.out.alloc HK3.out.size _, l1, l2, l3, l4⟩
  clear C1 C2 C3 C4 HK3 HK2 B1 B2 B1' B2' B3 HK1 b10 b11 b12 b20 b21 b22 b30 b31 b32 b40 b41 b42 l1 l2 l3 l4
  obtain ⟨W4, hW4⟩ : ∃ W4, w3.alloc (.cells #[.int .i64 u, .int .i64 v] 29) = W4 := ⟨_, rfl⟩
  rw [hW4] at a1 a2 a3 a4 a5 a6 a7 a8 HS ⊢
  have HSd : StP w w.heap.size (w.heap.size + 1) w2.heap.size w3.heap.size W4.drew := HS.drew
  clear hW4
  go_wp2
  go_region_held3 (fun w' => w'.cell? ⟨w.heap.size, 0, none⟩ = some (.int .i64 a) ∧ w'.cell? ⟨w.heap.size, 1, none⟩ = some (.int .i64 s) ∧ w'.cell? ⟨w.heap.size + 1, 0, none⟩ = some (.int .i64 b) ∧ w'.cell? ⟨w.heap.size + 1, 1, none⟩ = some (.int .i64 t) ∧ w'.cell? ⟨w2.heap.size, 0, none⟩ = some (.int .i64 u) ∧ w'.cell? ⟨w2.heap.size, 1, none⟩ = some (.int .i64 v) ∧ w'.cell? ⟨w3.heap.size, 0, none⟩ = some (.int .i64 u) ∧ w'.cell? ⟨w3.heap.size, 1, none⟩ = some (.int .i64 v) ∧ StP w w.heap.size (w.heap.size + 1) w2.heap.size w3.heap.size w')
    (first
      | go_keep
      | ((try dsimp only); go_split_ands; exact ⟨by assumption, by assumption, by assumption, by assumption, by assumption, by assumption, by assumption, by assumption, by assumption⟩))
    (first
      | (go_at_call 25; (with_reducible refine (HM.out _).mono ?_); rintro e w1 ⟨rfl, hb⟩; have hS := keepP (w := w) (p1 := w.heap.size) (p2 := w.heap.size + 1) (p3 := w2.heap.size) (p4 := w3.heap.size) (a := a) (s := s) (b := b) (t := t) (u := u) (v := v) hb (by go_split_ands; exact ⟨by assumption, by assumption, by assumption, by assumption, by assumption, by assumption, by assumption, by assumption, by assumption⟩); clear hb; go_split_ands)
      | (go_at_call 26; (with_reducible refine (HN.out _).mono ?_); rintro e w1 ⟨rfl, hb⟩; have hS := keepP (w := w) (p1 := w.heap.size) (p2 := w.heap.size + 1) (p3 := w2.heap.size) (p4 := w3.heap.size) (a := a) (s := s) (b := b) (t := t) (u := u) (v := v) hb (by go_split_ands; exact ⟨by assumption, by assumption, by assumption, by assumption, by assumption, by assumption, by assumption, by assumption, by assumption⟩); clear hb; go_split_ands)
      | (go_at_call 25; (with_reducible refine (HO.out _).mono ?_); rintro e w1 ⟨rfl, hb⟩; have hS := keepP (w := w) (p1 := w.heap.size) (p2 := w.heap.size + 1) (p3 := w2.heap.size) (p4 := w3.heap.size) (a := a) (s := s) (b := b) (t := t) (u := u) (v := v) hb (by go_split_ands; exact ⟨by assumption, by assumption, by assumption, by assumption, by assumption, by assumption, by assumption, by assumption, by assumption⟩); clear hb; go_split_ands))
  have HX : StP w w.heap.size (w.heap.size + 1) w2.heap.size w3.heap.size w1 := by assumption
  go_wp2
  go_ret
  exact ⟨rfl, HX.below⟩

end Go.Proofs.Ythndfkggahhleaa
