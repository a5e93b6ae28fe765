/-
  SetsDoes: along any acts, what each answers, and what a set has behind it, is what the document says (the law answers true). Asked: the library's table lies in its variable.
-/
import Derived.Test.YtmdlknddlmpddaaDoorSetR
import Derived.Deep.RegionHeld3
import Derived.Deep.RegionWith
import Derived.Deep.DrawnRows
namespace Go.Proofs.YtmdlknddlmpddaaDoor
open Go.ChangeShapes Go.WideShapes Go.ChangeAt Go.RowKit Go.Shelf
set_option linter.unusedVariables false

/-- Where a round begins: a set, and its list. -/
structure Rd (w : World) (bs : Nat) (S : Words) (l : List Int) (vl : Value) (W : World) : Prop where
  s : Good w bs S W
  c : Col w vl l W
  is : Lists S l
theorem Rd.below {w W W' : World} {bs : Nat} {S : Words} {l : List Int} {vl : Value} (h : Rd w bs S l vl W) (k : Below W.heap.size W W') : Rd w bs S l vl W' := ⟨h.s.below k, h.c.later k, h.is⟩

theorem grownBy_set (W : World) (p : Addr) (v : Value) : W.grownBy (W.setCell p v) (some p.block) :=
  ⟨rfl, rfl, rfl, by simp [World.setCell], fun k hk hne => Below.heap_setCell _ _ _ k (fun e => hne (by rw [e]))⟩
/-- A number of the call's own list is written over. -/
theorem Col.put {w W : World} {a : Option Addr} {n cap k : Nat} {zs : List Int} (h : Col w (.slice a n cap) zs W) (x : Int) (hk : k < zs.length) :
    ∃ g, a = some ⟨g, 0, none⟩ ∧ W.cell? ⟨g, k, none⟩ = some (.int .i64 (zs[k]?.getD 0)) ∧ W.frozen? ⟨g, k, none⟩ = false ∧ (.slice a n cap : Value).ownBlock = some g ∧
      Col w (.slice a n cap) (zs.set k x) (W.setCell ⟨g, k, none⟩ (.int .i64 x)) := by
  have hb := h.below
  have hlt := h.own.lt
  rcases h.own.2 with ⟨e, e0⟩ | ⟨g, cap', cur, e, hge, hg, h1, h2, h3, h4⟩
  · omega
  · simp only [Value.slice.injEq] at e
    obtain ⟨rfl, rfl, rfl⟩ := e
    have hcur : cur.toList[k]? = some (.int .i64 (zs[k]?.getD 0)) := by
      have h5 : (cur.toList.take (zs.length * 1))[k]? = (zs.map (Value.int .i64))[k]? := by rw [h4]
      rw [List.getElem?_take_of_lt (by omega)] at h5
      rw [h5]
      simp [hk]
    refine ⟨g, rfl, ?_, by simp [World.frozen?, hg], rfl, ⟨⟨by simp, .inr ⟨g, cap, cur.setIfInBounds k (.int .i64 x), by simp, hge, ?_, by simpa using h1, h2, by simpa using h3, ?_⟩⟩, ?_⟩⟩
    · simp only [World.cell?, hg]
      simpa using hcur
    · obtain ⟨hl, hq⟩ := Array.getElem?_eq_some_iff.1 hg
      show (W.heap.modify g _)[g]? = _
      rw [Array.getElem?_eq_getElem (by rw [Array.size_modify]; exact hl), Array.getElem_modify_self, hq]
      rfl
    · simp only [Array.toList_setIfInBounds, List.length_set, List.map_set]
      rw [List.take_set, h4]
    · exact Below.grown hb (grownBy_set W ⟨g, k, none⟩ _) h.sz (fun j e => by cases e; exact hge)
theorem Good.turned {w W W' : World} {b g : Nat} {S : Words} {o : Value} {zs : List Int} (h : Good w b S W) (hc : Col w o zs W) (ho : o.ownBlock = some g) (hg : W.grownBy W' (some g)) : Good w b S W' := by
  have hne : b ≠ g := fun e => by
    rcases own_not_row hc.own h.1 with x | x
    · rw [ho] at x; cases x
    · exact x (by rw [ho, e])
  exact h.far hg hne (hc.own.lt g ho).1

/-- Within a round: the act's box, the set and its list. -/
structure Rx (w : World) (X : Nat) (d m : Int) (b : Nat) (S : Words) (l : List Int) (vl : Value) (W : World) : Prop where
  box : W.heap[X]? = some (.cells #[.int .i64 d, .int .i64 m] 30 (0, 0))
  rd : Rd w b S l vl W
  x : w.heap.size ≤ X
theorem Rx.c0 {w W : World} {X : Nat} {d m : Int} {b : Nat} {S : Words} {l : List Int} {vl : Value} (h : Rx w X d m b S l vl W) : W.cell? ⟨X, 0, none⟩ = some (.int .i64 d) := by simp [World.cell?, h.box]
theorem Rx.c1 {w W : World} {X : Nat} {d m : Int} {b : Nat} {S : Words} {l : List Int} {vl : Value} (h : Rx w X d m b S l vl W) : W.cell? ⟨X, 1, none⟩ = some (.int .i64 m) := by simp [World.cell?, h.box]
theorem Rx.all {w W : World} {X : Nat} {d m : Int} {b : Nat} {S : Words} {l : List Int} {vl : Value} (h : Rx w X d m b S l vl W) : W.cell? ⟨X, 0, none⟩ = some (.int .i64 d) ∧ W.cell? ⟨X, 1, none⟩ = some (.int .i64 m) ∧ Rx w X d m b S l vl W := ⟨h.c0, h.c1, h⟩
theorem Rx.lt {w W : World} {X : Nat} {d m : Int} {b : Nat} {S : Words} {l : List Int} {vl : Value} (h : Rx w X d m b S l vl W) : X < W.heap.size := (Array.getElem?_eq_some_iff.1 h.box).1
theorem Rx.below {w W W' : World} {X : Nat} {d m : Int} {b : Nat} {S : Words} {l : List Int} {vl : Value} (h : Rx w X d m b S l vl W) (k : Below W.heap.size W W') : Rx w X d m b S l vl W' := ⟨(k.block X h.lt).trans h.box, h.rd.below k, h.x⟩
theorem Rx.new {w W : World} {d m : Int} {b : Nat} {S : Words} {l : List Int} {vl : Value} (h : Rd w b S l vl W) : Rx w W.heap.size d m b S l vl (W.alloc (.cells #[.int .i64 d, .int .i64 m] 30)) :=
  ⟨World.alloc_heap_new W _, h.below ((Below.refl _ _).alloc (Nat.le_refl _) _), h.c.sz⟩
/-- The set's words turn, and so does its list. -/
theorem Rx.ne {w W : World} {X : Nat} {d m : Int} {b : Nat} {S : Words} {l : List Int} {vl : Value} (h : Rx w X d m b S l vl W) : X ≠ b := fun e => by
  have h1 := h.rd.s.1.1
  rw [← e, h.box] at h1
  cases h1

theorem Lists.above {S : Words} {l : List Int} (h : Lists S l) (m : Int) : ListFrom S (max m 0) (l.filter fun x => decide (m ≤ x)) := by
  refine ⟨by omega, ?_⟩
  have hmem : ∀ x, x ∈ (l.filter fun x => decide (m ≤ x)) ↔ (memZ S x = true ∧ m ≤ x) := fun x => by rw [List.mem_filter, h.2, decide_eq_true_iff]
  by_cases c : max m 0 ≤ 16384
  · refine .inl ⟨c, memFrom_of (by omega) (h.1.filter _) (fun x hx => ?_) (fun x hx => ?_)⟩
    · obtain ⟨h1, h2⟩ := (hmem x).1 hx
      obtain ⟨k, rfl, _⟩ := memZ_bd h1
      omega
    · rw [hmem]
      constructor
      · exact fun h => h.1
      · exact fun h => ⟨h, by omega⟩
  · refine .inr ⟨by omega, ?_⟩
    rw [List.filter_eq_nil_iff]
    intro x hx
    obtain ⟨k, rfl, hk, _⟩ := memZ_bd ((h.2 x).1 hx)
    simp; omega
theorem alike_x (w : World) (X : Nat) (d m : Int) (b : Nat) (S : Words) (l : List Int) (al : Option Addr) (cl : Nat) (W : World) (h : Rx w X d m b S l (.slice al l.length cl) W) :
    Calls Tryd.prog 12 #[.pointer (some ⟨b, 0, none⟩), .slice al l.length cl] W fun e w' => e = .returned (.bool true) ∧ Below W.heap.size W w' := alike_any b S l al cl W h.rd.s.row h.rd.s.tab h.rd.c.ints h.rd.is
theorem has_x (w : World) (X : Nat) (d m : Int) (b : Nat) (S : Words) (l : List Int) (al : Option Addr) (cl : Nat) (W : World) (h : Rx w X d m b S l (.slice al l.length cl) W) (r : Bool) (e : memZ S m = r) :
    Calls Tryd.prog 21 #[.pointer (some ⟨b, 0, none⟩), .int .i64 m] W fun e w' => e = .returned (.bool r) ∧ W = w' := e ▸ setHas_any _ b S m W h.rd.s.1
theorem refHas_x (w : World) (X : Nat) (d m : Int) (b : Nat) (S : Words) (l : List Int) (al : Option Addr) (cl : Nat) (W : World) (h : Rx w X d m b S l (.slice al l.length cl) W) (r : Bool) (e : memZ S m = r) :
    Calls Tryd.prog 13 #[.slice al l.length cl, .int .i64 m] W fun e w' => e = .returned (.bool r) ∧ W = w' := has_is l m r _ W h.rd.c.ints (by have := h.rd.is.len; omega) ((h.rd.is.has m).trans e)
theorem from_x (w : World) (X : Nat) (d m : Int) (b : Nat) (S : Words) (l : List Int) (al : Option Addr) (cl : Nat) (W : World) (h : Rx w X d m b S l (.slice al l.length cl) W) (F : List Int) (e : (l.filter fun x => decide (m ≤ x)) = F) :
    Calls Tryd.prog 23 #[.pointer (some ⟨b, 0, none⟩), .int .i64 m, .int .i64 20000] W fun e W' => ∃ a c, e = .returned (.slice a F.length c) ∧ IntsAt W' (.slice a F.length c) F ∧ Below W.heap.size W W' :=
  e ▸ (callsIn_wide.1 (from_all 3 (Nat.le_refl _) b S m _ W h.rd.s.row h.rd.s.tab (h.rd.is.above m))).mono fun _ _ ⟨a, c, he, hn, hb⟩ => ⟨a, c, he, hn.at, hb⟩
theorem refFrom_x (w : World) (X : Nat) (d m : Int) (b : Nat) (S : Words) (l : List Int) (al : Option Addr) (cl : Nat) (W : World) (h : Rx w X d m b S l (.slice al l.length cl) W) (F : List Int) (e : (l.filter fun x => decide (m ≤ x)) = F) :
    Calls Tryd.prog 24 #[.slice al l.length cl, .int .i64 m] W fun e W' => ∃ a c, e = .returned (.slice a F.length c) ∧ IntsAt W' (.slice a F.length c) F ∧ Below W.heap.size W W' :=
  e ▸ (fromL_any l al cl m W h.rd.c.ints (by have := h.rd.is.len; omega)).mono fun _ _ ⟨a, c, he, hc⟩ => ⟨a, c, he, hc.ints, hc.below⟩

/-- Within a round, the list beside: the act's box, the set, the list. -/
structure Ry (w : World) (X : Nat) (d m : Int) (b : Nat) (S : Words) (l : List Int) (vl : Value) (W : World) : Prop where
  box : W.heap[X]? = some (.cells #[.int .i64 d, .int .i64 m] 30 (0, 0))
  s : Good w b S W
  c : Col w vl l W
  x : w.heap.size ≤ X
theorem Ry.of {w W : World} {X : Nat} {d m : Int} {b : Nat} {S : Words} {l : List Int} {vl : Value} (h : Rx w X d m b S l vl W) : Ry w X d m b S l vl W := ⟨h.box, h.rd.s, h.rd.c, h.x⟩
theorem Ry.is {w W : World} {X : Nat} {d m : Int} {b : Nat} {S : Words} {l : List Int} {vl : Value} (h : Ry w X d m b S l vl W) (g : Lists S l) : Rx w X d m b S l vl W := ⟨h.box, ⟨h.s, h.c, g⟩, h.x⟩
theorem Ry.c0 {w W : World} {X : Nat} {d m : Int} {b : Nat} {S : Words} {l : List Int} {vl : Value} (h : Ry w X d m b S l vl W) : W.cell? ⟨X, 0, none⟩ = some (.int .i64 d) := by simp [World.cell?, h.box]
theorem Ry.c1 {w W : World} {X : Nat} {d m : Int} {b : Nat} {S : Words} {l : List Int} {vl : Value} (h : Ry w X d m b S l vl W) : W.cell? ⟨X, 1, none⟩ = some (.int .i64 m) := by simp [World.cell?, h.box]
theorem Ry.lt {w W : World} {X : Nat} {d m : Int} {b : Nat} {S : Words} {l : List Int} {vl : Value} (h : Ry w X d m b S l vl W) : X < W.heap.size := (Array.getElem?_eq_some_iff.1 h.box).1
theorem Ry.below {w W W' : World} {X : Nat} {d m : Int} {b : Nat} {S : Words} {l : List Int} {vl : Value} (h : Ry w X d m b S l vl W) (k : Below W.heap.size W W') : Ry w X d m b S l vl W' := ⟨(k.block X h.lt).trans h.box, h.s.below k, h.c.later k, h.x⟩
theorem box_ne {W : World} {X b : Nat} {d m : Int} {S : Words} (h : W.heap[X]? = some (.cells #[.int .i64 d, .int .i64 m] 30 (0, 0))) (g : RowAt 58 W b S) : X ≠ b := fun e => by
  have h1 := g.1
  rw [← e, h] at h1
  cases h1
theorem Ry.turn {w W W' : World} {X : Nat} {d m : Int} {b : Nat} {S : Words} {l : List Int} {vl : Value} {S' : Words} (h : Ry w X d m b S l vl W) (hR : RowAt 58 W' b S') (hg : W.grownBy W' (some b)) : Ry w X d m b S' l vl W' :=
  ⟨(hg.block X h.lt (fun e => by cases e; exact box_ne h.box h.s.1 rfl)).trans h.box, h.s.turn hR hg, h.c.turned h.s.1 hg h.s.2.2.2.1, h.x⟩
/-- Another set turns. -/
theorem Ry.aside {w W W' : World} {X : Nat} {d m : Int} {b : Nat} {S : Words} {l : List Int} {vl : Value} {b' : Nat} {S' : Words} (h : Ry w X d m b S l vl W) (hR : RowAt 58 W b' S') (hg : W.grownBy W' (some b')) (hb : w.heap.size ≤ b') (hne : b ≠ b') : Ry w X d m b S l vl W' :=
  ⟨(hg.block X h.lt (fun e => by cases e; exact box_ne h.box hR rfl)).trans h.box, h.s.far hg hne hb, h.c.turned hR hg hb, h.x⟩
theorem put_says (S : Words) (m : Int) : (okM m && !memS S m.toNat) = (okM m && !memZ S m) := by unfold memZ; cases okM m <;> simp
theorem put_y (w : World) (X : Nat) (d m : Int) (b : Nat) (S : Words) (l : List Int) (vl : Value) (W : World) (h : Ry w X d m b S l vl W) (q : Bool) (e : (okM m && !memZ S m) = q) :
    Calls Tryd.prog 15 #[.pointer (some ⟨b, 0, none⟩), .int .i64 m] W fun e W' => e = .returned (.bool q) ∧ Ry w X d m b (putS S m) l vl W' :=
  e ▸ (put_any _ b S m W h.s.1).mono fun _ _ ⟨he, hR, hg⟩ => ⟨by rw [he, put_says], h.turn hR hg⟩
theorem take_y (w : World) (X : Nat) (d m : Int) (b : Nat) (S : Words) (l : List Int) (vl : Value) (W : World) (h : Ry w X d m b S l vl W) (q : Bool) (e : memZ S m = q) :
    Calls Tryd.prog 16 #[.pointer (some ⟨b, 0, none⟩), .int .i64 m] W fun e W' => e = .returned (.bool q) ∧ Ry w X d m b (takeS S m) l vl W' :=
  e ▸ (take_any _ b S m W h.s.1).mono fun _ _ ⟨he, hR, hg⟩ => ⟨he, h.turn hR hg⟩
theorem refPut_y (w : World) (X : Nat) (d m : Int) (b : Nat) (S T : Words) (l : List Int) (al : Option Addr) (cl : Nat) (W : World) (h : Ry w X d m b T l (.slice al l.length cl) W) (g : Lists S l) (q : List Int) (e : putL l m = q) :
    Calls Tryd.prog 19 #[.slice al l.length cl, .int .i64 m] W fun e W' => ∃ a c, e = .returned (.slice a q.length c) ∧ Ry w X d m b T q (.slice a q.length c) W' :=
  (put_col w l al cl m W h.c (by have := g.len; omega) q e).mono fun _ _ ⟨a, c, he, hc, hb⟩ => ⟨a, c, he, ⟨(hb.block X h.lt).trans h.box, h.s.below hb, hc, h.x⟩⟩
theorem refTake_y (w : World) (X : Nat) (d m : Int) (b : Nat) (S T : Words) (l : List Int) (al : Option Addr) (cl : Nat) (W : World) (h : Ry w X d m b T l (.slice al l.length cl) W) (g : Lists S l) (q : List Int) (e : takeL l m = q) :
    Calls Tryd.prog 20 #[.slice al l.length cl, .int .i64 m] W fun e W' => ∃ a c, e = .returned (.slice a q.length c) ∧ Ry w X d m b T q (.slice a q.length c) W' :=
  e ▸ (takeL_any l al cl m W h.c.ints (by have := g.len; omega)).mono fun _ _ ⟨a, c, he, hc⟩ => ⟨a, c, he, ⟨(hc.below.block X h.lt).trans h.box, h.s.below hc.below, hc.base h.c.below, h.x⟩⟩

/-- Where a copy goes on: the copy with the list, and the elder set, whatever befalls it. -/
structure R2 (w : World) (X : Nat) (d m : Int) (c b : Nat) (S : Words) (l : List Int) (vl : Value) (W : World) : Prop where
  y : Ry w X d m c S l vl W
  o : ∃ T, RowAt 58 W b T
  ne : c ≠ b
  b : w.heap.size ≤ b
theorem copy_2 (w : World) (X : Nat) (d m : Int) (b : Nat) (S : Words) (l : List Int) (vl : Value) (W : World) (h : Ry w X d m b S l vl W) :
    Calls Tryd.prog 14 #[.pointer (some ⟨b, 0, none⟩)] W fun e W' => ∃ c : Nat, e = .returned (.pointer (some ⟨c, 0, none⟩)) ∧ R2 w X d m c b S l vl W' :=
  (copy_any b S W h.s.1).mono fun _ _ ⟨he, hR, hb, _⟩ => ⟨_, he, ⟨⟨(hb.block X h.lt).trans h.box, ⟨hR, h.s.2.1.trans (hb.mono h.s.2.1.size), h.s.2.2.1.below hb, h.s.2.1.size, h.s.2.2.2.2⟩, h.c.later hb, h.x⟩, ⟨S, h.s.1.below hb⟩, by have := h.s.1.lt; omega, h.s.2.2.2.1⟩⟩
theorem put_2 (w : World) (X : Nat) (d m : Int) (c b : Nat) (S : Words) (l : List Int) (vl : Value) (x : Int) (W : World) (h : R2 w X d m c b S l vl W) :
    Calls Tryd.prog 15 #[.pointer (some ⟨b, 0, none⟩), .int .i64 x] W fun e W' => (∃ v, e = .returned v) ∧ R2 w X d m c b S l vl W' := by
  obtain ⟨T, hT⟩ := h.o
  exact (put_any _ b T x W hT).mono fun _ _ ⟨he, hR, hg⟩ => ⟨⟨_, he⟩, ⟨h.y.aside hT hg h.b h.ne, ⟨_, hR⟩, h.ne, h.b⟩⟩
theorem take_2 (w : World) (X : Nat) (d m : Int) (c b : Nat) (S : Words) (l : List Int) (vl : Value) (x : Int) (W : World) (h : R2 w X d m c b S l vl W) :
    Calls Tryd.prog 16 #[.pointer (some ⟨b, 0, none⟩), .int .i64 x] W fun e W' => (∃ v, e = .returned v) ∧ R2 w X d m c b S l vl W' := by
  obtain ⟨T, hT⟩ := h.o
  exact (take_any _ b T x W hT).mono fun _ _ ⟨he, hR, hg⟩ => ⟨⟨_, he⟩, ⟨h.y.aside hT hg h.b h.ne, ⟨_, hR⟩, h.ne, h.b⟩⟩
theorem l0_2 (w : World) (X : Nat) (d m : Int) (c b : Nat) (S : Words) (l : List Int) (al : Option Addr) (cl : Nat) (W : World) (h : R2 w X d m c b S l (.slice al l.length cl) W) :
    Calls Tryd.prog 17 #[.slice al l.length cl] W fun e w' => e = .returned (.int .i64 (at0 l 0)) ∧ W = w' := l0_any l al cl W h.y.c.ints

set_option maxRecDepth 100000 in
set_option maxHeartbeats 40000000 in
theorem setsDoes_in (xs : List Int) (acts : List (Int × Int)) (a o : Option Addr) (ca co : Nat) (w : World) (hT : TabW w) (hm : IntsAt w (.slice a xs.length ca) xs) (ho : ActsAt w (.slice o acts.length co) acts) (l1 : xs.length ≤ 2000) (l2 : acts.length ≤ 2000) :
    Calls Tryd.prog 3 #[.slice a xs.length ca, .slice o acts.length co] w fun e w' => e = .returned (.bool true) ∧ Below w.heap.size w w' := by
  have i1 : (xs.length : Int) ≤ 2000 := by omega
  have i2 : (acts.length : Int) ≤ 2000 := by omega
  have HT := hi hT
  have HM := hi hm
  have HO := hi ho
  have L1 := hi l1
  have L2 := hi l2
  clear hT hm ho l1 l2
  go_enter Tryd.func3, Tryd.ntmps3
  go_wp2_with (first
    | (go_at_call 9; refine (awake_any w HT.out).mono ?_; rintro e w1 ⟨rfl, hb⟩; have HB := hi hb; clear hb)
    | (at_builtin; refine wpList_append_ints rfl (.tmp 26) (.tmp 27) rfl rfl w.heap.size _ [] rfl (World.ownsRow_nil _ _ _ _) _ _ xs rfl (intsAt_grew HM.out HB.out) (by have := L1.out; simp; omega) HB.out.size ?_; intro v' w2 hown hg; have HC := hi (show Col w v' xs w2 from ⟨by simpa using hown, Below.grown HB.out hg HB.out.size (fun k e => by cases e)⟩); obtain ⟨ao, co', rfl⟩ := HC.out.slice; clear hown hg)
    | (go_at_call 10; ((with_reducible refine (of_any xs _ _ _ HC.out.ints (by have := L1.out; omega)).mono ?_); rintro e w3 hn; obtain ⟨rfl, hR, hb⟩ := hn; have HB2 := hi (HC.out.sz); replace HC := hi (HC.out.later hb); have HBs := hi hR; clear hR hb)))
  obtain ⟨bs, hbs⟩ : ∃ bs, w2.heap.size = bs := ⟨_, rfl⟩
  rw [hbs] at HBs ⊢
  have hGd : Good w bs (putAll S0 xs) w3 := ⟨HBs.out, HC.out.below, HT.out.below HC.out.below, by rw [← hbs]; exact HB2.out, HT.out.lt⟩
  have HG := hi hGd
  clear hGd hbs HBs
  go_loopw [8] (fun i wr => ∃ k : Nat, i = .int .i64 k ∧ Hi (k ≤ xs.length ∧ Good w bs (putAll S0 xs) wr ∧ ∃ zs : List Int, zs.length = xs.length ∧ Col w (.slice ao xs.length co') zs wr)) (fun i _ => xs.length - (intOf i).toNat)
  case atStart => exact ⟨0, rfl, hi ⟨Nat.zero_le _, HG.out, xs, rfl, HC.out⟩⟩
  case round =>
    obtain ⟨k, rfl, HH⟩ := hrel
    obtain ⟨hk, hG, zs, hzl, hC⟩ := HH.out
    by_cases hlt : k < xs.length
    · obtain ⟨g, rfl, hcx, hfx, hob, hC2⟩ := hC.put 7 (show k < zs.length by omega)
      have hG2 := hG.turned hC hob (grownBy_set wr ⟨g, k, none⟩ (.int .i64 7))
      have HC2 := hi hC2
      have HG2 := hi hG2
      have HZ := hi (show (zs.set k 7).length = xs.length by simpa using hzl)
      have hki : (k : Int) < (xs.length : Int) := by omega
      have hk9 : (k : Int) ≤ 2000 := by omega
      have HLT := hi hlt
      clear hC hG hC2 hG2 hzl hk hlt HH hob
      go_wp2
      go_roundw
      case rel => exact ⟨k + 1, by go_num, hi ⟨HLT.out, HG2.out, _, HZ.out, HC2.out⟩⟩
      case measure => have := HLT.out; simp only [intOf]; omega
    · have ek : k = xs.length := by omega
      subst ek
      have HG3 := hi hG
      have HB3 := hi hG.2.1
      clear hG hC hk hlt HH hzl HG HC HB
      go_wp2_with (first
        | (go_at_call 11; ((with_reducible refine (ref_of xs a ca w _ HB3.out HM.out (by have := L1.out; omega) (ofL xs) rfl).mono ?_); rintro e w4 ⟨ax, cx, rfl, hc, hb⟩; have HR := hi (show Rd w bs (putAll S0 xs) (ofL xs) (.slice ax (ofL xs).length cx) w4 from ⟨HG3.out.below hb, hc, Lists.of xs⟩); clear hc hb))
        | (go_at_call 12; ((with_reducible refine (alike_any bs _ (ofL xs) _ _ _ HR.out.s.row HR.out.s.tab HR.out.c.ints HR.out.is).mono ?_); rintro e w5 ⟨rfl, hb⟩; replace HR := hi (HR.out.below hb); clear hb)))
      have HR9 := hi HR.out
      clear HR HG3 HB3
      go_loopw [7, 9, 10] (fun s l i wr => ∃ (k b : Nat) (S : Words) (ll : List Int) (al : Option Addr) (cl : Nat), s = .pointer (some ⟨b, 0, none⟩) ∧ l = .slice al ll.length cl ∧ i = .int .i64 k ∧ Hi (k ≤ acts.length ∧ Rd w b S ll (.slice al ll.length cl) wr)) (fun _ _ i _ => acts.length - (intOf i).toNat)
      case atStart => exact ⟨0, bs, _, _, ax, cx, rfl, rfl, rfl, hi ⟨Nat.zero_le _, HR9.out⟩⟩
      case round =>
        obtain ⟨k, b, S, ll, al, cl, rfl, rfl, rfl, HH⟩ := hrel
        obtain ⟨hk, hR⟩ := HH.out
        by_cases hlt : k < acts.length
        · obtain ⟨ba, oa, rfl, hx0, hx1⟩ := actsAt_read HO.out hR.s.2.1 hlt
          obtain ⟨⟨d, m⟩, ex⟩ : ∃ x, acts[k]?.getD (0, 0) = x := ⟨_, rfl⟩
          rw [ex] at hx0 hx1
          dsimp only at hx0 hx1
          have hki : (k : Int) < (acts.length : Int) := by omega
          have hk9 : (k : Int) ≤ 2000 := by omega
          have HLT := hi hlt
          have HX := hi (Rx.new (d := d) (m := m) hR)
          have HMH := hi (hR.is.has m)
          have hlen := hR.is.len
          obtain ⟨X, hX⟩ : ∃ X, wr.heap.size = X := ⟨_, rfl⟩
          rw [hX] at HX
          clear ex hlt hk HH hR HR9
          by_cases h3 : d = 3
          · have hd3 : (d == 3) = true := by simp [h3]
            have hd1 : (d == 1) = false := by simp [h3]
            have hd2 : (d == 2) = false := by simp [h3]
            clear h3
            have hc0 := HX.out.c0
            have hc1 := HX.out.c1
            obtain ⟨q0, eq0⟩ : ∃ q0, memZ S m = q0 := ⟨_, rfl⟩
            have HQ0 := hi eq0
            have HIS := hi HX.out.rd.is
            clear eq0
            have hz0 := Ry.of HX.out
            go_wp2_with (first
              | (go_at_call 13; ((with_reducible refine (has_is ll m q0 _ _ HX.out.rd.c.ints (by omega) (HMH.out.trans HQ0.out)).mono ?_); rintro e w6 ⟨rfl, rfl⟩))
              | (go_at_call 14; ((with_reducible refine (copy_2 w X d m b S ll _ _ hz0).mono ?_); rintro e w7 ⟨c, rfl, h2⟩; have H2 := hi h2; have hc2 := h2.y.c0; have hc3 := h2.y.c1; clear h2))
              | (go_at_call 15; ((with_reducible refine (put_2 w X d m c b S ll _ _ _ H2.out).mono ?_); rintro e w8 ⟨⟨v8, rfl⟩, h2⟩; replace H2 := hi h2; have hc2 := h2.y.c0; have hc3 := h2.y.c1; clear h2))
              | (go_at_call 17; ((with_reducible refine (l0_2 w X d m c b S ll al cl _ H2.out).mono ?_); rintro e w9 ⟨rfl, rfl⟩))
              | (go_at_call 16; ((with_reducible refine (take_2 w X d m c b S ll _ _ _ H2.out).mono ?_); rintro e w10 ⟨⟨v10, rfl⟩, h2⟩; replace H2 := hi h2; have hc2 := h2.y.c0; have hc3 := h2.y.c1; clear h2)))
            go_quiet (fail)
            go_wp2
            have hx0 := (H2.out.y.is HIS.out).below (below_drewN (Below.refl _ _) nq)
            clear hc0 hc1 hX HX hz0 H2
            generalize w10.drewN nq = W0 at hx0 ⊢
            obtain ⟨F, eF⟩ : ∃ F, (ll.filter fun x => decide (m ≤ x)) = F := ⟨_, rfl⟩
            have hlen9 := hx0.rd.is.len
            have hFl : F.length ≤ 16384 := by rw [← eF]; exact Nat.le_trans (List.length_filter_le _ _) hlen9
            have HF := hi eF
            have HFL := hi hFl
            obtain ⟨r, er⟩ : ∃ r, memZ S m = r := ⟨_, rfl⟩
            have HRR := hi er
            have hx9 := hx0.below ((Below.refl _ _).drew)
            clear eF hFl er hlen9
            go_region_held3 (fun w' => w'.cell? ⟨X, 0, none⟩ = some (.int .i64 d) ∧ w'.cell? ⟨X, 1, none⟩ = some (.int .i64 m) ∧ Rx w X d m c S ll (.slice al ll.length cl) w')
              (first
                | exact Rx.all hx9
                | exact Rx.all hx
                | go_keep)
              (first
                | (go_at_call 12; (with_reducible refine (alike_x w X d m c S ll al cl _ (by go_split_ands; assumption)).mono ?_); rintro e w7 ⟨rfl, hb⟩; have hx := Rx.below (by go_split_ands; assumption : Rx w X d m c S ll (.slice al ll.length cl) _) hb; clear hb)
                | (go_at_call 21; (with_reducible refine (has_x w X d m c S ll al cl _ (by go_split_ands; assumption) r HRR.out).mono ?_); rintro e w8 ⟨rfl, rfl⟩)
                | (go_at_call 13; (with_reducible refine (refHas_x w X d m c S ll al cl _ (by go_split_ands; assumption) r HRR.out).mono ?_); rintro e w9 ⟨rfl, rfl⟩)
                | (go_at_call 23; (with_reducible refine (from_x w X d m c S ll al cl _ (by go_split_ands; assumption) F HF.out).mono ?_); rintro e w10 ⟨a10, c10, rfl, hi10, hb⟩; have hx := Rx.below (by go_split_ands; assumption : Rx w X d m c S ll (.slice al ll.length cl) _) hb; clear hb)
                | (go_at_call 24; (with_reducible refine (refFrom_x w X d m c S ll al cl _ (by go_split_ands; assumption) F HF.out).mono ?_); rintro e w11 ⟨a11, c11, rfl, hi11, hb⟩; have hx := Rx.below (by go_split_ands; assumption : Rx w X d m c S ll (.slice al ll.length cl) _) hb; have hi12 := intsAt_grew (by assumption : IntsAt _ (.slice _ F.length _) F) hb; clear hb)
                | (go_at_call 22; (with_reducible refine (same_x F _ _ _ _ _ (by have := HFL.out; omega) (by assumption) (by assumption)).mono ?_); rintro e w12 ⟨rfl, hb⟩; have hx := Rx.below (by go_split_ands; assumption : Rx w X d m c S ll (.slice al ll.length cl) _) hb; clear hb))
            go_wp2
            go_roundw
            case rel => exact ⟨k + 1, c, S, ll, al, cl, rfl, rfl, by go_num, hi ⟨HLT.out, hx.rd⟩⟩
            case measure => have := HLT.out; simp only [intOf]; omega
          · by_cases h1 : d = 1
            · subst h1
              clear h3
              have hc0 := HX.out.c0
              have hc1 := HX.out.c1
              obtain ⟨q0, eq0⟩ : ∃ q0, memZ S m = q0 := ⟨_, rfl⟩
              have HQ0 := hi eq0
              have HIS := hi HX.out.rd.is
              clear eq0
              have HTL := hi (HIS.out.put m)
              obtain ⟨p, ep⟩ : ∃ p, okM m = p := ⟨_, rfl⟩
              have HP := hi ep
              clear ep
              cases p
              · have hq : q0 = false := by rw [← HQ0.out]; unfold memZ; rw [HP.out]; rfl
                subst hq
                have HPV := hi (show (okM m && !memZ S m) = false by rw [HP.out, HQ0.out]; rfl)
                go_wp2_with (first
                  | (go_at_call 13; ((with_reducible refine (has_is ll m false _ _ HX.out.rd.c.ints (by omega) (HMH.out.trans HQ0.out)).mono ?_); rintro e w6 ⟨rfl, rfl⟩)))
                have hz0 := Ry.of HX.out
                clear hc0 hc1 hX HX
                generalize (wr.alloc (.cells #[.int .i64 1, .int .i64 m] 30)) = V0 at hz0 ⊢
                have hz9 := hz0.below ((Below.refl _ _).drew)
                refine wp_region_noPanic ?_
                refine wp_region_held_drew (S := fun w' => w'.cell? ⟨X, 0, none⟩ = some (.int .i64 1) ∧ w'.cell? ⟨X, 1, none⟩ = some (.int .i64 m)) (by kernel_rfl) ⟨hz9.c0, hz9.c1⟩ (fun hHeld => ?_)
                (try simp only [Array.replicate_succ, Array.replicate_zero, List.push_toArray, List.nil_append, List.cons_append])
                refine wpAnyH_take (i := 0) (v := ?_) rfl (by kernel_rfl) (by kernel_rfl) (by kernel_rfl) (fun _ _ _ h => h) (Or.inl ⟨by rfl, ?_⟩) (by assumption) ?_
                rotate_left
                · intro w' hSw; (try dsimp only at hSw); obtain ⟨hs0, hs1⟩ := hSw; go_simp; (try with_reducible rfl)
                (try simp only [Act.put, List.getElem_toArray, List.getElem_cons_zero, List.getElem_cons_succ, List.setIfInBounds_toArray, List.set_cons_zero, List.set_cons_succ])
                refine wpAnyH_take (i := 1) (v := ?_) rfl (by kernel_rfl) (by kernel_rfl) (by kernel_rfl) (fun _ _ _ h => h) (Or.inl ⟨by rfl, ?_⟩) (by assumption) ?_
                rotate_left
                · intro w' hSw; (try dsimp only at hSw); obtain ⟨hs0, hs1⟩ := hSw; go_simp; (try with_reducible rfl)
                (try simp only [Act.put, List.getElem_toArray, List.getElem_cons_zero, List.getElem_cons_succ, List.setIfInBounds_toArray, List.set_cons_zero, List.set_cons_succ])
                refine wpAnyH_take (i := 2) (v := ?_) rfl (by kernel_rfl) (by kernel_rfl) (by kernel_rfl) (fun _ _ _ h => h) (Or.inl ⟨by rfl, ?_⟩) (by assumption) ?_
                rotate_left
                · intro w' hSw; (try dsimp only at hSw); obtain ⟨hs0, hs1⟩ := hSw; go_simp; (try with_reducible rfl)
                (try simp only [Act.put, List.getElem_toArray, List.getElem_cons_zero, List.getElem_cons_succ, List.setIfInBounds_toArray, List.set_cons_zero, List.set_cons_succ])
                refine wpAnyH_take (i := 3) (v := ?_) rfl (by kernel_rfl) (by kernel_rfl) (by kernel_rfl) (fun _ _ _ h => h) (Or.inl ⟨by rfl, ?_⟩) (by assumption) ?_
                rotate_left
                · intro w' hSw; (try dsimp only at hSw); obtain ⟨hs0, hs1⟩ := hSw; go_simp; (try with_reducible rfl)
                (try simp only [Act.put, List.getElem_toArray, List.getElem_cons_zero, List.getElem_cons_succ, List.setIfInBounds_toArray, List.set_cons_zero, List.set_cons_succ])
                refine wpAnyH_take (i := 4) (v := ?_) rfl (by kernel_rfl) (by kernel_rfl) (by kernel_rfl) (fun _ _ _ h => h) (Or.inl ⟨by rfl, ?_⟩) (by assumption) ?_
                rotate_left
                · intro w' hSw; (try dsimp only at hSw); obtain ⟨hs0, hs1⟩ := hSw; go_simp; (try with_reducible rfl)
                (try simp only [Act.put, List.getElem_toArray, List.getElem_cons_zero, List.getElem_cons_succ, List.setIfInBounds_toArray, List.set_cons_zero, List.set_cons_succ])
                refine wpAnyH_take (i := 5) (v := ?_) rfl (by kernel_rfl) (by kernel_rfl) (by kernel_rfl) (fun _ _ _ h => h) (Or.inl ⟨by rfl, ?_⟩) (by assumption) ?_
                rotate_left
                · intro w' hSw; (try dsimp only at hSw); obtain ⟨hs0, hs1⟩ := hSw; go_simp; (try with_reducible rfl)
                (try simp only [Act.put, List.getElem_toArray, List.getElem_cons_zero, List.getElem_cons_succ, List.setIfInBounds_toArray, List.set_cons_zero, List.set_cons_succ])
                refine wpAnyH_take (i := 6) (v := ?_) rfl (by kernel_rfl) (by kernel_rfl) (by kernel_rfl) (fun _ _ _ h => h) (Or.inl ⟨by rfl, ?_⟩) (by assumption) ?_
                rotate_left
                · intro w' hSw; (try dsimp only at hSw); obtain ⟨hs0, hs1⟩ := hSw; go_simp; (try with_reducible rfl)
                (try simp only [Act.put, List.getElem_toArray, List.getElem_cons_zero, List.getElem_cons_succ, List.setIfInBounds_toArray, List.set_cons_zero, List.set_cons_succ])
                refine wpAnyH_take (i := 8) (v := ?_) rfl (by kernel_rfl) (by kernel_rfl) (by kernel_rfl) (fun _ _ _ h => h) (Or.inl ⟨by rfl, ?_⟩) (by assumption) ?_
                rotate_left
                · intro w' hSw; (try dsimp only at hSw); obtain ⟨hs0, hs1⟩ := hSw; go_simp; (try with_reducible rfl)
                (try simp only [Act.put, List.getElem_toArray, List.getElem_cons_zero, List.getElem_cons_succ, List.setIfInBounds_toArray, List.set_cons_zero, List.set_cons_succ])
                refine wpAnyH_take (i := 9) (v := ?_) rfl (by kernel_rfl) (by kernel_rfl) (by kernel_rfl) (fun _ _ _ h => h) (Or.inl ⟨by rfl, ?_⟩) (by assumption) ?_
                rotate_left
                · intro w' hSw; (try dsimp only at hSw); obtain ⟨hs0, hs1⟩ := hSw; go_simp; (try with_reducible rfl)
                (try simp only [Act.put, List.getElem_toArray, List.getElem_cons_zero, List.getElem_cons_succ, List.setIfInBounds_toArray, List.set_cons_zero, List.set_cons_succ])
                refine wpAnyH_ready (rs := [7]) (by kernel_rfl) (by simp) ?_
                refine AllReadyH.cons rfl (fun KK hKK => ?_) AllReadyH.nil
                go_simp
                ((with_reducible refine (put_y w X 1 m b S ll _ _ hz9 false HPV.out).mono ?_); rintro e w6 ⟨rfl, hz⟩)
                (try go_simp)
                refine hKK.out _ _ ⟨hz.c0, hz.c1⟩ (fun hHeld => ?_)
                clear hKK KK
                (try simp only [Act.put, List.getElem_toArray, List.getElem_cons_zero, List.getElem_cons_succ, List.setIfInBounds_toArray, List.set_cons_zero, List.set_cons_succ])
                refine wpAnyH_ready (rs := [10]) (by kernel_rfl) (by simp) ?_
                refine AllReadyH.cons rfl (fun KK hKK => ?_) AllReadyH.nil
                go_simp
                ((with_reducible refine (may_is m false _ HP.out).mono ?_); rintro e w7 ⟨rfl, rfl⟩)
                (try go_simp)
                refine hKK.out _ _ ⟨hz.c0, hz.c1⟩ (fun hHeld => ?_)
                clear hKK KK
                (try simp only [Act.put, List.getElem_toArray, List.getElem_cons_zero, List.getElem_cons_succ, List.setIfInBounds_toArray, List.set_cons_zero, List.set_cons_succ])
                refine wpAnyH_take (i := 11) (v := ?_) rfl (by kernel_rfl) (by kernel_rfl) (by kernel_rfl) (fun _ _ _ h => h) (Or.inl ⟨by rfl, ?_⟩) (by assumption) ?_
                rotate_left
                · intro w' hSw; (try dsimp only at hSw); obtain ⟨hs0, hs1⟩ := hSw; go_simp; (try with_reducible rfl)
                (try simp only [Act.put, List.getElem_toArray, List.getElem_cons_zero, List.getElem_cons_succ, List.setIfInBounds_toArray, List.set_cons_zero, List.set_cons_succ])
                refine wpAnyH_take (i := 12) (v := undef) rfl (by kernel_rfl) (by kernel_rfl) (by kernel_rfl) (fun _ _ _ h => h) (Or.inr ⟨by rfl, rfl⟩) (by assumption) ?_
                (try simp only [Act.put, List.getElem_toArray, List.getElem_cons_zero, List.getElem_cons_succ, List.setIfInBounds_toArray, List.set_cons_zero, List.set_cons_succ])
                refine wpAnyH_take (i := 13) (v := undef) rfl (by kernel_rfl) (by kernel_rfl) (by kernel_rfl) (fun _ _ _ h => h) (Or.inr ⟨by rfl, rfl⟩) (by assumption) ?_
                (try simp only [Act.put, List.getElem_toArray, List.getElem_cons_zero, List.getElem_cons_succ, List.setIfInBounds_toArray, List.set_cons_zero, List.set_cons_succ])
                refine wpAnyH_take (i := 14) (v := ?_) rfl (by kernel_rfl) (by kernel_rfl) (by kernel_rfl) (fun _ _ _ h => h) (Or.inl ⟨by rfl, ?_⟩) (by assumption) ?_
                rotate_left
                · intro w' hSw; (try dsimp only at hSw); obtain ⟨hs0, hs1⟩ := hSw; go_simp; (try with_reducible rfl)
                (try simp only [Act.put, List.getElem_toArray, List.getElem_cons_zero, List.getElem_cons_succ, List.setIfInBounds_toArray, List.set_cons_zero, List.set_cons_succ])
                refine wpAnyH_take (i := 15) (v := ?_) rfl (by kernel_rfl) (by kernel_rfl) (by kernel_rfl) (fun _ _ _ h => h) (Or.inl ⟨by rfl, ?_⟩) (by assumption) ?_
                rotate_left
                · intro w' hSw; (try dsimp only at hSw); obtain ⟨hs0, hs1⟩ := hSw; go_simp; (try with_reducible rfl)
                (try simp only [Act.put, List.getElem_toArray, List.getElem_cons_zero, List.getElem_cons_succ, List.setIfInBounds_toArray, List.set_cons_zero, List.set_cons_succ])
                refine wpAnyH_take (i := 16) (v := ?_) rfl (by kernel_rfl) (by kernel_rfl) (by kernel_rfl) (fun _ _ _ h => h) (Or.inl ⟨by rfl, ?_⟩) (by assumption) ?_
                rotate_left
                · intro w' hSw; (try dsimp only at hSw); obtain ⟨hs0, hs1⟩ := hSw; go_simp; (try with_reducible rfl)
                (try simp only [Act.put, List.getElem_toArray, List.getElem_cons_zero, List.getElem_cons_succ, List.setIfInBounds_toArray, List.set_cons_zero, List.set_cons_succ])
                refine wpAnyH_take (i := 17) (v := ?_) rfl (by kernel_rfl) (by kernel_rfl) (by kernel_rfl) (fun _ _ _ h => h) (Or.inl ⟨by rfl, ?_⟩) (by assumption) ?_
                rotate_left
                · intro w' hSw; (try dsimp only at hSw); obtain ⟨hs0, hs1⟩ := hSw; go_simp; (try with_reducible rfl)
                (try simp only [Act.put, List.getElem_toArray, List.getElem_cons_zero, List.getElem_cons_succ, List.setIfInBounds_toArray, List.set_cons_zero, List.set_cons_succ])
                refine wpAnyH_take (i := 18) (v := ?_) rfl (by kernel_rfl) (by kernel_rfl) (by kernel_rfl) (fun _ _ _ h => h) (Or.inl ⟨by rfl, ?_⟩) (by assumption) ?_
                rotate_left
                · intro w' hSw; (try dsimp only at hSw); obtain ⟨hs0, hs1⟩ := hSw; go_simp; (try with_reducible rfl)
                (try simp only [Act.put, List.getElem_toArray, List.getElem_cons_zero, List.getElem_cons_succ, List.setIfInBounds_toArray, List.set_cons_zero, List.set_cons_succ])
                refine wpAnyH_take (i := 19) (v := ?_) rfl (by kernel_rfl) (by kernel_rfl) (by kernel_rfl) (fun _ _ _ h => h) (Or.inl ⟨by rfl, ?_⟩) (by assumption) ?_
                rotate_left
                · intro w' hSw; (try dsimp only at hSw); obtain ⟨hs0, hs1⟩ := hSw; go_simp; (try with_reducible rfl)
                (try simp only [Act.put, List.getElem_toArray, List.getElem_cons_zero, List.getElem_cons_succ, List.setIfInBounds_toArray, List.set_cons_zero, List.set_cons_succ])
                refine wpAnyH_take (i := 20) (v := ?_) rfl (by kernel_rfl) (by kernel_rfl) (by kernel_rfl) (fun _ _ _ h => h) (Or.inl ⟨by rfl, ?_⟩) (by assumption) ?_
                rotate_left
                · intro w' hSw; (try dsimp only at hSw); obtain ⟨hs0, hs1⟩ := hSw; go_simp; (try with_reducible rfl)
                (try simp only [Act.put, List.getElem_toArray, List.getElem_cons_zero, List.getElem_cons_succ, List.setIfInBounds_toArray, List.set_cons_zero, List.set_cons_succ])
                refine wpAnyH_take (i := 21) (v := ?_) rfl (by kernel_rfl) (by kernel_rfl) (by kernel_rfl) (fun _ _ _ h => h) (Or.inl ⟨by rfl, ?_⟩) (by assumption) ?_
                rotate_left
                · intro w' hSw; (try dsimp only at hSw); obtain ⟨hs0, hs1⟩ := hSw; go_simp; (try with_reducible rfl)
                (try simp only [Act.put, List.getElem_toArray, List.getElem_cons_zero, List.getElem_cons_succ, List.setIfInBounds_toArray, List.set_cons_zero, List.set_cons_succ])
                refine wpAnyH_take (i := 22) (v := undef) rfl (by kernel_rfl) (by kernel_rfl) (by kernel_rfl) (fun _ _ _ h => h) (Or.inr ⟨by rfl, rfl⟩) (by assumption) ?_
                (try simp only [Act.put, List.getElem_toArray, List.getElem_cons_zero, List.getElem_cons_succ, List.setIfInBounds_toArray, List.set_cons_zero, List.set_cons_succ])
                refine wpAnyH_take (i := 23) (v := undef) rfl (by kernel_rfl) (by kernel_rfl) (by kernel_rfl) (fun _ _ _ h => h) (Or.inr ⟨by rfl, rfl⟩) (by assumption) ?_
                (try simp only [Act.put, List.getElem_toArray, List.getElem_cons_zero, List.getElem_cons_succ, List.setIfInBounds_toArray, List.set_cons_zero, List.set_cons_succ])
                refine wpAnyH_take (i := 24) (v := undef) rfl (by kernel_rfl) (by kernel_rfl) (by kernel_rfl) (fun _ _ _ h => h) (Or.inr ⟨by rfl, rfl⟩) (by assumption) ?_
                (try simp only [Act.put, List.getElem_toArray, List.getElem_cons_zero, List.getElem_cons_succ, List.setIfInBounds_toArray, List.set_cons_zero, List.set_cons_succ])
                refine wpAnyH_take (i := 26) (v := undef) rfl (by kernel_rfl) (by kernel_rfl) (by kernel_rfl) (fun _ _ _ h => h) (Or.inr ⟨by rfl, rfl⟩) (by assumption) ?_
                (try simp only [Act.put, List.getElem_toArray, List.getElem_cons_zero, List.getElem_cons_succ, List.setIfInBounds_toArray, List.set_cons_zero, List.set_cons_succ])
                refine wpAnyH_ready (rs := [25]) (by kernel_rfl) (by simp) ?_
                refine AllReadyH.cons rfl (fun KK hKK => ?_) AllReadyH.nil
                go_simp
                refine hKK.out _ _ hHeld (fun hHeld => ?_)
                clear hKK KK
                (try simp only [Act.put, List.getElem_toArray, List.getElem_cons_zero, List.getElem_cons_succ, List.setIfInBounds_toArray, List.set_cons_zero, List.set_cons_succ])
                refine wpAnyH_take (i := 27) (v := undef) rfl (by kernel_rfl) (by kernel_rfl) (by kernel_rfl) (fun _ _ _ h => h) (Or.inr ⟨by rfl, rfl⟩) (by assumption) ?_
                (try simp only [Act.put, List.getElem_toArray, List.getElem_cons_zero, List.getElem_cons_succ, List.setIfInBounds_toArray, List.set_cons_zero, List.set_cons_succ])
                refine wpAnyH_take (i := 28) (v := ?_) rfl (by kernel_rfl) (by kernel_rfl) (by kernel_rfl) (fun _ _ _ h => h) (Or.inl ⟨by rfl, ?_⟩) (by assumption) ?_
                rotate_left
                · intro w' hSw; (try dsimp only at hSw); obtain ⟨hs0, hs1⟩ := hSw; go_simp; (try with_reducible rfl)
                (try simp only [Act.put, List.getElem_toArray, List.getElem_cons_zero, List.getElem_cons_succ, List.setIfInBounds_toArray, List.set_cons_zero, List.set_cons_succ])
                refine wpAnyH_take (i := 29) (v := ?_) rfl (by kernel_rfl) (by kernel_rfl) (by kernel_rfl) (fun _ _ _ h => h) (Or.inl ⟨by rfl, ?_⟩) (by assumption) ?_
                rotate_left
                · intro w' hSw; (try dsimp only at hSw); obtain ⟨hs0, hs1⟩ := hSw; go_simp; (try with_reducible rfl)
                (try simp only [Act.put, List.getElem_toArray, List.getElem_cons_zero, List.getElem_cons_succ, List.setIfInBounds_toArray, List.set_cons_zero, List.set_cons_succ])
                refine wpAnyH_done (by kernel_rfl) ?_ _
                refine NoPanic.normal ?_
                have hd0 := hz.c0
                have hd1 := hz.c1
                obtain ⟨q, eq⟩ : ∃ q, putL ll m = q := ⟨_, rfl⟩
                obtain ⟨S2, eS2⟩ : ∃ S2, putS S m = S2 := ⟨_, rfl⟩
                rw [eq, eS2] at HTL
                rw [eS2] at hz
                have HQ := hi eq
                clear eq eS2 hHeld
                go_wp2_with (go_at_call 19; ((with_reducible refine (refPut_y w X 1 m b S S2 ll _ _ _ hz HIS.out q HQ.out).mono ?_); rintro e w7 ⟨aq, cq, rfl, hz7⟩; have hd2 := hz7.c0; have hd3 := hz7.c1))
                have hx0 := hz7.is HTL.out
                clear hz hz0 hz9 hd0 hd1
                obtain ⟨F, eF⟩ : ∃ F, (q.filter fun x => decide (m ≤ x)) = F := ⟨_, rfl⟩
                have hlen9 := hx0.rd.is.len
                have hFl : F.length ≤ 16384 := by rw [← eF]; exact Nat.le_trans (List.length_filter_le _ _) hlen9
                have HF := hi eF
                have HFL := hi hFl
                obtain ⟨r, er⟩ : ∃ r, memZ S2 m = r := ⟨_, rfl⟩
                have HRR := hi er
                have hx9 := hx0.below ((Below.refl _ _).drew)
                clear eF hFl er hlen9
                go_region_held3 (fun w' => w'.cell? ⟨X, 0, none⟩ = some (.int .i64 1) ∧ w'.cell? ⟨X, 1, none⟩ = some (.int .i64 m) ∧ Rx w X 1 m b S2 q (.slice aq q.length cq) w')
                  (first
                    | exact Rx.all hx9
                    | exact Rx.all hx
                    | go_keep)
                  (first
                    | (go_at_call 12; (with_reducible refine (alike_x w X 1 m b S2 q aq cq _ (by go_split_ands; assumption)).mono ?_); rintro e w7 ⟨rfl, hb⟩; have hx := Rx.below (by go_split_ands; assumption : Rx w X 1 m b S2 q (.slice aq q.length cq) _) hb; clear hb)
                    | (go_at_call 21; (with_reducible refine (has_x w X 1 m b S2 q aq cq _ (by go_split_ands; assumption) r HRR.out).mono ?_); rintro e w8 ⟨rfl, rfl⟩)
                    | (go_at_call 13; (with_reducible refine (refHas_x w X 1 m b S2 q aq cq _ (by go_split_ands; assumption) r HRR.out).mono ?_); rintro e w9 ⟨rfl, rfl⟩)
                    | (go_at_call 23; (with_reducible refine (from_x w X 1 m b S2 q aq cq _ (by go_split_ands; assumption) F HF.out).mono ?_); rintro e w10 ⟨a10, c10, rfl, hi10, hb⟩; have hx := Rx.below (by go_split_ands; assumption : Rx w X 1 m b S2 q (.slice aq q.length cq) _) hb; clear hb)
                    | (go_at_call 24; (with_reducible refine (refFrom_x w X 1 m b S2 q aq cq _ (by go_split_ands; assumption) F HF.out).mono ?_); rintro e w11 ⟨a11, c11, rfl, hi11, hb⟩; have hx := Rx.below (by go_split_ands; assumption : Rx w X 1 m b S2 q (.slice aq q.length cq) _) hb; have hi12 := intsAt_grew (by assumption : IntsAt _ (.slice _ F.length _) F) hb; clear hb)
                    | (go_at_call 22; (with_reducible refine (same_x F _ _ _ _ _ (by have := HFL.out; omega) (by assumption) (by assumption)).mono ?_); rintro e w12 ⟨rfl, hb⟩; have hx := Rx.below (by go_split_ands; assumption : Rx w X 1 m b S2 q (.slice aq q.length cq) _) hb; clear hb))
                go_wp2
                go_roundw
                case rel => exact ⟨k + 1, b, S2, q, aq, cq, rfl, rfl, by go_num, hi ⟨HLT.out, hx.rd⟩⟩
                case measure => have := HLT.out; simp only [intOf]; omega
              · cases q0
                · have HPV := hi (show (okM m && !memZ S m) = true by rw [HP.out, HQ0.out]; rfl)
                  go_wp2_with (first
                    | (go_at_call 13; ((with_reducible refine (has_is ll m false _ _ HX.out.rd.c.ints (by omega) (HMH.out.trans HQ0.out)).mono ?_); rintro e w6 ⟨rfl, rfl⟩)))
                  have hz0 := Ry.of HX.out
                  clear hc0 hc1 hX HX
                  generalize (wr.alloc (.cells #[.int .i64 1, .int .i64 m] 30)) = V0 at hz0 ⊢
                  have hz9 := hz0.below ((Below.refl _ _).drew)
                  refine wp_region_noPanic ?_
                  refine wp_region_held_drew (S := fun w' => w'.cell? ⟨X, 0, none⟩ = some (.int .i64 1) ∧ w'.cell? ⟨X, 1, none⟩ = some (.int .i64 m)) (by kernel_rfl) ⟨hz9.c0, hz9.c1⟩ (fun hHeld => ?_)
                  (try simp only [Array.replicate_succ, Array.replicate_zero, List.push_toArray, List.nil_append, List.cons_append])
                  refine wpAnyH_take (i := 0) (v := ?_) rfl (by kernel_rfl) (by kernel_rfl) (by kernel_rfl) (fun _ _ _ h => h) (Or.inl ⟨by rfl, ?_⟩) (by assumption) ?_
                  rotate_left
                  · intro w' hSw; (try dsimp only at hSw); obtain ⟨hs0, hs1⟩ := hSw; go_simp; (try with_reducible rfl)
                  (try simp only [Act.put, List.getElem_toArray, List.getElem_cons_zero, List.getElem_cons_succ, List.setIfInBounds_toArray, List.set_cons_zero, List.set_cons_succ])
                  refine wpAnyH_take (i := 1) (v := ?_) rfl (by kernel_rfl) (by kernel_rfl) (by kernel_rfl) (fun _ _ _ h => h) (Or.inl ⟨by rfl, ?_⟩) (by assumption) ?_
                  rotate_left
                  · intro w' hSw; (try dsimp only at hSw); obtain ⟨hs0, hs1⟩ := hSw; go_simp; (try with_reducible rfl)
                  (try simp only [Act.put, List.getElem_toArray, List.getElem_cons_zero, List.getElem_cons_succ, List.setIfInBounds_toArray, List.set_cons_zero, List.set_cons_succ])
                  refine wpAnyH_take (i := 2) (v := ?_) rfl (by kernel_rfl) (by kernel_rfl) (by kernel_rfl) (fun _ _ _ h => h) (Or.inl ⟨by rfl, ?_⟩) (by assumption) ?_
                  rotate_left
                  · intro w' hSw; (try dsimp only at hSw); obtain ⟨hs0, hs1⟩ := hSw; go_simp; (try with_reducible rfl)
                  (try simp only [Act.put, List.getElem_toArray, List.getElem_cons_zero, List.getElem_cons_succ, List.setIfInBounds_toArray, List.set_cons_zero, List.set_cons_succ])
                  refine wpAnyH_take (i := 3) (v := ?_) rfl (by kernel_rfl) (by kernel_rfl) (by kernel_rfl) (fun _ _ _ h => h) (Or.inl ⟨by rfl, ?_⟩) (by assumption) ?_
                  rotate_left
                  · intro w' hSw; (try dsimp only at hSw); obtain ⟨hs0, hs1⟩ := hSw; go_simp; (try with_reducible rfl)
                  (try simp only [Act.put, List.getElem_toArray, List.getElem_cons_zero, List.getElem_cons_succ, List.setIfInBounds_toArray, List.set_cons_zero, List.set_cons_succ])
                  refine wpAnyH_take (i := 4) (v := ?_) rfl (by kernel_rfl) (by kernel_rfl) (by kernel_rfl) (fun _ _ _ h => h) (Or.inl ⟨by rfl, ?_⟩) (by assumption) ?_
                  rotate_left
                  · intro w' hSw; (try dsimp only at hSw); obtain ⟨hs0, hs1⟩ := hSw; go_simp; (try with_reducible rfl)
                  (try simp only [Act.put, List.getElem_toArray, List.getElem_cons_zero, List.getElem_cons_succ, List.setIfInBounds_toArray, List.set_cons_zero, List.set_cons_succ])
                  refine wpAnyH_take (i := 5) (v := ?_) rfl (by kernel_rfl) (by kernel_rfl) (by kernel_rfl) (fun _ _ _ h => h) (Or.inl ⟨by rfl, ?_⟩) (by assumption) ?_
                  rotate_left
                  · intro w' hSw; (try dsimp only at hSw); obtain ⟨hs0, hs1⟩ := hSw; go_simp; (try with_reducible rfl)
                  (try simp only [Act.put, List.getElem_toArray, List.getElem_cons_zero, List.getElem_cons_succ, List.setIfInBounds_toArray, List.set_cons_zero, List.set_cons_succ])
                  refine wpAnyH_take (i := 6) (v := ?_) rfl (by kernel_rfl) (by kernel_rfl) (by kernel_rfl) (fun _ _ _ h => h) (Or.inl ⟨by rfl, ?_⟩) (by assumption) ?_
                  rotate_left
                  · intro w' hSw; (try dsimp only at hSw); obtain ⟨hs0, hs1⟩ := hSw; go_simp; (try with_reducible rfl)
                  (try simp only [Act.put, List.getElem_toArray, List.getElem_cons_zero, List.getElem_cons_succ, List.setIfInBounds_toArray, List.set_cons_zero, List.set_cons_succ])
                  refine wpAnyH_take (i := 8) (v := ?_) rfl (by kernel_rfl) (by kernel_rfl) (by kernel_rfl) (fun _ _ _ h => h) (Or.inl ⟨by rfl, ?_⟩) (by assumption) ?_
                  rotate_left
                  · intro w' hSw; (try dsimp only at hSw); obtain ⟨hs0, hs1⟩ := hSw; go_simp; (try with_reducible rfl)
                  (try simp only [Act.put, List.getElem_toArray, List.getElem_cons_zero, List.getElem_cons_succ, List.setIfInBounds_toArray, List.set_cons_zero, List.set_cons_succ])
                  refine wpAnyH_take (i := 9) (v := ?_) rfl (by kernel_rfl) (by kernel_rfl) (by kernel_rfl) (fun _ _ _ h => h) (Or.inl ⟨by rfl, ?_⟩) (by assumption) ?_
                  rotate_left
                  · intro w' hSw; (try dsimp only at hSw); obtain ⟨hs0, hs1⟩ := hSw; go_simp; (try with_reducible rfl)
                  (try simp only [Act.put, List.getElem_toArray, List.getElem_cons_zero, List.getElem_cons_succ, List.setIfInBounds_toArray, List.set_cons_zero, List.set_cons_succ])
                  refine wpAnyH_ready (rs := [7]) (by kernel_rfl) (by simp) ?_
                  refine AllReadyH.cons rfl (fun KK hKK => ?_) AllReadyH.nil
                  go_simp
                  ((with_reducible refine (put_y w X 1 m b S ll _ _ hz9 true HPV.out).mono ?_); rintro e w6 ⟨rfl, hz⟩)
                  (try go_simp)
                  refine hKK.out _ _ ⟨hz.c0, hz.c1⟩ (fun hHeld => ?_)
                  clear hKK KK
                  (try simp only [Act.put, List.getElem_toArray, List.getElem_cons_zero, List.getElem_cons_succ, List.setIfInBounds_toArray, List.set_cons_zero, List.set_cons_succ])
                  refine wpAnyH_ready (rs := [10]) (by kernel_rfl) (by simp) ?_
                  refine AllReadyH.cons rfl (fun KK hKK => ?_) AllReadyH.nil
                  go_simp
                  ((with_reducible refine (may_is m true _ HP.out).mono ?_); rintro e w7 ⟨rfl, rfl⟩)
                  (try go_simp)
                  refine hKK.out _ _ ⟨hz.c0, hz.c1⟩ (fun hHeld => ?_)
                  clear hKK KK
                  (try simp only [Act.put, List.getElem_toArray, List.getElem_cons_zero, List.getElem_cons_succ, List.setIfInBounds_toArray, List.set_cons_zero, List.set_cons_succ])
                  refine wpAnyH_take (i := 11) (v := ?_) rfl (by kernel_rfl) (by kernel_rfl) (by kernel_rfl) (fun _ _ _ h => h) (Or.inl ⟨by rfl, ?_⟩) (by assumption) ?_
                  rotate_left
                  · intro w' hSw; (try dsimp only at hSw); obtain ⟨hs0, hs1⟩ := hSw; go_simp; (try with_reducible rfl)
                  (try simp only [Act.put, List.getElem_toArray, List.getElem_cons_zero, List.getElem_cons_succ, List.setIfInBounds_toArray, List.set_cons_zero, List.set_cons_succ])
                  refine wpAnyH_take (i := 12) (v := ?_) rfl (by kernel_rfl) (by kernel_rfl) (by kernel_rfl) (fun _ _ _ h => h) (Or.inl ⟨by rfl, ?_⟩) (by assumption) ?_
                  rotate_left
                  · intro w' hSw; (try dsimp only at hSw); obtain ⟨hs0, hs1⟩ := hSw; go_simp; (try with_reducible rfl)
                  (try simp only [Act.put, List.getElem_toArray, List.getElem_cons_zero, List.getElem_cons_succ, List.setIfInBounds_toArray, List.set_cons_zero, List.set_cons_succ])
                  refine wpAnyH_take (i := 13) (v := ?_) rfl (by kernel_rfl) (by kernel_rfl) (by kernel_rfl) (fun _ _ _ h => h) (Or.inl ⟨by rfl, ?_⟩) (by assumption) ?_
                  rotate_left
                  · intro w' hSw; (try dsimp only at hSw); obtain ⟨hs0, hs1⟩ := hSw; go_simp; (try with_reducible rfl)
                  (try simp only [Act.put, List.getElem_toArray, List.getElem_cons_zero, List.getElem_cons_succ, List.setIfInBounds_toArray, List.set_cons_zero, List.set_cons_succ])
                  refine wpAnyH_take (i := 14) (v := ?_) rfl (by kernel_rfl) (by kernel_rfl) (by kernel_rfl) (fun _ _ _ h => h) (Or.inl ⟨by rfl, ?_⟩) (by assumption) ?_
                  rotate_left
                  · intro w' hSw; (try dsimp only at hSw); obtain ⟨hs0, hs1⟩ := hSw; go_simp; (try with_reducible rfl)
                  (try simp only [Act.put, List.getElem_toArray, List.getElem_cons_zero, List.getElem_cons_succ, List.setIfInBounds_toArray, List.set_cons_zero, List.set_cons_succ])
                  refine wpAnyH_take (i := 15) (v := ?_) rfl (by kernel_rfl) (by kernel_rfl) (by kernel_rfl) (fun _ _ _ h => h) (Or.inl ⟨by rfl, ?_⟩) (by assumption) ?_
                  rotate_left
                  · intro w' hSw; (try dsimp only at hSw); obtain ⟨hs0, hs1⟩ := hSw; go_simp; (try with_reducible rfl)
                  (try simp only [Act.put, List.getElem_toArray, List.getElem_cons_zero, List.getElem_cons_succ, List.setIfInBounds_toArray, List.set_cons_zero, List.set_cons_succ])
                  refine wpAnyH_take (i := 16) (v := ?_) rfl (by kernel_rfl) (by kernel_rfl) (by kernel_rfl) (fun _ _ _ h => h) (Or.inl ⟨by rfl, ?_⟩) (by assumption) ?_
                  rotate_left
                  · intro w' hSw; (try dsimp only at hSw); obtain ⟨hs0, hs1⟩ := hSw; go_simp; (try with_reducible rfl)
                  (try simp only [Act.put, List.getElem_toArray, List.getElem_cons_zero, List.getElem_cons_succ, List.setIfInBounds_toArray, List.set_cons_zero, List.set_cons_succ])
                  refine wpAnyH_take (i := 17) (v := ?_) rfl (by kernel_rfl) (by kernel_rfl) (by kernel_rfl) (fun _ _ _ h => h) (Or.inl ⟨by rfl, ?_⟩) (by assumption) ?_
                  rotate_left
                  · intro w' hSw; (try dsimp only at hSw); obtain ⟨hs0, hs1⟩ := hSw; go_simp; (try with_reducible rfl)
                  (try simp only [Act.put, List.getElem_toArray, List.getElem_cons_zero, List.getElem_cons_succ, List.setIfInBounds_toArray, List.set_cons_zero, List.set_cons_succ])
                  refine wpAnyH_take (i := 18) (v := ?_) rfl (by kernel_rfl) (by kernel_rfl) (by kernel_rfl) (fun _ _ _ h => h) (Or.inl ⟨by rfl, ?_⟩) (by assumption) ?_
                  rotate_left
                  · intro w' hSw; (try dsimp only at hSw); obtain ⟨hs0, hs1⟩ := hSw; go_simp; (try with_reducible rfl)
                  (try simp only [Act.put, List.getElem_toArray, List.getElem_cons_zero, List.getElem_cons_succ, List.setIfInBounds_toArray, List.set_cons_zero, List.set_cons_succ])
                  refine wpAnyH_take (i := 19) (v := ?_) rfl (by kernel_rfl) (by kernel_rfl) (by kernel_rfl) (fun _ _ _ h => h) (Or.inl ⟨by rfl, ?_⟩) (by assumption) ?_
                  rotate_left
                  · intro w' hSw; (try dsimp only at hSw); obtain ⟨hs0, hs1⟩ := hSw; go_simp; (try with_reducible rfl)
                  (try simp only [Act.put, List.getElem_toArray, List.getElem_cons_zero, List.getElem_cons_succ, List.setIfInBounds_toArray, List.set_cons_zero, List.set_cons_succ])
                  refine wpAnyH_take (i := 20) (v := ?_) rfl (by kernel_rfl) (by kernel_rfl) (by kernel_rfl) (fun _ _ _ h => h) (Or.inl ⟨by rfl, ?_⟩) (by assumption) ?_
                  rotate_left
                  · intro w' hSw; (try dsimp only at hSw); obtain ⟨hs0, hs1⟩ := hSw; go_simp; (try with_reducible rfl)
                  (try simp only [Act.put, List.getElem_toArray, List.getElem_cons_zero, List.getElem_cons_succ, List.setIfInBounds_toArray, List.set_cons_zero, List.set_cons_succ])
                  refine wpAnyH_take (i := 21) (v := ?_) rfl (by kernel_rfl) (by kernel_rfl) (by kernel_rfl) (fun _ _ _ h => h) (Or.inl ⟨by rfl, ?_⟩) (by assumption) ?_
                  rotate_left
                  · intro w' hSw; (try dsimp only at hSw); obtain ⟨hs0, hs1⟩ := hSw; go_simp; (try with_reducible rfl)
                  (try simp only [Act.put, List.getElem_toArray, List.getElem_cons_zero, List.getElem_cons_succ, List.setIfInBounds_toArray, List.set_cons_zero, List.set_cons_succ])
                  refine wpAnyH_take (i := 22) (v := undef) rfl (by kernel_rfl) (by kernel_rfl) (by kernel_rfl) (fun _ _ _ h => h) (Or.inr ⟨by rfl, rfl⟩) (by assumption) ?_
                  (try simp only [Act.put, List.getElem_toArray, List.getElem_cons_zero, List.getElem_cons_succ, List.setIfInBounds_toArray, List.set_cons_zero, List.set_cons_succ])
                  refine wpAnyH_take (i := 23) (v := undef) rfl (by kernel_rfl) (by kernel_rfl) (by kernel_rfl) (fun _ _ _ h => h) (Or.inr ⟨by rfl, rfl⟩) (by assumption) ?_
                  (try simp only [Act.put, List.getElem_toArray, List.getElem_cons_zero, List.getElem_cons_succ, List.setIfInBounds_toArray, List.set_cons_zero, List.set_cons_succ])
                  refine wpAnyH_take (i := 24) (v := undef) rfl (by kernel_rfl) (by kernel_rfl) (by kernel_rfl) (fun _ _ _ h => h) (Or.inr ⟨by rfl, rfl⟩) (by assumption) ?_
                  (try simp only [Act.put, List.getElem_toArray, List.getElem_cons_zero, List.getElem_cons_succ, List.setIfInBounds_toArray, List.set_cons_zero, List.set_cons_succ])
                  refine wpAnyH_take (i := 26) (v := undef) rfl (by kernel_rfl) (by kernel_rfl) (by kernel_rfl) (fun _ _ _ h => h) (Or.inr ⟨by rfl, rfl⟩) (by assumption) ?_
                  (try simp only [Act.put, List.getElem_toArray, List.getElem_cons_zero, List.getElem_cons_succ, List.setIfInBounds_toArray, List.set_cons_zero, List.set_cons_succ])
                  refine wpAnyH_ready (rs := [25]) (by kernel_rfl) (by simp) ?_
                  refine AllReadyH.cons rfl (fun KK hKK => ?_) AllReadyH.nil
                  go_simp
                  refine hKK.out _ _ hHeld (fun hHeld => ?_)
                  clear hKK KK
                  (try simp only [Act.put, List.getElem_toArray, List.getElem_cons_zero, List.getElem_cons_succ, List.setIfInBounds_toArray, List.set_cons_zero, List.set_cons_succ])
                  refine wpAnyH_take (i := 27) (v := undef) rfl (by kernel_rfl) (by kernel_rfl) (by kernel_rfl) (fun _ _ _ h => h) (Or.inr ⟨by rfl, rfl⟩) (by assumption) ?_
                  (try simp only [Act.put, List.getElem_toArray, List.getElem_cons_zero, List.getElem_cons_succ, List.setIfInBounds_toArray, List.set_cons_zero, List.set_cons_succ])
                  refine wpAnyH_take (i := 28) (v := ?_) rfl (by kernel_rfl) (by kernel_rfl) (by kernel_rfl) (fun _ _ _ h => h) (Or.inl ⟨by rfl, ?_⟩) (by assumption) ?_
                  rotate_left
                  · intro w' hSw; (try dsimp only at hSw); obtain ⟨hs0, hs1⟩ := hSw; go_simp; (try with_reducible rfl)
                  (try simp only [Act.put, List.getElem_toArray, List.getElem_cons_zero, List.getElem_cons_succ, List.setIfInBounds_toArray, List.set_cons_zero, List.set_cons_succ])
                  refine wpAnyH_take (i := 29) (v := ?_) rfl (by kernel_rfl) (by kernel_rfl) (by kernel_rfl) (fun _ _ _ h => h) (Or.inl ⟨by rfl, ?_⟩) (by assumption) ?_
                  rotate_left
                  · intro w' hSw; (try dsimp only at hSw); obtain ⟨hs0, hs1⟩ := hSw; go_simp; (try with_reducible rfl)
                  (try simp only [Act.put, List.getElem_toArray, List.getElem_cons_zero, List.getElem_cons_succ, List.setIfInBounds_toArray, List.set_cons_zero, List.set_cons_succ])
                  refine wpAnyH_done (by kernel_rfl) ?_ _
                  refine NoPanic.normal ?_
                  have hd0 := hz.c0
                  have hd1 := hz.c1
                  obtain ⟨q, eq⟩ : ∃ q, putL ll m = q := ⟨_, rfl⟩
                  obtain ⟨S2, eS2⟩ : ∃ S2, putS S m = S2 := ⟨_, rfl⟩
                  rw [eq, eS2] at HTL
                  rw [eS2] at hz
                  have HQ := hi eq
                  clear eq eS2 hHeld
                  go_wp2_with (go_at_call 19; ((with_reducible refine (refPut_y w X 1 m b S S2 ll _ _ _ hz HIS.out q HQ.out).mono ?_); rintro e w7 ⟨aq, cq, rfl, hz7⟩; have hd2 := hz7.c0; have hd3 := hz7.c1))
                  have hx0 := hz7.is HTL.out
                  clear hz hz0 hz9 hd0 hd1
                  obtain ⟨F, eF⟩ : ∃ F, (q.filter fun x => decide (m ≤ x)) = F := ⟨_, rfl⟩
                  have hlen9 := hx0.rd.is.len
                  have hFl : F.length ≤ 16384 := by rw [← eF]; exact Nat.le_trans (List.length_filter_le _ _) hlen9
                  have HF := hi eF
                  have HFL := hi hFl
                  obtain ⟨r, er⟩ : ∃ r, memZ S2 m = r := ⟨_, rfl⟩
                  have HRR := hi er
                  have hx9 := hx0.below ((Below.refl _ _).drew)
                  clear eF hFl er hlen9
                  go_region_held3 (fun w' => w'.cell? ⟨X, 0, none⟩ = some (.int .i64 1) ∧ w'.cell? ⟨X, 1, none⟩ = some (.int .i64 m) ∧ Rx w X 1 m b S2 q (.slice aq q.length cq) w')
                    (first
                      | exact Rx.all hx9
                      | exact Rx.all hx
                      | go_keep)
                    (first
                      | (go_at_call 12; (with_reducible refine (alike_x w X 1 m b S2 q aq cq _ (by go_split_ands; assumption)).mono ?_); rintro e w7 ⟨rfl, hb⟩; have hx := Rx.below (by go_split_ands; assumption : Rx w X 1 m b S2 q (.slice aq q.length cq) _) hb; clear hb)
                      | (go_at_call 21; (with_reducible refine (has_x w X 1 m b S2 q aq cq _ (by go_split_ands; assumption) r HRR.out).mono ?_); rintro e w8 ⟨rfl, rfl⟩)
                      | (go_at_call 13; (with_reducible refine (refHas_x w X 1 m b S2 q aq cq _ (by go_split_ands; assumption) r HRR.out).mono ?_); rintro e w9 ⟨rfl, rfl⟩)
                      | (go_at_call 23; (with_reducible refine (from_x w X 1 m b S2 q aq cq _ (by go_split_ands; assumption) F HF.out).mono ?_); rintro e w10 ⟨a10, c10, rfl, hi10, hb⟩; have hx := Rx.below (by go_split_ands; assumption : Rx w X 1 m b S2 q (.slice aq q.length cq) _) hb; clear hb)
                      | (go_at_call 24; (with_reducible refine (refFrom_x w X 1 m b S2 q aq cq _ (by go_split_ands; assumption) F HF.out).mono ?_); rintro e w11 ⟨a11, c11, rfl, hi11, hb⟩; have hx := Rx.below (by go_split_ands; assumption : Rx w X 1 m b S2 q (.slice aq q.length cq) _) hb; have hi12 := intsAt_grew (by assumption : IntsAt _ (.slice _ F.length _) F) hb; clear hb)
                      | (go_at_call 22; (with_reducible refine (same_x F _ _ _ _ _ (by have := HFL.out; omega) (by assumption) (by assumption)).mono ?_); rintro e w12 ⟨rfl, hb⟩; have hx := Rx.below (by go_split_ands; assumption : Rx w X 1 m b S2 q (.slice aq q.length cq) _) hb; clear hb))
                  go_wp2
                  go_roundw
                  case rel => exact ⟨k + 1, b, S2, q, aq, cq, rfl, rfl, by go_num, hi ⟨HLT.out, hx.rd⟩⟩
                  case measure => have := HLT.out; simp only [intOf]; omega
                · have HPV := hi (show (okM m && !memZ S m) = false by rw [HP.out, HQ0.out]; rfl)
                  go_wp2_with (first
                    | (go_at_call 13; ((with_reducible refine (has_is ll m true _ _ HX.out.rd.c.ints (by omega) (HMH.out.trans HQ0.out)).mono ?_); rintro e w6 ⟨rfl, rfl⟩)))
                  have hz0 := Ry.of HX.out
                  clear hc0 hc1 hX HX
                  generalize (wr.alloc (.cells #[.int .i64 1, .int .i64 m] 30)) = V0 at hz0 ⊢
                  have hz9 := hz0.below ((Below.refl _ _).drew)
                  refine wp_region_noPanic ?_
                  refine wp_region_held_drew (S := fun w' => w'.cell? ⟨X, 0, none⟩ = some (.int .i64 1) ∧ w'.cell? ⟨X, 1, none⟩ = some (.int .i64 m)) (by kernel_rfl) ⟨hz9.c0, hz9.c1⟩ (fun hHeld => ?_)
                  (try simp only [Array.replicate_succ, Array.replicate_zero, List.push_toArray, List.nil_append, List.cons_append])
                  refine wpAnyH_take (i := 0) (v := ?_) rfl (by kernel_rfl) (by kernel_rfl) (by kernel_rfl) (fun _ _ _ h => h) (Or.inl ⟨by rfl, ?_⟩) (by assumption) ?_
                  rotate_left
                  · intro w' hSw; (try dsimp only at hSw); obtain ⟨hs0, hs1⟩ := hSw; go_simp; (try with_reducible rfl)
                  (try simp only [Act.put, List.getElem_toArray, List.getElem_cons_zero, List.getElem_cons_succ, List.setIfInBounds_toArray, List.set_cons_zero, List.set_cons_succ])
                  refine wpAnyH_take (i := 1) (v := ?_) rfl (by kernel_rfl) (by kernel_rfl) (by kernel_rfl) (fun _ _ _ h => h) (Or.inl ⟨by rfl, ?_⟩) (by assumption) ?_
                  rotate_left
                  · intro w' hSw; (try dsimp only at hSw); obtain ⟨hs0, hs1⟩ := hSw; go_simp; (try with_reducible rfl)
                  (try simp only [Act.put, List.getElem_toArray, List.getElem_cons_zero, List.getElem_cons_succ, List.setIfInBounds_toArray, List.set_cons_zero, List.set_cons_succ])
                  refine wpAnyH_take (i := 2) (v := ?_) rfl (by kernel_rfl) (by kernel_rfl) (by kernel_rfl) (fun _ _ _ h => h) (Or.inl ⟨by rfl, ?_⟩) (by assumption) ?_
                  rotate_left
                  · intro w' hSw; (try dsimp only at hSw); obtain ⟨hs0, hs1⟩ := hSw; go_simp; (try with_reducible rfl)
                  (try simp only [Act.put, List.getElem_toArray, List.getElem_cons_zero, List.getElem_cons_succ, List.setIfInBounds_toArray, List.set_cons_zero, List.set_cons_succ])
                  refine wpAnyH_take (i := 3) (v := ?_) rfl (by kernel_rfl) (by kernel_rfl) (by kernel_rfl) (fun _ _ _ h => h) (Or.inl ⟨by rfl, ?_⟩) (by assumption) ?_
                  rotate_left
                  · intro w' hSw; (try dsimp only at hSw); obtain ⟨hs0, hs1⟩ := hSw; go_simp; (try with_reducible rfl)
                  (try simp only [Act.put, List.getElem_toArray, List.getElem_cons_zero, List.getElem_cons_succ, List.setIfInBounds_toArray, List.set_cons_zero, List.set_cons_succ])
                  refine wpAnyH_take (i := 4) (v := ?_) rfl (by kernel_rfl) (by kernel_rfl) (by kernel_rfl) (fun _ _ _ h => h) (Or.inl ⟨by rfl, ?_⟩) (by assumption) ?_
                  rotate_left
                  · intro w' hSw; (try dsimp only at hSw); obtain ⟨hs0, hs1⟩ := hSw; go_simp; (try with_reducible rfl)
                  (try simp only [Act.put, List.getElem_toArray, List.getElem_cons_zero, List.getElem_cons_succ, List.setIfInBounds_toArray, List.set_cons_zero, List.set_cons_succ])
                  refine wpAnyH_take (i := 5) (v := ?_) rfl (by kernel_rfl) (by kernel_rfl) (by kernel_rfl) (fun _ _ _ h => h) (Or.inl ⟨by rfl, ?_⟩) (by assumption) ?_
                  rotate_left
                  · intro w' hSw; (try dsimp only at hSw); obtain ⟨hs0, hs1⟩ := hSw; go_simp; (try with_reducible rfl)
                  (try simp only [Act.put, List.getElem_toArray, List.getElem_cons_zero, List.getElem_cons_succ, List.setIfInBounds_toArray, List.set_cons_zero, List.set_cons_succ])
                  refine wpAnyH_take (i := 6) (v := ?_) rfl (by kernel_rfl) (by kernel_rfl) (by kernel_rfl) (fun _ _ _ h => h) (Or.inl ⟨by rfl, ?_⟩) (by assumption) ?_
                  rotate_left
                  · intro w' hSw; (try dsimp only at hSw); obtain ⟨hs0, hs1⟩ := hSw; go_simp; (try with_reducible rfl)
                  (try simp only [Act.put, List.getElem_toArray, List.getElem_cons_zero, List.getElem_cons_succ, List.setIfInBounds_toArray, List.set_cons_zero, List.set_cons_succ])
                  refine wpAnyH_take (i := 8) (v := ?_) rfl (by kernel_rfl) (by kernel_rfl) (by kernel_rfl) (fun _ _ _ h => h) (Or.inl ⟨by rfl, ?_⟩) (by assumption) ?_
                  rotate_left
                  · intro w' hSw; (try dsimp only at hSw); obtain ⟨hs0, hs1⟩ := hSw; go_simp; (try with_reducible rfl)
                  (try simp only [Act.put, List.getElem_toArray, List.getElem_cons_zero, List.getElem_cons_succ, List.setIfInBounds_toArray, List.set_cons_zero, List.set_cons_succ])
                  refine wpAnyH_take (i := 9) (v := ?_) rfl (by kernel_rfl) (by kernel_rfl) (by kernel_rfl) (fun _ _ _ h => h) (Or.inl ⟨by rfl, ?_⟩) (by assumption) ?_
                  rotate_left
                  · intro w' hSw; (try dsimp only at hSw); obtain ⟨hs0, hs1⟩ := hSw; go_simp; (try with_reducible rfl)
                  (try simp only [Act.put, List.getElem_toArray, List.getElem_cons_zero, List.getElem_cons_succ, List.setIfInBounds_toArray, List.set_cons_zero, List.set_cons_succ])
                  refine wpAnyH_ready (rs := [7]) (by kernel_rfl) (by simp) ?_
                  refine AllReadyH.cons rfl (fun KK hKK => ?_) AllReadyH.nil
                  go_simp
                  ((with_reducible refine (put_y w X 1 m b S ll _ _ hz9 false HPV.out).mono ?_); rintro e w6 ⟨rfl, hz⟩)
                  (try go_simp)
                  refine hKK.out _ _ ⟨hz.c0, hz.c1⟩ (fun hHeld => ?_)
                  clear hKK KK
                  (try simp only [Act.put, List.getElem_toArray, List.getElem_cons_zero, List.getElem_cons_succ, List.setIfInBounds_toArray, List.set_cons_zero, List.set_cons_succ])
                  refine wpAnyH_ready (rs := [10]) (by kernel_rfl) (by simp) ?_
                  refine AllReadyH.cons rfl (fun KK hKK => ?_) AllReadyH.nil
                  go_simp
                  ((with_reducible refine (may_is m true _ HP.out).mono ?_); rintro e w7 ⟨rfl, rfl⟩)
                  (try go_simp)
                  refine hKK.out _ _ ⟨hz.c0, hz.c1⟩ (fun hHeld => ?_)
                  clear hKK KK
                  (try simp only [Act.put, List.getElem_toArray, List.getElem_cons_zero, List.getElem_cons_succ, List.setIfInBounds_toArray, List.set_cons_zero, List.set_cons_succ])
                  refine wpAnyH_take (i := 11) (v := ?_) rfl (by kernel_rfl) (by kernel_rfl) (by kernel_rfl) (fun _ _ _ h => h) (Or.inl ⟨by rfl, ?_⟩) (by assumption) ?_
                  rotate_left
                  · intro w' hSw; (try dsimp only at hSw); obtain ⟨hs0, hs1⟩ := hSw; go_simp; (try with_reducible rfl)
                  (try simp only [Act.put, List.getElem_toArray, List.getElem_cons_zero, List.getElem_cons_succ, List.setIfInBounds_toArray, List.set_cons_zero, List.set_cons_succ])
                  refine wpAnyH_take (i := 12) (v := ?_) rfl (by kernel_rfl) (by kernel_rfl) (by kernel_rfl) (fun _ _ _ h => h) (Or.inl ⟨by rfl, ?_⟩) (by assumption) ?_
                  rotate_left
                  · intro w' hSw; (try dsimp only at hSw); obtain ⟨hs0, hs1⟩ := hSw; go_simp; (try with_reducible rfl)
                  (try simp only [Act.put, List.getElem_toArray, List.getElem_cons_zero, List.getElem_cons_succ, List.setIfInBounds_toArray, List.set_cons_zero, List.set_cons_succ])
                  refine wpAnyH_take (i := 13) (v := ?_) rfl (by kernel_rfl) (by kernel_rfl) (by kernel_rfl) (fun _ _ _ h => h) (Or.inl ⟨by rfl, ?_⟩) (by assumption) ?_
                  rotate_left
                  · intro w' hSw; (try dsimp only at hSw); obtain ⟨hs0, hs1⟩ := hSw; go_simp; (try with_reducible rfl)
                  (try simp only [Act.put, List.getElem_toArray, List.getElem_cons_zero, List.getElem_cons_succ, List.setIfInBounds_toArray, List.set_cons_zero, List.set_cons_succ])
                  refine wpAnyH_take (i := 14) (v := ?_) rfl (by kernel_rfl) (by kernel_rfl) (by kernel_rfl) (fun _ _ _ h => h) (Or.inl ⟨by rfl, ?_⟩) (by assumption) ?_
                  rotate_left
                  · intro w' hSw; (try dsimp only at hSw); obtain ⟨hs0, hs1⟩ := hSw; go_simp; (try with_reducible rfl)
                  (try simp only [Act.put, List.getElem_toArray, List.getElem_cons_zero, List.getElem_cons_succ, List.setIfInBounds_toArray, List.set_cons_zero, List.set_cons_succ])
                  refine wpAnyH_take (i := 15) (v := ?_) rfl (by kernel_rfl) (by kernel_rfl) (by kernel_rfl) (fun _ _ _ h => h) (Or.inl ⟨by rfl, ?_⟩) (by assumption) ?_
                  rotate_left
                  · intro w' hSw; (try dsimp only at hSw); obtain ⟨hs0, hs1⟩ := hSw; go_simp; (try with_reducible rfl)
                  (try simp only [Act.put, List.getElem_toArray, List.getElem_cons_zero, List.getElem_cons_succ, List.setIfInBounds_toArray, List.set_cons_zero, List.set_cons_succ])
                  refine wpAnyH_take (i := 16) (v := ?_) rfl (by kernel_rfl) (by kernel_rfl) (by kernel_rfl) (fun _ _ _ h => h) (Or.inl ⟨by rfl, ?_⟩) (by assumption) ?_
                  rotate_left
                  · intro w' hSw; (try dsimp only at hSw); obtain ⟨hs0, hs1⟩ := hSw; go_simp; (try with_reducible rfl)
                  (try simp only [Act.put, List.getElem_toArray, List.getElem_cons_zero, List.getElem_cons_succ, List.setIfInBounds_toArray, List.set_cons_zero, List.set_cons_succ])
                  refine wpAnyH_take (i := 17) (v := ?_) rfl (by kernel_rfl) (by kernel_rfl) (by kernel_rfl) (fun _ _ _ h => h) (Or.inl ⟨by rfl, ?_⟩) (by assumption) ?_
                  rotate_left
                  · intro w' hSw; (try dsimp only at hSw); obtain ⟨hs0, hs1⟩ := hSw; go_simp; (try with_reducible rfl)
                  (try simp only [Act.put, List.getElem_toArray, List.getElem_cons_zero, List.getElem_cons_succ, List.setIfInBounds_toArray, List.set_cons_zero, List.set_cons_succ])
                  refine wpAnyH_take (i := 18) (v := ?_) rfl (by kernel_rfl) (by kernel_rfl) (by kernel_rfl) (fun _ _ _ h => h) (Or.inl ⟨by rfl, ?_⟩) (by assumption) ?_
                  rotate_left
                  · intro w' hSw; (try dsimp only at hSw); obtain ⟨hs0, hs1⟩ := hSw; go_simp; (try with_reducible rfl)
                  (try simp only [Act.put, List.getElem_toArray, List.getElem_cons_zero, List.getElem_cons_succ, List.setIfInBounds_toArray, List.set_cons_zero, List.set_cons_succ])
                  refine wpAnyH_take (i := 19) (v := ?_) rfl (by kernel_rfl) (by kernel_rfl) (by kernel_rfl) (fun _ _ _ h => h) (Or.inl ⟨by rfl, ?_⟩) (by assumption) ?_
                  rotate_left
                  · intro w' hSw; (try dsimp only at hSw); obtain ⟨hs0, hs1⟩ := hSw; go_simp; (try with_reducible rfl)
                  (try simp only [Act.put, List.getElem_toArray, List.getElem_cons_zero, List.getElem_cons_succ, List.setIfInBounds_toArray, List.set_cons_zero, List.set_cons_succ])
                  refine wpAnyH_take (i := 20) (v := ?_) rfl (by kernel_rfl) (by kernel_rfl) (by kernel_rfl) (fun _ _ _ h => h) (Or.inl ⟨by rfl, ?_⟩) (by assumption) ?_
                  rotate_left
                  · intro w' hSw; (try dsimp only at hSw); obtain ⟨hs0, hs1⟩ := hSw; go_simp; (try with_reducible rfl)
                  (try simp only [Act.put, List.getElem_toArray, List.getElem_cons_zero, List.getElem_cons_succ, List.setIfInBounds_toArray, List.set_cons_zero, List.set_cons_succ])
                  refine wpAnyH_take (i := 21) (v := ?_) rfl (by kernel_rfl) (by kernel_rfl) (by kernel_rfl) (fun _ _ _ h => h) (Or.inl ⟨by rfl, ?_⟩) (by assumption) ?_
                  rotate_left
                  · intro w' hSw; (try dsimp only at hSw); obtain ⟨hs0, hs1⟩ := hSw; go_simp; (try with_reducible rfl)
                  (try simp only [Act.put, List.getElem_toArray, List.getElem_cons_zero, List.getElem_cons_succ, List.setIfInBounds_toArray, List.set_cons_zero, List.set_cons_succ])
                  refine wpAnyH_take (i := 22) (v := undef) rfl (by kernel_rfl) (by kernel_rfl) (by kernel_rfl) (fun _ _ _ h => h) (Or.inr ⟨by rfl, rfl⟩) (by assumption) ?_
                  (try simp only [Act.put, List.getElem_toArray, List.getElem_cons_zero, List.getElem_cons_succ, List.setIfInBounds_toArray, List.set_cons_zero, List.set_cons_succ])
                  refine wpAnyH_take (i := 23) (v := undef) rfl (by kernel_rfl) (by kernel_rfl) (by kernel_rfl) (fun _ _ _ h => h) (Or.inr ⟨by rfl, rfl⟩) (by assumption) ?_
                  (try simp only [Act.put, List.getElem_toArray, List.getElem_cons_zero, List.getElem_cons_succ, List.setIfInBounds_toArray, List.set_cons_zero, List.set_cons_succ])
                  refine wpAnyH_take (i := 24) (v := undef) rfl (by kernel_rfl) (by kernel_rfl) (by kernel_rfl) (fun _ _ _ h => h) (Or.inr ⟨by rfl, rfl⟩) (by assumption) ?_
                  (try simp only [Act.put, List.getElem_toArray, List.getElem_cons_zero, List.getElem_cons_succ, List.setIfInBounds_toArray, List.set_cons_zero, List.set_cons_succ])
                  refine wpAnyH_take (i := 26) (v := undef) rfl (by kernel_rfl) (by kernel_rfl) (by kernel_rfl) (fun _ _ _ h => h) (Or.inr ⟨by rfl, rfl⟩) (by assumption) ?_
                  (try simp only [Act.put, List.getElem_toArray, List.getElem_cons_zero, List.getElem_cons_succ, List.setIfInBounds_toArray, List.set_cons_zero, List.set_cons_succ])
                  refine wpAnyH_ready (rs := [25]) (by kernel_rfl) (by simp) ?_
                  refine AllReadyH.cons rfl (fun KK hKK => ?_) AllReadyH.nil
                  go_simp
                  refine hKK.out _ _ hHeld (fun hHeld => ?_)
                  clear hKK KK
                  (try simp only [Act.put, List.getElem_toArray, List.getElem_cons_zero, List.getElem_cons_succ, List.setIfInBounds_toArray, List.set_cons_zero, List.set_cons_succ])
                  refine wpAnyH_take (i := 27) (v := undef) rfl (by kernel_rfl) (by kernel_rfl) (by kernel_rfl) (fun _ _ _ h => h) (Or.inr ⟨by rfl, rfl⟩) (by assumption) ?_
                  (try simp only [Act.put, List.getElem_toArray, List.getElem_cons_zero, List.getElem_cons_succ, List.setIfInBounds_toArray, List.set_cons_zero, List.set_cons_succ])
                  refine wpAnyH_take (i := 28) (v := ?_) rfl (by kernel_rfl) (by kernel_rfl) (by kernel_rfl) (fun _ _ _ h => h) (Or.inl ⟨by rfl, ?_⟩) (by assumption) ?_
                  rotate_left
                  · intro w' hSw; (try dsimp only at hSw); obtain ⟨hs0, hs1⟩ := hSw; go_simp; (try with_reducible rfl)
                  (try simp only [Act.put, List.getElem_toArray, List.getElem_cons_zero, List.getElem_cons_succ, List.setIfInBounds_toArray, List.set_cons_zero, List.set_cons_succ])
                  refine wpAnyH_take (i := 29) (v := ?_) rfl (by kernel_rfl) (by kernel_rfl) (by kernel_rfl) (fun _ _ _ h => h) (Or.inl ⟨by rfl, ?_⟩) (by assumption) ?_
                  rotate_left
                  · intro w' hSw; (try dsimp only at hSw); obtain ⟨hs0, hs1⟩ := hSw; go_simp; (try with_reducible rfl)
                  (try simp only [Act.put, List.getElem_toArray, List.getElem_cons_zero, List.getElem_cons_succ, List.setIfInBounds_toArray, List.set_cons_zero, List.set_cons_succ])
                  refine wpAnyH_done (by kernel_rfl) ?_ _
                  refine NoPanic.normal ?_
                  have hd0 := hz.c0
                  have hd1 := hz.c1
                  obtain ⟨q, eq⟩ : ∃ q, putL ll m = q := ⟨_, rfl⟩
                  obtain ⟨S2, eS2⟩ : ∃ S2, putS S m = S2 := ⟨_, rfl⟩
                  rw [eq, eS2] at HTL
                  rw [eS2] at hz
                  have HQ := hi eq
                  clear eq eS2 hHeld
                  go_wp2_with (go_at_call 19; ((with_reducible refine (refPut_y w X 1 m b S S2 ll _ _ _ hz HIS.out q HQ.out).mono ?_); rintro e w7 ⟨aq, cq, rfl, hz7⟩; have hd2 := hz7.c0; have hd3 := hz7.c1))
                  have hx0 := hz7.is HTL.out
                  clear hz hz0 hz9 hd0 hd1
                  obtain ⟨F, eF⟩ : ∃ F, (q.filter fun x => decide (m ≤ x)) = F := ⟨_, rfl⟩
                  have hlen9 := hx0.rd.is.len
                  have hFl : F.length ≤ 16384 := by rw [← eF]; exact Nat.le_trans (List.length_filter_le _ _) hlen9
                  have HF := hi eF
                  have HFL := hi hFl
                  obtain ⟨r, er⟩ : ∃ r, memZ S2 m = r := ⟨_, rfl⟩
                  have HRR := hi er
                  have hx9 := hx0.below ((Below.refl _ _).drew)
                  clear eF hFl er hlen9
                  go_region_held3 (fun w' => w'.cell? ⟨X, 0, none⟩ = some (.int .i64 1) ∧ w'.cell? ⟨X, 1, none⟩ = some (.int .i64 m) ∧ Rx w X 1 m b S2 q (.slice aq q.length cq) w')
                    (first
                      | exact Rx.all hx9
                      | exact Rx.all hx
                      | go_keep)
                    (first
                      | (go_at_call 12; (with_reducible refine (alike_x w X 1 m b S2 q aq cq _ (by go_split_ands; assumption)).mono ?_); rintro e w7 ⟨rfl, hb⟩; have hx := Rx.below (by go_split_ands; assumption : Rx w X 1 m b S2 q (.slice aq q.length cq) _) hb; clear hb)
                      | (go_at_call 21; (with_reducible refine (has_x w X 1 m b S2 q aq cq _ (by go_split_ands; assumption) r HRR.out).mono ?_); rintro e w8 ⟨rfl, rfl⟩)
                      | (go_at_call 13; (with_reducible refine (refHas_x w X 1 m b S2 q aq cq _ (by go_split_ands; assumption) r HRR.out).mono ?_); rintro e w9 ⟨rfl, rfl⟩)
                      | (go_at_call 23; (with_reducible refine (from_x w X 1 m b S2 q aq cq _ (by go_split_ands; assumption) F HF.out).mono ?_); rintro e w10 ⟨a10, c10, rfl, hi10, hb⟩; have hx := Rx.below (by go_split_ands; assumption : Rx w X 1 m b S2 q (.slice aq q.length cq) _) hb; clear hb)
                      | (go_at_call 24; (with_reducible refine (refFrom_x w X 1 m b S2 q aq cq _ (by go_split_ands; assumption) F HF.out).mono ?_); rintro e w11 ⟨a11, c11, rfl, hi11, hb⟩; have hx := Rx.below (by go_split_ands; assumption : Rx w X 1 m b S2 q (.slice aq q.length cq) _) hb; have hi12 := intsAt_grew (by assumption : IntsAt _ (.slice _ F.length _) F) hb; clear hb)
                      | (go_at_call 22; (with_reducible refine (same_x F _ _ _ _ _ (by have := HFL.out; omega) (by assumption) (by assumption)).mono ?_); rintro e w12 ⟨rfl, hb⟩; have hx := Rx.below (by go_split_ands; assumption : Rx w X 1 m b S2 q (.slice aq q.length cq) _) hb; clear hb))
                  go_wp2
                  go_roundw
                  case rel => exact ⟨k + 1, b, S2, q, aq, cq, rfl, rfl, by go_num, hi ⟨HLT.out, hx.rd⟩⟩
                  case measure => have := HLT.out; simp only [intOf]; omega
            · by_cases h2 : d = 2
              · subst h2
                clear h1 h3
                have hc0 := HX.out.c0
                have hc1 := HX.out.c1
                obtain ⟨q0, eq0⟩ : ∃ q0, memZ S m = q0 := ⟨_, rfl⟩
                have HQ0 := hi eq0
                have HIS := hi HX.out.rd.is
                clear eq0
                have HTL := hi (HIS.out.take m)
                go_wp2_with (first
                  | (go_at_call 13; ((with_reducible refine (has_is ll m q0 _ _ HX.out.rd.c.ints (by omega) (HMH.out.trans HQ0.out)).mono ?_); rintro e w6 ⟨rfl, rfl⟩)))
                have hz0 := Ry.of HX.out
                clear hc0 hc1 hX HX
                generalize (wr.alloc (.cells #[.int .i64 2, .int .i64 m] 30)) = V0 at hz0 ⊢
                have hz9 := hz0.below ((Below.refl _ _).drew)
                refine wp_region_noPanic ?_
                refine wp_region_held_drew (S := fun w' => w'.cell? ⟨X, 0, none⟩ = some (.int .i64 2) ∧ w'.cell? ⟨X, 1, none⟩ = some (.int .i64 m)) (by kernel_rfl) ⟨hz9.c0, hz9.c1⟩ (fun hHeld => ?_)
                (try simp only [Array.replicate_succ, Array.replicate_zero, List.push_toArray, List.nil_append, List.cons_append])
                refine wpAnyH_take (i := 0) (v := ?_) rfl (by kernel_rfl) (by kernel_rfl) (by kernel_rfl) (fun _ _ _ h => h) (Or.inl ⟨by rfl, ?_⟩) (by assumption) ?_
                rotate_left
                · intro w' hSw; (try dsimp only at hSw); obtain ⟨hs0, hs1⟩ := hSw; go_simp; (try with_reducible rfl)
                (try simp only [Act.put, List.getElem_toArray, List.getElem_cons_zero, List.getElem_cons_succ, List.setIfInBounds_toArray, List.set_cons_zero, List.set_cons_succ])
                refine wpAnyH_take (i := 1) (v := ?_) rfl (by kernel_rfl) (by kernel_rfl) (by kernel_rfl) (fun _ _ _ h => h) (Or.inl ⟨by rfl, ?_⟩) (by assumption) ?_
                rotate_left
                · intro w' hSw; (try dsimp only at hSw); obtain ⟨hs0, hs1⟩ := hSw; go_simp; (try with_reducible rfl)
                (try simp only [Act.put, List.getElem_toArray, List.getElem_cons_zero, List.getElem_cons_succ, List.setIfInBounds_toArray, List.set_cons_zero, List.set_cons_succ])
                refine wpAnyH_take (i := 2) (v := ?_) rfl (by kernel_rfl) (by kernel_rfl) (by kernel_rfl) (fun _ _ _ h => h) (Or.inl ⟨by rfl, ?_⟩) (by assumption) ?_
                rotate_left
                · intro w' hSw; (try dsimp only at hSw); obtain ⟨hs0, hs1⟩ := hSw; go_simp; (try with_reducible rfl)
                (try simp only [Act.put, List.getElem_toArray, List.getElem_cons_zero, List.getElem_cons_succ, List.setIfInBounds_toArray, List.set_cons_zero, List.set_cons_succ])
                refine wpAnyH_take (i := 3) (v := ?_) rfl (by kernel_rfl) (by kernel_rfl) (by kernel_rfl) (fun _ _ _ h => h) (Or.inl ⟨by rfl, ?_⟩) (by assumption) ?_
                rotate_left
                · intro w' hSw; (try dsimp only at hSw); obtain ⟨hs0, hs1⟩ := hSw; go_simp; (try with_reducible rfl)
                (try simp only [Act.put, List.getElem_toArray, List.getElem_cons_zero, List.getElem_cons_succ, List.setIfInBounds_toArray, List.set_cons_zero, List.set_cons_succ])
                refine wpAnyH_take (i := 4) (v := undef) rfl (by kernel_rfl) (by kernel_rfl) (by kernel_rfl) (fun _ _ _ h => h) (Or.inr ⟨by rfl, rfl⟩) (by assumption) ?_
                (try simp only [Act.put, List.getElem_toArray, List.getElem_cons_zero, List.getElem_cons_succ, List.setIfInBounds_toArray, List.set_cons_zero, List.set_cons_succ])
                refine wpAnyH_take (i := 5) (v := undef) rfl (by kernel_rfl) (by kernel_rfl) (by kernel_rfl) (fun _ _ _ h => h) (Or.inr ⟨by rfl, rfl⟩) (by assumption) ?_
                (try simp only [Act.put, List.getElem_toArray, List.getElem_cons_zero, List.getElem_cons_succ, List.setIfInBounds_toArray, List.set_cons_zero, List.set_cons_succ])
                refine wpAnyH_take (i := 6) (v := undef) rfl (by kernel_rfl) (by kernel_rfl) (by kernel_rfl) (fun _ _ _ h => h) (Or.inr ⟨by rfl, rfl⟩) (by assumption) ?_
                (try simp only [Act.put, List.getElem_toArray, List.getElem_cons_zero, List.getElem_cons_succ, List.setIfInBounds_toArray, List.set_cons_zero, List.set_cons_succ])
                refine wpAnyH_take (i := 8) (v := undef) rfl (by kernel_rfl) (by kernel_rfl) (by kernel_rfl) (fun _ _ _ h => h) (Or.inr ⟨by rfl, rfl⟩) (by assumption) ?_
                (try simp only [Act.put, List.getElem_toArray, List.getElem_cons_zero, List.getElem_cons_succ, List.setIfInBounds_toArray, List.set_cons_zero, List.set_cons_succ])
                refine wpAnyH_take (i := 9) (v := undef) rfl (by kernel_rfl) (by kernel_rfl) (by kernel_rfl) (fun _ _ _ h => h) (Or.inr ⟨by rfl, rfl⟩) (by assumption) ?_
                (try simp only [Act.put, List.getElem_toArray, List.getElem_cons_zero, List.getElem_cons_succ, List.setIfInBounds_toArray, List.set_cons_zero, List.set_cons_succ])
                refine wpAnyH_ready (rs := [7]) (by kernel_rfl) (by simp) ?_
                refine AllReadyH.cons rfl (fun KK hKK => ?_) AllReadyH.nil
                go_simp
                refine hKK.out _ _ hHeld (fun hHeld => ?_)
                clear hKK KK
                (try simp only [Act.put, List.getElem_toArray, List.getElem_cons_zero, List.getElem_cons_succ, List.setIfInBounds_toArray, List.set_cons_zero, List.set_cons_succ])
                refine wpAnyH_ready (rs := [10]) (by kernel_rfl) (by simp) ?_
                refine AllReadyH.cons rfl (fun KK hKK => ?_) AllReadyH.nil
                go_simp
                refine hKK.out _ _ hHeld (fun hHeld => ?_)
                clear hKK KK
                (try simp only [Act.put, List.getElem_toArray, List.getElem_cons_zero, List.getElem_cons_succ, List.setIfInBounds_toArray, List.set_cons_zero, List.set_cons_succ])
                refine wpAnyH_take (i := 11) (v := undef) rfl (by kernel_rfl) (by kernel_rfl) (by kernel_rfl) (fun _ _ _ h => h) (Or.inr ⟨by rfl, rfl⟩) (by assumption) ?_
                (try simp only [Act.put, List.getElem_toArray, List.getElem_cons_zero, List.getElem_cons_succ, List.setIfInBounds_toArray, List.set_cons_zero, List.set_cons_succ])
                refine wpAnyH_take (i := 12) (v := undef) rfl (by kernel_rfl) (by kernel_rfl) (by kernel_rfl) (fun _ _ _ h => h) (Or.inr ⟨by rfl, rfl⟩) (by assumption) ?_
                (try simp only [Act.put, List.getElem_toArray, List.getElem_cons_zero, List.getElem_cons_succ, List.setIfInBounds_toArray, List.set_cons_zero, List.set_cons_succ])
                refine wpAnyH_take (i := 13) (v := undef) rfl (by kernel_rfl) (by kernel_rfl) (by kernel_rfl) (fun _ _ _ h => h) (Or.inr ⟨by rfl, rfl⟩) (by assumption) ?_
                (try simp only [Act.put, List.getElem_toArray, List.getElem_cons_zero, List.getElem_cons_succ, List.setIfInBounds_toArray, List.set_cons_zero, List.set_cons_succ])
                refine wpAnyH_take (i := 14) (v := undef) rfl (by kernel_rfl) (by kernel_rfl) (by kernel_rfl) (fun _ _ _ h => h) (Or.inr ⟨by rfl, rfl⟩) (by assumption) ?_
                (try simp only [Act.put, List.getElem_toArray, List.getElem_cons_zero, List.getElem_cons_succ, List.setIfInBounds_toArray, List.set_cons_zero, List.set_cons_succ])
                refine wpAnyH_take (i := 15) (v := undef) rfl (by kernel_rfl) (by kernel_rfl) (by kernel_rfl) (fun _ _ _ h => h) (Or.inr ⟨by rfl, rfl⟩) (by assumption) ?_
                (try simp only [Act.put, List.getElem_toArray, List.getElem_cons_zero, List.getElem_cons_succ, List.setIfInBounds_toArray, List.set_cons_zero, List.set_cons_succ])
                refine wpAnyH_take (i := 16) (v := ?_) rfl (by kernel_rfl) (by kernel_rfl) (by kernel_rfl) (fun _ _ _ h => h) (Or.inl ⟨by rfl, ?_⟩) (by assumption) ?_
                rotate_left
                · intro w' hSw; (try dsimp only at hSw); obtain ⟨hs0, hs1⟩ := hSw; go_simp; (try with_reducible rfl)
                (try simp only [Act.put, List.getElem_toArray, List.getElem_cons_zero, List.getElem_cons_succ, List.setIfInBounds_toArray, List.set_cons_zero, List.set_cons_succ])
                refine wpAnyH_take (i := 17) (v := ?_) rfl (by kernel_rfl) (by kernel_rfl) (by kernel_rfl) (fun _ _ _ h => h) (Or.inl ⟨by rfl, ?_⟩) (by assumption) ?_
                rotate_left
                · intro w' hSw; (try dsimp only at hSw); obtain ⟨hs0, hs1⟩ := hSw; go_simp; (try with_reducible rfl)
                (try simp only [Act.put, List.getElem_toArray, List.getElem_cons_zero, List.getElem_cons_succ, List.setIfInBounds_toArray, List.set_cons_zero, List.set_cons_succ])
                refine wpAnyH_take (i := 18) (v := ?_) rfl (by kernel_rfl) (by kernel_rfl) (by kernel_rfl) (fun _ _ _ h => h) (Or.inl ⟨by rfl, ?_⟩) (by assumption) ?_
                rotate_left
                · intro w' hSw; (try dsimp only at hSw); obtain ⟨hs0, hs1⟩ := hSw; go_simp; (try with_reducible rfl)
                (try simp only [Act.put, List.getElem_toArray, List.getElem_cons_zero, List.getElem_cons_succ, List.setIfInBounds_toArray, List.set_cons_zero, List.set_cons_succ])
                refine wpAnyH_take (i := 19) (v := ?_) rfl (by kernel_rfl) (by kernel_rfl) (by kernel_rfl) (fun _ _ _ h => h) (Or.inl ⟨by rfl, ?_⟩) (by assumption) ?_
                rotate_left
                · intro w' hSw; (try dsimp only at hSw); obtain ⟨hs0, hs1⟩ := hSw; go_simp; (try with_reducible rfl)
                (try simp only [Act.put, List.getElem_toArray, List.getElem_cons_zero, List.getElem_cons_succ, List.setIfInBounds_toArray, List.set_cons_zero, List.set_cons_succ])
                refine wpAnyH_take (i := 20) (v := ?_) rfl (by kernel_rfl) (by kernel_rfl) (by kernel_rfl) (fun _ _ _ h => h) (Or.inl ⟨by rfl, ?_⟩) (by assumption) ?_
                rotate_left
                · intro w' hSw; (try dsimp only at hSw); obtain ⟨hs0, hs1⟩ := hSw; go_simp; (try with_reducible rfl)
                (try simp only [Act.put, List.getElem_toArray, List.getElem_cons_zero, List.getElem_cons_succ, List.setIfInBounds_toArray, List.set_cons_zero, List.set_cons_succ])
                refine wpAnyH_take (i := 21) (v := ?_) rfl (by kernel_rfl) (by kernel_rfl) (by kernel_rfl) (fun _ _ _ h => h) (Or.inl ⟨by rfl, ?_⟩) (by assumption) ?_
                rotate_left
                · intro w' hSw; (try dsimp only at hSw); obtain ⟨hs0, hs1⟩ := hSw; go_simp; (try with_reducible rfl)
                (try simp only [Act.put, List.getElem_toArray, List.getElem_cons_zero, List.getElem_cons_succ, List.setIfInBounds_toArray, List.set_cons_zero, List.set_cons_succ])
                refine wpAnyH_take (i := 22) (v := ?_) rfl (by kernel_rfl) (by kernel_rfl) (by kernel_rfl) (fun _ _ _ h => h) (Or.inl ⟨by rfl, ?_⟩) (by assumption) ?_
                rotate_left
                · intro w' hSw; (try dsimp only at hSw); obtain ⟨hs0, hs1⟩ := hSw; go_simp; (try with_reducible rfl)
                (try simp only [Act.put, List.getElem_toArray, List.getElem_cons_zero, List.getElem_cons_succ, List.setIfInBounds_toArray, List.set_cons_zero, List.set_cons_succ])
                refine wpAnyH_take (i := 23) (v := ?_) rfl (by kernel_rfl) (by kernel_rfl) (by kernel_rfl) (fun _ _ _ h => h) (Or.inl ⟨by rfl, ?_⟩) (by assumption) ?_
                rotate_left
                · intro w' hSw; (try dsimp only at hSw); obtain ⟨hs0, hs1⟩ := hSw; go_simp; (try with_reducible rfl)
                (try simp only [Act.put, List.getElem_toArray, List.getElem_cons_zero, List.getElem_cons_succ, List.setIfInBounds_toArray, List.set_cons_zero, List.set_cons_succ])
                refine wpAnyH_take (i := 24) (v := ?_) rfl (by kernel_rfl) (by kernel_rfl) (by kernel_rfl) (fun _ _ _ h => h) (Or.inl ⟨by rfl, ?_⟩) (by assumption) ?_
                rotate_left
                · intro w' hSw; (try dsimp only at hSw); obtain ⟨hs0, hs1⟩ := hSw; go_simp; (try with_reducible rfl)
                (try simp only [Act.put, List.getElem_toArray, List.getElem_cons_zero, List.getElem_cons_succ, List.setIfInBounds_toArray, List.set_cons_zero, List.set_cons_succ])
                refine wpAnyH_take (i := 26) (v := ?_) rfl (by kernel_rfl) (by kernel_rfl) (by kernel_rfl) (fun _ _ _ h => h) (Or.inl ⟨by rfl, ?_⟩) (by assumption) ?_
                rotate_left
                · intro w' hSw; (try dsimp only at hSw); obtain ⟨hs0, hs1⟩ := hSw; go_simp; (try with_reducible rfl)
                (try simp only [Act.put, List.getElem_toArray, List.getElem_cons_zero, List.getElem_cons_succ, List.setIfInBounds_toArray, List.set_cons_zero, List.set_cons_succ])
                refine wpAnyH_ready (rs := [25]) (by kernel_rfl) (by simp) ?_
                refine AllReadyH.cons rfl (fun KK hKK => ?_) AllReadyH.nil
                go_simp
                ((with_reducible refine (take_y w X 2 m b S ll _ _ hz9 q0 HQ0.out).mono ?_); rintro e w6 ⟨rfl, hz⟩)
                (try go_simp)
                refine hKK.out _ _ ⟨hz.c0, hz.c1⟩ (fun hHeld => ?_)
                clear hKK KK
                (try simp only [Act.put, List.getElem_toArray, List.getElem_cons_zero, List.getElem_cons_succ, List.setIfInBounds_toArray, List.set_cons_zero, List.set_cons_succ])
                refine wpAnyH_take (i := 27) (v := ?_) rfl (by kernel_rfl) (by kernel_rfl) (by kernel_rfl) (fun _ _ _ h => h) (Or.inl ⟨by rfl, ?_⟩) (by assumption) ?_
                rotate_left
                · intro w' hSw; (try dsimp only at hSw); obtain ⟨hs0, hs1⟩ := hSw; go_simp; (try with_reducible rfl)
                (try simp only [Act.put, List.getElem_toArray, List.getElem_cons_zero, List.getElem_cons_succ, List.setIfInBounds_toArray, List.set_cons_zero, List.set_cons_succ])
                refine wpAnyH_take (i := 28) (v := ?_) rfl (by kernel_rfl) (by kernel_rfl) (by kernel_rfl) (fun _ _ _ h => h) (Or.inl ⟨by rfl, ?_⟩) (by assumption) ?_
                rotate_left
                · intro w' hSw; (try dsimp only at hSw); obtain ⟨hs0, hs1⟩ := hSw; go_simp; (try with_reducible rfl)
                (try simp only [Act.put, List.getElem_toArray, List.getElem_cons_zero, List.getElem_cons_succ, List.setIfInBounds_toArray, List.set_cons_zero, List.set_cons_succ])
                refine wpAnyH_take (i := 29) (v := ?_) rfl (by kernel_rfl) (by kernel_rfl) (by kernel_rfl) (fun _ _ _ h => h) (Or.inl ⟨by rfl, ?_⟩) (by assumption) ?_
                rotate_left
                · intro w' hSw; (try dsimp only at hSw); obtain ⟨hs0, hs1⟩ := hSw; go_simp; (try with_reducible rfl)
                (try simp only [Act.put, List.getElem_toArray, List.getElem_cons_zero, List.getElem_cons_succ, List.setIfInBounds_toArray, List.set_cons_zero, List.set_cons_succ])
                refine wpAnyH_done (by kernel_rfl) ?_ _
                refine NoPanic.normal ?_
                have hd0 := hz.c0
                have hd1 := hz.c1
                obtain ⟨q, eq⟩ : ∃ q, takeL ll m = q := ⟨_, rfl⟩
                obtain ⟨S2, eS2⟩ : ∃ S2, takeS S m = S2 := ⟨_, rfl⟩
                rw [eq, eS2] at HTL
                rw [eS2] at hz
                have HQ := hi eq
                clear eq eS2 hHeld
                go_wp2_with (go_at_call 20; ((with_reducible refine (refTake_y w X 2 m b S S2 ll _ _ _ hz HIS.out q HQ.out).mono ?_); rintro e w7 ⟨aq, cq, rfl, hz7⟩; have hd2 := hz7.c0; have hd3 := hz7.c1))
                have hx0 := hz7.is HTL.out
                clear hz hz0 hz9 hd0 hd1
                obtain ⟨F, eF⟩ : ∃ F, (q.filter fun x => decide (m ≤ x)) = F := ⟨_, rfl⟩
                have hlen9 := hx0.rd.is.len
                have hFl : F.length ≤ 16384 := by rw [← eF]; exact Nat.le_trans (List.length_filter_le _ _) hlen9
                have HF := hi eF
                have HFL := hi hFl
                obtain ⟨r, er⟩ : ∃ r, memZ S2 m = r := ⟨_, rfl⟩
                have HRR := hi er
                have hx9 := hx0.below ((Below.refl _ _).drew)
                clear eF hFl er hlen9
                go_region_held3 (fun w' => w'.cell? ⟨X, 0, none⟩ = some (.int .i64 2) ∧ w'.cell? ⟨X, 1, none⟩ = some (.int .i64 m) ∧ Rx w X 2 m b S2 q (.slice aq q.length cq) w')
                  (first
                    | exact Rx.all hx9
                    | exact Rx.all hx
                    | go_keep)
                  (first
                    | (go_at_call 12; (with_reducible refine (alike_x w X 2 m b S2 q aq cq _ (by go_split_ands; assumption)).mono ?_); rintro e w7 ⟨rfl, hb⟩; have hx := Rx.below (by go_split_ands; assumption : Rx w X 2 m b S2 q (.slice aq q.length cq) _) hb; clear hb)
                    | (go_at_call 21; (with_reducible refine (has_x w X 2 m b S2 q aq cq _ (by go_split_ands; assumption) r HRR.out).mono ?_); rintro e w8 ⟨rfl, rfl⟩)
                    | (go_at_call 13; (with_reducible refine (refHas_x w X 2 m b S2 q aq cq _ (by go_split_ands; assumption) r HRR.out).mono ?_); rintro e w9 ⟨rfl, rfl⟩)
                    | (go_at_call 23; (with_reducible refine (from_x w X 2 m b S2 q aq cq _ (by go_split_ands; assumption) F HF.out).mono ?_); rintro e w10 ⟨a10, c10, rfl, hi10, hb⟩; have hx := Rx.below (by go_split_ands; assumption : Rx w X 2 m b S2 q (.slice aq q.length cq) _) hb; clear hb)
                    | (go_at_call 24; (with_reducible refine (refFrom_x w X 2 m b S2 q aq cq _ (by go_split_ands; assumption) F HF.out).mono ?_); rintro e w11 ⟨a11, c11, rfl, hi11, hb⟩; have hx := Rx.below (by go_split_ands; assumption : Rx w X 2 m b S2 q (.slice aq q.length cq) _) hb; have hi12 := intsAt_grew (by assumption : IntsAt _ (.slice _ F.length _) F) hb; clear hb)
                    | (go_at_call 22; (with_reducible refine (same_x F _ _ _ _ _ (by have := HFL.out; omega) (by assumption) (by assumption)).mono ?_); rintro e w12 ⟨rfl, hb⟩; have hx := Rx.below (by go_split_ands; assumption : Rx w X 2 m b S2 q (.slice aq q.length cq) _) hb; clear hb))
                go_wp2
                go_roundw
                case rel => exact ⟨k + 1, b, S2, q, aq, cq, rfl, rfl, by go_num, hi ⟨HLT.out, hx.rd⟩⟩
                case measure => have := HLT.out; simp only [intOf]; omega
              · have hd3 : (d == 3) = false := by simp [h3]
                have hd1 : (d == 1) = false := by simp [h1]
                have hd2 : (d == 2) = false := by simp [h2]
                clear h1 h2 h3
                have hc0 := HX.out.c0
                have hc1 := HX.out.c1
                obtain ⟨q0, eq0⟩ : ∃ q0, memZ S m = q0 := ⟨_, rfl⟩
                have HQ0 := hi eq0
                have HIS := hi HX.out.rd.is
                clear eq0
                go_wp2_with (first
                  | (go_at_call 13; ((with_reducible refine (has_is ll m q0 _ _ HX.out.rd.c.ints (by omega) (HMH.out.trans HQ0.out)).mono ?_); rintro e w6 ⟨rfl, rfl⟩)))
                go_quiet (fail)
                go_wp2
                have hx0 := HX.out.below (below_drewN (Below.refl _ _) nq)
                clear hc0 hc1 hX HX
                generalize (wr.alloc (.cells #[.int .i64 d, .int .i64 m] 30)).drewN nq = W0 at hx0 ⊢
                obtain ⟨F, eF⟩ : ∃ F, (ll.filter fun x => decide (m ≤ x)) = F := ⟨_, rfl⟩
                have hlen9 := hx0.rd.is.len
                have hFl : F.length ≤ 16384 := by rw [← eF]; exact Nat.le_trans (List.length_filter_le _ _) hlen9
                have HF := hi eF
                have HFL := hi hFl
                obtain ⟨r, er⟩ : ∃ r, memZ S m = r := ⟨_, rfl⟩
                have HRR := hi er
                have hx9 := hx0.below ((Below.refl _ _).drew)
                clear eF hFl er hlen9
                go_region_held3 (fun w' => w'.cell? ⟨X, 0, none⟩ = some (.int .i64 d) ∧ w'.cell? ⟨X, 1, none⟩ = some (.int .i64 m) ∧ Rx w X d m b S ll (.slice al ll.length cl) w')
                  (first
                    | exact Rx.all hx9
                    | exact Rx.all hx
                    | go_keep)
                  (first
                    | (go_at_call 12; (with_reducible refine (alike_x w X d m b S ll al cl _ (by go_split_ands; assumption)).mono ?_); rintro e w7 ⟨rfl, hb⟩; have hx := Rx.below (by go_split_ands; assumption : Rx w X d m b S ll (.slice al ll.length cl) _) hb; clear hb)
                    | (go_at_call 21; (with_reducible refine (has_x w X d m b S ll al cl _ (by go_split_ands; assumption) r HRR.out).mono ?_); rintro e w8 ⟨rfl, rfl⟩)
                    | (go_at_call 13; (with_reducible refine (refHas_x w X d m b S ll al cl _ (by go_split_ands; assumption) r HRR.out).mono ?_); rintro e w9 ⟨rfl, rfl⟩)
                    | (go_at_call 23; (with_reducible refine (from_x w X d m b S ll al cl _ (by go_split_ands; assumption) F HF.out).mono ?_); rintro e w10 ⟨a10, c10, rfl, hi10, hb⟩; have hx := Rx.below (by go_split_ands; assumption : Rx w X d m b S ll (.slice al ll.length cl) _) hb; clear hb)
                    | (go_at_call 24; (with_reducible refine (refFrom_x w X d m b S ll al cl _ (by go_split_ands; assumption) F HF.out).mono ?_); rintro e w11 ⟨a11, c11, rfl, hi11, hb⟩; have hx := Rx.below (by go_split_ands; assumption : Rx w X d m b S ll (.slice al ll.length cl) _) hb; have hi12 := intsAt_grew (by assumption : IntsAt _ (.slice _ F.length _) F) hb; clear hb)
                    | (go_at_call 22; (with_reducible refine (same_x F _ _ _ _ _ (by have := HFL.out; omega) (by assumption) (by assumption)).mono ?_); rintro e w12 ⟨rfl, hb⟩; have hx := Rx.below (by go_split_ands; assumption : Rx w X d m b S ll (.slice al ll.length cl) _) hb; clear hb))
                go_wp2
                go_roundw
                case rel => exact ⟨k + 1, b, S, ll, al, cl, rfl, rfl, by go_num, hi ⟨HLT.out, hx.rd⟩⟩
                case measure => have := HLT.out; simp only [intOf]; omega
        · have ek : k = acts.length := by omega
          subst ek
          have HB4 := hi hR.s.2.1
          clear hR hlt hk HH HR9
          go_wp2
          go_ret
          exact ⟨rfl, HB4.out⟩

set_option maxRecDepth 100000 in
set_option maxHeartbeats 1000000 in
theorem setsDoes_any (xs : List Int) (acts : List (Int × Int)) (a o : Option Addr) (ca co : Nat) (w : World) (hT : TabW w) (hm : IntsAt w (.slice a xs.length ca) xs) (ho : ActsAt w (.slice o acts.length co) acts) :
    Calls Tryd.prog 3 #[.slice a xs.length ca, .slice o acts.length co] w fun e w' => e = .returned (.bool true) ∧ Below w.heap.size w w' := by
  by_cases l1 : xs.length ≤ 2000
  · by_cases l2 : acts.length ≤ 2000
    · exact setsDoes_in xs acts a o ca co w hT hm ho l1 l2
    · have HT := hi hT
      have i1 : (xs.length : Int) ≤ 2000 := by omega
      have i2 : (2000 : Int) < (acts.length : Int) := by omega
      clear hT hm ho l1 l2
      go_enter Tryd.func3, Tryd.ntmps3
      go_wp2_with (go_at_call 9; refine (awake_any w HT.out).mono ?_; rintro e w1 ⟨rfl, hb⟩)
      go_ret
      exact ⟨rfl, hb⟩
  · have HT := hi hT
    have i1 : (2000 : Int) < (xs.length : Int) := by omega
    clear hT hm ho l1
    go_enter Tryd.func3, Tryd.ntmps3
    go_wp2_with (go_at_call 9; refine (awake_any w HT.out).mono ?_; rintro e w1 ⟨rfl, hb⟩)
    go_ret
    exact ⟨rfl, hb⟩

end Go.Proofs.YtmdlknddlmpddaaDoor
