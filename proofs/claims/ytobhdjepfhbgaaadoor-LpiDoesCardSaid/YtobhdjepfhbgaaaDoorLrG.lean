/-
  begun: two parts of both sides in one memory of 200 bytes.
-/
import Derived.Test.YtobhdjepfhbgaaaDoorLrF
namespace Go.Proofs.YtobhdjepfhbgaaaDoor
open Go.ChangeShapes Go.WideShapes Go.ChangeAt Go.RowKit Go.Shelf
set_option linter.unusedVariables false
set_option linter.unusedSimpArgs false

abbrev pt (b : Nat) : Value := .pointer (some ⟨b, 0, none⟩)
abbrev no : Value := .pointer none
@[reducible] def prC (p q l0 l1 d0 d1 : Value) (f : Bool) : Array Value := #[p, q, l0, l1, d0, d1, .bool f]
theorem CB.seven {W : World} {b : Nat} {t : TypeId} {v0 v1 v2 v3 v4 v5 v6 : Value} (h : CB W b t #[v0, v1, v2, v3, v4, v5, v6]) : W.cell? ⟨b, 0, none⟩ = some v0 ∧ W.cell? ⟨b, 1, none⟩ = some v1 ∧ W.cell? ⟨b, 2, none⟩ = some v2 ∧ W.cell? ⟨b, 3, none⟩ = some v3 ∧ W.cell? ⟨b, 4, none⟩ = some v4 ∧ W.cell? ⟨b, 5, none⟩ = some v5 ∧ W.cell? ⟨b, 6, none⟩ = some v6 := ⟨h.cell 0, h.cell 1, h.cell 2, h.cell 3, h.cell 4, h.cell 5, h.cell 6⟩
abbrev set7 (W : World) (b : Nat) (v0 v1 v2 v3 v4 v5 v6 : Value) : World := ((((((W.setCell ⟨b, 0, none⟩ v0).setCell ⟨b, 1, none⟩ v1).setCell ⟨b, 2, none⟩ v2).setCell ⟨b, 3, none⟩ v3).setCell ⟨b, 4, none⟩ v4).setCell ⟨b, 5, none⟩ v5).setCell ⟨b, 6, none⟩ v6
theorem CB.set7 {W : World} {b : Nat} {t : TypeId} {a0 a1 a2 a3 a4 a5 a6 : Value} (h : CB W b t #[a0, a1, a2, a3, a4, a5, a6]) (v0 v1 v2 v3 v4 v5 v6 : Value) : CB (set7 W b v0 v1 v2 v3 v4 v5 v6) b t #[v0, v1, v2, v3, v4, v5, v6] := by
  have k := ((((((h.set 0 v0).set 1 v1).set 2 v2).set 3 v3).set 4 v4).set 5 v5).set 6 v6
  simp only [List.setIfInBounds_toArray, List.set_cons_zero, List.set_cons_succ] at k
  exact k
theorem kept_s7 (W : World) (b : Nat) (v0 v1 v2 v3 v4 v5 v6 : Value) : Kept (· = b) W (set7 W b v0 v1 v2 v3 v4 v5 v6) := ((((((kept_setCell _ _ _ _).trans (kept_setCell _ _ _ _)).trans (kept_setCell _ _ _ _)).trans (kept_setCell _ _ _ _)).trans (kept_setCell _ _ _ _)).trans (kept_setCell _ _ _ _)).trans (kept_setCell _ _ _ _)
theorem results_pr {fn : Func} {c : Tmp} (h : fn.results = #[.cell c 32]) (tmps : Array Value) (w : World) (b : Nat) (v0 v1 v2 v3 v4 v5 v6 : Value) (hp : tmps.getD c undef = .pointer (some ⟨b, 0, none⟩)) (hb : CB w b 32 #[v0, v1, v2, v3, v4, v5, v6]) :
    (results fn tmps).run Tryd.prog w = .ok (.agg #[v0, v1, v2, v3, v4, v5, v6]) w := by
  have hp' : tmps[c]?.getD undef = .pointer (some ⟨b, 0, none⟩) := by simpa using hp
  obtain ⟨c0, c1, c2, c3, c4, c5, c6⟩ := hb.seven
  simp [results, h, go_sem, hp', c0, c1, c2, c3, c4, c5, c6]

/-- On the way: both memories, the pair's box, the result's. -/
structure BgM (w : World) (p g q h : Nat) (bs bs' : List Nat) (cs : Array Value) (W : World) : Prop where
  m : MemAt 96 W p g 200 bs
  r : MemAt 107 W q h 200 bs'
  P : CB W (w.heap.size + 1) 32 cs
  R : CB W w.heap.size 32 (prC no no no no no no false)
  lo : w.heap.size + 2 ≤ p ∧ w.heap.size + 2 ≤ g ∧ w.heap.size + 2 ≤ q ∧ w.heap.size + 2 ≤ h
  ne : g ≠ h ∧ q ≠ p
  below : Below w.heap.size w W
theorem BgM.later {w : World} {p g q h : Nat} {bs bs' : List Nat} {cs : Array Value} {W W' : World} (a : BgM w p g q h bs bs' cs W) (k : Below W.heap.size W W') : BgM w p g q h bs bs' cs W' :=
  ⟨a.m.below k, a.r.below k, a.P.below k, a.R.below k, a.lo, a.ne, a.below.more k⟩
theorem BgM.far {w : World} {p g q h : Nat} {bs bs' : List Nat} {cs : Array Value} {W : World} (a : BgM w p g q h bs bs' cs W) : p ≠ g ∧ p ≠ q ∧ p ≠ h ∧ g ≠ q ∧ g ≠ h ∧ q ≠ h := ⟨a.m.neb a.m, fun e => a.ne.2 e.symm, a.m.neb a.r, fun e => a.r.neb a.m e.symm, a.ne.1, a.r.neb a.r⟩
theorem BgM.put {w : World} {p g q h : Nat} {bs bs' bs2 : List Nat} {cs : Array Value} {W W' : World} (a : BgM w p g q h bs bs' cs W) (hm : MemAt 96 W' p g 200 bs2) (k : Kept (· = g) W W') : BgM w p g q h bs2 bs' cs W' := by
  obtain ⟨n1, n2, n3, n4, n5, n6⟩ := a.far
  have hl := a.lo
  exact ⟨hm, a.r.kept k (fun e => n4 e.symm) (fun e => n5 e.symm), a.P.keptB k (by show ¬ (w.heap.size + 1 = g); omega), a.R.keptB k (by show ¬ (w.heap.size = g); omega), a.lo, a.ne, a.below.trans (k.toBelow a.below.size (fun b e => by have e' : b = g := e; omega))⟩
theorem BgM.rput {w : World} {p g q h : Nat} {bs bs' bs2 : List Nat} {cs : Array Value} {W W' : World} (a : BgM w p g q h bs bs' cs W) (hm : MemAt 107 W' q h 200 bs2) (k : Kept (· = h) W W') : BgM w p g q h bs bs2 cs W' := by
  obtain ⟨n1, n2, n3, n4, n5, n6⟩ := a.far
  have hl := a.lo
  exact ⟨a.m.kept k n3 n5, hm, a.P.keptB k (by show ¬ (w.heap.size + 1 = h); omega), a.R.keptB k (by show ¬ (w.heap.size = h); omega), a.lo, a.ne, a.below.trans (k.toBelow a.below.size (fun b e => by have e' : b = h := e; omega))⟩
/-- The pair's box is turned. -/
theorem BgM.turn {w : World} {p g q h : Nat} {bs bs' : List Nat} {cs cs' : Array Value} {W W' : World} (a : BgM w p g q h bs bs' cs W) (hP : CB W' (w.heap.size + 1) 32 cs') (k : Kept (· = w.heap.size + 1) W W') : BgM w p g q h bs bs' cs' W' := by
  have hl := a.lo
  exact ⟨a.m.kept k (by show ¬ (p = _); omega) (by show ¬ (g = _); omega), a.r.kept k (by show ¬ (q = _); omega) (by show ¬ (h = _); omega), hP, a.R.keptB k (by show ¬ (w.heap.size = w.heap.size + 1); omega), a.lo, a.ne, a.below.trans (k.toBelow a.below.size (fun b e => by have e' : b = w.heap.size + 1 := e; omega))⟩
theorem BgM.first {w w1 : World} {p g q h : Nat} (hB : Both ((w.alloc (.cells (prC no no no no no no false) 32)).alloc (.cells (prC no no no no no no false) 32)) p g 200 q h 200 (List.replicate 200 0) w1) :
    BgM w p g q h (List.replicate 200 0) (List.replicate 200 0) (prC no no no no no no false) w1 := by
  have cP := CB.new (w.alloc (.cells (prC no no no no no no false) 32)) 32 (prC no no no no no no false)
  have cR := (CB.new w 32 (prC no no no no no no false)).alloc (.cells (prC no no no no no no false) 32)
  have a1 := hB.mem.p
  have a2 := hB.mem.g
  have a3 := hB.ql
  have a4 := hB.hl
  simp only [World.size_alloc] at cP a1 a2 a3 a4
  exact ⟨hB.mem.mem, hB.ref, cP.below hB.mem.below, cR.below hB.mem.below, ⟨by omega, by omega, by omega, by omega⟩, ⟨hB.apart, hB.qp⟩, (bal2' w _ _).more hB.mem.below⟩

/-- One part of both sides, made between n and m. -/
structure Prt (n m l s c d f a : Nat) (x : St) (W : World) : Prop where
  lp : LpB W l s c a S0 x
  ld : LdB W d f a (.slice none 0 0) x
  lo : n ≤ l ∧ n ≤ s ∧ n ≤ c
  mid : (l < d ∧ s < d ∧ c < d) ∧ (l < f ∧ s < f ∧ c < f)
  hi : d < m ∧ f < m
theorem Prt.kept {n m l s c d f a P : Nat} {x : St} {W W' : World} (h : Prt n m l s c d f a x W) (k : Kept (· = P) W W') (hP : P < n) : Prt n m l s c d f a x W' := by
  obtain ⟨h1, h2, ⟨l1, l2, l3⟩, ⟨⟨m1, m2, m3⟩, ⟨m4, m5, m6⟩⟩, h5⟩ := h
  exact ⟨h1.kept k (by show ¬ (l = P); omega) (by show ¬ (s = P); omega) (by show ¬ (c = P); omega), h2.kept k (by show ¬ (d = P); omega) (by show ¬ (f = P); omega) (fun b hy => by obtain ⟨_, _, _, e⟩ := hy; cases e), ⟨l1, l2, l3⟩, ⟨⟨m1, m2, m3⟩, ⟨m4, m5, m6⟩⟩, h5⟩
theorem Prt.later {n m l s c d f a : Nat} {x : St} {W W' : World} (h : Prt n m l s c d f a x W) (k : Below W.heap.size W W') : Prt n m l s c d f a x W' := ⟨h.lp.below k, h.ld.below k, h.lo, h.mid, h.hi⟩
/-- All of it is a pair. -/
theorem prx_mk {w : World} {p g q h : Nat} {bs bs' : List Nat} {W : World} {n m m2 l0 s0 c0 d0 f0 a0 l1 s1 c1 d1 f1 a1 : Nat} {x y : St} (am : MemAt 96 W p g 200 bs) (ar : MemAt 107 W q h 200 bs') (far : p ≠ g ∧ p ≠ q ∧ p ≠ h ∧ g ≠ q ∧ g ≠ h ∧ q ≠ h) (lo : w.heap.size + 2 ≤ p ∧ w.heap.size + 2 ≤ g ∧ w.heap.size + 2 ≤ q ∧ w.heap.size + 2 ≤ h) (below : Below w.heap.size w W) (A : Prt n m l0 s0 c0 d0 f0 a0 x W) (B : Prt m m2 l1 s1 c1 d1 f1 a1 y W) (hn : p < n ∧ g < n ∧ q < n ∧ h < n) (ht : TabW w) :
    PrX w (fun _ => False) p q l0 l1 d0 d1 ⟨bs, x, y⟩ ⟨bs', x, y⟩ W := by
  obtain ⟨n1, n2, n3, n4, n5, n6⟩ := far
  obtain ⟨o1, o2, o3, o4⟩ := lo
  obtain ⟨h1, h2, h3, h4⟩ := hn
  obtain ⟨A1, A2, ⟨A3, A4, A5⟩, ⟨⟨A6, A7, A8⟩, ⟨A9, A10, A11⟩⟩, ⟨A12, A13⟩⟩ := A
  obtain ⟨B1, B2, ⟨B3, B4, B5⟩, ⟨⟨B6, B7, B8⟩, ⟨B9, B10, B11⟩⟩, ⟨B12, B13⟩⟩ := B
  have D0 : ∀ b, ¬ Yb (.slice none 0 0) b := fun b hy => by obtain ⟨_, _, _, e⟩ := hy; cases e
  refine ⟨⟨fun b => if b = p ∨ b = g then 1 else if b = q ∨ b = h then 2 else if b = l0 ∨ b = s0 ∨ b = c0 then 3 else if b = l1 ∨ b = s1 ∨ b = c1 then 4 else if b = d0 ∨ b = f0 then 5 else if b = d1 ∨ b = f1 then 6 else 0, ⟨⟨g, 200, am, ?_, ?_⟩, ⟨h, 200, ar, ?_, ?_⟩⟩, ⟨⟨s0, c0, a0, S0, A1, ?_, ?_, ?_⟩, ⟨s1, c1, a1, S0, B1, ?_, ?_, ?_⟩⟩, ⟨⟨f0, a0, _, A2, ?_, ?_, fun b hy => absurd hy (D0 b)⟩, ⟨f1, a1, _, B2, ?_, ?_, fun b hy => absurd hy (D0 b)⟩⟩, fun b hb => ?_, fun b hb => absurd hb id⟩, ht.below below, below, ht.lt⟩
  all_goals show (if _ then _ else _) = _
  · exact if_pos (.inl rfl)
  · exact if_pos (.inr rfl)
  · rw [if_neg (by omega), if_pos (.inl rfl)]
  · rw [if_neg (by omega), if_pos (.inr rfl)]
  · rw [if_neg (by omega), if_neg (by omega), if_pos (.inl rfl)]
  · rw [if_neg (by omega), if_neg (by omega), if_pos (.inr (.inl rfl))]
  · rw [if_neg (by omega), if_neg (by omega), if_pos (.inr (.inr rfl))]
  · rw [if_neg (by omega), if_neg (by omega), if_neg (by omega), if_pos (.inl rfl)]
  · rw [if_neg (by omega), if_neg (by omega), if_neg (by omega), if_pos (.inr (.inl rfl))]
  · rw [if_neg (by omega), if_neg (by omega), if_neg (by omega), if_pos (.inr (.inr rfl))]
  · rw [if_neg (by omega), if_neg (by omega), if_neg (by omega), if_neg (by omega), if_pos (.inl rfl)]
  · rw [if_neg (by omega), if_neg (by omega), if_neg (by omega), if_neg (by omega), if_pos (.inr rfl)]
  · rw [if_neg (by omega), if_neg (by omega), if_neg (by omega), if_neg (by omega), if_neg (by omega), if_pos (.inl rfl)]
  · rw [if_neg (by omega), if_neg (by omega), if_neg (by omega), if_neg (by omega), if_neg (by omega), if_pos (.inr rfl)]
  · rw [if_neg (by omega), if_neg (by omega), if_neg (by omega), if_neg (by omega), if_neg (by omega), if_neg (by omega)]

/-- With the numbers of both. -/
structure BgA (w : World) (p g q h : Nat) (bs : List Nat) (A n0 n1 : Nat) (cs : Array Value) (W : World) : Prop where
  M : BgM w p g q h bs bs cs W
  arr : CB W A 84 #[.int .i64 n0, .int .i64 n1]
  an : w.heap.size + 1 < A
theorem BgA.later {w : World} {p g q h A n0 n1 : Nat} {bs : List Nat} {cs : Array Value} {W W' : World} (a : BgA w p g q h bs A n0 n1 cs W) (k : Below W.heap.size W W') : BgA w p g q h bs A n0 n1 cs W' := ⟨a.M.later k, a.arr.below k, a.an⟩
theorem BgA.turn {w : World} {p g q h A n0 n1 : Nat} {bs : List Nat} {cs cs' : Array Value} {W W' : World} (a : BgA w p g q h bs A n0 n1 cs W) (hP : CB W' (w.heap.size + 1) 32 cs') (k : Kept (· = w.heap.size + 1) W W') : BgA w p g q h bs A n0 n1 cs' W' :=
  ⟨a.M.turn hP k, a.arr.keptB k (by have := a.an; show ¬ (A = w.heap.size + 1); omega), a.an⟩
/-- What lies through what the rounds do. -/
structure Car (P : Nat) (T : World → Prop) : Prop where
  later : ∀ W W', T W → Below W.heap.size W W' → T W'
  turn : ∀ W W', T W → Kept (· = P) W W' → T W'
theorem Car.none (P : Nat) : Car P (fun _ => True) := ⟨fun _ _ _ _ => trivial, fun _ _ _ _ => trivial⟩
theorem Car.prt {P n m l s c d f a : Nat} {x : St} (h : P < n) : Car P (Prt n m l s c d f a x) := ⟨fun _ _ h k => h.later k, fun _ _ h' k => h'.kept k h⟩
theorem Car.lp {P l s c a : Nat} {x : St} (h : P < l ∧ P < s ∧ P < c) : Car P (fun W => LpB W l s c a S0 x) := ⟨fun _ _ h k => h.below k, fun _ _ h' k => h'.kept k (by show ¬ (l = P); omega) (by show ¬ (s = P); omega) (by show ¬ (c = P); omega)⟩
theorem Car.and {P : Nat} {T U : World → Prop} (a : Car P T) (b : Car P U) : Car P (fun W => T W ∧ U W) := ⟨fun W W' h k => ⟨a.later W W' h.1 k, b.later W W' h.2 k⟩, fun W W' h k => ⟨a.turn W W' h.1 k, b.turn W W' h.2 k⟩⟩
/-- And with both windows of a round, made at v. -/
structure BgC (w : World) (p g q h : Nat) (bs : List Nat) (A n0 n1 : Nat) (cs : Array Value) (v : World) (a1 b1 a2 b2 : Int) (T : World → Prop) (W : World) : Prop where
  G : BgA w p g q h bs A n0 n1 cs W
  u : CB W v.heap.size 49 #[.int .i64 a1, .int .i64 b1]
  t : CB W (v.heap.size + 1) 49 #[.int .i64 a2, .int .i64 b2]
  sz : v.heap.size + 2 ≤ W.heap.size
  vn : w.heap.size + 1 < v.heap.size
  car : Car (w.heap.size + 1) T
  x : T W
theorem BgC.first {w : World} {p g q h A n0 n1 : Nat} {bs : List Nat} {cs : Array Value} {v : World} (a1 b1 a2 b2 : Int) (T : World → Prop) (a : BgA w p g q h bs A n0 n1 cs v) (hc : Car (w.heap.size + 1) T) (x : T v) : BgC w p g q h bs A n0 n1 cs v a1 b1 a2 b2 T (((v.alloc (.cells #[.int .i64 a1, .int .i64 b1] 49)).alloc (.cells #[.int .i64 a2, .int .i64 b2] 49)).drew) := by
  have hk := (bal2' v (.cells #[.int .i64 a1, .int .i64 b1] 49) (.cells #[.int .i64 a2, .int .i64 b2] 49)).drew
  have c2 := CB.new (v.alloc (.cells #[.int .i64 a1, .int .i64 b1] 49)) 49 #[.int .i64 a2, .int .i64 b2]
  rw [World.size_alloc] at c2
  exact ⟨a.later hk, (CB.new v _ _).alloc _, c2, by simp, a.M.P.lt, hc, hc.later _ _ x hk⟩
theorem BgC.later {w : World} {p g q h A n0 n1 : Nat} {bs : List Nat} {cs : Array Value} {v : World} {a1 b1 a2 b2 : Int} {T : World → Prop} {W W' : World} (a : BgC w p g q h bs A n0 n1 cs v a1 b1 a2 b2 T W) (k : Below W.heap.size W W') : BgC w p g q h bs A n0 n1 cs v a1 b1 a2 b2 T W' := ⟨a.G.later k, a.u.below k, a.t.below k, Nat.le_trans a.sz k.size, a.vn, a.car, a.car.later _ _ a.x k⟩
theorem BgC.turn {w : World} {p g q h A n0 n1 : Nat} {bs : List Nat} {cs cs' : Array Value} {v : World} {a1 b1 a2 b2 : Int} {T : World → Prop} {W W' : World} (a : BgC w p g q h bs A n0 n1 cs v a1 b1 a2 b2 T W) (hP : CB W' (w.heap.size + 1) 32 cs') (k : Kept (· = w.heap.size + 1) W W') :
    BgC w p g q h bs A n0 n1 cs' v a1 b1 a2 b2 T W' :=
  ⟨a.G.turn hP k, a.u.keptB k (by have := a.vn; show ¬ (v.heap.size = w.heap.size + 1); omega), a.t.keptB k (by have := a.vn; show ¬ (v.heap.size + 1 = w.heap.size + 1); omega), Nat.le_trans a.sz k.size, a.vn, a.car, a.car.turn _ _ a.x k⟩
theorem BgC.add {w : World} {p g q h A n0 n1 : Nat} {bs : List Nat} {cs : Array Value} {v : World} {a1 b1 a2 b2 : Int} {T U : World → Prop} {W : World} (a : BgC w p g q h bs A n0 n1 cs v a1 b1 a2 b2 T W) (b : Car (w.heap.size + 1) U) (hx : U W) : BgC w p g q h bs A n0 n1 cs v a1 b1 a2 b2 (fun V => T V ∧ U V) W := ⟨a.G, a.u, a.t, a.sz, a.vn, a.car.and b, a.x, hx⟩
theorem BgC.base {w : World} {p g q h A n0 n1 : Nat} {bs : List Nat} {cs : Array Value} {v : World} {a1 b1 a2 b2 : Int} {T U : World → Prop} {W : World} (a : BgC w p g q h bs A n0 n1 cs v a1 b1 a2 b2 (fun V => T V ∧ U V) W) (b : Car (w.heap.size + 1) T) : BgC w p g q h bs A n0 n1 cs v a1 b1 a2 b2 T W := ⟨a.G, a.u, a.t, a.sz, a.vn, b, a.x.1⟩
theorem putL_len {bs : List Nat} {a s : Int} {ys : List Nat} : (putL bs a s ys).length = bs.length := by
  unfold putL
  split
  · rename_i h
    simp only [putOk, holdsB, Bool.and_eq_true, decide_eq_true_eq] at h
    exact splice_len _ _ _ (by omega)
  · rfl

theorem fresh_at {w : World} {p g q h A n0 n1 : Nat} {bs : List Nat} {cs : Array Value} {W : World} (a : BgA w p g q h bs A n0 n1 cs W) : p < W.heap.size ∧ g < W.heap.size ∧ q < W.heap.size ∧ h < W.heap.size := ⟨a.M.m.plt, a.M.m.bytes.lt, a.M.r.plt, a.M.r.bytes.lt⟩
/-- The rounds. -/
def BgI (w : World) (p g q h : Nat) (bs : List Nat) (A n0 n1 : Nat) (x0 x1 : St) (k : Nat) (W : World) : Prop :=
  (k = 0 ∧ BgA w p g q h bs A n0 n1 (prC (pt p) (pt q) no no no no false) W) ∨
  (k = 1 ∧ ∃ n m l s c d f, BgA w p g q h bs A n0 n1 (prC (pt p) (pt q) (pt l) no (pt d) no false) W ∧ Prt n m l s c d f n0 x0 W ∧ m ≤ W.heap.size ∧ p < n ∧ g < n ∧ q < n ∧ h < n) ∨
  (k = 2 ∧ ∃ n m m2 l s c d f l' s' c' d' f', BgA w p g q h bs A n0 n1 (prC (pt p) (pt q) (pt l) (pt l') (pt d) (pt d') false) W ∧ Prt n m l s c d f n0 x0 W ∧ Prt m m2 l' s' c' d' f' n1 x1 W ∧ p < n ∧ g < n ∧ q < n ∧ h < n)

set_option maxRecDepth 100000 in
set_option maxHeartbeats 8000000 in
theorem begun_any (a b : Nat) (ha : a < 256) (hb : b < 256) (sv : Value) (ys : List Nat) (hyl : ys.length ≤ 9223372036854775807) (w : World) (hT : TabW w) (hy : BytesIn w sv ys) :
    Calls Tryd.prog 9 #[.int .u8 a, .int .u8 b, sv] w fun e w' => ∃ p q l0 l1 d0 d1 bs, e = .returned (.agg (prC (pt p) (pt q) (pt l0) (pt l1) (pt d0) (pt d1) true)) ∧ bs.length = 200 ∧ (∀ x ∈ bs, x < 256) ∧ PrX w (fun _ => False) p q l0 l1 d0 d1 ⟨bs, newX (1 + a % 70) 0 70 160 9, newX (1 + b % 70) 80 70 180 9⟩ ⟨bs, newX (1 + a % 70) 0 70 160 9, newX (1 + b % 70) 80 70 180 9⟩ w' := by
  obtain ⟨ad, cap, rfl, hcap, hmem, hrow⟩ := id hy
  obtain ⟨n0, hn0⟩ : ∃ n, 1 + a % 70 = n := ⟨_, rfl⟩
  obtain ⟨n1, hn1⟩ : ∃ n, 1 + b % 70 = n := ⟨_, rfl⟩
  have hm0 : 1 ≤ n0 ∧ n0 ≤ 70 := by omega
  have hm1 : 1 ≤ n1 ∧ n1 ≤ 70 := by omega
  rw [hn0, hn1]
  obtain ⟨x0, hx0⟩ : ∃ x, newX n0 0 70 160 9 = x := ⟨_, rfl⟩
  obtain ⟨x1, hx1⟩ : ∃ x, newX n1 80 70 180 9 = x := ⟨_, rfl⟩
  rw [hx0, hx1]
  have HM := hi (And.intro hm0 hm1)
  have HT := hi hT
  have HLN := hi (show ∀ W, Calls Tryd.prog 19 #[.int .i64 200] W (fun e w' => ∃ p g q h, e = .returned (.tuple #[.pointer (some ⟨p, 0, none⟩), .pointer (some ⟨q, 0, none⟩)]) ∧ Both W p g 200 q h 200 (List.replicate 200 0) w') from fun W => lawNew_any 200 W)
  have HN0 := hi (show ∀ (p g : Nat) (bs : List Nat) (hl : bs.length = 200) (W : World) (hM : MemAt 96 W p g 200 bs), Calls Tryd.prog 20 #[.pointer (some ⟨p, 0, none⟩), .int .i64 n0, .agg #[.int .i64 0, .int .i64 70], .agg #[.int .i64 160, .int .i64 9]] W (fun e w' => ∃ l s c, e = .returned (.tuple #[.pointer (some ⟨l, 0, none⟩), .int .i64 0]) ∧ LpB w' l s c n0 S0 x0 ∧ W.heap.size ≤ l ∧ W.heap.size ≤ s ∧ W.heap.size ≤ c ∧ Below W.heap.size W w') from fun p g bs hl W hM => hx0 ▸ new_yes_lpi p g 200 bs n0 0 70 160 9 (by omega) (by omega) (by omega) (by omega) (by omega) (by omega) W hM)
  have HN1 := hi (show ∀ (p g : Nat) (bs : List Nat) (hl : bs.length = 200) (W : World) (hM : MemAt 96 W p g 200 bs), Calls Tryd.prog 20 #[.pointer (some ⟨p, 0, none⟩), .int .i64 n1, .agg #[.int .i64 80, .int .i64 70], .agg #[.int .i64 180, .int .i64 9]] W (fun e w' => ∃ l s c, e = .returned (.tuple #[.pointer (some ⟨l, 0, none⟩), .int .i64 0]) ∧ LpB w' l s c n1 S0 x1 ∧ W.heap.size ≤ l ∧ W.heap.size ≤ s ∧ W.heap.size ≤ c ∧ Below W.heap.size W w') from fun p g bs hl W hM => hx1 ▸ new_yes_lpi p g 200 bs n1 80 70 180 9 (by omega) (by omega) (by omega) (by omega) (by omega) (by omega) W hM)
  have HR0 := hi (show ∀ (q h : Nat) (bs : List Nat) (hl : bs.length = 200) (W : World) (hM : MemAt 107 W q h 200 bs), Calls Tryd.prog 21 #[.pointer (some ⟨q, 0, none⟩), .int .i64 n0, .agg #[.int .i64 0, .int .i64 70], .agg #[.int .i64 160, .int .i64 9]] W (fun e w' => ∃ d f, e = .returned (.tuple #[.pointer (some ⟨d, 0, none⟩), .int .i64 0]) ∧ LdB w' d f n0 (.slice none 0 0) x0 ∧ W.heap.size ≤ d ∧ W.heap.size ≤ f ∧ Below W.heap.size W w') from fun q h bs hl W hM => hx0 ▸ rnew_yes q h 200 bs n0 0 70 160 9 (by omega) (by omega) (by omega) (by omega) (by omega) (by omega) W hM)
  have HR1 := hi (show ∀ (q h : Nat) (bs : List Nat) (hl : bs.length = 200) (W : World) (hM : MemAt 107 W q h 200 bs), Calls Tryd.prog 21 #[.pointer (some ⟨q, 0, none⟩), .int .i64 n1, .agg #[.int .i64 80, .int .i64 70], .agg #[.int .i64 180, .int .i64 9]] W (fun e w' => ∃ d f, e = .returned (.tuple #[.pointer (some ⟨d, 0, none⟩), .int .i64 0]) ∧ LdB w' d f n1 (.slice none 0 0) x1 ∧ W.heap.size ≤ d ∧ W.heap.size ≤ f ∧ Below W.heap.size W w') from fun q h bs hl W hM => hx1 ▸ rnew_yes q h 200 bs n1 80 70 180 9 (by omega) (by omega) (by omega) (by omega) (by omega) (by omega) W hM)
  have HPU := hi (show ∀ (v : Value) (zs : List Nat) (hz : zs.length ≤ 9223372036854775807) (p g : Nat) (W : World) (hM : MemAt 96 W p g 200 (List.replicate 200 0)) (hv : BytesIn W v zs), Calls Tryd.prog 37 #[.pointer (some ⟨p, 0, none⟩), .agg #[.int .i64 0, .int .i64 200], v] W (fun e w' => (∃ r, e = .returned r) ∧ MemAt 96 w' p g 200 (putL (List.replicate 200 0) 0 200 zs) ∧ Kept (· = g) W w') from fun v zs hz p g W hM hv => (put_any p g 200 _ 0 200 v zs W hM hv hz (by decide) (by decide) (by decide) (by decide)).mono (fun e w' ⟨h1, h2, h3⟩ => ⟨⟨_, h1⟩, h2, h3⟩))
  have HRP := hi (show ∀ (v : Value) (zs : List Nat) (hz : zs.length ≤ 9223372036854775807) (q h : Nat) (W : World) (hM : MemAt 107 W q h 200 (List.replicate 200 0)) (hv : BytesIn W v zs) (hap : ∀ b off cp, v = .slice (some ⟨b, off, none⟩) zs.length cp → zs ≠ [] → ¬ b = h), Calls Tryd.prog 38 #[.pointer (some ⟨q, 0, none⟩), .agg #[.int .i64 0, .int .i64 200], v] W (fun e w' => (∃ r, e = .returned r) ∧ MemAt 107 w' q h 200 (putL (List.replicate 200 0) 0 200 zs) ∧ Kept (· = h) W w') from fun v zs hz q h W hM hv hap => (rput_any q h 200 _ 0 200 v zs W hM hv hz hap (by decide) (by decide) (by decide) (by decide)).mono (fun e w' ⟨h1, h2, h3⟩ => ⟨⟨_, h1⟩, h2, h3⟩))
  have HF := hi (fun (p g q h : Nat) (w1 : World) hB => BgM.first (w := w) (w1 := w1) (p := p) (g := g) (q := q) (h := h) hB)
  have HW0 := hi (And.intro hn0 hn1)
  have hwa : IntKind.i64.wrap (1 + ((a : Int) % 70)) = (n0 : Int) := by rw [IntKind.wrap_i64]; omega
  have hwb : IntKind.i64.wrap (1 + ((b : Int) % 70)) = (n1 : Int) := by rw [IntKind.wrap_i64]; omega
  have hz : (w.heap.size : Nat) < w.heap.size + 1 := by omega
  by_cases hc : 200 < ys.length
  · have hc2 : (200 : Int) < (ys.length : Int) := by omega
    have hcc : (200 : Int) ≤ (cap : Int) := by omega
    obtain ⟨b2, off2, rfl, hcell⟩ := hrow (fun e => by rw [e] at hc; simp at hc)
    have HZ0 := hi (show BytesIn w (.slice (some ⟨b2, off2, none⟩) 200 cap) (ys.take 200) from by
      have e200 : (ys.take 200).length = 200 := by simp; omega
      refine ⟨some ⟨b2, off2, none⟩, cap, by rw [e200], by rw [e200]; omega, fun x hx => hmem x (List.mem_of_mem_take hx), fun hne => ⟨b2, off2, rfl, fun j hj => ?_⟩⟩
      have hj2 : j < 200 := by omega
      rw [hcell j (by omega), List.getElem?_take_of_lt hj2])
    clear hcell
    have HZ := hi (show BytesIn w (.slice (some ⟨b2, off2, none⟩) 200 cap) (ys.take 200) from HZ0.out)
    have HZL := hi (show (ys.take 200).length ≤ 9223372036854775807 from by simp; omega)
    have HZH := hi (show ∀ h, w.heap.size ≤ h → ∀ b off cp, (.slice (some ⟨b2, off2, none⟩) 200 cap : Value) = .slice (some ⟨b, off, none⟩) (ys.take 200).length cp → (ys.take 200) ≠ [] → ¬ b = h from fun h hh b off cp e hne hb => by
    obtain ⟨a2, c2, e2, _, _, hr⟩ := HZ.out
    obtain ⟨b3, o3, rfl, hc3⟩ := hr hne
    rw [e2] at e
    cases e
    have h0 := World.block_lt_of_cell? _ _ (hc3 0 (List.length_pos_iff.2 hne))
    simp only at h0
    omega)
    clear hy hyl hcap hmem hrow hT ha hb
    go_enter Tryd.func9, Tryd.ntmps9
    go_wp2_with (first
      | (go_at_call 19; ((with_reducible refine (HLN.out _).mono ?_); rintro e w1 ⟨p, g, q, h, rfl, hB1⟩; have H1 := hi (HF.out p g q h w1 hB1); clear hB1; obtain ⟨r0, r1, r2, r3, r4, r5, r6⟩ := H1.out.P.seven; have rf := H1.out.P.frozen; have rz := H1.out.P.lt))
      | (go_at_call 37; (have H2 := hi (H1.out.turn (cs' := prC (pt p) (pt q) no no no no false) ((H1.out.P.set 0 (pt p)).set 1 (pt q)) ((kept_setCell _ _ _ _).trans (kept_setCell _ _ _ _))); clear r0 r1 r2 r3 r4 r5 r6 rf rz; (with_reducible refine (HPU.out _ _ HZL.out p g _ H2.out.m (HZ.out.below H2.out.below)).mono ?_); rintro e w3 ⟨⟨v3, rfl⟩, hm3, hk3⟩; have H3 := hi (H2.out.put hm3 hk3); clear hm3 hk3; obtain ⟨r0, r1, r2, r3, r4, r5, r6⟩ := H3.out.P.seven; have rf := H3.out.P.frozen; have rz := H3.out.P.lt))
      | (go_at_call 38; (clear r0 r1 r2 r3 r4 r5 r6 rf rz; (with_reducible refine (HRP.out _ _ HZL.out q h _ H3.out.r (HZ.out.below H3.out.below) (HZH.out h (by have := H3.out.lo; omega))).mono ?_); rintro e w4 ⟨⟨v4, rfl⟩, hm4, hk4⟩; have H4 := hi (H3.out.rput hm4 hk4); clear hm4 hk4)))
    have HL := hi (show (putL (List.replicate 200 0) 0 200 (ys.take 200)).length = 200 from by rw [putL_len]; simp)
    obtain ⟨B, hB⟩ : ∃ B, putL (List.replicate 200 0) 0 200 (ys.take 200) = B := ⟨_, rfl⟩
    rw [hB] at H4 HL
    have HG0 := hi (show BgA w p g q h B w4.heap.size n0 n1 (prC (pt p) (pt q) no no no no false) (w4.alloc (.cells #[.int .i64 n0, .int .i64 n1] 84)) from ⟨H4.out.later (bal _ _), CB.new _ _ _, H4.out.P.lt⟩)
    clear hB HPU HRP HZ HZL HZH HF HLN
    try clear r0 r1 r2 r3 r4 r5 r6 rf rz
    obtain ⟨A, hA⟩ : ∃ A, w4.heap.size = A := ⟨_, rfl⟩
    rw [hA] at HG0
    try rw [hA]
    clear hA
    go_loopw [9] (fun i wr => ∃ k : Nat, i = .int .i64 k ∧ Hi (BgI w p g q h B A n0 n1 x0 x1 k wr)) (fun i _ => 2 - (intOf i).toNat)
    case atStart => exact ⟨0, rfl, hi (.inl ⟨rfl, HG0.out⟩)⟩
    case round =>
      obtain ⟨k, rfl, HJ⟩ := hrel
      obtain ⟨v, rfl⟩ : ∃ v : World, v = wr := ⟨_, rfl⟩
      rcases HJ.out with ⟨rfl, G0⟩ | ⟨rfl, n, m, l, s, c, d, f, G0, T0, hmv, hn⟩ | ⟨rfl, n, m, m2, l, s, c, d, f, l', s', c', d', f', G0, T0, T1, hn⟩
      · have HG := hi G0
        have zP := G0.M.P.lt
        have zF := fresh_at G0
        have HC := hi (BgC.first 0 70 160 9 (fun _ => True) HG.out (Car.none _) trivial)
        clear G0 HJ
        go_wp2
        refine wp_region_noPanic ?_
        refine wp_region_last_drew (S := (fun V => ∃ y : Value, BgC w p g q h B A n0 n1 (prC (pt p) (pt q) y no no no false) v 0 70 160 9 (fun _ => True) V)) [] (by kernel_rfl) ⟨_, HC.out⟩ (fun hHeld => ?_)
        (try simp only [Array.replicate_succ, Array.replicate_zero, List.push_toArray, List.nil_append, List.cons_append])
        refine wpAnyF_take (i := 0) (v := ?_) (by kernel_rfl) (by kernel_rfl) rfl (by kernel_rfl) (by kernel_rfl) (by kernel_rfl) (fun _ _ _ h => h) (Or.inl ⟨by rfl, ?_⟩) (by assumption) ?_
        rotate_left
        · intro w' hSw; (try dsimp only at hSw); clear hSw; go_simp; (try with_reducible rfl)
        (try simp only [Act.put, List.getElem_toArray, List.getElem_cons_zero, List.getElem_cons_succ, List.setIfInBounds_toArray, List.set_cons_zero, List.set_cons_succ])
        refine wpAnyF_take (i := 1) (v := ?_) (by kernel_rfl) (by kernel_rfl) rfl (by kernel_rfl) (by kernel_rfl) (by kernel_rfl) (fun _ _ _ h => h) (Or.inl ⟨by rfl, ?_⟩) (by assumption) ?_
        rotate_left
        · intro w' hSw; (try dsimp only at hSw); clear hSw; go_simp; (try with_reducible rfl)
        (try simp only [Act.put, List.getElem_toArray, List.getElem_cons_zero, List.getElem_cons_succ, List.setIfInBounds_toArray, List.set_cons_zero, List.set_cons_succ])
        refine wpAnyF_take (i := 2) (v := ?_) (by kernel_rfl) (by kernel_rfl) rfl (by kernel_rfl) (by kernel_rfl) (by kernel_rfl) (fun _ _ _ h => h) (Or.inl ⟨by rfl, ?_⟩) (by assumption) ?_
        rotate_left
        · intro w' hSw; (try dsimp only at hSw); obtain ⟨_, hSw⟩ := hSw; obtain ⟨q0, q1, q2, q3, q4, q5, q6⟩ := CB.seven hSw.G.M.P; clear hSw; go_simp; (try with_reducible rfl)
        (try simp only [Act.put, List.getElem_toArray, List.getElem_cons_zero, List.getElem_cons_succ, List.setIfInBounds_toArray, List.set_cons_zero, List.set_cons_succ])
        refine wpAnyF_take (i := 3) (v := ?_) (by kernel_rfl) (by kernel_rfl) rfl (by kernel_rfl) (by kernel_rfl) (by kernel_rfl) (fun _ _ _ h => h) (Or.inl ⟨by rfl, ?_⟩) (by assumption) ?_
        rotate_left
        · intro w' hSw; (try dsimp only at hSw); clear hSw; go_simp; (try with_reducible rfl)
        (try simp only [Act.put, List.getElem_toArray, List.getElem_cons_zero, List.getElem_cons_succ, List.setIfInBounds_toArray, List.set_cons_zero, List.set_cons_succ])
        refine wpAnyF_take (i := 4) (v := ?_) (by kernel_rfl) (by kernel_rfl) rfl (by kernel_rfl) (by kernel_rfl) (by kernel_rfl) (fun _ _ _ h => h) (Or.inl ⟨by rfl, ?_⟩) (by assumption) ?_
        rotate_left
        · intro w' hSw; (try dsimp only at hSw); clear hSw; go_simp; (try with_reducible rfl)
        (try simp only [Act.put, List.getElem_toArray, List.getElem_cons_zero, List.getElem_cons_succ, List.setIfInBounds_toArray, List.set_cons_zero, List.set_cons_succ])
        refine wpAnyF_take (i := 5) (v := ?_) (by kernel_rfl) (by kernel_rfl) rfl (by kernel_rfl) (by kernel_rfl) (by kernel_rfl) (fun _ _ _ h => h) (Or.inl ⟨by rfl, ?_⟩) (by assumption) ?_
        rotate_left
        · intro w' hSw; (try dsimp only at hSw); obtain ⟨_, hSw⟩ := hSw; have q0 := hSw.G.arr.cell 0; have q1 := hSw.G.arr.cell 1; clear hSw; go_simp; (try with_reducible rfl)
        (try simp only [Act.put, List.getElem_toArray, List.getElem_cons_zero, List.getElem_cons_succ, List.setIfInBounds_toArray, List.set_cons_zero, List.set_cons_succ])
        refine wpAnyF_take (i := 6) (v := ?_) (by kernel_rfl) (by kernel_rfl) rfl (by kernel_rfl) (by kernel_rfl) (by kernel_rfl) (fun _ _ _ h => h) (Or.inl ⟨by rfl, ?_⟩) (by assumption) ?_
        rotate_left
        · intro w' hSw; (try dsimp only at hSw); obtain ⟨_, hSw⟩ := hSw; have q0 := hSw.u.cell 0; have q1 := hSw.u.cell 1; clear hSw; go_simp; (try with_reducible rfl)
        (try simp only [Act.put, List.getElem_toArray, List.getElem_cons_zero, List.getElem_cons_succ, List.setIfInBounds_toArray, List.set_cons_zero, List.set_cons_succ])
        refine wpAnyF_take (i := 7) (v := ?_) (by kernel_rfl) (by kernel_rfl) rfl (by kernel_rfl) (by kernel_rfl) (by kernel_rfl) (fun _ _ _ h => h) (Or.inl ⟨by rfl, ?_⟩) (by assumption) ?_
        rotate_left
        · intro w' hSw; (try dsimp only at hSw); obtain ⟨_, hSw⟩ := hSw; have q0 := hSw.t.cell 0; have q1 := hSw.t.cell 1; clear hSw; go_simp; (try with_reducible rfl)
        (try simp only [Act.put, List.getElem_toArray, List.getElem_cons_zero, List.getElem_cons_succ, List.setIfInBounds_toArray, List.set_cons_zero, List.set_cons_succ])
        refine wpAnyF_take (i := 12) (v := ?_) (by kernel_rfl) (by kernel_rfl) rfl (by kernel_rfl) (by kernel_rfl) (by kernel_rfl) (fun _ _ _ h => h) (Or.inl ⟨by rfl, ?_⟩) (by assumption) ?_
        rotate_left
        · intro w' hSw; (try dsimp only at hSw); clear hSw; go_simp; (try with_reducible rfl)
        (try simp only [Act.put, List.getElem_toArray, List.getElem_cons_zero, List.getElem_cons_succ, List.setIfInBounds_toArray, List.set_cons_zero, List.set_cons_succ])
        refine wpAnyF_ready (rs := [8]) (by kernel_rfl) (by simp) ?_
        refine AllReadyF.cons rfl (fun KK hKK => ?_) AllReadyF.nil
        go_simp
        ((with_reducible refine (HN0.out p g B HL.out _ HC.out.G.M.m).mono ?_); rintro e' w5 ⟨l1, s1, c1, rfl, hl5, g1, g2, g3, hb5⟩; have hSS := HC.out.later hb5; have hz5 := HC.out.sz; have H5 := hi (And.intro (hSS.add (U := fun W => LpB W l1 s1 c1 n0 S0 x0) (Car.lp ⟨by omega, by omega, by omega⟩) hl5) (show v.heap.size ≤ l1 ∧ v.heap.size ≤ s1 ∧ v.heap.size ≤ c1 from ⟨by omega, by omega, by omega⟩)); clear hl5 g1 g2 g3 hb5 hz5)
        (try go_simp)
        refine hKK.out _ _ ⟨_, hSS⟩ (fun hHeld => ?_)
        clear hKK KK
        (try simp only [Act.put, List.getElem_toArray, List.getElem_cons_zero, List.getElem_cons_succ, List.setIfInBounds_toArray, List.set_cons_zero, List.set_cons_succ])
        refine wpAnyF_take (i := 9) (v := ?_) (by kernel_rfl) (by kernel_rfl) rfl (by kernel_rfl) (by kernel_rfl) (by kernel_rfl) (fun _ _ _ h => h) (Or.inl ⟨by rfl, ?_⟩) (by assumption) ?_
        rotate_left
        · intro w' hSw; (try dsimp only at hSw); clear hSw; go_simp; (try with_reducible rfl)
        (try simp only [Act.put, List.getElem_toArray, List.getElem_cons_zero, List.getElem_cons_succ, List.setIfInBounds_toArray, List.set_cons_zero, List.set_cons_succ])
        refine wpAnyF_take (i := 10) (v := ?_) (by kernel_rfl) (by kernel_rfl) rfl (by kernel_rfl) (by kernel_rfl) (by kernel_rfl) (fun _ _ _ h => h) (Or.inl ⟨by rfl, ?_⟩) (by assumption) ?_
        rotate_left
        · intro w' hSw; (try dsimp only at hSw); clear hSw; go_simp; (try with_reducible rfl)
        (try simp only [Act.put, List.getElem_toArray, List.getElem_cons_zero, List.getElem_cons_succ, List.setIfInBounds_toArray, List.set_cons_zero, List.set_cons_succ])
        refine wpAnyF_take (i := 11) (v := ?_) (by kernel_rfl) (by kernel_rfl) rfl (by kernel_rfl) (by kernel_rfl) (by kernel_rfl) (fun _ _ _ h => h) (Or.inl ⟨by rfl, ?_⟩) (by assumption) ?_
        rotate_left
        · intro w' hSw; (try dsimp only at hSw); clear hSw; go_simp; (try with_reducible rfl)
        (try simp only [Act.put, List.getElem_toArray, List.getElem_cons_zero, List.getElem_cons_succ, List.setIfInBounds_toArray, List.set_cons_zero, List.set_cons_succ])
        refine wpAnyF_take (i := 13) (v := ?_) (by kernel_rfl) (by kernel_rfl) rfl (by kernel_rfl) (by kernel_rfl) (by kernel_rfl) (fun _ _ _ h => h) (Or.inl ⟨by rfl, ?_⟩) (by assumption) ?_
        rotate_left
        · intro w' hSw; (try dsimp only at hSw); clear hSw; go_simp; (try with_reducible rfl)
        (try simp only [Act.put, List.getElem_toArray, List.getElem_cons_zero, List.getElem_cons_succ, List.setIfInBounds_toArray, List.set_cons_zero, List.set_cons_succ])
        refine wpAnyF_ready (rs := [14]) (by kernel_rfl) (by simp) ?_
        refine AllReadyF.cons rfl (fun KK hKK => ?_) AllReadyF.nil
        obtain ⟨r0, r1, r2, r3, r4, r5, r6⟩ := CB.seven H5.out.1.G.M.P
        have rf := H5.out.1.G.M.P.frozen
        have rz := H5.out.1.G.M.P.lt
        go_simp
        refine hKK.out _ _ ⟨pt l1, (H5.out.1.turn (cs' := (prC (pt p) (pt q) (pt l1) no no no false)) (H5.out.1.G.M.P.set 2 (pt l1)) (kept_setCell _ _ _ _)).base HC.out.car⟩ (fun hHeld => ?_)
        clear hKK KK
        (try simp only [Act.put, List.getElem_toArray, List.getElem_cons_zero, List.getElem_cons_succ, List.setIfInBounds_toArray, List.set_cons_zero, List.set_cons_succ])
        refine wpAnyF_done (by kernel_rfl) ?_ _
        refine NoPanic.normal ?_
        have HC6 := hi ((H5.out.1.turn (cs' := (prC (pt p) (pt q) (pt l1) no no no false)) (H5.out.1.G.M.P.set 2 (pt l1)) (kept_setCell _ _ _ _)).later (below_dr _))
        clear r0 r1 r2 r3 r4 r5 r6 rf rz
        go_wp2
        refine wp_region_noPanic ?_
        refine wp_region_last_drew (S := (fun V => ∃ y : Value, BgC w p g q h B A n0 n1 (prC (pt p) (pt q) (pt l1) no y no false) v 0 70 160 9 (fun V => (fun _ => True) V ∧ (fun W => LpB W l1 s1 c1 n0 S0 x0) V) V)) [] (by kernel_rfl) ⟨_, HC6.out⟩ (fun hHeld => ?_)
        (try simp only [Array.replicate_succ, Array.replicate_zero, List.push_toArray, List.nil_append, List.cons_append])
        refine wpAnyF_take (i := 0) (v := ?_) (by kernel_rfl) (by kernel_rfl) rfl (by kernel_rfl) (by kernel_rfl) (by kernel_rfl) (fun _ _ _ h => h) (Or.inl ⟨by rfl, ?_⟩) (by assumption) ?_
        rotate_left
        · intro w' hSw; (try dsimp only at hSw); clear hSw; go_simp; (try with_reducible rfl)
        (try simp only [Act.put, List.getElem_toArray, List.getElem_cons_zero, List.getElem_cons_succ, List.setIfInBounds_toArray, List.set_cons_zero, List.set_cons_succ])
        refine wpAnyF_take (i := 1) (v := ?_) (by kernel_rfl) (by kernel_rfl) rfl (by kernel_rfl) (by kernel_rfl) (by kernel_rfl) (fun _ _ _ h => h) (Or.inl ⟨by rfl, ?_⟩) (by assumption) ?_
        rotate_left
        · intro w' hSw; (try dsimp only at hSw); clear hSw; go_simp; (try with_reducible rfl)
        (try simp only [Act.put, List.getElem_toArray, List.getElem_cons_zero, List.getElem_cons_succ, List.setIfInBounds_toArray, List.set_cons_zero, List.set_cons_succ])
        refine wpAnyF_take (i := 2) (v := ?_) (by kernel_rfl) (by kernel_rfl) rfl (by kernel_rfl) (by kernel_rfl) (by kernel_rfl) (fun _ _ _ h => h) (Or.inl ⟨by rfl, ?_⟩) (by assumption) ?_
        rotate_left
        · intro w' hSw; (try dsimp only at hSw); obtain ⟨_, hSw⟩ := hSw; obtain ⟨q0, q1, q2, q3, q4, q5, q6⟩ := CB.seven hSw.G.M.P; clear hSw; go_simp; (try with_reducible rfl)
        (try simp only [Act.put, List.getElem_toArray, List.getElem_cons_zero, List.getElem_cons_succ, List.setIfInBounds_toArray, List.set_cons_zero, List.set_cons_succ])
        refine wpAnyF_take (i := 3) (v := ?_) (by kernel_rfl) (by kernel_rfl) rfl (by kernel_rfl) (by kernel_rfl) (by kernel_rfl) (fun _ _ _ h => h) (Or.inl ⟨by rfl, ?_⟩) (by assumption) ?_
        rotate_left
        · intro w' hSw; (try dsimp only at hSw); clear hSw; go_simp; (try with_reducible rfl)
        (try simp only [Act.put, List.getElem_toArray, List.getElem_cons_zero, List.getElem_cons_succ, List.setIfInBounds_toArray, List.set_cons_zero, List.set_cons_succ])
        refine wpAnyF_take (i := 4) (v := ?_) (by kernel_rfl) (by kernel_rfl) rfl (by kernel_rfl) (by kernel_rfl) (by kernel_rfl) (fun _ _ _ h => h) (Or.inl ⟨by rfl, ?_⟩) (by assumption) ?_
        rotate_left
        · intro w' hSw; (try dsimp only at hSw); clear hSw; go_simp; (try with_reducible rfl)
        (try simp only [Act.put, List.getElem_toArray, List.getElem_cons_zero, List.getElem_cons_succ, List.setIfInBounds_toArray, List.set_cons_zero, List.set_cons_succ])
        refine wpAnyF_take (i := 5) (v := ?_) (by kernel_rfl) (by kernel_rfl) rfl (by kernel_rfl) (by kernel_rfl) (by kernel_rfl) (fun _ _ _ h => h) (Or.inl ⟨by rfl, ?_⟩) (by assumption) ?_
        rotate_left
        · intro w' hSw; (try dsimp only at hSw); obtain ⟨_, hSw⟩ := hSw; have q0 := hSw.G.arr.cell 0; have q1 := hSw.G.arr.cell 1; clear hSw; go_simp; (try with_reducible rfl)
        (try simp only [Act.put, List.getElem_toArray, List.getElem_cons_zero, List.getElem_cons_succ, List.setIfInBounds_toArray, List.set_cons_zero, List.set_cons_succ])
        refine wpAnyF_take (i := 6) (v := ?_) (by kernel_rfl) (by kernel_rfl) rfl (by kernel_rfl) (by kernel_rfl) (by kernel_rfl) (fun _ _ _ h => h) (Or.inl ⟨by rfl, ?_⟩) (by assumption) ?_
        rotate_left
        · intro w' hSw; (try dsimp only at hSw); obtain ⟨_, hSw⟩ := hSw; have q0 := hSw.u.cell 0; have q1 := hSw.u.cell 1; clear hSw; go_simp; (try with_reducible rfl)
        (try simp only [Act.put, List.getElem_toArray, List.getElem_cons_zero, List.getElem_cons_succ, List.setIfInBounds_toArray, List.set_cons_zero, List.set_cons_succ])
        refine wpAnyF_take (i := 7) (v := ?_) (by kernel_rfl) (by kernel_rfl) rfl (by kernel_rfl) (by kernel_rfl) (by kernel_rfl) (fun _ _ _ h => h) (Or.inl ⟨by rfl, ?_⟩) (by assumption) ?_
        rotate_left
        · intro w' hSw; (try dsimp only at hSw); obtain ⟨_, hSw⟩ := hSw; have q0 := hSw.t.cell 0; have q1 := hSw.t.cell 1; clear hSw; go_simp; (try with_reducible rfl)
        (try simp only [Act.put, List.getElem_toArray, List.getElem_cons_zero, List.getElem_cons_succ, List.setIfInBounds_toArray, List.set_cons_zero, List.set_cons_succ])
        refine wpAnyF_take (i := 12) (v := ?_) (by kernel_rfl) (by kernel_rfl) rfl (by kernel_rfl) (by kernel_rfl) (by kernel_rfl) (fun _ _ _ h => h) (Or.inl ⟨by rfl, ?_⟩) (by assumption) ?_
        rotate_left
        · intro w' hSw; (try dsimp only at hSw); clear hSw; go_simp; (try with_reducible rfl)
        (try simp only [Act.put, List.getElem_toArray, List.getElem_cons_zero, List.getElem_cons_succ, List.setIfInBounds_toArray, List.set_cons_zero, List.set_cons_succ])
        refine wpAnyF_ready (rs := [8]) (by kernel_rfl) (by simp) ?_
        refine AllReadyF.cons rfl (fun KK hKK => ?_) AllReadyF.nil
        go_simp
        ((with_reducible refine (HR0.out q h B HL.out _ HC6.out.G.M.r).mono ?_); rintro e' w7 ⟨d1, f1, rfl, hd7, g1, g2, hb7⟩; have hSS := HC6.out.later hb7; have hz7 := And.intro HC6.out.x.2.box.lt (And.intro HC6.out.x.2.set.lt (And.intro HC6.out.x.2.cfg.lt HC6.out.sz)); have H7 := hi (And.intro hSS (And.intro hd7 (show (l1 < d1 ∧ s1 < d1 ∧ c1 < d1) ∧ (l1 < f1 ∧ s1 < f1 ∧ c1 < f1) ∧ v.heap.size ≤ d1 ∧ v.heap.size ≤ f1 from by omega))); clear hd7 g1 g2 hb7 hz7)
        (try go_simp)
        refine hKK.out _ _ ⟨_, hSS⟩ (fun hHeld => ?_)
        clear hKK KK
        (try simp only [Act.put, List.getElem_toArray, List.getElem_cons_zero, List.getElem_cons_succ, List.setIfInBounds_toArray, List.set_cons_zero, List.set_cons_succ])
        refine wpAnyF_take (i := 9) (v := ?_) (by kernel_rfl) (by kernel_rfl) rfl (by kernel_rfl) (by kernel_rfl) (by kernel_rfl) (fun _ _ _ h => h) (Or.inl ⟨by rfl, ?_⟩) (by assumption) ?_
        rotate_left
        · intro w' hSw; (try dsimp only at hSw); clear hSw; go_simp; (try with_reducible rfl)
        (try simp only [Act.put, List.getElem_toArray, List.getElem_cons_zero, List.getElem_cons_succ, List.setIfInBounds_toArray, List.set_cons_zero, List.set_cons_succ])
        refine wpAnyF_take (i := 10) (v := ?_) (by kernel_rfl) (by kernel_rfl) rfl (by kernel_rfl) (by kernel_rfl) (by kernel_rfl) (fun _ _ _ h => h) (Or.inl ⟨by rfl, ?_⟩) (by assumption) ?_
        rotate_left
        · intro w' hSw; (try dsimp only at hSw); clear hSw; go_simp; (try with_reducible rfl)
        (try simp only [Act.put, List.getElem_toArray, List.getElem_cons_zero, List.getElem_cons_succ, List.setIfInBounds_toArray, List.set_cons_zero, List.set_cons_succ])
        refine wpAnyF_take (i := 11) (v := ?_) (by kernel_rfl) (by kernel_rfl) rfl (by kernel_rfl) (by kernel_rfl) (by kernel_rfl) (fun _ _ _ h => h) (Or.inl ⟨by rfl, ?_⟩) (by assumption) ?_
        rotate_left
        · intro w' hSw; (try dsimp only at hSw); clear hSw; go_simp; (try with_reducible rfl)
        (try simp only [Act.put, List.getElem_toArray, List.getElem_cons_zero, List.getElem_cons_succ, List.setIfInBounds_toArray, List.set_cons_zero, List.set_cons_succ])
        refine wpAnyF_take (i := 13) (v := ?_) (by kernel_rfl) (by kernel_rfl) rfl (by kernel_rfl) (by kernel_rfl) (by kernel_rfl) (fun _ _ _ h => h) (Or.inl ⟨by rfl, ?_⟩) (by assumption) ?_
        rotate_left
        · intro w' hSw; (try dsimp only at hSw); clear hSw; go_simp; (try with_reducible rfl)
        (try simp only [Act.put, List.getElem_toArray, List.getElem_cons_zero, List.getElem_cons_succ, List.setIfInBounds_toArray, List.set_cons_zero, List.set_cons_succ])
        refine wpAnyF_ready (rs := [14]) (by kernel_rfl) (by simp) ?_
        refine AllReadyF.cons rfl (fun KK hKK => ?_) AllReadyF.nil
        obtain ⟨r0, r1, r2, r3, r4, r5, r6⟩ := CB.seven H7.out.1.G.M.P
        have rf := H7.out.1.G.M.P.frozen
        have rz := H7.out.1.G.M.P.lt
        go_simp
        refine hKK.out _ _ ⟨pt d1, H7.out.1.turn (cs' := (prC (pt p) (pt q) (pt l1) no (pt d1) no false)) (H7.out.1.G.M.P.set 4 (pt d1)) (kept_setCell _ _ _ _)⟩ (fun hHeld => ?_)
        clear hKK KK
        (try simp only [Act.put, List.getElem_toArray, List.getElem_cons_zero, List.getElem_cons_succ, List.setIfInBounds_toArray, List.set_cons_zero, List.set_cons_succ])
        refine wpAnyF_done (by kernel_rfl) ?_ _
        refine NoPanic.normal ?_
        have H8 := hi (H7.out.1.turn (cs' := (prC (pt p) (pt q) (pt l1) no (pt d1) no false)) (H7.out.1.G.M.P.set 4 (pt d1)) (kept_setCell _ _ _ _))
        have HD8 := hi (H7.out.2.1.kept (kept_setCell w7 (w.heap.size + 1) 4 (pt d1)) (by have := H7.out.2.2; show ¬ (d1 = w.heap.size + 1); omega) (by have := H7.out.2.2; show ¬ (f1 = w.heap.size + 1); omega) (fun b hy => by obtain ⟨_, _, _, e⟩ := hy; cases e))
        clear r0 r1 r2 r3 r4 r5 r6 rf rz
        go_wp2
        go_roundw
        case rel => exact ⟨1, by go_num, hi (.inr (.inl ⟨rfl, v.heap.size, _, l1, s1, c1, d1, f1, H8.out.G, ⟨H8.out.x.2, HD8.out, H5.out.2, ⟨H7.out.2.2.1, H7.out.2.2.2.1⟩, ⟨HD8.out.box.lt, HD8.out.cfg.lt⟩⟩, Nat.le_refl _, zF⟩))⟩
        case measure => simp [intOf]
      · have HG := hi G0
        have zP := G0.M.P.lt
        have zF := fresh_at G0
        have HC := hi (BgC.first 80 70 180 9 (Prt n m l s c d f n0 x0) HG.out (Car.prt (by have := HG.out.M.lo; omega)) T0)
        have HmN := hi (And.intro T0 (And.intro hmv hn))
        clear T0 hmv hn
        clear G0 HJ
        go_wp2
        refine wp_region_noPanic ?_
        refine wp_region_last_drew (S := (fun V => ∃ y : Value, BgC w p g q h B A n0 n1 (prC (pt p) (pt q) (pt l) y (pt d) no false) v 80 70 180 9 (Prt n m l s c d f n0 x0) V)) [] (by kernel_rfl) ⟨_, HC.out⟩ (fun hHeld => ?_)
        (try simp only [Array.replicate_succ, Array.replicate_zero, List.push_toArray, List.nil_append, List.cons_append])
        refine wpAnyF_take (i := 0) (v := ?_) (by kernel_rfl) (by kernel_rfl) rfl (by kernel_rfl) (by kernel_rfl) (by kernel_rfl) (fun _ _ _ h => h) (Or.inl ⟨by rfl, ?_⟩) (by assumption) ?_
        rotate_left
        · intro w' hSw; (try dsimp only at hSw); clear hSw; go_simp; (try with_reducible rfl)
        (try simp only [Act.put, List.getElem_toArray, List.getElem_cons_zero, List.getElem_cons_succ, List.setIfInBounds_toArray, List.set_cons_zero, List.set_cons_succ])
        refine wpAnyF_take (i := 1) (v := ?_) (by kernel_rfl) (by kernel_rfl) rfl (by kernel_rfl) (by kernel_rfl) (by kernel_rfl) (fun _ _ _ h => h) (Or.inl ⟨by rfl, ?_⟩) (by assumption) ?_
        rotate_left
        · intro w' hSw; (try dsimp only at hSw); clear hSw; go_simp; (try with_reducible rfl)
        (try simp only [Act.put, List.getElem_toArray, List.getElem_cons_zero, List.getElem_cons_succ, List.setIfInBounds_toArray, List.set_cons_zero, List.set_cons_succ])
        refine wpAnyF_take (i := 2) (v := ?_) (by kernel_rfl) (by kernel_rfl) rfl (by kernel_rfl) (by kernel_rfl) (by kernel_rfl) (fun _ _ _ h => h) (Or.inl ⟨by rfl, ?_⟩) (by assumption) ?_
        rotate_left
        · intro w' hSw; (try dsimp only at hSw); obtain ⟨_, hSw⟩ := hSw; obtain ⟨q0, q1, q2, q3, q4, q5, q6⟩ := CB.seven hSw.G.M.P; clear hSw; go_simp; (try with_reducible rfl)
        (try simp only [Act.put, List.getElem_toArray, List.getElem_cons_zero, List.getElem_cons_succ, List.setIfInBounds_toArray, List.set_cons_zero, List.set_cons_succ])
        refine wpAnyF_take (i := 3) (v := ?_) (by kernel_rfl) (by kernel_rfl) rfl (by kernel_rfl) (by kernel_rfl) (by kernel_rfl) (fun _ _ _ h => h) (Or.inl ⟨by rfl, ?_⟩) (by assumption) ?_
        rotate_left
        · intro w' hSw; (try dsimp only at hSw); clear hSw; go_simp; (try with_reducible rfl)
        (try simp only [Act.put, List.getElem_toArray, List.getElem_cons_zero, List.getElem_cons_succ, List.setIfInBounds_toArray, List.set_cons_zero, List.set_cons_succ])
        refine wpAnyF_take (i := 4) (v := ?_) (by kernel_rfl) (by kernel_rfl) rfl (by kernel_rfl) (by kernel_rfl) (by kernel_rfl) (fun _ _ _ h => h) (Or.inl ⟨by rfl, ?_⟩) (by assumption) ?_
        rotate_left
        · intro w' hSw; (try dsimp only at hSw); clear hSw; go_simp; (try with_reducible rfl)
        (try simp only [Act.put, List.getElem_toArray, List.getElem_cons_zero, List.getElem_cons_succ, List.setIfInBounds_toArray, List.set_cons_zero, List.set_cons_succ])
        refine wpAnyF_take (i := 5) (v := ?_) (by kernel_rfl) (by kernel_rfl) rfl (by kernel_rfl) (by kernel_rfl) (by kernel_rfl) (fun _ _ _ h => h) (Or.inl ⟨by rfl, ?_⟩) (by assumption) ?_
        rotate_left
        · intro w' hSw; (try dsimp only at hSw); obtain ⟨_, hSw⟩ := hSw; have q0 := hSw.G.arr.cell 0; have q1 := hSw.G.arr.cell 1; clear hSw; go_simp; (try with_reducible rfl)
        (try simp only [Act.put, List.getElem_toArray, List.getElem_cons_zero, List.getElem_cons_succ, List.setIfInBounds_toArray, List.set_cons_zero, List.set_cons_succ])
        refine wpAnyF_take (i := 6) (v := ?_) (by kernel_rfl) (by kernel_rfl) rfl (by kernel_rfl) (by kernel_rfl) (by kernel_rfl) (fun _ _ _ h => h) (Or.inl ⟨by rfl, ?_⟩) (by assumption) ?_
        rotate_left
        · intro w' hSw; (try dsimp only at hSw); obtain ⟨_, hSw⟩ := hSw; have q0 := hSw.u.cell 0; have q1 := hSw.u.cell 1; clear hSw; go_simp; (try with_reducible rfl)
        (try simp only [Act.put, List.getElem_toArray, List.getElem_cons_zero, List.getElem_cons_succ, List.setIfInBounds_toArray, List.set_cons_zero, List.set_cons_succ])
        refine wpAnyF_take (i := 7) (v := ?_) (by kernel_rfl) (by kernel_rfl) rfl (by kernel_rfl) (by kernel_rfl) (by kernel_rfl) (fun _ _ _ h => h) (Or.inl ⟨by rfl, ?_⟩) (by assumption) ?_
        rotate_left
        · intro w' hSw; (try dsimp only at hSw); obtain ⟨_, hSw⟩ := hSw; have q0 := hSw.t.cell 0; have q1 := hSw.t.cell 1; clear hSw; go_simp; (try with_reducible rfl)
        (try simp only [Act.put, List.getElem_toArray, List.getElem_cons_zero, List.getElem_cons_succ, List.setIfInBounds_toArray, List.set_cons_zero, List.set_cons_succ])
        refine wpAnyF_take (i := 12) (v := ?_) (by kernel_rfl) (by kernel_rfl) rfl (by kernel_rfl) (by kernel_rfl) (by kernel_rfl) (fun _ _ _ h => h) (Or.inl ⟨by rfl, ?_⟩) (by assumption) ?_
        rotate_left
        · intro w' hSw; (try dsimp only at hSw); clear hSw; go_simp; (try with_reducible rfl)
        (try simp only [Act.put, List.getElem_toArray, List.getElem_cons_zero, List.getElem_cons_succ, List.setIfInBounds_toArray, List.set_cons_zero, List.set_cons_succ])
        refine wpAnyF_ready (rs := [8]) (by kernel_rfl) (by simp) ?_
        refine AllReadyF.cons rfl (fun KK hKK => ?_) AllReadyF.nil
        go_simp
        ((with_reducible refine (HN1.out p g B HL.out _ HC.out.G.M.m).mono ?_); rintro e' w5 ⟨l1, s1, c1, rfl, hl5, g1, g2, g3, hb5⟩; have hSS := HC.out.later hb5; have hz5 := HC.out.sz; have H5 := hi (And.intro (hSS.add (U := fun W => LpB W l1 s1 c1 n1 S0 x1) (Car.lp ⟨by omega, by omega, by omega⟩) hl5) (show v.heap.size ≤ l1 ∧ v.heap.size ≤ s1 ∧ v.heap.size ≤ c1 from ⟨by omega, by omega, by omega⟩)); clear hl5 g1 g2 g3 hb5 hz5)
        (try go_simp)
        refine hKK.out _ _ ⟨_, hSS⟩ (fun hHeld => ?_)
        clear hKK KK
        (try simp only [Act.put, List.getElem_toArray, List.getElem_cons_zero, List.getElem_cons_succ, List.setIfInBounds_toArray, List.set_cons_zero, List.set_cons_succ])
        refine wpAnyF_take (i := 9) (v := ?_) (by kernel_rfl) (by kernel_rfl) rfl (by kernel_rfl) (by kernel_rfl) (by kernel_rfl) (fun _ _ _ h => h) (Or.inl ⟨by rfl, ?_⟩) (by assumption) ?_
        rotate_left
        · intro w' hSw; (try dsimp only at hSw); clear hSw; go_simp; (try with_reducible rfl)
        (try simp only [Act.put, List.getElem_toArray, List.getElem_cons_zero, List.getElem_cons_succ, List.setIfInBounds_toArray, List.set_cons_zero, List.set_cons_succ])
        refine wpAnyF_take (i := 10) (v := ?_) (by kernel_rfl) (by kernel_rfl) rfl (by kernel_rfl) (by kernel_rfl) (by kernel_rfl) (fun _ _ _ h => h) (Or.inl ⟨by rfl, ?_⟩) (by assumption) ?_
        rotate_left
        · intro w' hSw; (try dsimp only at hSw); clear hSw; go_simp; (try with_reducible rfl)
        (try simp only [Act.put, List.getElem_toArray, List.getElem_cons_zero, List.getElem_cons_succ, List.setIfInBounds_toArray, List.set_cons_zero, List.set_cons_succ])
        refine wpAnyF_take (i := 11) (v := ?_) (by kernel_rfl) (by kernel_rfl) rfl (by kernel_rfl) (by kernel_rfl) (by kernel_rfl) (fun _ _ _ h => h) (Or.inl ⟨by rfl, ?_⟩) (by assumption) ?_
        rotate_left
        · intro w' hSw; (try dsimp only at hSw); clear hSw; go_simp; (try with_reducible rfl)
        (try simp only [Act.put, List.getElem_toArray, List.getElem_cons_zero, List.getElem_cons_succ, List.setIfInBounds_toArray, List.set_cons_zero, List.set_cons_succ])
        refine wpAnyF_take (i := 13) (v := ?_) (by kernel_rfl) (by kernel_rfl) rfl (by kernel_rfl) (by kernel_rfl) (by kernel_rfl) (fun _ _ _ h => h) (Or.inl ⟨by rfl, ?_⟩) (by assumption) ?_
        rotate_left
        · intro w' hSw; (try dsimp only at hSw); clear hSw; go_simp; (try with_reducible rfl)
        (try simp only [Act.put, List.getElem_toArray, List.getElem_cons_zero, List.getElem_cons_succ, List.setIfInBounds_toArray, List.set_cons_zero, List.set_cons_succ])
        refine wpAnyF_ready (rs := [14]) (by kernel_rfl) (by simp) ?_
        refine AllReadyF.cons rfl (fun KK hKK => ?_) AllReadyF.nil
        obtain ⟨r0, r1, r2, r3, r4, r5, r6⟩ := CB.seven H5.out.1.G.M.P
        have rf := H5.out.1.G.M.P.frozen
        have rz := H5.out.1.G.M.P.lt
        go_simp
        refine hKK.out _ _ ⟨pt l1, (H5.out.1.turn (cs' := (prC (pt p) (pt q) (pt l) (pt l1) (pt d) no false)) (H5.out.1.G.M.P.set 3 (pt l1)) (kept_setCell _ _ _ _)).base HC.out.car⟩ (fun hHeld => ?_)
        clear hKK KK
        (try simp only [Act.put, List.getElem_toArray, List.getElem_cons_zero, List.getElem_cons_succ, List.setIfInBounds_toArray, List.set_cons_zero, List.set_cons_succ])
        refine wpAnyF_done (by kernel_rfl) ?_ _
        refine NoPanic.normal ?_
        have HC6 := hi ((H5.out.1.turn (cs' := (prC (pt p) (pt q) (pt l) (pt l1) (pt d) no false)) (H5.out.1.G.M.P.set 3 (pt l1)) (kept_setCell _ _ _ _)).later (below_dr _))
        clear r0 r1 r2 r3 r4 r5 r6 rf rz
        go_wp2
        refine wp_region_noPanic ?_
        refine wp_region_last_drew (S := (fun V => ∃ y : Value, BgC w p g q h B A n0 n1 (prC (pt p) (pt q) (pt l) (pt l1) (pt d) y false) v 80 70 180 9 (fun V => (Prt n m l s c d f n0 x0) V ∧ (fun W => LpB W l1 s1 c1 n1 S0 x1) V) V)) [] (by kernel_rfl) ⟨_, HC6.out⟩ (fun hHeld => ?_)
        (try simp only [Array.replicate_succ, Array.replicate_zero, List.push_toArray, List.nil_append, List.cons_append])
        refine wpAnyF_take (i := 0) (v := ?_) (by kernel_rfl) (by kernel_rfl) rfl (by kernel_rfl) (by kernel_rfl) (by kernel_rfl) (fun _ _ _ h => h) (Or.inl ⟨by rfl, ?_⟩) (by assumption) ?_
        rotate_left
        · intro w' hSw; (try dsimp only at hSw); clear hSw; go_simp; (try with_reducible rfl)
        (try simp only [Act.put, List.getElem_toArray, List.getElem_cons_zero, List.getElem_cons_succ, List.setIfInBounds_toArray, List.set_cons_zero, List.set_cons_succ])
        refine wpAnyF_take (i := 1) (v := ?_) (by kernel_rfl) (by kernel_rfl) rfl (by kernel_rfl) (by kernel_rfl) (by kernel_rfl) (fun _ _ _ h => h) (Or.inl ⟨by rfl, ?_⟩) (by assumption) ?_
        rotate_left
        · intro w' hSw; (try dsimp only at hSw); clear hSw; go_simp; (try with_reducible rfl)
        (try simp only [Act.put, List.getElem_toArray, List.getElem_cons_zero, List.getElem_cons_succ, List.setIfInBounds_toArray, List.set_cons_zero, List.set_cons_succ])
        refine wpAnyF_take (i := 2) (v := ?_) (by kernel_rfl) (by kernel_rfl) rfl (by kernel_rfl) (by kernel_rfl) (by kernel_rfl) (fun _ _ _ h => h) (Or.inl ⟨by rfl, ?_⟩) (by assumption) ?_
        rotate_left
        · intro w' hSw; (try dsimp only at hSw); obtain ⟨_, hSw⟩ := hSw; obtain ⟨q0, q1, q2, q3, q4, q5, q6⟩ := CB.seven hSw.G.M.P; clear hSw; go_simp; (try with_reducible rfl)
        (try simp only [Act.put, List.getElem_toArray, List.getElem_cons_zero, List.getElem_cons_succ, List.setIfInBounds_toArray, List.set_cons_zero, List.set_cons_succ])
        refine wpAnyF_take (i := 3) (v := ?_) (by kernel_rfl) (by kernel_rfl) rfl (by kernel_rfl) (by kernel_rfl) (by kernel_rfl) (fun _ _ _ h => h) (Or.inl ⟨by rfl, ?_⟩) (by assumption) ?_
        rotate_left
        · intro w' hSw; (try dsimp only at hSw); clear hSw; go_simp; (try with_reducible rfl)
        (try simp only [Act.put, List.getElem_toArray, List.getElem_cons_zero, List.getElem_cons_succ, List.setIfInBounds_toArray, List.set_cons_zero, List.set_cons_succ])
        refine wpAnyF_take (i := 4) (v := ?_) (by kernel_rfl) (by kernel_rfl) rfl (by kernel_rfl) (by kernel_rfl) (by kernel_rfl) (fun _ _ _ h => h) (Or.inl ⟨by rfl, ?_⟩) (by assumption) ?_
        rotate_left
        · intro w' hSw; (try dsimp only at hSw); clear hSw; go_simp; (try with_reducible rfl)
        (try simp only [Act.put, List.getElem_toArray, List.getElem_cons_zero, List.getElem_cons_succ, List.setIfInBounds_toArray, List.set_cons_zero, List.set_cons_succ])
        refine wpAnyF_take (i := 5) (v := ?_) (by kernel_rfl) (by kernel_rfl) rfl (by kernel_rfl) (by kernel_rfl) (by kernel_rfl) (fun _ _ _ h => h) (Or.inl ⟨by rfl, ?_⟩) (by assumption) ?_
        rotate_left
        · intro w' hSw; (try dsimp only at hSw); obtain ⟨_, hSw⟩ := hSw; have q0 := hSw.G.arr.cell 0; have q1 := hSw.G.arr.cell 1; clear hSw; go_simp; (try with_reducible rfl)
        (try simp only [Act.put, List.getElem_toArray, List.getElem_cons_zero, List.getElem_cons_succ, List.setIfInBounds_toArray, List.set_cons_zero, List.set_cons_succ])
        refine wpAnyF_take (i := 6) (v := ?_) (by kernel_rfl) (by kernel_rfl) rfl (by kernel_rfl) (by kernel_rfl) (by kernel_rfl) (fun _ _ _ h => h) (Or.inl ⟨by rfl, ?_⟩) (by assumption) ?_
        rotate_left
        · intro w' hSw; (try dsimp only at hSw); obtain ⟨_, hSw⟩ := hSw; have q0 := hSw.u.cell 0; have q1 := hSw.u.cell 1; clear hSw; go_simp; (try with_reducible rfl)
        (try simp only [Act.put, List.getElem_toArray, List.getElem_cons_zero, List.getElem_cons_succ, List.setIfInBounds_toArray, List.set_cons_zero, List.set_cons_succ])
        refine wpAnyF_take (i := 7) (v := ?_) (by kernel_rfl) (by kernel_rfl) rfl (by kernel_rfl) (by kernel_rfl) (by kernel_rfl) (fun _ _ _ h => h) (Or.inl ⟨by rfl, ?_⟩) (by assumption) ?_
        rotate_left
        · intro w' hSw; (try dsimp only at hSw); obtain ⟨_, hSw⟩ := hSw; have q0 := hSw.t.cell 0; have q1 := hSw.t.cell 1; clear hSw; go_simp; (try with_reducible rfl)
        (try simp only [Act.put, List.getElem_toArray, List.getElem_cons_zero, List.getElem_cons_succ, List.setIfInBounds_toArray, List.set_cons_zero, List.set_cons_succ])
        refine wpAnyF_take (i := 12) (v := ?_) (by kernel_rfl) (by kernel_rfl) rfl (by kernel_rfl) (by kernel_rfl) (by kernel_rfl) (fun _ _ _ h => h) (Or.inl ⟨by rfl, ?_⟩) (by assumption) ?_
        rotate_left
        · intro w' hSw; (try dsimp only at hSw); clear hSw; go_simp; (try with_reducible rfl)
        (try simp only [Act.put, List.getElem_toArray, List.getElem_cons_zero, List.getElem_cons_succ, List.setIfInBounds_toArray, List.set_cons_zero, List.set_cons_succ])
        refine wpAnyF_ready (rs := [8]) (by kernel_rfl) (by simp) ?_
        refine AllReadyF.cons rfl (fun KK hKK => ?_) AllReadyF.nil
        go_simp
        ((with_reducible refine (HR1.out q h B HL.out _ HC6.out.G.M.r).mono ?_); rintro e' w7 ⟨d1, f1, rfl, hd7, g1, g2, hb7⟩; have hSS := HC6.out.later hb7; have hz7 := And.intro HC6.out.x.2.box.lt (And.intro HC6.out.x.2.set.lt (And.intro HC6.out.x.2.cfg.lt HC6.out.sz)); have H7 := hi (And.intro hSS (And.intro hd7 (show (l1 < d1 ∧ s1 < d1 ∧ c1 < d1) ∧ (l1 < f1 ∧ s1 < f1 ∧ c1 < f1) ∧ v.heap.size ≤ d1 ∧ v.heap.size ≤ f1 from by omega))); clear hd7 g1 g2 hb7 hz7)
        (try go_simp)
        refine hKK.out _ _ ⟨_, hSS⟩ (fun hHeld => ?_)
        clear hKK KK
        (try simp only [Act.put, List.getElem_toArray, List.getElem_cons_zero, List.getElem_cons_succ, List.setIfInBounds_toArray, List.set_cons_zero, List.set_cons_succ])
        refine wpAnyF_take (i := 9) (v := ?_) (by kernel_rfl) (by kernel_rfl) rfl (by kernel_rfl) (by kernel_rfl) (by kernel_rfl) (fun _ _ _ h => h) (Or.inl ⟨by rfl, ?_⟩) (by assumption) ?_
        rotate_left
        · intro w' hSw; (try dsimp only at hSw); clear hSw; go_simp; (try with_reducible rfl)
        (try simp only [Act.put, List.getElem_toArray, List.getElem_cons_zero, List.getElem_cons_succ, List.setIfInBounds_toArray, List.set_cons_zero, List.set_cons_succ])
        refine wpAnyF_take (i := 10) (v := ?_) (by kernel_rfl) (by kernel_rfl) rfl (by kernel_rfl) (by kernel_rfl) (by kernel_rfl) (fun _ _ _ h => h) (Or.inl ⟨by rfl, ?_⟩) (by assumption) ?_
        rotate_left
        · intro w' hSw; (try dsimp only at hSw); clear hSw; go_simp; (try with_reducible rfl)
        (try simp only [Act.put, List.getElem_toArray, List.getElem_cons_zero, List.getElem_cons_succ, List.setIfInBounds_toArray, List.set_cons_zero, List.set_cons_succ])
        refine wpAnyF_take (i := 11) (v := ?_) (by kernel_rfl) (by kernel_rfl) rfl (by kernel_rfl) (by kernel_rfl) (by kernel_rfl) (fun _ _ _ h => h) (Or.inl ⟨by rfl, ?_⟩) (by assumption) ?_
        rotate_left
        · intro w' hSw; (try dsimp only at hSw); clear hSw; go_simp; (try with_reducible rfl)
        (try simp only [Act.put, List.getElem_toArray, List.getElem_cons_zero, List.getElem_cons_succ, List.setIfInBounds_toArray, List.set_cons_zero, List.set_cons_succ])
        refine wpAnyF_take (i := 13) (v := ?_) (by kernel_rfl) (by kernel_rfl) rfl (by kernel_rfl) (by kernel_rfl) (by kernel_rfl) (fun _ _ _ h => h) (Or.inl ⟨by rfl, ?_⟩) (by assumption) ?_
        rotate_left
        · intro w' hSw; (try dsimp only at hSw); clear hSw; go_simp; (try with_reducible rfl)
        (try simp only [Act.put, List.getElem_toArray, List.getElem_cons_zero, List.getElem_cons_succ, List.setIfInBounds_toArray, List.set_cons_zero, List.set_cons_succ])
        refine wpAnyF_ready (rs := [14]) (by kernel_rfl) (by simp) ?_
        refine AllReadyF.cons rfl (fun KK hKK => ?_) AllReadyF.nil
        obtain ⟨r0, r1, r2, r3, r4, r5, r6⟩ := CB.seven H7.out.1.G.M.P
        have rf := H7.out.1.G.M.P.frozen
        have rz := H7.out.1.G.M.P.lt
        go_simp
        refine hKK.out _ _ ⟨pt d1, H7.out.1.turn (cs' := (prC (pt p) (pt q) (pt l) (pt l1) (pt d) (pt d1) false)) (H7.out.1.G.M.P.set 5 (pt d1)) (kept_setCell _ _ _ _)⟩ (fun hHeld => ?_)
        clear hKK KK
        (try simp only [Act.put, List.getElem_toArray, List.getElem_cons_zero, List.getElem_cons_succ, List.setIfInBounds_toArray, List.set_cons_zero, List.set_cons_succ])
        refine wpAnyF_done (by kernel_rfl) ?_ _
        refine NoPanic.normal ?_
        have H8 := hi (H7.out.1.turn (cs' := (prC (pt p) (pt q) (pt l) (pt l1) (pt d) (pt d1) false)) (H7.out.1.G.M.P.set 5 (pt d1)) (kept_setCell _ _ _ _))
        have HD8 := hi (H7.out.2.1.kept (kept_setCell w7 (w.heap.size + 1) 5 (pt d1)) (by have := H7.out.2.2; show ¬ (d1 = w.heap.size + 1); omega) (by have := H7.out.2.2; show ¬ (f1 = w.heap.size + 1); omega) (fun b hy => by obtain ⟨_, _, _, e⟩ := hy; cases e))
        clear r0 r1 r2 r3 r4 r5 r6 rf rz
        go_wp2
        go_roundw
        case rel => exact ⟨2, by go_num, hi (.inr (.inr ⟨rfl, n, m, _, l, s, c, d, f, l1, s1, c1, d1, f1, H8.out.G, H8.out.x.1, ⟨H8.out.x.2, HD8.out, (by have := H5.out.2; have := HmN.out; omega), ⟨H7.out.2.2.1, H7.out.2.2.2.1⟩, ⟨HD8.out.box.lt, HD8.out.cfg.lt⟩⟩, HmN.out.2.2⟩))⟩
        case measure => simp [intOf]
      · have HG := hi (And.intro G0 (And.intro T0 (And.intro T1 hn)))
        obtain ⟨r0, r1, r2, r3, r4, r5, r6⟩ := CB.seven G0.M.P
        obtain ⟨u0, u1, u2, u3, u4, u5, u6⟩ := CB.seven G0.M.R
        have rf := G0.M.P.frozen
        have rz := G0.M.P.lt
        have uf := G0.M.R.frozen
        have uz := G0.M.R.lt
        have hlo := G0.M.lo
        clear G0 T0 T1 hn HJ
        go_wp2
        have k1 := kept_setCell v (w.heap.size + 1) 6 (.bool true)
        have hR1 := HG.out.1.M.R.keptB k1 (by show ¬ (w.heap.size = w.heap.size + 1); omega)
        have k2 := kept_s7 (v.setCell ⟨w.heap.size + 1, 6, none⟩ (.bool true)) w.heap.size (pt p) (pt q) (pt l) (pt l') (pt d) (pt d') (.bool true)
        have hM1 := HG.out.1.M.turn (HG.out.1.M.P.set 6 (.bool true)) k1
        have hb2 := hM1.below.trans (k2.toBelow hM1.below.size (fun b e => by have e' : b = w.heap.size := e; omega))
        refine bodyPost_ret (results_pr rfl _ _ w.heap.size _ _ _ _ _ _ _ rfl (hR1.set7 _ _ _ _ _ _ _)) rfl ⟨p, q, l, l', d, d', B, rfl, HL.out, HG.out.1.M.m.bytes.2, ?_⟩
        exact prx_mk (hM1.m.kept k2 (by show ¬ (p = w.heap.size); omega) (by show ¬ (g = w.heap.size); omega)) (hM1.r.kept k2 (by show ¬ (q = w.heap.size); omega) (by show ¬ (h = w.heap.size); omega)) HG.out.1.M.far hlo hb2 ((HG.out.2.1.kept k1 (by have := HG.out.2.2.2; omega)).kept k2 (by have := HG.out.2.2.2; omega)) ((HG.out.2.2.1.kept k1 (by have := HG.out.2.1; have := HG.out.2.2.2; have h9 := HG.out.2.1.lo; have h8 := HG.out.2.1.mid; have h7 := HG.out.2.1.hi; omega)).kept k2 (by have := HG.out.2.2.2; have h9 := HG.out.2.1.lo; have h8 := HG.out.2.1.mid; have h7 := HG.out.2.1.hi; omega)) HG.out.2.2.2 HT.out
  · have hc2 : ¬ (200 : Int) < (ys.length : Int) := by omega
    have HZ := hi (show BytesIn w (.slice ad ys.length cap) ys from hy)
    have HZL := hi (show ys.length ≤ 9223372036854775807 from by exact hyl)
    have HZH := hi (show ∀ h, w.heap.size ≤ h → ∀ b off cp, (.slice ad ys.length cap : Value) = .slice (some ⟨b, off, none⟩) ys.length cp → ys ≠ [] → ¬ b = h from fun h hh b off cp e hne hb => by
    obtain ⟨a2, c2, e2, _, _, hr⟩ := HZ.out
    obtain ⟨b3, o3, rfl, hc3⟩ := hr hne
    rw [e2] at e
    cases e
    have h0 := World.block_lt_of_cell? _ _ (hc3 0 (List.length_pos_iff.2 hne))
    simp only at h0
    omega)
    clear hy hyl hcap hmem hrow hT ha hb
    go_enter Tryd.func9, Tryd.ntmps9
    go_wp2_with (first
      | (go_at_call 19; ((with_reducible refine (HLN.out _).mono ?_); rintro e w1 ⟨p, g, q, h, rfl, hB1⟩; have H1 := hi (HF.out p g q h w1 hB1); clear hB1; obtain ⟨r0, r1, r2, r3, r4, r5, r6⟩ := H1.out.P.seven; have rf := H1.out.P.frozen; have rz := H1.out.P.lt))
      | (go_at_call 37; (have H2 := hi (H1.out.turn (cs' := prC (pt p) (pt q) no no no no false) ((H1.out.P.set 0 (pt p)).set 1 (pt q)) ((kept_setCell _ _ _ _).trans (kept_setCell _ _ _ _))); clear r0 r1 r2 r3 r4 r5 r6 rf rz; (with_reducible refine (HPU.out _ _ HZL.out p g _ H2.out.m (HZ.out.below H2.out.below)).mono ?_); rintro e w3 ⟨⟨v3, rfl⟩, hm3, hk3⟩; have H3 := hi (H2.out.put hm3 hk3); clear hm3 hk3; obtain ⟨r0, r1, r2, r3, r4, r5, r6⟩ := H3.out.P.seven; have rf := H3.out.P.frozen; have rz := H3.out.P.lt))
      | (go_at_call 38; (clear r0 r1 r2 r3 r4 r5 r6 rf rz; (with_reducible refine (HRP.out _ _ HZL.out q h _ H3.out.r (HZ.out.below H3.out.below) (HZH.out h (by have := H3.out.lo; omega))).mono ?_); rintro e w4 ⟨⟨v4, rfl⟩, hm4, hk4⟩; have H4 := hi (H3.out.rput hm4 hk4); clear hm4 hk4)))
    have HL := hi (show (putL (List.replicate 200 0) 0 200 ys).length = 200 from by rw [putL_len]; simp)
    obtain ⟨B, hB⟩ : ∃ B, putL (List.replicate 200 0) 0 200 ys = B := ⟨_, rfl⟩
    rw [hB] at H4 HL
    have HG0 := hi (show BgA w p g q h B w4.heap.size n0 n1 (prC (pt p) (pt q) no no no no false) (w4.alloc (.cells #[.int .i64 n0, .int .i64 n1] 84)) from ⟨H4.out.later (bal _ _), CB.new _ _ _, H4.out.P.lt⟩)
    clear hB HPU HRP HZ HZL HZH HF HLN
    try clear r0 r1 r2 r3 r4 r5 r6 rf rz
    obtain ⟨A, hA⟩ : ∃ A, w4.heap.size = A := ⟨_, rfl⟩
    rw [hA] at HG0
    try rw [hA]
    clear hA
    go_loopw [9] (fun i wr => ∃ k : Nat, i = .int .i64 k ∧ Hi (BgI w p g q h B A n0 n1 x0 x1 k wr)) (fun i _ => 2 - (intOf i).toNat)
    case atStart => exact ⟨0, rfl, hi (.inl ⟨rfl, HG0.out⟩)⟩
    case round =>
      obtain ⟨k, rfl, HJ⟩ := hrel
      obtain ⟨v, rfl⟩ : ∃ v : World, v = wr := ⟨_, rfl⟩
      rcases HJ.out with ⟨rfl, G0⟩ | ⟨rfl, n, m, l, s, c, d, f, G0, T0, hmv, hn⟩ | ⟨rfl, n, m, m2, l, s, c, d, f, l', s', c', d', f', G0, T0, T1, hn⟩
      · have HG := hi G0
        have zP := G0.M.P.lt
        have zF := fresh_at G0
        have HC := hi (BgC.first 0 70 160 9 (fun _ => True) HG.out (Car.none _) trivial)
        clear G0 HJ
        go_wp2
        refine wp_region_noPanic ?_
        refine wp_region_last_drew (S := (fun V => ∃ y : Value, BgC w p g q h B A n0 n1 (prC (pt p) (pt q) y no no no false) v 0 70 160 9 (fun _ => True) V)) [] (by kernel_rfl) ⟨_, HC.out⟩ (fun hHeld => ?_)
        (try simp only [Array.replicate_succ, Array.replicate_zero, List.push_toArray, List.nil_append, List.cons_append])
        refine wpAnyF_take (i := 0) (v := ?_) (by kernel_rfl) (by kernel_rfl) rfl (by kernel_rfl) (by kernel_rfl) (by kernel_rfl) (fun _ _ _ h => h) (Or.inl ⟨by rfl, ?_⟩) (by assumption) ?_
        rotate_left
        · intro w' hSw; (try dsimp only at hSw); clear hSw; go_simp; (try with_reducible rfl)
        (try simp only [Act.put, List.getElem_toArray, List.getElem_cons_zero, List.getElem_cons_succ, List.setIfInBounds_toArray, List.set_cons_zero, List.set_cons_succ])
        refine wpAnyF_take (i := 1) (v := ?_) (by kernel_rfl) (by kernel_rfl) rfl (by kernel_rfl) (by kernel_rfl) (by kernel_rfl) (fun _ _ _ h => h) (Or.inl ⟨by rfl, ?_⟩) (by assumption) ?_
        rotate_left
        · intro w' hSw; (try dsimp only at hSw); clear hSw; go_simp; (try with_reducible rfl)
        (try simp only [Act.put, List.getElem_toArray, List.getElem_cons_zero, List.getElem_cons_succ, List.setIfInBounds_toArray, List.set_cons_zero, List.set_cons_succ])
        refine wpAnyF_take (i := 2) (v := ?_) (by kernel_rfl) (by kernel_rfl) rfl (by kernel_rfl) (by kernel_rfl) (by kernel_rfl) (fun _ _ _ h => h) (Or.inl ⟨by rfl, ?_⟩) (by assumption) ?_
        rotate_left
        · intro w' hSw; (try dsimp only at hSw); obtain ⟨_, hSw⟩ := hSw; obtain ⟨q0, q1, q2, q3, q4, q5, q6⟩ := CB.seven hSw.G.M.P; clear hSw; go_simp; (try with_reducible rfl)
        (try simp only [Act.put, List.getElem_toArray, List.getElem_cons_zero, List.getElem_cons_succ, List.setIfInBounds_toArray, List.set_cons_zero, List.set_cons_succ])
        refine wpAnyF_take (i := 3) (v := ?_) (by kernel_rfl) (by kernel_rfl) rfl (by kernel_rfl) (by kernel_rfl) (by kernel_rfl) (fun _ _ _ h => h) (Or.inl ⟨by rfl, ?_⟩) (by assumption) ?_
        rotate_left
        · intro w' hSw; (try dsimp only at hSw); clear hSw; go_simp; (try with_reducible rfl)
        (try simp only [Act.put, List.getElem_toArray, List.getElem_cons_zero, List.getElem_cons_succ, List.setIfInBounds_toArray, List.set_cons_zero, List.set_cons_succ])
        refine wpAnyF_take (i := 4) (v := ?_) (by kernel_rfl) (by kernel_rfl) rfl (by kernel_rfl) (by kernel_rfl) (by kernel_rfl) (fun _ _ _ h => h) (Or.inl ⟨by rfl, ?_⟩) (by assumption) ?_
        rotate_left
        · intro w' hSw; (try dsimp only at hSw); clear hSw; go_simp; (try with_reducible rfl)
        (try simp only [Act.put, List.getElem_toArray, List.getElem_cons_zero, List.getElem_cons_succ, List.setIfInBounds_toArray, List.set_cons_zero, List.set_cons_succ])
        refine wpAnyF_take (i := 5) (v := ?_) (by kernel_rfl) (by kernel_rfl) rfl (by kernel_rfl) (by kernel_rfl) (by kernel_rfl) (fun _ _ _ h => h) (Or.inl ⟨by rfl, ?_⟩) (by assumption) ?_
        rotate_left
        · intro w' hSw; (try dsimp only at hSw); obtain ⟨_, hSw⟩ := hSw; have q0 := hSw.G.arr.cell 0; have q1 := hSw.G.arr.cell 1; clear hSw; go_simp; (try with_reducible rfl)
        (try simp only [Act.put, List.getElem_toArray, List.getElem_cons_zero, List.getElem_cons_succ, List.setIfInBounds_toArray, List.set_cons_zero, List.set_cons_succ])
        refine wpAnyF_take (i := 6) (v := ?_) (by kernel_rfl) (by kernel_rfl) rfl (by kernel_rfl) (by kernel_rfl) (by kernel_rfl) (fun _ _ _ h => h) (Or.inl ⟨by rfl, ?_⟩) (by assumption) ?_
        rotate_left
        · intro w' hSw; (try dsimp only at hSw); obtain ⟨_, hSw⟩ := hSw; have q0 := hSw.u.cell 0; have q1 := hSw.u.cell 1; clear hSw; go_simp; (try with_reducible rfl)
        (try simp only [Act.put, List.getElem_toArray, List.getElem_cons_zero, List.getElem_cons_succ, List.setIfInBounds_toArray, List.set_cons_zero, List.set_cons_succ])
        refine wpAnyF_take (i := 7) (v := ?_) (by kernel_rfl) (by kernel_rfl) rfl (by kernel_rfl) (by kernel_rfl) (by kernel_rfl) (fun _ _ _ h => h) (Or.inl ⟨by rfl, ?_⟩) (by assumption) ?_
        rotate_left
        · intro w' hSw; (try dsimp only at hSw); obtain ⟨_, hSw⟩ := hSw; have q0 := hSw.t.cell 0; have q1 := hSw.t.cell 1; clear hSw; go_simp; (try with_reducible rfl)
        (try simp only [Act.put, List.getElem_toArray, List.getElem_cons_zero, List.getElem_cons_succ, List.setIfInBounds_toArray, List.set_cons_zero, List.set_cons_succ])
        refine wpAnyF_take (i := 12) (v := ?_) (by kernel_rfl) (by kernel_rfl) rfl (by kernel_rfl) (by kernel_rfl) (by kernel_rfl) (fun _ _ _ h => h) (Or.inl ⟨by rfl, ?_⟩) (by assumption) ?_
        rotate_left
        · intro w' hSw; (try dsimp only at hSw); clear hSw; go_simp; (try with_reducible rfl)
        (try simp only [Act.put, List.getElem_toArray, List.getElem_cons_zero, List.getElem_cons_succ, List.setIfInBounds_toArray, List.set_cons_zero, List.set_cons_succ])
        refine wpAnyF_ready (rs := [8]) (by kernel_rfl) (by simp) ?_
        refine AllReadyF.cons rfl (fun KK hKK => ?_) AllReadyF.nil
        go_simp
        ((with_reducible refine (HN0.out p g B HL.out _ HC.out.G.M.m).mono ?_); rintro e' w5 ⟨l1, s1, c1, rfl, hl5, g1, g2, g3, hb5⟩; have hSS := HC.out.later hb5; have hz5 := HC.out.sz; have H5 := hi (And.intro (hSS.add (U := fun W => LpB W l1 s1 c1 n0 S0 x0) (Car.lp ⟨by omega, by omega, by omega⟩) hl5) (show v.heap.size ≤ l1 ∧ v.heap.size ≤ s1 ∧ v.heap.size ≤ c1 from ⟨by omega, by omega, by omega⟩)); clear hl5 g1 g2 g3 hb5 hz5)
        (try go_simp)
        refine hKK.out _ _ ⟨_, hSS⟩ (fun hHeld => ?_)
        clear hKK KK
        (try simp only [Act.put, List.getElem_toArray, List.getElem_cons_zero, List.getElem_cons_succ, List.setIfInBounds_toArray, List.set_cons_zero, List.set_cons_succ])
        refine wpAnyF_take (i := 9) (v := ?_) (by kernel_rfl) (by kernel_rfl) rfl (by kernel_rfl) (by kernel_rfl) (by kernel_rfl) (fun _ _ _ h => h) (Or.inl ⟨by rfl, ?_⟩) (by assumption) ?_
        rotate_left
        · intro w' hSw; (try dsimp only at hSw); clear hSw; go_simp; (try with_reducible rfl)
        (try simp only [Act.put, List.getElem_toArray, List.getElem_cons_zero, List.getElem_cons_succ, List.setIfInBounds_toArray, List.set_cons_zero, List.set_cons_succ])
        refine wpAnyF_take (i := 10) (v := ?_) (by kernel_rfl) (by kernel_rfl) rfl (by kernel_rfl) (by kernel_rfl) (by kernel_rfl) (fun _ _ _ h => h) (Or.inl ⟨by rfl, ?_⟩) (by assumption) ?_
        rotate_left
        · intro w' hSw; (try dsimp only at hSw); clear hSw; go_simp; (try with_reducible rfl)
        (try simp only [Act.put, List.getElem_toArray, List.getElem_cons_zero, List.getElem_cons_succ, List.setIfInBounds_toArray, List.set_cons_zero, List.set_cons_succ])
        refine wpAnyF_take (i := 11) (v := ?_) (by kernel_rfl) (by kernel_rfl) rfl (by kernel_rfl) (by kernel_rfl) (by kernel_rfl) (fun _ _ _ h => h) (Or.inl ⟨by rfl, ?_⟩) (by assumption) ?_
        rotate_left
        · intro w' hSw; (try dsimp only at hSw); clear hSw; go_simp; (try with_reducible rfl)
        (try simp only [Act.put, List.getElem_toArray, List.getElem_cons_zero, List.getElem_cons_succ, List.setIfInBounds_toArray, List.set_cons_zero, List.set_cons_succ])
        refine wpAnyF_take (i := 13) (v := ?_) (by kernel_rfl) (by kernel_rfl) rfl (by kernel_rfl) (by kernel_rfl) (by kernel_rfl) (fun _ _ _ h => h) (Or.inl ⟨by rfl, ?_⟩) (by assumption) ?_
        rotate_left
        · intro w' hSw; (try dsimp only at hSw); clear hSw; go_simp; (try with_reducible rfl)
        (try simp only [Act.put, List.getElem_toArray, List.getElem_cons_zero, List.getElem_cons_succ, List.setIfInBounds_toArray, List.set_cons_zero, List.set_cons_succ])
        refine wpAnyF_ready (rs := [14]) (by kernel_rfl) (by simp) ?_
        refine AllReadyF.cons rfl (fun KK hKK => ?_) AllReadyF.nil
        obtain ⟨r0, r1, r2, r3, r4, r5, r6⟩ := CB.seven H5.out.1.G.M.P
        have rf := H5.out.1.G.M.P.frozen
        have rz := H5.out.1.G.M.P.lt
        go_simp
        refine hKK.out _ _ ⟨pt l1, (H5.out.1.turn (cs' := (prC (pt p) (pt q) (pt l1) no no no false)) (H5.out.1.G.M.P.set 2 (pt l1)) (kept_setCell _ _ _ _)).base HC.out.car⟩ (fun hHeld => ?_)
        clear hKK KK
        (try simp only [Act.put, List.getElem_toArray, List.getElem_cons_zero, List.getElem_cons_succ, List.setIfInBounds_toArray, List.set_cons_zero, List.set_cons_succ])
        refine wpAnyF_done (by kernel_rfl) ?_ _
        refine NoPanic.normal ?_
        have HC6 := hi ((H5.out.1.turn (cs' := (prC (pt p) (pt q) (pt l1) no no no false)) (H5.out.1.G.M.P.set 2 (pt l1)) (kept_setCell _ _ _ _)).later (below_dr _))
        clear r0 r1 r2 r3 r4 r5 r6 rf rz
        go_wp2
        refine wp_region_noPanic ?_
        refine wp_region_last_drew (S := (fun V => ∃ y : Value, BgC w p g q h B A n0 n1 (prC (pt p) (pt q) (pt l1) no y no false) v 0 70 160 9 (fun V => (fun _ => True) V ∧ (fun W => LpB W l1 s1 c1 n0 S0 x0) V) V)) [] (by kernel_rfl) ⟨_, HC6.out⟩ (fun hHeld => ?_)
        (try simp only [Array.replicate_succ, Array.replicate_zero, List.push_toArray, List.nil_append, List.cons_append])
        refine wpAnyF_take (i := 0) (v := ?_) (by kernel_rfl) (by kernel_rfl) rfl (by kernel_rfl) (by kernel_rfl) (by kernel_rfl) (fun _ _ _ h => h) (Or.inl ⟨by rfl, ?_⟩) (by assumption) ?_
        rotate_left
        · intro w' hSw; (try dsimp only at hSw); clear hSw; go_simp; (try with_reducible rfl)
        (try simp only [Act.put, List.getElem_toArray, List.getElem_cons_zero, List.getElem_cons_succ, List.setIfInBounds_toArray, List.set_cons_zero, List.set_cons_succ])
        refine wpAnyF_take (i := 1) (v := ?_) (by kernel_rfl) (by kernel_rfl) rfl (by kernel_rfl) (by kernel_rfl) (by kernel_rfl) (fun _ _ _ h => h) (Or.inl ⟨by rfl, ?_⟩) (by assumption) ?_
        rotate_left
        · intro w' hSw; (try dsimp only at hSw); clear hSw; go_simp; (try with_reducible rfl)
        (try simp only [Act.put, List.getElem_toArray, List.getElem_cons_zero, List.getElem_cons_succ, List.setIfInBounds_toArray, List.set_cons_zero, List.set_cons_succ])
        refine wpAnyF_take (i := 2) (v := ?_) (by kernel_rfl) (by kernel_rfl) rfl (by kernel_rfl) (by kernel_rfl) (by kernel_rfl) (fun _ _ _ h => h) (Or.inl ⟨by rfl, ?_⟩) (by assumption) ?_
        rotate_left
        · intro w' hSw; (try dsimp only at hSw); obtain ⟨_, hSw⟩ := hSw; obtain ⟨q0, q1, q2, q3, q4, q5, q6⟩ := CB.seven hSw.G.M.P; clear hSw; go_simp; (try with_reducible rfl)
        (try simp only [Act.put, List.getElem_toArray, List.getElem_cons_zero, List.getElem_cons_succ, List.setIfInBounds_toArray, List.set_cons_zero, List.set_cons_succ])
        refine wpAnyF_take (i := 3) (v := ?_) (by kernel_rfl) (by kernel_rfl) rfl (by kernel_rfl) (by kernel_rfl) (by kernel_rfl) (fun _ _ _ h => h) (Or.inl ⟨by rfl, ?_⟩) (by assumption) ?_
        rotate_left
        · intro w' hSw; (try dsimp only at hSw); clear hSw; go_simp; (try with_reducible rfl)
        (try simp only [Act.put, List.getElem_toArray, List.getElem_cons_zero, List.getElem_cons_succ, List.setIfInBounds_toArray, List.set_cons_zero, List.set_cons_succ])
        refine wpAnyF_take (i := 4) (v := ?_) (by kernel_rfl) (by kernel_rfl) rfl (by kernel_rfl) (by kernel_rfl) (by kernel_rfl) (fun _ _ _ h => h) (Or.inl ⟨by rfl, ?_⟩) (by assumption) ?_
        rotate_left
        · intro w' hSw; (try dsimp only at hSw); clear hSw; go_simp; (try with_reducible rfl)
        (try simp only [Act.put, List.getElem_toArray, List.getElem_cons_zero, List.getElem_cons_succ, List.setIfInBounds_toArray, List.set_cons_zero, List.set_cons_succ])
        refine wpAnyF_take (i := 5) (v := ?_) (by kernel_rfl) (by kernel_rfl) rfl (by kernel_rfl) (by kernel_rfl) (by kernel_rfl) (fun _ _ _ h => h) (Or.inl ⟨by rfl, ?_⟩) (by assumption) ?_
        rotate_left
        · intro w' hSw; (try dsimp only at hSw); obtain ⟨_, hSw⟩ := hSw; have q0 := hSw.G.arr.cell 0; have q1 := hSw.G.arr.cell 1; clear hSw; go_simp; (try with_reducible rfl)
        (try simp only [Act.put, List.getElem_toArray, List.getElem_cons_zero, List.getElem_cons_succ, List.setIfInBounds_toArray, List.set_cons_zero, List.set_cons_succ])
        refine wpAnyF_take (i := 6) (v := ?_) (by kernel_rfl) (by kernel_rfl) rfl (by kernel_rfl) (by kernel_rfl) (by kernel_rfl) (fun _ _ _ h => h) (Or.inl ⟨by rfl, ?_⟩) (by assumption) ?_
        rotate_left
        · intro w' hSw; (try dsimp only at hSw); obtain ⟨_, hSw⟩ := hSw; have q0 := hSw.u.cell 0; have q1 := hSw.u.cell 1; clear hSw; go_simp; (try with_reducible rfl)
        (try simp only [Act.put, List.getElem_toArray, List.getElem_cons_zero, List.getElem_cons_succ, List.setIfInBounds_toArray, List.set_cons_zero, List.set_cons_succ])
        refine wpAnyF_take (i := 7) (v := ?_) (by kernel_rfl) (by kernel_rfl) rfl (by kernel_rfl) (by kernel_rfl) (by kernel_rfl) (fun _ _ _ h => h) (Or.inl ⟨by rfl, ?_⟩) (by assumption) ?_
        rotate_left
        · intro w' hSw; (try dsimp only at hSw); obtain ⟨_, hSw⟩ := hSw; have q0 := hSw.t.cell 0; have q1 := hSw.t.cell 1; clear hSw; go_simp; (try with_reducible rfl)
        (try simp only [Act.put, List.getElem_toArray, List.getElem_cons_zero, List.getElem_cons_succ, List.setIfInBounds_toArray, List.set_cons_zero, List.set_cons_succ])
        refine wpAnyF_take (i := 12) (v := ?_) (by kernel_rfl) (by kernel_rfl) rfl (by kernel_rfl) (by kernel_rfl) (by kernel_rfl) (fun _ _ _ h => h) (Or.inl ⟨by rfl, ?_⟩) (by assumption) ?_
        rotate_left
        · intro w' hSw; (try dsimp only at hSw); clear hSw; go_simp; (try with_reducible rfl)
        (try simp only [Act.put, List.getElem_toArray, List.getElem_cons_zero, List.getElem_cons_succ, List.setIfInBounds_toArray, List.set_cons_zero, List.set_cons_succ])
        refine wpAnyF_ready (rs := [8]) (by kernel_rfl) (by simp) ?_
        refine AllReadyF.cons rfl (fun KK hKK => ?_) AllReadyF.nil
        go_simp
        ((with_reducible refine (HR0.out q h B HL.out _ HC6.out.G.M.r).mono ?_); rintro e' w7 ⟨d1, f1, rfl, hd7, g1, g2, hb7⟩; have hSS := HC6.out.later hb7; have hz7 := And.intro HC6.out.x.2.box.lt (And.intro HC6.out.x.2.set.lt (And.intro HC6.out.x.2.cfg.lt HC6.out.sz)); have H7 := hi (And.intro hSS (And.intro hd7 (show (l1 < d1 ∧ s1 < d1 ∧ c1 < d1) ∧ (l1 < f1 ∧ s1 < f1 ∧ c1 < f1) ∧ v.heap.size ≤ d1 ∧ v.heap.size ≤ f1 from by omega))); clear hd7 g1 g2 hb7 hz7)
        (try go_simp)
        refine hKK.out _ _ ⟨_, hSS⟩ (fun hHeld => ?_)
        clear hKK KK
        (try simp only [Act.put, List.getElem_toArray, List.getElem_cons_zero, List.getElem_cons_succ, List.setIfInBounds_toArray, List.set_cons_zero, List.set_cons_succ])
        refine wpAnyF_take (i := 9) (v := ?_) (by kernel_rfl) (by kernel_rfl) rfl (by kernel_rfl) (by kernel_rfl) (by kernel_rfl) (fun _ _ _ h => h) (Or.inl ⟨by rfl, ?_⟩) (by assumption) ?_
        rotate_left
        · intro w' hSw; (try dsimp only at hSw); clear hSw; go_simp; (try with_reducible rfl)
        (try simp only [Act.put, List.getElem_toArray, List.getElem_cons_zero, List.getElem_cons_succ, List.setIfInBounds_toArray, List.set_cons_zero, List.set_cons_succ])
        refine wpAnyF_take (i := 10) (v := ?_) (by kernel_rfl) (by kernel_rfl) rfl (by kernel_rfl) (by kernel_rfl) (by kernel_rfl) (fun _ _ _ h => h) (Or.inl ⟨by rfl, ?_⟩) (by assumption) ?_
        rotate_left
        · intro w' hSw; (try dsimp only at hSw); clear hSw; go_simp; (try with_reducible rfl)
        (try simp only [Act.put, List.getElem_toArray, List.getElem_cons_zero, List.getElem_cons_succ, List.setIfInBounds_toArray, List.set_cons_zero, List.set_cons_succ])
        refine wpAnyF_take (i := 11) (v := ?_) (by kernel_rfl) (by kernel_rfl) rfl (by kernel_rfl) (by kernel_rfl) (by kernel_rfl) (fun _ _ _ h => h) (Or.inl ⟨by rfl, ?_⟩) (by assumption) ?_
        rotate_left
        · intro w' hSw; (try dsimp only at hSw); clear hSw; go_simp; (try with_reducible rfl)
        (try simp only [Act.put, List.getElem_toArray, List.getElem_cons_zero, List.getElem_cons_succ, List.setIfInBounds_toArray, List.set_cons_zero, List.set_cons_succ])
        refine wpAnyF_take (i := 13) (v := ?_) (by kernel_rfl) (by kernel_rfl) rfl (by kernel_rfl) (by kernel_rfl) (by kernel_rfl) (fun _ _ _ h => h) (Or.inl ⟨by rfl, ?_⟩) (by assumption) ?_
        rotate_left
        · intro w' hSw; (try dsimp only at hSw); clear hSw; go_simp; (try with_reducible rfl)
        (try simp only [Act.put, List.getElem_toArray, List.getElem_cons_zero, List.getElem_cons_succ, List.setIfInBounds_toArray, List.set_cons_zero, List.set_cons_succ])
        refine wpAnyF_ready (rs := [14]) (by kernel_rfl) (by simp) ?_
        refine AllReadyF.cons rfl (fun KK hKK => ?_) AllReadyF.nil
        obtain ⟨r0, r1, r2, r3, r4, r5, r6⟩ := CB.seven H7.out.1.G.M.P
        have rf := H7.out.1.G.M.P.frozen
        have rz := H7.out.1.G.M.P.lt
        go_simp
        refine hKK.out _ _ ⟨pt d1, H7.out.1.turn (cs' := (prC (pt p) (pt q) (pt l1) no (pt d1) no false)) (H7.out.1.G.M.P.set 4 (pt d1)) (kept_setCell _ _ _ _)⟩ (fun hHeld => ?_)
        clear hKK KK
        (try simp only [Act.put, List.getElem_toArray, List.getElem_cons_zero, List.getElem_cons_succ, List.setIfInBounds_toArray, List.set_cons_zero, List.set_cons_succ])
        refine wpAnyF_done (by kernel_rfl) ?_ _
        refine NoPanic.normal ?_
        have H8 := hi (H7.out.1.turn (cs' := (prC (pt p) (pt q) (pt l1) no (pt d1) no false)) (H7.out.1.G.M.P.set 4 (pt d1)) (kept_setCell _ _ _ _))
        have HD8 := hi (H7.out.2.1.kept (kept_setCell w7 (w.heap.size + 1) 4 (pt d1)) (by have := H7.out.2.2; show ¬ (d1 = w.heap.size + 1); omega) (by have := H7.out.2.2; show ¬ (f1 = w.heap.size + 1); omega) (fun b hy => by obtain ⟨_, _, _, e⟩ := hy; cases e))
        clear r0 r1 r2 r3 r4 r5 r6 rf rz
        go_wp2
        go_roundw
        case rel => exact ⟨1, by go_num, hi (.inr (.inl ⟨rfl, v.heap.size, _, l1, s1, c1, d1, f1, H8.out.G, ⟨H8.out.x.2, HD8.out, H5.out.2, ⟨H7.out.2.2.1, H7.out.2.2.2.1⟩, ⟨HD8.out.box.lt, HD8.out.cfg.lt⟩⟩, Nat.le_refl _, zF⟩))⟩
        case measure => simp [intOf]
      · have HG := hi G0
        have zP := G0.M.P.lt
        have zF := fresh_at G0
        have HC := hi (BgC.first 80 70 180 9 (Prt n m l s c d f n0 x0) HG.out (Car.prt (by have := HG.out.M.lo; omega)) T0)
        have HmN := hi (And.intro T0 (And.intro hmv hn))
        clear T0 hmv hn
        clear G0 HJ
        go_wp2
        refine wp_region_noPanic ?_
        refine wp_region_last_drew (S := (fun V => ∃ y : Value, BgC w p g q h B A n0 n1 (prC (pt p) (pt q) (pt l) y (pt d) no false) v 80 70 180 9 (Prt n m l s c d f n0 x0) V)) [] (by kernel_rfl) ⟨_, HC.out⟩ (fun hHeld => ?_)
        (try simp only [Array.replicate_succ, Array.replicate_zero, List.push_toArray, List.nil_append, List.cons_append])
        refine wpAnyF_take (i := 0) (v := ?_) (by kernel_rfl) (by kernel_rfl) rfl (by kernel_rfl) (by kernel_rfl) (by kernel_rfl) (fun _ _ _ h => h) (Or.inl ⟨by rfl, ?_⟩) (by assumption) ?_
        rotate_left
        · intro w' hSw; (try dsimp only at hSw); clear hSw; go_simp; (try with_reducible rfl)
        (try simp only [Act.put, List.getElem_toArray, List.getElem_cons_zero, List.getElem_cons_succ, List.setIfInBounds_toArray, List.set_cons_zero, List.set_cons_succ])
        refine wpAnyF_take (i := 1) (v := ?_) (by kernel_rfl) (by kernel_rfl) rfl (by kernel_rfl) (by kernel_rfl) (by kernel_rfl) (fun _ _ _ h => h) (Or.inl ⟨by rfl, ?_⟩) (by assumption) ?_
        rotate_left
        · intro w' hSw; (try dsimp only at hSw); clear hSw; go_simp; (try with_reducible rfl)
        (try simp only [Act.put, List.getElem_toArray, List.getElem_cons_zero, List.getElem_cons_succ, List.setIfInBounds_toArray, List.set_cons_zero, List.set_cons_succ])
        refine wpAnyF_take (i := 2) (v := ?_) (by kernel_rfl) (by kernel_rfl) rfl (by kernel_rfl) (by kernel_rfl) (by kernel_rfl) (fun _ _ _ h => h) (Or.inl ⟨by rfl, ?_⟩) (by assumption) ?_
        rotate_left
        · intro w' hSw; (try dsimp only at hSw); obtain ⟨_, hSw⟩ := hSw; obtain ⟨q0, q1, q2, q3, q4, q5, q6⟩ := CB.seven hSw.G.M.P; clear hSw; go_simp; (try with_reducible rfl)
        (try simp only [Act.put, List.getElem_toArray, List.getElem_cons_zero, List.getElem_cons_succ, List.setIfInBounds_toArray, List.set_cons_zero, List.set_cons_succ])
        refine wpAnyF_take (i := 3) (v := ?_) (by kernel_rfl) (by kernel_rfl) rfl (by kernel_rfl) (by kernel_rfl) (by kernel_rfl) (fun _ _ _ h => h) (Or.inl ⟨by rfl, ?_⟩) (by assumption) ?_
        rotate_left
        · intro w' hSw; (try dsimp only at hSw); clear hSw; go_simp; (try with_reducible rfl)
        (try simp only [Act.put, List.getElem_toArray, List.getElem_cons_zero, List.getElem_cons_succ, List.setIfInBounds_toArray, List.set_cons_zero, List.set_cons_succ])
        refine wpAnyF_take (i := 4) (v := ?_) (by kernel_rfl) (by kernel_rfl) rfl (by kernel_rfl) (by kernel_rfl) (by kernel_rfl) (fun _ _ _ h => h) (Or.inl ⟨by rfl, ?_⟩) (by assumption) ?_
        rotate_left
        · intro w' hSw; (try dsimp only at hSw); clear hSw; go_simp; (try with_reducible rfl)
        (try simp only [Act.put, List.getElem_toArray, List.getElem_cons_zero, List.getElem_cons_succ, List.setIfInBounds_toArray, List.set_cons_zero, List.set_cons_succ])
        refine wpAnyF_take (i := 5) (v := ?_) (by kernel_rfl) (by kernel_rfl) rfl (by kernel_rfl) (by kernel_rfl) (by kernel_rfl) (fun _ _ _ h => h) (Or.inl ⟨by rfl, ?_⟩) (by assumption) ?_
        rotate_left
        · intro w' hSw; (try dsimp only at hSw); obtain ⟨_, hSw⟩ := hSw; have q0 := hSw.G.arr.cell 0; have q1 := hSw.G.arr.cell 1; clear hSw; go_simp; (try with_reducible rfl)
        (try simp only [Act.put, List.getElem_toArray, List.getElem_cons_zero, List.getElem_cons_succ, List.setIfInBounds_toArray, List.set_cons_zero, List.set_cons_succ])
        refine wpAnyF_take (i := 6) (v := ?_) (by kernel_rfl) (by kernel_rfl) rfl (by kernel_rfl) (by kernel_rfl) (by kernel_rfl) (fun _ _ _ h => h) (Or.inl ⟨by rfl, ?_⟩) (by assumption) ?_
        rotate_left
        · intro w' hSw; (try dsimp only at hSw); obtain ⟨_, hSw⟩ := hSw; have q0 := hSw.u.cell 0; have q1 := hSw.u.cell 1; clear hSw; go_simp; (try with_reducible rfl)
        (try simp only [Act.put, List.getElem_toArray, List.getElem_cons_zero, List.getElem_cons_succ, List.setIfInBounds_toArray, List.set_cons_zero, List.set_cons_succ])
        refine wpAnyF_take (i := 7) (v := ?_) (by kernel_rfl) (by kernel_rfl) rfl (by kernel_rfl) (by kernel_rfl) (by kernel_rfl) (fun _ _ _ h => h) (Or.inl ⟨by rfl, ?_⟩) (by assumption) ?_
        rotate_left
        · intro w' hSw; (try dsimp only at hSw); obtain ⟨_, hSw⟩ := hSw; have q0 := hSw.t.cell 0; have q1 := hSw.t.cell 1; clear hSw; go_simp; (try with_reducible rfl)
        (try simp only [Act.put, List.getElem_toArray, List.getElem_cons_zero, List.getElem_cons_succ, List.setIfInBounds_toArray, List.set_cons_zero, List.set_cons_succ])
        refine wpAnyF_take (i := 12) (v := ?_) (by kernel_rfl) (by kernel_rfl) rfl (by kernel_rfl) (by kernel_rfl) (by kernel_rfl) (fun _ _ _ h => h) (Or.inl ⟨by rfl, ?_⟩) (by assumption) ?_
        rotate_left
        · intro w' hSw; (try dsimp only at hSw); clear hSw; go_simp; (try with_reducible rfl)
        (try simp only [Act.put, List.getElem_toArray, List.getElem_cons_zero, List.getElem_cons_succ, List.setIfInBounds_toArray, List.set_cons_zero, List.set_cons_succ])
        refine wpAnyF_ready (rs := [8]) (by kernel_rfl) (by simp) ?_
        refine AllReadyF.cons rfl (fun KK hKK => ?_) AllReadyF.nil
        go_simp
        ((with_reducible refine (HN1.out p g B HL.out _ HC.out.G.M.m).mono ?_); rintro e' w5 ⟨l1, s1, c1, rfl, hl5, g1, g2, g3, hb5⟩; have hSS := HC.out.later hb5; have hz5 := HC.out.sz; have H5 := hi (And.intro (hSS.add (U := fun W => LpB W l1 s1 c1 n1 S0 x1) (Car.lp ⟨by omega, by omega, by omega⟩) hl5) (show v.heap.size ≤ l1 ∧ v.heap.size ≤ s1 ∧ v.heap.size ≤ c1 from ⟨by omega, by omega, by omega⟩)); clear hl5 g1 g2 g3 hb5 hz5)
        (try go_simp)
        refine hKK.out _ _ ⟨_, hSS⟩ (fun hHeld => ?_)
        clear hKK KK
        (try simp only [Act.put, List.getElem_toArray, List.getElem_cons_zero, List.getElem_cons_succ, List.setIfInBounds_toArray, List.set_cons_zero, List.set_cons_succ])
        refine wpAnyF_take (i := 9) (v := ?_) (by kernel_rfl) (by kernel_rfl) rfl (by kernel_rfl) (by kernel_rfl) (by kernel_rfl) (fun _ _ _ h => h) (Or.inl ⟨by rfl, ?_⟩) (by assumption) ?_
        rotate_left
        · intro w' hSw; (try dsimp only at hSw); clear hSw; go_simp; (try with_reducible rfl)
        (try simp only [Act.put, List.getElem_toArray, List.getElem_cons_zero, List.getElem_cons_succ, List.setIfInBounds_toArray, List.set_cons_zero, List.set_cons_succ])
        refine wpAnyF_take (i := 10) (v := ?_) (by kernel_rfl) (by kernel_rfl) rfl (by kernel_rfl) (by kernel_rfl) (by kernel_rfl) (fun _ _ _ h => h) (Or.inl ⟨by rfl, ?_⟩) (by assumption) ?_
        rotate_left
        · intro w' hSw; (try dsimp only at hSw); clear hSw; go_simp; (try with_reducible rfl)
        (try simp only [Act.put, List.getElem_toArray, List.getElem_cons_zero, List.getElem_cons_succ, List.setIfInBounds_toArray, List.set_cons_zero, List.set_cons_succ])
        refine wpAnyF_take (i := 11) (v := ?_) (by kernel_rfl) (by kernel_rfl) rfl (by kernel_rfl) (by kernel_rfl) (by kernel_rfl) (fun _ _ _ h => h) (Or.inl ⟨by rfl, ?_⟩) (by assumption) ?_
        rotate_left
        · intro w' hSw; (try dsimp only at hSw); clear hSw; go_simp; (try with_reducible rfl)
        (try simp only [Act.put, List.getElem_toArray, List.getElem_cons_zero, List.getElem_cons_succ, List.setIfInBounds_toArray, List.set_cons_zero, List.set_cons_succ])
        refine wpAnyF_take (i := 13) (v := ?_) (by kernel_rfl) (by kernel_rfl) rfl (by kernel_rfl) (by kernel_rfl) (by kernel_rfl) (fun _ _ _ h => h) (Or.inl ⟨by rfl, ?_⟩) (by assumption) ?_
        rotate_left
        · intro w' hSw; (try dsimp only at hSw); clear hSw; go_simp; (try with_reducible rfl)
        (try simp only [Act.put, List.getElem_toArray, List.getElem_cons_zero, List.getElem_cons_succ, List.setIfInBounds_toArray, List.set_cons_zero, List.set_cons_succ])
        refine wpAnyF_ready (rs := [14]) (by kernel_rfl) (by simp) ?_
        refine AllReadyF.cons rfl (fun KK hKK => ?_) AllReadyF.nil
        obtain ⟨r0, r1, r2, r3, r4, r5, r6⟩ := CB.seven H5.out.1.G.M.P
        have rf := H5.out.1.G.M.P.frozen
        have rz := H5.out.1.G.M.P.lt
        go_simp
        refine hKK.out _ _ ⟨pt l1, (H5.out.1.turn (cs' := (prC (pt p) (pt q) (pt l) (pt l1) (pt d) no false)) (H5.out.1.G.M.P.set 3 (pt l1)) (kept_setCell _ _ _ _)).base HC.out.car⟩ (fun hHeld => ?_)
        clear hKK KK
        (try simp only [Act.put, List.getElem_toArray, List.getElem_cons_zero, List.getElem_cons_succ, List.setIfInBounds_toArray, List.set_cons_zero, List.set_cons_succ])
        refine wpAnyF_done (by kernel_rfl) ?_ _
        refine NoPanic.normal ?_
        have HC6 := hi ((H5.out.1.turn (cs' := (prC (pt p) (pt q) (pt l) (pt l1) (pt d) no false)) (H5.out.1.G.M.P.set 3 (pt l1)) (kept_setCell _ _ _ _)).later (below_dr _))
        clear r0 r1 r2 r3 r4 r5 r6 rf rz
        go_wp2
        refine wp_region_noPanic ?_
        refine wp_region_last_drew (S := (fun V => ∃ y : Value, BgC w p g q h B A n0 n1 (prC (pt p) (pt q) (pt l) (pt l1) (pt d) y false) v 80 70 180 9 (fun V => (Prt n m l s c d f n0 x0) V ∧ (fun W => LpB W l1 s1 c1 n1 S0 x1) V) V)) [] (by kernel_rfl) ⟨_, HC6.out⟩ (fun hHeld => ?_)
        (try simp only [Array.replicate_succ, Array.replicate_zero, List.push_toArray, List.nil_append, List.cons_append])
        refine wpAnyF_take (i := 0) (v := ?_) (by kernel_rfl) (by kernel_rfl) rfl (by kernel_rfl) (by kernel_rfl) (by kernel_rfl) (fun _ _ _ h => h) (Or.inl ⟨by rfl, ?_⟩) (by assumption) ?_
        rotate_left
        · intro w' hSw; (try dsimp only at hSw); clear hSw; go_simp; (try with_reducible rfl)
        (try simp only [Act.put, List.getElem_toArray, List.getElem_cons_zero, List.getElem_cons_succ, List.setIfInBounds_toArray, List.set_cons_zero, List.set_cons_succ])
        refine wpAnyF_take (i := 1) (v := ?_) (by kernel_rfl) (by kernel_rfl) rfl (by kernel_rfl) (by kernel_rfl) (by kernel_rfl) (fun _ _ _ h => h) (Or.inl ⟨by rfl, ?_⟩) (by assumption) ?_
        rotate_left
        · intro w' hSw; (try dsimp only at hSw); clear hSw; go_simp; (try with_reducible rfl)
        (try simp only [Act.put, List.getElem_toArray, List.getElem_cons_zero, List.getElem_cons_succ, List.setIfInBounds_toArray, List.set_cons_zero, List.set_cons_succ])
        refine wpAnyF_take (i := 2) (v := ?_) (by kernel_rfl) (by kernel_rfl) rfl (by kernel_rfl) (by kernel_rfl) (by kernel_rfl) (fun _ _ _ h => h) (Or.inl ⟨by rfl, ?_⟩) (by assumption) ?_
        rotate_left
        · intro w' hSw; (try dsimp only at hSw); obtain ⟨_, hSw⟩ := hSw; obtain ⟨q0, q1, q2, q3, q4, q5, q6⟩ := CB.seven hSw.G.M.P; clear hSw; go_simp; (try with_reducible rfl)
        (try simp only [Act.put, List.getElem_toArray, List.getElem_cons_zero, List.getElem_cons_succ, List.setIfInBounds_toArray, List.set_cons_zero, List.set_cons_succ])
        refine wpAnyF_take (i := 3) (v := ?_) (by kernel_rfl) (by kernel_rfl) rfl (by kernel_rfl) (by kernel_rfl) (by kernel_rfl) (fun _ _ _ h => h) (Or.inl ⟨by rfl, ?_⟩) (by assumption) ?_
        rotate_left
        · intro w' hSw; (try dsimp only at hSw); clear hSw; go_simp; (try with_reducible rfl)
        (try simp only [Act.put, List.getElem_toArray, List.getElem_cons_zero, List.getElem_cons_succ, List.setIfInBounds_toArray, List.set_cons_zero, List.set_cons_succ])
        refine wpAnyF_take (i := 4) (v := ?_) (by kernel_rfl) (by kernel_rfl) rfl (by kernel_rfl) (by kernel_rfl) (by kernel_rfl) (fun _ _ _ h => h) (Or.inl ⟨by rfl, ?_⟩) (by assumption) ?_
        rotate_left
        · intro w' hSw; (try dsimp only at hSw); clear hSw; go_simp; (try with_reducible rfl)
        (try simp only [Act.put, List.getElem_toArray, List.getElem_cons_zero, List.getElem_cons_succ, List.setIfInBounds_toArray, List.set_cons_zero, List.set_cons_succ])
        refine wpAnyF_take (i := 5) (v := ?_) (by kernel_rfl) (by kernel_rfl) rfl (by kernel_rfl) (by kernel_rfl) (by kernel_rfl) (fun _ _ _ h => h) (Or.inl ⟨by rfl, ?_⟩) (by assumption) ?_
        rotate_left
        · intro w' hSw; (try dsimp only at hSw); obtain ⟨_, hSw⟩ := hSw; have q0 := hSw.G.arr.cell 0; have q1 := hSw.G.arr.cell 1; clear hSw; go_simp; (try with_reducible rfl)
        (try simp only [Act.put, List.getElem_toArray, List.getElem_cons_zero, List.getElem_cons_succ, List.setIfInBounds_toArray, List.set_cons_zero, List.set_cons_succ])
        refine wpAnyF_take (i := 6) (v := ?_) (by kernel_rfl) (by kernel_rfl) rfl (by kernel_rfl) (by kernel_rfl) (by kernel_rfl) (fun _ _ _ h => h) (Or.inl ⟨by rfl, ?_⟩) (by assumption) ?_
        rotate_left
        · intro w' hSw; (try dsimp only at hSw); obtain ⟨_, hSw⟩ := hSw; have q0 := hSw.u.cell 0; have q1 := hSw.u.cell 1; clear hSw; go_simp; (try with_reducible rfl)
        (try simp only [Act.put, List.getElem_toArray, List.getElem_cons_zero, List.getElem_cons_succ, List.setIfInBounds_toArray, List.set_cons_zero, List.set_cons_succ])
        refine wpAnyF_take (i := 7) (v := ?_) (by kernel_rfl) (by kernel_rfl) rfl (by kernel_rfl) (by kernel_rfl) (by kernel_rfl) (fun _ _ _ h => h) (Or.inl ⟨by rfl, ?_⟩) (by assumption) ?_
        rotate_left
        · intro w' hSw; (try dsimp only at hSw); obtain ⟨_, hSw⟩ := hSw; have q0 := hSw.t.cell 0; have q1 := hSw.t.cell 1; clear hSw; go_simp; (try with_reducible rfl)
        (try simp only [Act.put, List.getElem_toArray, List.getElem_cons_zero, List.getElem_cons_succ, List.setIfInBounds_toArray, List.set_cons_zero, List.set_cons_succ])
        refine wpAnyF_take (i := 12) (v := ?_) (by kernel_rfl) (by kernel_rfl) rfl (by kernel_rfl) (by kernel_rfl) (by kernel_rfl) (fun _ _ _ h => h) (Or.inl ⟨by rfl, ?_⟩) (by assumption) ?_
        rotate_left
        · intro w' hSw; (try dsimp only at hSw); clear hSw; go_simp; (try with_reducible rfl)
        (try simp only [Act.put, List.getElem_toArray, List.getElem_cons_zero, List.getElem_cons_succ, List.setIfInBounds_toArray, List.set_cons_zero, List.set_cons_succ])
        refine wpAnyF_ready (rs := [8]) (by kernel_rfl) (by simp) ?_
        refine AllReadyF.cons rfl (fun KK hKK => ?_) AllReadyF.nil
        go_simp
        ((with_reducible refine (HR1.out q h B HL.out _ HC6.out.G.M.r).mono ?_); rintro e' w7 ⟨d1, f1, rfl, hd7, g1, g2, hb7⟩; have hSS := HC6.out.later hb7; have hz7 := And.intro HC6.out.x.2.box.lt (And.intro HC6.out.x.2.set.lt (And.intro HC6.out.x.2.cfg.lt HC6.out.sz)); have H7 := hi (And.intro hSS (And.intro hd7 (show (l1 < d1 ∧ s1 < d1 ∧ c1 < d1) ∧ (l1 < f1 ∧ s1 < f1 ∧ c1 < f1) ∧ v.heap.size ≤ d1 ∧ v.heap.size ≤ f1 from by omega))); clear hd7 g1 g2 hb7 hz7)
        (try go_simp)
        refine hKK.out _ _ ⟨_, hSS⟩ (fun hHeld => ?_)
        clear hKK KK
        (try simp only [Act.put, List.getElem_toArray, List.getElem_cons_zero, List.getElem_cons_succ, List.setIfInBounds_toArray, List.set_cons_zero, List.set_cons_succ])
        refine wpAnyF_take (i := 9) (v := ?_) (by kernel_rfl) (by kernel_rfl) rfl (by kernel_rfl) (by kernel_rfl) (by kernel_rfl) (fun _ _ _ h => h) (Or.inl ⟨by rfl, ?_⟩) (by assumption) ?_
        rotate_left
        · intro w' hSw; (try dsimp only at hSw); clear hSw; go_simp; (try with_reducible rfl)
        (try simp only [Act.put, List.getElem_toArray, List.getElem_cons_zero, List.getElem_cons_succ, List.setIfInBounds_toArray, List.set_cons_zero, List.set_cons_succ])
        refine wpAnyF_take (i := 10) (v := ?_) (by kernel_rfl) (by kernel_rfl) rfl (by kernel_rfl) (by kernel_rfl) (by kernel_rfl) (fun _ _ _ h => h) (Or.inl ⟨by rfl, ?_⟩) (by assumption) ?_
        rotate_left
        · intro w' hSw; (try dsimp only at hSw); clear hSw; go_simp; (try with_reducible rfl)
        (try simp only [Act.put, List.getElem_toArray, List.getElem_cons_zero, List.getElem_cons_succ, List.setIfInBounds_toArray, List.set_cons_zero, List.set_cons_succ])
        refine wpAnyF_take (i := 11) (v := ?_) (by kernel_rfl) (by kernel_rfl) rfl (by kernel_rfl) (by kernel_rfl) (by kernel_rfl) (fun _ _ _ h => h) (Or.inl ⟨by rfl, ?_⟩) (by assumption) ?_
        rotate_left
        · intro w' hSw; (try dsimp only at hSw); clear hSw; go_simp; (try with_reducible rfl)
        (try simp only [Act.put, List.getElem_toArray, List.getElem_cons_zero, List.getElem_cons_succ, List.setIfInBounds_toArray, List.set_cons_zero, List.set_cons_succ])
        refine wpAnyF_take (i := 13) (v := ?_) (by kernel_rfl) (by kernel_rfl) rfl (by kernel_rfl) (by kernel_rfl) (by kernel_rfl) (fun _ _ _ h => h) (Or.inl ⟨by rfl, ?_⟩) (by assumption) ?_
        rotate_left
        · intro w' hSw; (try dsimp only at hSw); clear hSw; go_simp; (try with_reducible rfl)
        (try simp only [Act.put, List.getElem_toArray, List.getElem_cons_zero, List.getElem_cons_succ, List.setIfInBounds_toArray, List.set_cons_zero, List.set_cons_succ])
        refine wpAnyF_ready (rs := [14]) (by kernel_rfl) (by simp) ?_
        refine AllReadyF.cons rfl (fun KK hKK => ?_) AllReadyF.nil
        obtain ⟨r0, r1, r2, r3, r4, r5, r6⟩ := CB.seven H7.out.1.G.M.P
        have rf := H7.out.1.G.M.P.frozen
        have rz := H7.out.1.G.M.P.lt
        go_simp
        refine hKK.out _ _ ⟨pt d1, H7.out.1.turn (cs' := (prC (pt p) (pt q) (pt l) (pt l1) (pt d) (pt d1) false)) (H7.out.1.G.M.P.set 5 (pt d1)) (kept_setCell _ _ _ _)⟩ (fun hHeld => ?_)
        clear hKK KK
        (try simp only [Act.put, List.getElem_toArray, List.getElem_cons_zero, List.getElem_cons_succ, List.setIfInBounds_toArray, List.set_cons_zero, List.set_cons_succ])
        refine wpAnyF_done (by kernel_rfl) ?_ _
        refine NoPanic.normal ?_
        have H8 := hi (H7.out.1.turn (cs' := (prC (pt p) (pt q) (pt l) (pt l1) (pt d) (pt d1) false)) (H7.out.1.G.M.P.set 5 (pt d1)) (kept_setCell _ _ _ _))
        have HD8 := hi (H7.out.2.1.kept (kept_setCell w7 (w.heap.size + 1) 5 (pt d1)) (by have := H7.out.2.2; show ¬ (d1 = w.heap.size + 1); omega) (by have := H7.out.2.2; show ¬ (f1 = w.heap.size + 1); omega) (fun b hy => by obtain ⟨_, _, _, e⟩ := hy; cases e))
        clear r0 r1 r2 r3 r4 r5 r6 rf rz
        go_wp2
        go_roundw
        case rel => exact ⟨2, by go_num, hi (.inr (.inr ⟨rfl, n, m, _, l, s, c, d, f, l1, s1, c1, d1, f1, H8.out.G, H8.out.x.1, ⟨H8.out.x.2, HD8.out, (by have := H5.out.2; have := HmN.out; omega), ⟨H7.out.2.2.1, H7.out.2.2.2.1⟩, ⟨HD8.out.box.lt, HD8.out.cfg.lt⟩⟩, HmN.out.2.2⟩))⟩
        case measure => simp [intOf]
      · have HG := hi (And.intro G0 (And.intro T0 (And.intro T1 hn)))
        obtain ⟨r0, r1, r2, r3, r4, r5, r6⟩ := CB.seven G0.M.P
        obtain ⟨u0, u1, u2, u3, u4, u5, u6⟩ := CB.seven G0.M.R
        have rf := G0.M.P.frozen
        have rz := G0.M.P.lt
        have uf := G0.M.R.frozen
        have uz := G0.M.R.lt
        have hlo := G0.M.lo
        clear G0 T0 T1 hn HJ
        go_wp2
        have k1 := kept_setCell v (w.heap.size + 1) 6 (.bool true)
        have hR1 := HG.out.1.M.R.keptB k1 (by show ¬ (w.heap.size = w.heap.size + 1); omega)
        have k2 := kept_s7 (v.setCell ⟨w.heap.size + 1, 6, none⟩ (.bool true)) w.heap.size (pt p) (pt q) (pt l) (pt l') (pt d) (pt d') (.bool true)
        have hM1 := HG.out.1.M.turn (HG.out.1.M.P.set 6 (.bool true)) k1
        have hb2 := hM1.below.trans (k2.toBelow hM1.below.size (fun b e => by have e' : b = w.heap.size := e; omega))
        refine bodyPost_ret (results_pr rfl _ _ w.heap.size _ _ _ _ _ _ _ rfl (hR1.set7 _ _ _ _ _ _ _)) rfl ⟨p, q, l, l', d, d', B, rfl, HL.out, HG.out.1.M.m.bytes.2, ?_⟩
        exact prx_mk (hM1.m.kept k2 (by show ¬ (p = w.heap.size); omega) (by show ¬ (g = w.heap.size); omega)) (hM1.r.kept k2 (by show ¬ (q = w.heap.size); omega) (by show ¬ (h = w.heap.size); omega)) HG.out.1.M.far hlo hb2 ((HG.out.2.1.kept k1 (by have := HG.out.2.2.2; omega)).kept k2 (by have := HG.out.2.2.2; omega)) ((HG.out.2.2.1.kept k1 (by have := HG.out.2.1; have := HG.out.2.2.2; have h9 := HG.out.2.1.lo; have h8 := HG.out.2.1.mid; have h7 := HG.out.2.1.hi; omega)).kept k2 (by have := HG.out.2.2.2; have h9 := HG.out.2.1.lo; have h8 := HG.out.2.1.mid; have h7 := HG.out.2.1.hi; omega)) HG.out.2.2.2 HT.out

end Go.Proofs.YtobhdjepfhbgaaaDoor
