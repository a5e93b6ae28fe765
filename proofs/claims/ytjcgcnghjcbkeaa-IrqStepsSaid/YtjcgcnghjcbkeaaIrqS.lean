/-
  What the law IrqSteps keeps through its loop.
-/
import Derived.Test.YtjcgcnghjcbkeaaIrqR
import Derived.Test.YtjcgcnghjcbkeaaIrqM
import Derived.Test.YtjcgcnghjcbkeaaQh
namespace Go.Proofs.Ytjcgcnghjcbkeaa
open Go.ChangeShapes Go.WideShapes Go.ChangeAt Go.RowKit Go.Shelf
set_option linter.unusedVariables false

theorem mixed : Try.prog.follows .mixedOrders = true := by kernel_rfl

/-- The law's boxes: s (zs), acts, the result, r (zr), first (x0), the count k. -/
structure SI (w : World) (b6 b7 b8 : Nat) (x0 : St) (a : Option Addr) (n cap : Nat) (zs zr : St) (k : Nat) (V : World) : Prop where
  s : CB V w.heap.size 23 zs.cs
  acts : CB V (w.heap.size + 1) 24 #[.slice a n cap]
  res : CB V (w.heap.size + 2) 4 #[.bool false]
  r : CB V b6 23 zr.cs
  f : CB V b7 23 x0.cs
  cnt : CB V b8 3 #[.int .i64 k]
  below : Below w.heap.size w V
section
variable {w : World} {b6 b7 b8 : Nat} {x0 : St} {a : Option Addr} {n cap : Nat} {zs zr : St} {k : Nat} {V V' : World}
theorem SI.later (h : SI w b6 b7 b8 x0 a n cap zs zr k V) (q : Below V.heap.size V V') : SI w b6 b7 b8 x0 a n cap zs zr k V' :=
  ⟨h.s.below q, h.acts.below q, h.res.below q, h.r.below q, h.f.below q, h.cnt.below q, h.below.trans (q.mono h.below.size)⟩
theorem SI.drew (h : SI w b6 b7 b8 x0 a n cap zs zr k V) : SI w b6 b7 b8 x0 a n cap zs zr k V.drew := ⟨h.s, h.acts, h.res, h.r, h.f, h.cnt, Below.drew1 h.below⟩
theorem CB.other4 {W : World} {B : Nat} {t : TypeId} {cs : Array Value} (h : CB W B t cs) {b : Nat} (hne : B ≠ b) (y : St) :
    CB ((((W.setCell ⟨b, 0, none⟩ (.bool y.e)).setCell ⟨b, 1, none⟩ (.bool y.l)).setCell ⟨b, 2, none⟩ (.bool y.h)).setCell ⟨b, 3, none⟩ (.bool y.a)) B t cs :=
  (((h.other _ _ _ hne).other _ _ _ hne).other _ _ _ hne).other _ _ _ hne
theorem SI.setR (h : SI w b6 b7 b8 x0 a n cap zs zr k V) (h6 : w.heap.size + 3 ≤ b6) (h67 : b6 ≠ b7) (h68 : b6 ≠ b8) (y : St) :
    SI w b6 b7 b8 x0 a n cap zs y k ((((V.setCell ⟨b6, 0, none⟩ (.bool y.e)).setCell ⟨b6, 1, none⟩ (.bool y.l)).setCell ⟨b6, 2, none⟩ (.bool y.h)).setCell ⟨b6, 3, none⟩ (.bool y.a)) :=
  ⟨h.s.other4 (by omega) y, h.acts.other4 (by omega) y, h.res.other4 (by omega) y, CB.set4 (z := zr) h.r y, h.f.other4 (Ne.symm h67) y, h.cnt.other4 (Ne.symm h68) y, below_set4 h.below (by omega) y⟩
theorem SI.setS (h : SI w b6 b7 b8 x0 a n cap zs zr k V) (h6 : w.heap.size + 3 ≤ b6) (h7 : w.heap.size + 3 ≤ b7) (h8 : w.heap.size + 3 ≤ b8) (y : St) :
    SI w b6 b7 b8 x0 a n cap y zr k ((((V.setCell ⟨w.heap.size, 0, none⟩ (.bool y.e)).setCell ⟨w.heap.size, 1, none⟩ (.bool y.l)).setCell ⟨w.heap.size, 2, none⟩ (.bool y.h)).setCell ⟨w.heap.size, 3, none⟩ (.bool y.a)) :=
  ⟨CB.set4 (z := zs) h.s y, h.acts.other4 (by omega) y, h.res.other4 (by omega) y, h.r.other4 (by omega) y, h.f.other4 (by omega) y, h.cnt.other4 (by omega) y, below_set4 h.below (Nat.le_refl _) y⟩
theorem SI.setK (h : SI w b6 b7 b8 x0 a n cap zs zr k V) (h8 : w.heap.size + 3 ≤ b8) (h68 : b6 ≠ b8) (h78 : b7 ≠ b8) (j : Nat) (i : Int) (hi' : i = j) :
    SI w b6 b7 b8 x0 a n cap zs zr j (V.setCell ⟨b8, 0, none⟩ (.int .i64 i)) := by
  subst hi'
  exact ⟨h.s.other _ _ _ (by omega), h.acts.other _ _ _ (by omega), h.res.other _ _ _ (by omega), h.r.other _ _ _ h68, h.f.other _ _ _ h78, h.cnt.set 0 _, below_set h.below (by omega) _⟩
theorem SI.abL {β : Type} {B m : Nat} {fs fr : β → St} {fk : β → Nat} (hB : w.heap.size + 3 ≤ B) (h6 : b6 < B) (h7 : b7 < B) (h8 : b8 < B) :
    AbL B m (fun s V => SI w b6 b7 b8 x0 a n cap (fs s) (fr s) (fk s) V) := fun s A A' row hs hg hr => by
  have K : ∀ i, i < B → i < A.heap.size → A'.heap[i]? = A.heap[i]? := fun i h1 h2 => hg.block i h2 (fun e => by rcases hr i e.symm with ⟨h3, _⟩ | ⟨h3, _⟩ <;> omega)
  exact ⟨(K _ (by omega) hs.s.lt).trans hs.s, (K _ (by omega) hs.acts.lt).trans hs.acts, (K _ (by omega) hs.res.lt).trans hs.res, (K _ h6 hs.r.lt).trans hs.r, (K _ h7 hs.f.lt).trans hs.f, (K _ h8 hs.cnt.lt).trans hs.cnt,
    hs.below.grown hg hs.below.size (fun r e => by rcases hr r e with ⟨h3, _⟩ | ⟨h3, _⟩ <;> omega)⟩
end

/-- What the two regions that step read of what they do not write. -/
structure SR (w : World) (b8 g o n cap k : Nat) (A : Int) (V : World) : Prop where
  acts : V.cell? ⟨w.heap.size + 1, 0, none⟩ = some (.slice (some ⟨g, o, none⟩) n cap)
  cnt : V.cell? ⟨b8, 0, none⟩ = some (.int .i64 k)
  act : V.cell? ⟨g, o + k, none⟩ = some (.int .i64 A)
theorem SR.cells {w : World} {b8 g o n cap k : Nat} {A : Int} {V : World} (h : SR w b8 g o n cap k A V) : V.cell? ⟨w.heap.size + 1, 0, none⟩ = some (.slice (some ⟨g, o, none⟩) n cap) ∧ V.cell? ⟨b8, 0, none⟩ = some (.int .i64 k) ∧ V.cell? ⟨g, o + k, none⟩ = some (.int .i64 A) := ⟨h.acts, h.cnt, h.act⟩
theorem SI.sr {w : World} {b6 b7 b8 g o n cap k : Nat} {x0 zs zr : St} {A : Int} {V : World} (h : SI w b6 b7 b8 x0 (some ⟨g, o, none⟩) n cap zs zr k V) (hc : w.cell? ⟨g, o + k, none⟩ = some (.int .i64 A)) : SR w b8 g o n cap k A V :=
  ⟨h.acts.cell 0, h.cnt.cell 0, (h.below.cell (p := ⟨g, o + k, none⟩) (World.block_lt_of_cell? w _ hc)).trans hc⟩

/-- How the blocks stand. -/
structure BL (w : World) (b6 b7 b8 B0 Bx : Nat) : Prop where
  l6 : w.heap.size + 3 ≤ b6
  l7 : w.heap.size + 3 ≤ b7
  l8 : w.heap.size + 3 ≤ b8
  h6 : b6 < b8
  h7 : b7 < b8
  ne : b6 ≠ b7
  h8 : b8 + 1 ≤ B0
  hx : B0 + 3 ≤ Bx

/-- Where a round's body stands. -/
structure BD (w : World) (b6 b7 b8 B0 Bx : Nat) (x0 : St) (a : Option Addr) (n cap : Nat) (y : St) (V : World) (zs zr : St) (k : Nat) (W : World) : Prop where
  bl : BL w b6 b7 b8 B0 Bx
  si : SI w b6 b7 b8 x0 a n cap zs zr k W
  bx : CB W Bx 23 y.cs
  kw : KW B0 V W
  kp : KpP (b8 + 1) B0 (B0 + 2) V W
section
variable {w : World} {b6 b7 b8 B0 Bx : Nat} {x0 : St} {a : Option Addr} {n cap : Nat} {y : St} {V : World} {zs zr : St} {k : Nat} {W W' : World}
theorem BD.later (h : BD w b6 b7 b8 B0 Bx x0 a n cap y V zs zr k W) (q : Below W.heap.size W W') : BD w b6 b7 b8 B0 Bx x0 a n cap y V zs zr k W' :=
  ⟨h.bl, h.si.later q, h.bx.below q, h.kw.trans (KW.of_below q), h.kp.trans (KpP.of_below q (by have := h.bx.lt; have := h.bl.hx; omega) (by have := h.bx.lt; have := h.bl.hx; omega))⟩
theorem BD.drew (h : BD w b6 b7 b8 B0 Bx x0 a n cap y V zs zr k W) : BD w b6 b7 b8 B0 Bx x0 a n cap y V zs zr k W.drew :=
  ⟨h.bl, h.si.drew, h.bx, ⟨h.kw.size, h.kw.same⟩, h.kp⟩
theorem BD.setR (h : BD w b6 b7 b8 B0 Bx x0 a n cap y V zs zr k W) (z : St) : BD w b6 b7 b8 B0 Bx x0 a n cap y V zs z k ((((W.setCell ⟨b6, 0, none⟩ (.bool z.e)).setCell ⟨b6, 1, none⟩ (.bool z.l)).setCell ⟨b6, 2, none⟩ (.bool z.h)).setCell ⟨b6, 3, none⟩ (.bool z.a)) :=
  have l := h.bl
  ⟨l, h.si.setR l.l6 l.ne (by have := l.h6; omega) z, h.bx.other4 (by have := l.h6; have := l.h8; have := l.hx; omega) z, h.kw.trans (kw_set4 _ _ _ z), h.kp.trans (kpp_set4 _ z (by have := l.h6; omega) (by have := l.h6; have := l.h8; omega))⟩
theorem BD.setS (h : BD w b6 b7 b8 B0 Bx x0 a n cap y V zs zr k W) (z : St) : BD w b6 b7 b8 B0 Bx x0 a n cap y V z zr k ((((W.setCell ⟨w.heap.size, 0, none⟩ (.bool z.e)).setCell ⟨w.heap.size, 1, none⟩ (.bool z.l)).setCell ⟨w.heap.size, 2, none⟩ (.bool z.h)).setCell ⟨w.heap.size, 3, none⟩ (.bool z.a)) :=
  have l := h.bl
  ⟨l, h.si.setS l.l6 l.l7 l.l8 z, h.bx.other4 (by have := l.l8; have := l.h8; have := l.hx; omega) z, h.kw.trans (kw_set4 _ _ _ z), h.kp.trans (kpp_set4 _ z (by have := l.l8; omega) (by have := l.l8; have := l.h8; omega))⟩
theorem BD.setK (h : BD w b6 b7 b8 B0 Bx x0 a n cap y V zs zr k W) (j : Nat) (i : Int) (hi' : i = j) : BD w b6 b7 b8 B0 Bx x0 a n cap y V zs zr j (W.setCell ⟨b8, 0, none⟩ (.int .i64 i)) :=
  have l := h.bl
  ⟨l, h.si.setK l.l8 (by have := l.h6; omega) (by have := l.h7; omega) j i hi', h.bx.other _ _ _ (by have := l.h8; have := l.hx; omega), h.kw.trans (KW.set _ _ _), h.kp.trans (fun i q => Below.heap_setCell _ ⟨b8, 0, none⟩ _ i (show i ≠ b8 by have := l.h8; omega))⟩
theorem BD.atL (h : BD w b6 b7 b8 B0 Bx x0 a n cap y V y y k W) : AtL w [(Bx, y), (b6, y), (w.heap.size, y)] W :=
  ⟨fun p hp => by
    simp only [List.mem_cons, List.not_mem_nil, or_false] at hp
    rcases hp with rfl | rfl | rfl
    · exact h.bx
    · exact h.si.r
    · exact h.si.s, h.si.below⟩
end

theorem results_boolcell {fn : Func} {c : Tmp} (h : fn.results = #[.cell c 4]) (tmps : Array Value) (w : World) (b : Nat) (x : Bool) (hp : tmps.getD c undef = .pointer (some ⟨b, 0, none⟩)) (hb : CB w b 4 #[.bool x]) :
    (results fn tmps).run Try.prog w = .ok (.bool x) w := by
  have hp' : tmps[c]?.getD undef = .pointer (some ⟨b, 0, none⟩) := by simpa using hp
  have c0 := hb.cell 0
  simp at c0
  simp [results, h, go_sem, hp', c0]

end Go.Proofs.Ytjcgcnghjcbkeaa
