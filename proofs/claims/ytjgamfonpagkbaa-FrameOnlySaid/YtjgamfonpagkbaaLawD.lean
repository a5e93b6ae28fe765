/-
  Awake: the document's examples. The law's played: a bank behind some acts.
-/
import Derived.Test.YtjgamfonpagkbaaLawC
namespace Go.Proofs.Ytjgamfonpagkbaa
open Go.ChangeShapes Go.WideShapes Go.ChangeAt Go.RowKit Go.Shelf
set_option linter.unusedVariables false
attribute [local go_sem] Oper.semAt_some

/-- A bank in blocks of its own above a world. -/
structure BkF (w : World) (b g cap : Nat) (f : Int) (es : List En) (W : World) : Prop where
  bk : BkAt W b g cap f es
  lb : w.heap.size ≤ b
  lg : w.heap.size ≤ g
  fit : Fit f es.length
  few : es.length < 80
  fine : FineAll es
  below : Below w.heap.size w W
theorem BkF.later {w W W' : World} {b g cap : Nat} {f : Int} {es : List En} (h : BkF w b g cap f es W) (k : Below W.heap.size W W') : BkF w b g cap f es W' := ⟨h.bk.below k, h.lb, h.lg, h.fit, h.few, h.fine, h.below.trans (k.mono h.below.size)⟩
theorem BkF.after {w W W' : World} {b g cap : Nat} {f : Int} {es es' : List En} (h : BkF w b g cap f es W) (k : After W b g cap f es' W') (hl : es'.length = es.length) (hf : FineAll es') : BkF w b g cap f es' W' :=
  ⟨k.bk, h.lb, h.lg, by rw [hl]; exact h.fit, by rw [hl]; exact h.few, hf, h.below.trans (k.kept.toBelow h.below.size (fun i e => by subst e; exact h.lg))⟩
theorem BkF.write {w W W' : World} {b g cap : Nat} {f : Int} {es : List En} {p : Pl} {c v : Nat} (h : BkF w b g cap f es W) (k : After W b g cap f (writeV p c f v es).1 W') : BkF w b g cap f (writeV p c f v es).1 W' := h.after k (writeV_len _ _ _ _ _) (writeV_fine h.fine)

def aw0 : List En := fresh 64 xS
def aw1 : List En := (writeV ⟨5, 32, 32⟩ 32 32 5 aw0).1
def aw2 : List En := (writeV ⟨6, 32, 32⟩ 32 32 4 aw1).1
def aw3 : List En := (writeV ⟨11, 36, 4⟩ 4 32 255 aw2).1
theorem aw_w1 : (writeV ⟨5, 32, 32⟩ 32 32 5 aw0).2 = 2 := by decide +kernel
theorem aw_r1 : readV ⟨5, 32, 32⟩ 32 32 aw1 = 5 := by decide +kernel
theorem aw_w2 : (writeV ⟨6, 32, 32⟩ 32 32 4 aw1).2 = 1 := by decide +kernel
theorem aw_r2 : readV ⟨6, 32, 32⟩ 32 32 aw2 = 1 := by decide +kernel
theorem aw_w3 : (writeV ⟨11, 36, 4⟩ 4 32 255 aw2).2 = 1 := by decide +kernel
theorem aw_r3 : readV ⟨11, 36, 4⟩ 4 32 aw3 = 248 := by decide +kernel
theorem pl_ok1 : PlOk ⟨5, 32, 32⟩ 32 := ⟨rfl, by decide, by decide, by decide⟩
theorem pl_ok2 : PlOk ⟨6, 32, 32⟩ 32 := ⟨rfl, by decide, by decide, by decide⟩
theorem pl_ok3 : PlOk ⟨11, 36, 4⟩ 4 := ⟨rfl, by decide, by decide, by decide⟩

theorem awN (w : World) : Calls Try.prog 24 #[.int .i64 32, .int .i64 64, .string { data := #[120] }] w (Made w 32 64 xS) := new_yes 32 64 xS w ⟨by decide, by decide, by decide⟩
theorem aw0_bk {w W : World} {b g : Nat} (hb : w.heap.size ≤ b) (hg : w.heap.size ≤ g) (h : BkAt W b g 64 32 (fresh 64 xS)) (hB : Below w.heap.size w W) : BkF w b g 64 32 aw0 W := ⟨h, hb, hg, ⟨by decide, by decide, by decide⟩, by decide, fresh_fine _ _, hB⟩
section
variable {w W : World} {b g cap : Nat}
theorem awW1 (h : BkF w b g cap 32 aw0 W) : Calls Try.prog 18 #[.pointer (some ⟨b, 0, none⟩), .agg #[.int .i64 5, .int .i64 32, .int .i64 32], .int .u64 5] W fun e w' => e = .returned (.int .i64 2) ∧ BkF w b g cap 32 aw1 w' ∧ Kept (· = g) W w' :=
  (write_any h.bk h.fit h.fine pl_ok1 (v := 5) (by decide)).mono fun e w' ⟨h1, h2⟩ => ⟨by rw [h1, aw_w1]; rfl, h.write h2, h2.kept⟩
theorem awR1 (h : BkF w b g cap 32 aw1 W) : Calls Try.prog 14 #[.pointer (some ⟨b, 0, none⟩), .agg #[.int .i64 5, .int .i64 32, .int .i64 32]] W fun e w' => e = .returned (.int .u64 5) ∧ Below W.heap.size W w' :=
  (read_any h.bk h.fit h.fine pl_ok1).mono fun e w' ⟨h1, h2⟩ => ⟨by rw [h1, aw_r1]; rfl, h2⟩
theorem awW2 (h : BkF w b g cap 32 aw1 W) : Calls Try.prog 18 #[.pointer (some ⟨b, 0, none⟩), .agg #[.int .i64 6, .int .i64 32, .int .i64 32], .int .u64 4] W fun e w' => e = .returned (.int .i64 1) ∧ BkF w b g cap 32 aw2 w' ∧ Kept (· = g) W w' :=
  (write_any h.bk h.fit h.fine pl_ok2 (v := 4) (by decide)).mono fun e w' ⟨h1, h2⟩ => ⟨by rw [h1, aw_w2]; rfl, h.write h2, h2.kept⟩
theorem awR2 (h : BkF w b g cap 32 aw2 W) : Calls Try.prog 14 #[.pointer (some ⟨b, 0, none⟩), .agg #[.int .i64 6, .int .i64 32, .int .i64 32]] W fun e w' => e = .returned (.int .u64 1) ∧ Below W.heap.size W w' :=
  (read_any h.bk h.fit h.fine pl_ok2).mono fun e w' ⟨h1, h2⟩ => ⟨by rw [h1, aw_r2]; rfl, h2⟩
theorem awW3 (h : BkF w b g cap 32 aw2 W) : Calls Try.prog 18 #[.pointer (some ⟨b, 0, none⟩), .agg #[.int .i64 11, .int .i64 36, .int .i64 4], .int .u64 255] W fun e w' => e = .returned (.int .i64 1) ∧ BkF w b g cap 32 aw3 w' ∧ Kept (· = g) W w' :=
  (write_any h.bk h.fit h.fine pl_ok3 (v := 255) (by decide)).mono fun e w' ⟨h1, h2⟩ => ⟨by rw [h1, aw_w3]; rfl, h.write h2, h2.kept⟩
theorem awR3 (h : BkF w b g cap 32 aw3 W) : Calls Try.prog 14 #[.pointer (some ⟨b, 0, none⟩), .agg #[.int .i64 11, .int .i64 36, .int .i64 4]] W fun e w' => e = .returned (.int .u64 248) ∧ Below W.heap.size W w' :=
  (read_any h.bk h.fit h.fine pl_ok3).mono fun e w' ⟨h1, h2⟩ => ⟨by rw [h1, aw_r3]; rfl, h2⟩
end

/-- Where awake stands: its bank, its place's box (and the other one's). -/
structure AW (w : World) (b g cap P : Nat) (p : Pl) (es : List En) (W : World) : Prop where
  bk : BkF w b g cap 32 es W
  p : CB W P 37 p.cs
  n : P ≠ g
  lp : w.heap.size ≤ P
theorem AW.later {w W W' : World} {b g cap P : Nat} {p : Pl} {es : List En} (h : AW w b g cap P p es W) (k : Below W.heap.size W W') : AW w b g cap P p es W' := ⟨h.bk.later k, h.p.below k, h.n, h.lp⟩
theorem AW.wrote {w W W' : World} {b g cap P : Nat} {p : Pl} {es es' : List En} (h : AW w b g cap P p es W) (hb : BkF w b g cap 32 es' W') (k : Kept (· = g) W W') : AW w b g cap P p es' W' := ⟨hb, h.p.keptB k h.n, h.n, h.lp⟩
theorem AW.reg {w W : World} {b g cap P : Nat} {r f c : Int} {es : List En} (h : AW w b g cap P ⟨r, f, c⟩ es W) (hb : P ≠ b) (r2 : Int) : AW w b g cap P ⟨r2, f, c⟩ es (W.setCell ⟨P, 0, none⟩ (.int .i64 r2)) :=
  ⟨⟨h.bk.bk.kept (Kept.set (bs := (· = P)) (Kept.refl _ _) _ _ rfl) (Ne.symm hb) (Ne.symm h.n), h.bk.lb, h.bk.lg, h.bk.fit, h.bk.few, h.bk.fine, below_set h.bk.below h.lp _⟩, by
    have := h.p.set 0 (.int .i64 r2)
    simpa only [List.setIfInBounds_toArray, List.set_cons_zero, List.set_cons_succ] using this, h.n, h.lp⟩
theorem BkF.place {w W : World} {b g cap : Nat} {es : List En} (h : BkF w b g cap 32 es W) (p : Pl) : AW w b g cap W.heap.size p es (W.alloc (.cells p.cs 37)) := by
  have h1 := h.bk.row.lt
  exact ⟨h.later (bal W _), CB.new W _ _, by omega, h.below.size⟩
theorem BkF.over {w W : World} {b g cap : Nat} {f : Int} {es : List En} (h : BkF w b g cap f es W) : W.heap.size ≠ b := by
  have h1 := h.bk.box.lt
  omega

set_option maxRecDepth 100000 in
set_option maxHeartbeats 8000000 in
theorem awake_any (w : World) : Calls Try.prog 9 #[] w fun e w' => e = .returned (.bool true) ∧ Below w.heap.size w w' := by
  go_enter Try.func9, Try.ntmps9
  go_wp2_with (first
    | (go_at_call 24; ((with_reducible refine (awN _).mono ?_); rintro e w1 ⟨b, g, rfl, hb, hg, hbk, hB⟩; have hB1 := aw0_bk hb hg hbk hB; have H1 := hi (hB1.place ⟨5, 32, 32⟩); have hPb := hB1.over; have hwb := hB1.below.size; clear hB1; clear hb hg hbk hB))
    | (go_at_call 18; ((with_reducible refine (awW1 H1.out.bk).mono ?_); rintro e w2 ⟨rfl, hB, hK⟩; have H2 := hi (H1.out.wrote hB hK); have p0 := H2.out.p.cell 0; have p1 := H2.out.p.cell 1; have p2 := H2.out.p.cell 2; have pf := H2.out.p.frozen; dsimp only [Pl.cs] at p0 p1 p2; clear hB hK))
    | (go_at_call 14; ((with_reducible refine (awR1 H2.out.bk).mono ?_); rintro e w3 ⟨rfl, hB⟩; have H3 := hi ((H2.out.later hB).reg hPb 6); have H3a := hi (H2.out.later hB); have p0 := H3a.out.p.cell 0; have p1 := H3a.out.p.cell 1; have p2 := H3a.out.p.cell 2; have pf := H3a.out.p.frozen; dsimp only [Pl.cs] at p0 p1 p2; clear hB))
    | (go_at_call 18; ((with_reducible refine (awW2 H3.out.bk).mono ?_); rintro e w4 ⟨rfl, hB, hK⟩; have H4 := hi (H3.out.wrote hB hK); have p0 := H4.out.p.cell 0; have p1 := H4.out.p.cell 1; have p2 := H4.out.p.cell 2; dsimp only [Pl.cs] at p0 p1 p2; clear hB hK))
    | (go_at_call 14; ((with_reducible refine (awR2 H4.out.bk).mono ?_); rintro e w5 ⟨rfl, hB⟩; have H5 := hi ((H4.out.bk.later hB).place ⟨11, 36, 4⟩); clear hB))
    | (go_at_call 18; ((with_reducible refine (awW3 H5.out.bk).mono ?_); rintro e w6 ⟨rfl, hB, hK⟩; have H6 := hi (H5.out.wrote hB hK); have p0 := H6.out.p.cell 0; have p1 := H6.out.p.cell 1; have p2 := H6.out.p.cell 2; dsimp only [Pl.cs] at p0 p1 p2; clear hB hK))
    | (go_at_call 14; ((with_reducible refine (awR3 H6.out.bk).mono ?_); rintro e w7 ⟨rfl, hB⟩; have H7 := hi (H6.out.later hB); clear hB)))
  go_ret
  exact ⟨rfl, H7.out.bk.below⟩

end Go.Proofs.Ytjgamfonpagkbaa
