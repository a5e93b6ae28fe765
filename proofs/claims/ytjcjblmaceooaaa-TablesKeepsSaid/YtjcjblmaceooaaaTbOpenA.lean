/-
  Arguments opened: an act, a row of acts.
-/
import Derived.Test.YtjcjblmaceooaaaTbOpen
import Derived.Test.YtjcjblmaceooaaaTbS
namespace Go.Proofs.Ytjcjblmaceooaaa
open Go.ChangeShapes Go.WideShapes Go.ChangeAt Go.RowKit Go.Joins Go.Deep
set_option linter.unusedVariables false
set_option linter.unusedSimpArgs false
set_option maxRecDepth 100000

theorem cellsAct : Try.prog.cellsOf 62 = 14 := by kernel_rfl
theorem cellsU : Try.prog.cellsOf 60 = 1 := by kernel_rfl
theorem underU : Try.prog.underlying 60 = some (.int .u64) := by kernel_rfl
theorem act_fields : ∃ f0 f1 f2 f3 f4 f5 f6 f7 f8 : Field, Try.prog.underlying 62 = some (.struct #[f0, f1, f2, f3, f4, f5, f6, f7, f8]) ∧ (f0.type = 3 ∧ f0.offset = 0) ∧ (f1.type = 3 ∧ f1.offset = 1) ∧ (f2.type = 3 ∧ f2.offset = 2) ∧ (f3.type = 3 ∧ f3.offset = 3) ∧ (f4.type = 36 ∧ f4.offset = 4) ∧ (f5.type = 52 ∧ f5.offset = 7) ∧ (f6.type = 30 ∧ f6.offset = 10) ∧ (f7.type = 4 ∧ f7.offset = 12) ∧ (f8.type = 60 ∧ f8.offset = 13) :=
  ⟨_, _, _, _, _, _, _, _, _, Try.underlying62, ⟨rfl, rfl⟩, ⟨rfl, rfl⟩, ⟨rfl, rfl⟩, ⟨rfl, rfl⟩, ⟨rfl, rfl⟩, ⟨rfl, rfl⟩, ⟨rfl, rfl⟩, ⟨rfl, rfl⟩, ⟨rfl, rfl⟩⟩
theorem wfu64 {n : Int} (h : (Lit.int .u64 n).wf = true) : 0 ≤ n ∧ n < 18446744073709551616 := by
  simp [Lit.wf, IntKind.max, IntKind.min, IntKind.signed, IntKind.bits] at h
  omega
instance : Inhabited Ax := ⟨⟨0, 0, 0, 0, ⟨false, 0, 0⟩, ⟨0, 0, false⟩, 0, 0, false, 0⟩⟩

section
variable {H : Type} {enc : TypeId × Value → H} {w : World} {base : Nat} {spare : Nat → Bool} {held : Bool}
theorem open_ax_cs {fuel : Nat} {cs : List Value} {y : DataW H × List MemPlace} (hl : cs.length = 14) (h : DataW.trod enc Try.prog w base spare held fuel 62 cs = some y) :
    ∃ x : Ax, cs = acC x ∧ x.Fair := by
  obtain ⟨f0, f1, f2, f3, f4, f5, f6, f7, f8, hu, ⟨t0, o0⟩, ⟨t1, o1⟩, ⟨t2, o2⟩, ⟨t3, o3⟩, ⟨t4, o4⟩, ⟨t5, o5⟩, ⟨t6, o6⟩, ⟨t7, o7⟩, ⟨t8, o8⟩⟩ := act_fields
  obtain ⟨xs, k, hk, hxy, hlen, hxl, hf⟩ := DataW.trod_struct hu h
  match cs, hl, xs, hxl with
  | [v0, v1, v2, v3, v4, v5, v6, v7, v8, v9, v10, v11, v12, v13], _, [y0, y1, y2, y3, y4, y5, y6, y7, y8], _ =>
    have g0 := hf 0 f0 rfl
    have g1 := hf 1 f1 rfl
    have g2 := hf 2 f2 rfl
    have g3 := hf 3 f3 rfl
    have g4 := hf 4 f4 rfl
    have g5 := hf 5 f5 rfl
    have g6 := hf 6 f6 rfl
    have g7 := hf 7 f7 rfl
    have g8 := hf 8 f8 rfl
    rw [t0, o0, cellsN] at g0
    rw [t1, o1, cellsN] at g1
    rw [t2, o2, cellsN] at g2
    rw [t3, o3, cellsN] at g3
    rw [t4, o4, cellsDv] at g4
    rw [t5, o5, cellsRt] at g5
    rw [t6, o6, cellsWin] at g6
    rw [t7, o7, cellsB] at g7
    rw [t8, o8, cellsU] at g8
    obtain ⟨z0, e0, _, w0⟩ := DataW.trod_int underN (show DataW.trod enc Try.prog w base spare held k 3 [v0] = some y0 from g0)
    obtain ⟨z1, e1, _, w1⟩ := DataW.trod_int underN (show DataW.trod enc Try.prog w base spare held k 3 [v1] = some y1 from g1)
    obtain ⟨z2, e2, _, w2⟩ := DataW.trod_int underN (show DataW.trod enc Try.prog w base spare held k 3 [v2] = some y2 from g2)
    obtain ⟨z3, e3, _, w3⟩ := DataW.trod_int underN (show DataW.trod enc Try.prog w base spare held k 3 [v3] = some y3 from g3)
    obtain ⟨d, e4, hd⟩ := open_dv_cs (by rfl) (show DataW.trod enc Try.prog w base spare held k 36 [v4, v5, v6] = some y4 from g4)
    obtain ⟨r, e5, hr⟩ := open_rt_cs (by rfl) (show DataW.trod enc Try.prog w base spare held k 52 [v7, v8, v9] = some y5 from g5)
    obtain ⟨wa, ws, e6, hwa, hws⟩ := open_win_cs (show DataW.trod enc Try.prog w base spare held k 30 [v10, v11] = some y6 from g6)
    obtain ⟨z7, e7, _⟩ := DataW.trod_bool underB (show DataW.trod enc Try.prog w base spare held k 4 [v12] = some y7 from g7)
    obtain ⟨z8, e8, _, w8⟩ := DataW.trod_int underU (show DataW.trod enc Try.prog w base spare held k 60 [v13] = some y8 from g8)
    obtain ⟨h0, h1⟩ := wfu64 w8
    obtain ⟨n, rfl⟩ := Int.eq_ofNat_of_zero_le h0
    simp only [dvC, rtC, List.cons.injEq, and_true] at e0 e1 e2 e3 e4 e5 e6 e7 e8
    exact ⟨⟨z0, z1, z2, z3, d, r, wa, ws, z7, n⟩, by rw [e0, e1, e2, e3, e4.1, e4.2.1, e4.2.2, e5.1, e5.2.1, e5.2.2, e6.1, e6.2, e7, e8]; rfl, wf64 w2, hd, hwa, hws, by show n < 18446744073709551616; omega⟩
theorem open_ax {r : Reach} {b0 : Nat} {v : Value} {d : DataW H} {p : List MemPlace} (hv : Value.okWide Try.prog w r b0 62 v) (h : DataW.Trod enc Try.prog w base spare held 62 v d p) : ∃ x : Ax, v = .agg (acC x).toArray ∧ x.Fair := by
  have hl : ∀ cs : Array Value, v = .agg cs → cs.toList.length = 14 := fun cs e => by
    subst e
    simp only [Value.okWide, Try.underlying62] at hv
    obtain ⟨cs', e', hs, _⟩ := hv
    cases e'
    rw [cellsAct] at hs
    simpa using hs
  obtain ⟨cs, fuel, rfl, hf⟩ := open_agg_cs Try.underlying62 hv h
  obtain ⟨x, e, hx⟩ := open_ax_cs (hl _ rfl) hf
  exact ⟨x, by rw [← e], hx⟩
theorem open_axs {r : Reach} {b0 : Nat} {v : Value} {d : DataW H} {p : List MemPlace} (hv : Value.okWide Try.prog w r b0 59 v) (h : DataW.Trod enc Try.prog w base spare held 59 v d p) :
    ∃ (a : Option Addr) (cap b off : Nat) (xs : List Ax), v = .slice a xs.length cap ∧ RowAt w a b off 14 (xs.map acC) ∧ ∀ x ∈ xs, x.Fair :=
  open_row Try.underlying59 cellsAct (by decide) (fun _ => rfl) (fun hl h => open_ax_cs hl h) hv h
end

end Go.Proofs.Ytjcjblmaceooaaa
