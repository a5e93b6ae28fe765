/-
  Arguments opened: a call, a slice of ints, read off the data that came in.
-/
import Derived.Test.YtkfnelhafflimaaSgiN
import Derived.ProofKit
import Derived.OpenShut
import Derived.JoinedCond
import Derived.Deep.DeepHandedRow
import Derived.Deep.Slices
import Derived.SizedLaws
import Derived.Lib.SmallJoins
namespace Go.Proofs.Ytkfnelhafflimaa
open Go.ChangeShapes Go.WideShapes Go.ChangeAt Go.RowKit Go.Joins Go.Deep
set_option linter.unusedVariables false
set_option maxRecDepth 100000

theorem cellsC : Try.prog.cellsOf 24 = 4 := by kernel_rfl
theorem cellsN : Try.prog.cellsOf 3 = 1 := by kernel_rfl
theorem cellsB : Try.prog.cellsOf 4 = 1 := by kernel_rfl
theorem bytes3 : Try.prog.bytesOf 3 = 8 := by kernel_rfl
theorem underN : Try.prog.underlying 3 = some (.int .i64) := by kernel_rfl
theorem underB : Try.prog.underlying 4 = some .bool := by kernel_rfl
theorem call_fields : ∃ f0 f1 f2 f3 : Field, Try.prog.underlying 24 = some (.struct #[f0, f1, f2, f3]) ∧ (f0.type = 3 ∧ f0.offset = 0) ∧ (f1.type = 4 ∧ f1.offset = 1) ∧ (f2.type = 3 ∧ f2.offset = 2) ∧ (f3.type = 4 ∧ f3.offset = 3) :=
  ⟨_, _, _, _, Try.underlying24, ⟨rfl, rfl⟩, ⟨rfl, rfl⟩, ⟨rfl, rfl⟩, ⟨rfl, rfl⟩⟩
def Small {H : Type} (t : TypeId) (d : DataW H) : Prop := ∀ m ∈ d.weights Try.prog t, m ≤ reachBytes

section
variable {H : Type} {enc : TypeId × Value → H} {w : World} {base : Nat} {spare : Nat → Bool} {held : Bool}

theorem open_call_cs {fuel : Nat} {cs : List Value} {y : DataW H × List MemPlace} (h : DataW.trod enc Try.prog w base spare held fuel 24 cs = some y) :
    ∃ x : Cl, cs = x.cs.toList := by
  obtain ⟨f0, f1, f2, f3, hu, ⟨t0, o0⟩, ⟨t1, o1⟩, ⟨t2, o2⟩, ⟨t3, o3⟩⟩ := call_fields
  obtain ⟨xs, k, hk, hxy, hlen, hxl, hf⟩ := DataW.trod_struct hu h
  rw [cellsC] at hlen
  match cs, hlen, xs, hxl with
  | [v0, v1, v2, v3], _, [y0, y1, y2, y3], _ =>
    have g0 := hf 0 f0 rfl
    have g1 := hf 1 f1 rfl
    have g2 := hf 2 f2 rfl
    have g3 := hf 3 f3 rfl
    rw [t0, o0, cellsN] at g0
    rw [t1, o1, cellsB] at g1
    rw [t2, o2, cellsN] at g2
    rw [t3, o3, cellsB] at g3
    obtain ⟨z0, e0, _, _⟩ := DataW.trod_int underN (show DataW.trod enc Try.prog w base spare held k 3 [v0] = some y0 from g0)
    obtain ⟨z1, e1, _⟩ := DataW.trod_bool underB (show DataW.trod enc Try.prog w base spare held k 4 [v1] = some y1 from g1)
    obtain ⟨z2, e2, _, _⟩ := DataW.trod_int underN (show DataW.trod enc Try.prog w base spare held k 3 [v2] = some y2 from g2)
    obtain ⟨z3, e3, _⟩ := DataW.trod_bool underB (show DataW.trod enc Try.prog w base spare held k 4 [v3] = some y3 from g3)
    simp only [List.cons.injEq, and_true] at e0 e1 e2 e3
    exact ⟨⟨z0, z1, z2, z3⟩, by rw [e0, e1, e2, e3]⟩

theorem open_agg_cs {r : Reach} {b0 : Nat} {t : TypeId} {fs : Array Field} {v : Value} {d : DataW H} {p : List MemPlace} (hu : Try.prog.underlying t = some (.struct fs)) (hv : Value.okWide Try.prog w r b0 t v) (h : DataW.Trod enc Try.prog w base spare held t v d p) :
    ∃ (cs : Array Value) (fuel : Nat), v = .agg cs ∧ DataW.trod enc Try.prog w base spare held fuel t cs.toList = some (d, p) := by
  obtain ⟨fuel, hf⟩ := h
  simp only [Value.okWide, hu] at hv
  obtain ⟨cs, rfl, _, _⟩ := hv
  exact ⟨cs, fuel, rfl, by simpa [Value.cells] using hf⟩
theorem open_call {r : Reach} {b0 : Nat} {v : Value} {d : DataW H} {p : List MemPlace} (hv : Value.okWide Try.prog w r b0 24 v) (h : DataW.Trod enc Try.prog w base spare held 24 v d p) : ∃ x : Cl, v = x.v := by
  obtain ⟨cs, fuel, rfl, hf⟩ := open_agg_cs Try.underlying24 hv h
  obtain ⟨x, e⟩ := open_call_cs hf
  exact ⟨x, by cases cs; simp only at e; rw [e]⟩

theorem open_ints_at {r : Reach} {b0 : Nat} {v : Value} {d : DataW H} {p : List MemPlace} (hv : Value.okWide Try.prog w r b0 29 v) (h : DataW.Trod enc Try.prog w base spare held 29 v d p) :
    ∃ (a : Option Addr) (n cap : Nat) (xs : List Int), v = .slice a n cap ∧ IntsAt w v xs ∧ (∀ x ∈ xs, -9223372036854775808 ≤ x ∧ x ≤ 9223372036854775807) ∧ (Small 29 d → n ≤ 17592186044416) := by
  obtain ⟨a, len, cap, rfl⟩ := okWide_slice Try.underlying29 hv
  obtain ⟨fuel, hf⟩ := h
  rcases open_ints (k := .i64) Try.underlying29 Try.underlying3 cellsN hf with ⟨h0, _⟩ | ⟨a', len', cap', zs, h1, hb, hl, hm, hlen, hx, hcell, hwf⟩
  · simp [Value.cells] at h0
    obtain ⟨rfl, rfl, rfl⟩ := h0
    exact ⟨none, 0, 0, [], rfl, ⟨none, 0, rfl, ⟨by simp, by unfold maxLen; omega⟩, fun h => absurd rfl h⟩, (fun x hx => by simp at hx), fun _ => by omega⟩
  · simp [Value.cells] at h1
    obtain ⟨rfl, rfl, rfl⟩ := h1
    have hle : len ≤ zs.length := by rw [hlen]; split <;> omega
    have htl : (zs.take len).length = len := by simp; omega
    refine ⟨some a', len, cap, zs.take len, rfl, ⟨some a', cap, by rw [htl], ⟨by rw [htl]; exact hl, hm⟩, fun hne => ?_⟩, ?_, fun hs => ?_⟩
    · have hpos : 0 < len := by
        rcases Nat.eq_zero_or_pos len with e | e
        · exact absurd (by simp [e]) hne
        · exact e
      obtain ⟨b, off, spot⟩ := a'
      cases spot with
      | some sp =>
        have := hcell 0 (by omega)
        simp [World.cell?, Addr.add] at this
        exfalso
        revert this
        split <;> simp
      | none =>
        refine ⟨b, off, rfl, fun j hj => ?_⟩
        rw [htl] at hj
        have := hcell j (by omega)
        rw [add_mid_] at this
        rw [this, List.getElem?_take_of_lt hj, List.getD_eq_getElem?_getD]
    · intro x hx'
      have := hwf x (List.mem_of_mem_take hx')
      simp [Lit.wf, IntKind.max, IntKind.min, IntKind.signed, IntKind.bits] at this
      omega
    · have h1 : (len + (zs.length - len)) * 8 ≤ reachBytes := by
        refine hs _ ?_
        rw [(Prod.mk.inj hx).1]
        simp [DataW.weights, Try.underlying29, bytes3, lits, Nat.min_eq_left hle]
      have : reachBytes ≤ 140737488355328 := by decide
      omega

end

end Go.Proofs.Ytkfnelhafflimaa
