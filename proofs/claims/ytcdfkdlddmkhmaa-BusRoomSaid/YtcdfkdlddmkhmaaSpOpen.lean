/-
  Arguments opened: a slice of spans, read off the data that came in.
-/
import Derived.Test.YtcdfkdlddmkhmaaGnd
import Derived.ProofKit
import Derived.OpenShut
import Derived.JoinedCond
import Derived.Deep.DeepHandedRow
import Derived.Deep.Slices
import Derived.SizedLaws
import Derived.Lib.SmallJoins
namespace Go.Proofs.Ytcdfkdlddmkhmaa
open Go.ChangeShapes Go.WideShapes Go.ChangeAt Go.RowKit Go.Joins Go.Deep
set_option linter.unusedVariables false

theorem add_mid_ (b o j : Nat) : (⟨b, o, none⟩ : Addr).add j = ⟨b, o + j, none⟩ := by unfold Addr.add; split <;> simp_all
theorem cells33 : Try.prog.cellsOf 33 = 4 := by kernel_rfl
theorem bytes33 : Try.prog.bytesOf 33 = 32 := by kernel_rfl
theorem cells3 : Try.prog.cellsOf 3 = 1 := by kernel_rfl
theorem cells31 : Try.prog.cellsOf 31 = 1 := by kernel_rfl
theorem under3 : Try.prog.underlying 3 = some (.int .i64) := by kernel_rfl
theorem under31 : Try.prog.underlying 31 = some (.int .i64) := by kernel_rfl
theorem span_fields : ∃ f0 f1 f2 f3 : Field, Try.prog.underlying 33 = some (.struct #[f0, f1, f2, f3]) ∧ (f0.type = 3 ∧ f0.offset = 0) ∧ (f1.type = 3 ∧ f1.offset = 1) ∧ (f2.type = 31 ∧ f2.offset = 2) ∧ (f3.type = 3 ∧ f3.offset = 3) :=
  ⟨_, _, _, _, Try.underlying33, ⟨rfl, rfl⟩, ⟨rfl, rfl⟩, ⟨rfl, rfl⟩, ⟨rfl, rfl⟩⟩
def Small {H : Type} (t : TypeId) (d : DataW H) : Prop := ∀ m ∈ d.weights Try.prog t, m ≤ reachBytes

section
variable {H : Type} {enc : TypeId × Value → H} {w : World} {base : Nat} {spare : Nat → Bool} {held : Bool}

theorem open_span_cs {fuel : Nat} {cs : List Value} {y : DataW H × List MemPlace} (h : DataW.trod enc Try.prog w base spare held fuel 33 cs = some y) :
    ∃ x : Sp, cs = [.int .i64 x.b, .int .i64 x.s, .int .i64 x.k, .int .i64 x.i] ∧ x.Fair := by
  obtain ⟨f0, f1, f2, f3, hu, ⟨t0, o0⟩, ⟨t1, o1⟩, ⟨t2, o2⟩, ⟨t3, o3⟩⟩ := span_fields
  obtain ⟨xs, k, hk, hxy, hlen, hxl, hf⟩ := DataW.trod_struct hu h
  rw [cells33] at hlen
  match cs, hlen, xs, hxl with
  | [v0, v1, v2, v3], _, [y0, y1, y2, y3], _ =>
    have g0 := hf 0 f0 rfl
    have g1 := hf 1 f1 rfl
    have g2 := hf 2 f2 rfl
    have g3 := hf 3 f3 rfl
    rw [t0, o0, cells3] at g0
    rw [t1, o1, cells3] at g1
    rw [t2, o2, cells31] at g2
    rw [t3, o3, cells3] at g3
    obtain ⟨z0, e0, _, w0⟩ := DataW.trod_int under3 (show DataW.trod enc Try.prog w base spare held k 3 [v0] = some y0 from g0)
    obtain ⟨z1, e1, _, w1⟩ := DataW.trod_int under3 (show DataW.trod enc Try.prog w base spare held k 3 [v1] = some y1 from g1)
    obtain ⟨z2, e2, _, w2⟩ := DataW.trod_int under31 (show DataW.trod enc Try.prog w base spare held k 31 [v2] = some y2 from g2)
    obtain ⟨z3, e3, _, w3⟩ := DataW.trod_int under3 (show DataW.trod enc Try.prog w base spare held k 3 [v3] = some y3 from g3)
    simp only [List.cons.injEq, and_true] at e0 e1 e2 e3
    simp [Lit.wf, IntKind.max, IntKind.min, IntKind.signed, IntKind.bits] at w0 w1 w2 w3
    exact ⟨⟨z0, z1, z2, z3⟩, by rw [e0, e1, e2, e3], ⟨by show -9223372036854775808 ≤ z0; omega, by show z0 ≤ 9223372036854775807; omega, by show -9223372036854775808 ≤ z1; omega, by show z1 ≤ 9223372036854775807; omega, by show -9223372036854775808 ≤ z2; omega, by show z2 ≤ 9223372036854775807; omega, by show -9223372036854775808 ≤ z3; omega, by show z3 ≤ 9223372036854775807; omega⟩⟩

theorem open_spans {r : Reach} {b0 : Nat} {v : Value} {d : DataW H} {p : List MemPlace} (hv : Value.okWide Try.prog w r b0 22 v) (h : DataW.Trod enc Try.prog w base spare held 22 v d p) :
    ∃ xs, Small 22 d → SpIn 0 w.heap.size w v xs := by
  obtain ⟨a, len, cap, rfl⟩ := okWide_slice Try.underlying22 hv
  obtain ⟨fuel, hf⟩ := h
  rcases open_slice Try.underlying22 hf with ⟨h0, _⟩ | ⟨a', len', cap', m, n, D, Pl, h1, hb, hl, hm, hmm, hx, hall⟩
  · simp [Value.cells] at h0
    obtain ⟨rfl, rfl, rfl⟩ := h0
    exact ⟨[], fun _ => ⟨none, 0, rfl, by simp, (fun x hx => by simp at hx), fun h => absurd rfl h⟩⟩
  · simp [Value.cells] at h1
    obtain ⟨rfl, rfl, rfl⟩ := h1
    have hle : len ≤ m := by rw [hmm]; split <;> omega
    have each : ∀ i, i < m → ∃ q : Sp, (∀ o, o < 4 → w.cell? (a'.add (i * 4 + o)) = q.cs[o]?) ∧ q.Fair := by
      intro i hi
      obtain ⟨cs', h2, h3⟩ := hall i hi
      rw [cells33] at h2
      obtain ⟨_, hlen, hcell⟩ := World.cells?_some h2
      obtain ⟨x, rfl, hfair⟩ := open_span_cs h3
      refine ⟨x, fun o ho => ?_, hfair⟩
      have := hcell o ho
      rw [Go.Deep.add_add] at this
      rw [this]
      rfl
    obtain ⟨q, hq⟩ := choose_lt each
    refine ⟨(List.range len).map q, fun hs => ⟨some a', cap, by simp, ?_, ?_, fun hne => ?_⟩⟩
    · have h1 : (len + (m - len)) * 32 ≤ reachBytes := by
        refine hs _ ?_
        rw [(Prod.mk.inj hx).1]
        simp [DataW.weights, Try.underlying22, bytes33]
      have : reachBytes ≤ 140737488355328 := by decide
      simp only [List.length_map, List.length_range]
      omega
    · intro x hx'
      simp only [List.mem_map, List.mem_range] at hx'
      obtain ⟨i, hi, rfl⟩ := hx'
      exact (hq i (by omega)).2
    · have hpos : 0 < len := by
        rcases Nat.eq_zero_or_pos len with e | e
        · exact absurd (by simp [e]) hne
        · exact e
      obtain ⟨b, off, spot⟩ := a'
      cases spot with
      | some sp =>
        have := (hq 0 (by omega)).1 0 (by omega)
        clear hall hq each hf hs
        simp [World.cell?, Addr.add, Sp.cs] at this
        split at this <;> simp_all
      | none =>
        have hbl : b < w.heap.size := by
          have := (hq 0 (by omega)).1 0 (by omega)
          rw [add_mid_] at this
          exact World.block_lt_of_cell? w _ (show w.cell? ⟨b, _, none⟩ = some (.int .i64 (q 0).b) from this)
        refine ⟨b, off, rfl, Nat.zero_le _, hbl, fun j x hx' => ?_⟩
        have hj : j < len := by
          have := (List.getElem?_eq_some_iff.1 hx').1
          simpa using this
        have ex : q j = x := by
          rw [List.getElem?_map, List.getElem?_range hj] at hx'
          simpa using hx'
        obtain ⟨hc, _⟩ := hq j (by omega)
        rw [ex] at hc
        have hc' : ∀ o, o < 4 → w.cell? ⟨b, off + j * 4 + o, none⟩ = x.cs[o]? := fun o ho => by
          have := hc o ho
          rwa [add_mid_, ← Nat.add_assoc] at this
        exact ⟨hc' 0 (by omega), hc' 1 (by omega), hc' 2 (by omega), hc' 3 (by omega)⟩
end

end Go.Proofs.Ytcdfkdlddmkhmaa
