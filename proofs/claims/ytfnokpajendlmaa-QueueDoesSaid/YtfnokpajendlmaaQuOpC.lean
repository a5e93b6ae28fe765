/-
  Arguments opened: a slice of the law's acts.
-/
import Derived.Test.YtfnokpajendlmaaQuOpen
import Derived.Test.YtfnokpajendlmaaQjA
namespace Go.Proofs.Ytfnokpajendlmaa
open Go.ChangeShapes Go.WideShapes Go.ChangeAt Go.RowKit Go.Joins Go.Deep
set_option linter.unusedVariables false
set_option linter.unusedSimpArgs false
set_option maxRecDepth 100000

theorem cellsAct17 : Try.prog.cellsOf 39 = 12 := by kernel_rfl
theorem act17_fields : ∃ f0 f1 f2 f3 : Field, Try.prog.underlying 39 = some (.struct #[f0, f1, f2, f3]) ∧ (f0.type = 3 ∧ f0.offset = 0) ∧ (f1.type = 3 ∧ f1.offset = 1) ∧ (f2.type = 36 ∧ f2.offset = 2) ∧ (f3.type = 37 ∧ f3.offset = 11) :=
  ⟨_, _, _, _, Try.underlying39, ⟨rfl, rfl⟩, ⟨rfl, rfl⟩, ⟨rfl, rfl⟩, ⟨rfl, rfl⟩⟩
def Aq.cells (x : Aq) : List Value := [.int .i64 x.d, .int .i64 x.a, .int .i64 x.c.op, .int .i64 x.c.dev, .int .i64 x.c.ev, .int .i64 x.c.num, .int .i64 x.c.coll, .int .i64 x.c.tgt, .int .i64 x.c.bit, .int .i64 x.c.addr, .bool x.c.valid, .int .u64 x.v]
instance : Inhabited Aq := ⟨⟨0, 0, Cm.zero, 0⟩⟩
section
variable {H : Type} {enc : TypeId × Value → H} {w : World} {base : Nat} {spare : Nat → Bool} {held : Bool}
theorem open_aq_cs {fuel : Nat} {cs : List Value} {y : DataW H × List MemPlace} (h : DataW.trod enc Try.prog w base spare held fuel 39 cs = some y) :
    ∃ x : Aq, cs = x.cells ∧ x.Ok := by
  obtain ⟨f0, f1, f2, f3, hu, ⟨t0, o0⟩, ⟨t1, o1⟩, ⟨t2, o2⟩, ⟨t3, o3⟩⟩ := act17_fields
  obtain ⟨xs, k, hk, hxy, hlen, hxl, hf⟩ := DataW.trod_struct hu h
  rw [cellsAct17] at hlen
  match cs, hlen, xs, hxl with
  | [v0, v1, v2, v3, v4, v5, v6, v7, v8, v9, v10, v11], _, [y0, y1, y2, y3], _ =>
    have g0 := hf 0 f0 rfl
    have g1 := hf 1 f1 rfl
    have g2 := hf 2 f2 rfl
    have g3 := hf 3 f3 rfl
    rw [t0, o0, cellsN] at g0
    rw [t1, o1, cellsN] at g1
    rw [t2, o2, cellsCmd] at g2
    rw [t3, o3, cellsU] at g3
    obtain ⟨z0, e0, _, w0⟩ := DataW.trod_int underN (show DataW.trod enc Try.prog w base spare held k 3 [v0] = some y0 from g0)
    obtain ⟨z1, e1, _, w1⟩ := DataW.trod_int underN (show DataW.trod enc Try.prog w base spare held k 3 [v1] = some y1 from g1)
    obtain ⟨c, e2, hc⟩ := open_cmd_cs (show DataW.trod enc Try.prog w base spare held k 36 [v2, v3, v4, v5, v6, v7, v8, v9, v10] = some y2 from g2)
    obtain ⟨z3, e3, _, w3⟩ := DataW.trod_int underU (show DataW.trod enc Try.prog w base spare held k 37 [v11] = some y3 from g3)
    obtain ⟨h0, h1⟩ := wfu64 w3
    obtain ⟨n3, rfl⟩ := Int.eq_ofNat_of_zero_le h0
    simp only [List.cons.injEq, and_true] at e0 e1 e2 e3
    obtain ⟨rfl, rfl, rfl, rfl, rfl, rfl, rfl, rfl, rfl⟩ : v2 = .int .i64 c.op ∧ v3 = .int .i64 c.dev ∧ v4 = .int .i64 c.ev ∧ v5 = .int .i64 c.num ∧ v6 = .int .i64 c.coll ∧ v7 = .int .i64 c.tgt ∧ v8 = .int .i64 c.bit ∧ v9 = .int .i64 c.addr ∧ v10 = .bool c.valid := by simpa [Cm.cs] using e2
    exact ⟨⟨z0, z1, c, n3⟩, by rw [e0, e1, e3]; rfl, wf64 w1, hc, by show n3 < 18446744073709551616; omega⟩
theorem open_actsq {r : Reach} {b0 : Nat} {v : Value} {d : DataW H} {p : List MemPlace} (hv : Value.okWide Try.prog w r b0 26 v) (h : DataW.Trod enc Try.prog w base spare held 26 v d p) :
    ∃ (a : Option Addr) (cap b off : Nat) (xs : List Aq), v = .slice a xs.length cap ∧ ActsQ w a b off xs := by
  obtain ⟨a, len, cap, rfl⟩ := okWide_slice Try.underlying26 hv
  obtain ⟨fuel, hf⟩ := h
  rcases open_slice Try.underlying26 hf with ⟨h0, _⟩ | ⟨a', len', cap', m, n, D, Pl, h1, hb, hl, hm, hmm, hx, hall⟩
  · simp [Value.cells] at h0
    obtain ⟨rfl, rfl, rfl⟩ := h0
    exact ⟨none, 0, 0, 0, [], rfl, by simp, (fun c hc => by simp at hc), fun h => absurd rfl h, fun h => absurd rfl h, fun j c hc => by simp at hc⟩
  · simp [Value.cells] at h1
    obtain ⟨rfl, rfl, rfl⟩ := h1
    have hle : len ≤ m := by rw [hmm]; split <;> omega
    have each : ∀ i, i < m → ∃ q : Aq, (∀ o, o < 12 → w.cell? (a'.add (i * 12 + o)) = q.cells[o]?) ∧ q.Ok := by
      intro i hi
      obtain ⟨cs', h2, h3⟩ := hall i hi
      rw [cellsAct17] at h2
      obtain ⟨_, hlen, hcell⟩ := World.cells?_some h2
      obtain ⟨x, rfl, hx⟩ := open_aq_cs h3
      refine ⟨x, fun o ho => ?_, hx⟩
      have := hcell o ho
      rw [Go.Deep.add_add] at this
      rw [this]
    obtain ⟨q, hq⟩ := choose_lt each
    by_cases hz : len = 0
    · subst hz
      exact ⟨some a', cap, 0, 0, [], rfl, by simp, (fun c hc => by simp at hc), fun h => absurd rfl h, fun h => absurd rfl h, fun j c hc => by simp at hc⟩
    obtain ⟨b, off, spot⟩ := a'
    cases spot with
    | some sp =>
      exfalso
      have := (hq 0 (by omega)).1 0 (by omega)
      have e0 : (q 0).cells[0]? = some (.int .i64 (q 0).d) := rfl
      rw [e0] at this
      clear hall hq each hf e0
      simp [World.cell?, Addr.add] at this
      split at this <;> simp_all
    | none =>
      have hin : ∀ j, j < m → actC w b (off + j * 12) (q j) := fun j hj => by
        have hc' : ∀ o, o < 12 → w.cell? ⟨b, off + j * 12 + o, none⟩ = (q j).cells[o]? := fun o ho => by
          have := (hq j hj).1 o ho
          rwa [add_mid_, ← Nat.add_assoc] at this
        exact ⟨hc' 0 (by omega), hc' 1 (by omega), ⟨hc' 2 (by omega), hc' 3 (by omega), hc' 4 (by omega), hc' 5 (by omega), hc' 6 (by omega), hc' 7 (by omega), hc' 8 (by omega), hc' 9 (by omega), hc' 10 (by omega)⟩, hc' 11 (by omega)⟩
      refine ⟨some ⟨b, off, none⟩, cap, b, off, (List.range len).map q, by simp, by simp; unfold maxLen at hm; omega, ?_, fun _ => ?_, fun _ => rfl, fun j c hc => ?_⟩
      · intro x hx'
        simp only [List.mem_map, List.mem_range] at hx'
        obtain ⟨i, hi, rfl⟩ := hx'
        exact (hq i (by omega)).2
      · exact World.block_lt_of_cell? w _ (hin 0 (by omega)).d
      · have hj : j < len := by
          have := (List.getElem?_eq_some_iff.1 hc).1
          simpa using this
        rw [List.getElem?_map, List.getElem?_range hj] at hc
        simp only [Option.map_some, Option.some.injEq] at hc
        rw [← hc]
        exact hin j (by omega)
end

end Go.Proofs.Ytfnokpajendlmaa
