/-
  Arguments opened: a window, a queue, a slice of commands.
-/
import Derived.Test.YtfnokpajendlmaaCmOpen
import Derived.Test.YtfnokpajendlmaaQuF
namespace Go.Proofs.Ytfnokpajendlmaa
open Go.ChangeShapes Go.WideShapes Go.ChangeAt Go.RowKit Go.Joins Go.Deep
set_option linter.unusedVariables false
set_option linter.unusedSimpArgs false
set_option maxRecDepth 100000

theorem cellsWin : Try.prog.cellsOf 23 = 2 := by kernel_rfl
theorem cellsQu : Try.prog.cellsOf 25 = 4 := by kernel_rfl
theorem win_fields : ∃ f0 f1 : Field, Try.prog.underlying 23 = some (.struct #[f0, f1]) ∧ (f0.type = 3 ∧ f0.offset = 0) ∧ (f1.type = 3 ∧ f1.offset = 1) :=
  ⟨_, _, Try.underlying23, ⟨rfl, rfl⟩, ⟨rfl, rfl⟩⟩
theorem qu_fields : ∃ f0 f1 f2 : Field, Try.prog.underlying 25 = some (.struct #[f0, f1, f2]) ∧ (f0.type = 23 ∧ f0.offset = 0) ∧ (f1.type = 3 ∧ f1.offset = 2) ∧ (f2.type = 3 ∧ f2.offset = 3) :=
  ⟨_, _, _, Try.underlying25, ⟨rfl, rfl⟩, ⟨rfl, rfl⟩, ⟨rfl, rfl⟩⟩
theorem weights_all {H : Type} {P : Program} {e : TypeId} : ∀ {ds : List (DataW H)} {d : DataW H}, d ∈ ds → ∀ n ∈ d.weights P e, n ∈ DataW.weightsAll P e ds
  | d0 :: ds, d, hd, n, hn => by
    simp only [DataW.weightsAll, List.mem_append]
    rcases List.mem_cons.1 hd with rfl | h
    · exact .inl hn
    · exact .inr (weights_all h n hn)
instance : Inhabited Cm := ⟨Cm.zero⟩

section
variable {H : Type} {enc : TypeId × Value → H} {w : World} {base : Nat} {spare : Nat → Bool} {held : Bool}

theorem open_win_cs {fuel : Nat} {cs : List Value} {y : DataW H × List MemPlace} (h : DataW.trod enc Try.prog w base spare held fuel 23 cs = some y) :
    ∃ a s : Int, cs = [.int .i64 a, .int .i64 s] ∧ i64B a ∧ i64B s := by
  obtain ⟨f0, f1, hu, ⟨t0, o0⟩, ⟨t1, o1⟩⟩ := win_fields
  obtain ⟨xs, k, hk, hxy, hlen, hxl, hf⟩ := DataW.trod_struct hu h
  rw [cellsWin] at hlen
  match cs, hlen, xs, hxl with
  | [v0, v1], _, [y0, y1], _ =>
    have g0 := hf 0 f0 rfl
    have g1 := hf 1 f1 rfl
    rw [t0, o0, cellsN] at g0
    rw [t1, o1, cellsN] at g1
    obtain ⟨z0, e0, _, w0⟩ := DataW.trod_int underN (show DataW.trod enc Try.prog w base spare held k 3 [v0] = some y0 from g0)
    obtain ⟨z1, e1, _, w1⟩ := DataW.trod_int underN (show DataW.trod enc Try.prog w base spare held k 3 [v1] = some y1 from g1)
    simp only [List.cons.injEq, and_true] at e0 e1
    exact ⟨z0, z1, by rw [e0, e1], wf64 w0, wf64 w1⟩
theorem open_qu_cs {fuel : Nat} {cs : List Value} {y : DataW H × List MemPlace} (h : DataW.trod enc Try.prog w base spare held fuel 25 cs = some y) :
    ∃ q : Qu, cs = q.cs.toList ∧ q.Fair := by
  obtain ⟨f0, f1, f2, hu, ⟨t0, o0⟩, ⟨t1, o1⟩, ⟨t2, o2⟩⟩ := qu_fields
  obtain ⟨xs, k, hk, hxy, hlen, hxl, hf⟩ := DataW.trod_struct hu h
  rw [cellsQu] at hlen
  match cs, hlen, xs, hxl with
  | [v0, v1, v2, v3], _, [y0, y1, y2], _ =>
    have g0 := hf 0 f0 rfl
    have g1 := hf 1 f1 rfl
    have g2 := hf 2 f2 rfl
    rw [t0, o0, cellsWin] at g0
    rw [t1, o1, cellsN] at g1
    rw [t2, o2, cellsN] at g2
    obtain ⟨a, s, e0, wa, ws⟩ := open_win_cs (show DataW.trod enc Try.prog w base spare held k 23 [v0, v1] = some y0 from g0)
    obtain ⟨z1, e1, _, w1⟩ := DataW.trod_int underN (show DataW.trod enc Try.prog w base spare held k 3 [v2] = some y1 from g1)
    obtain ⟨z2, e2, _, w2⟩ := DataW.trod_int underN (show DataW.trod enc Try.prog w base spare held k 3 [v3] = some y2 from g2)
    simp only [List.cons.injEq, and_true] at e0 e1 e2
    exact ⟨⟨a, s, z1, z2⟩, by rw [e0.1, e0.2, e1, e2], wa, ws, wf64 w1, wf64 w2⟩
theorem open_win {r : Reach} {b0 : Nat} {v : Value} {d : DataW H} {p : List MemPlace} (hv : Value.okWide Try.prog w r b0 23 v) (h : DataW.Trod enc Try.prog w base spare held 23 v d p) :
    ∃ a s : Int, v = .agg #[.int .i64 a, .int .i64 s] ∧ i64B a ∧ i64B s := by
  obtain ⟨cs, fuel, rfl, hf⟩ := open_agg_cs Try.underlying23 hv h
  obtain ⟨a, s, e, h1, h2⟩ := open_win_cs hf
  exact ⟨a, s, by cases cs; simp only at e; rw [e], h1, h2⟩
theorem open_qu {r : Reach} {b0 : Nat} {v : Value} {d : DataW H} {p : List MemPlace} (hv : Value.okWide Try.prog w r b0 25 v) (h : DataW.Trod enc Try.prog w base spare held 25 v d p) : ∃ q : Qu, v = q.v ∧ q.Fair := by
  obtain ⟨cs, fuel, rfl, hf⟩ := open_agg_cs Try.underlying25 hv h
  obtain ⟨x, e, hx⟩ := open_qu_cs hf
  refine ⟨x, ?_, hx⟩
  have : cs = x.cs := by cases cs; simp only at e; rw [e]
  rw [this]
theorem open_cmds {r : Reach} {b0 : Nat} {v : Value} {d : DataW H} {p : List MemPlace} (hv : Value.okWide Try.prog w r b0 78 v) (h : DataW.Trod enc Try.prog w base spare held 78 v d p) :
    ∃ (a : Option Addr) (cap b off : Nat) (xs : List Cm), v = .slice a xs.length cap ∧ CmdsAt w a b off xs := by
  obtain ⟨a, len, cap, rfl⟩ := okWide_slice Try.underlying78 hv
  obtain ⟨fuel, hf⟩ := h
  rcases open_slice Try.underlying78 hf with ⟨h0, _⟩ | ⟨a', len', cap', m, n, D, Pl, h1, hb, hl, hm, hmm, hx, hall⟩
  · simp [Value.cells] at h0
    obtain ⟨rfl, rfl, rfl⟩ := h0
    exact ⟨none, 0, 0, 0, [], rfl, by simp, (fun c hc => by simp at hc), fun h => absurd rfl h, fun h => absurd rfl h, fun j c hc => by simp at hc⟩
  · simp [Value.cells] at h1
    obtain ⟨rfl, rfl, rfl⟩ := h1
    have hle : len ≤ m := by rw [hmm]; split <;> omega
    have each : ∀ i, i < m → ∃ q : Cm, (∀ o, o < 9 → w.cell? (a'.add (i * 9 + o)) = q.cs.toList[o]?) ∧ q.Fair := by
      intro i hi
      obtain ⟨cs', h2, h3⟩ := hall i hi
      rw [cellsCmd] at h2
      obtain ⟨_, hlen, hcell⟩ := World.cells?_some h2
      obtain ⟨x, rfl, hx⟩ := open_cmd_cs h3
      refine ⟨x, fun o ho => ?_, hx⟩
      have := hcell o ho
      rw [Go.Deep.add_add] at this
      rw [this]
    obtain ⟨q, hq⟩ := choose_lt each
    by_cases hz : len = 0
    · subst hz
      exact ⟨some a', cap, 0, 0, [], rfl, by simp, (fun c hc => by simp at hc), fun h => absurd rfl h, fun h => absurd rfl h, fun j c hc => by simp at hc⟩
    obtain ⟨b, off, spot⟩ := a'
    cases spot with
    | some sp =>
      exfalso
      have := (hq 0 (by omega)).1 0 (by omega)
      have e0 : (q 0).cs.toList[0]? = some (.int .i64 (q 0).op) := rfl
      rw [e0] at this
      clear hall hq each hf e0
      simp [World.cell?, Addr.add] at this
      split at this <;> simp_all
    | none =>
      have hin : ∀ j, j < m → cmdC w b (off + j * 9) (q j) := fun j hj => by
        have hc' : ∀ o, o < 9 → w.cell? ⟨b, off + j * 9 + o, none⟩ = (q j).cs.toList[o]? := fun o ho => by
          have := (hq j hj).1 o ho
          rwa [add_mid_, ← Nat.add_assoc] at this
        exact ⟨hc' 0 (by omega), hc' 1 (by omega), hc' 2 (by omega), hc' 3 (by omega), hc' 4 (by omega), hc' 5 (by omega), hc' 6 (by omega), hc' 7 (by omega), hc' 8 (by omega)⟩
      refine ⟨some ⟨b, off, none⟩, cap, b, off, (List.range len).map q, by simp, by simp; unfold maxLen at hm; omega, ?_, fun _ => ?_, fun _ => rfl, fun j c hc => ?_⟩
      · intro x hx'
        simp only [List.mem_map, List.mem_range] at hx'
        obtain ⟨i, hi, rfl⟩ := hx'
        exact (hq i (by omega)).2
      · have h0 := (hin 0 (by omega)).1
        by_cases hlt : b < w.heap.size
        · exact hlt
        · exact absurd (World.block_lt_of_cell? w _ h0) hlt
      · have hj : j < len := by
          have := (List.getElem?_eq_some_iff.1 hc).1
          simpa using this
        rw [List.getElem?_map, List.getElem?_range hj] at hc
        simp only [Option.map_some, Option.some.injEq] at hc
        rw [← hc]
        exact hin j (by omega)
end

end Go.Proofs.Ytfnokpajendlmaa
