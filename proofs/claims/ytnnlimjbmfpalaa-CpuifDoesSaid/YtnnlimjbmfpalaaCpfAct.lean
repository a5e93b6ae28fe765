/-
  Arguments opened: a slice of acts, read off the data that came in.
-/
import Derived.Test.YtnnlimjbmfpalaaCpS
import Derived.Test.YtnnlimjbmfpalaaCpfOpen
namespace Go.Proofs.Ytnnlimjbmfpalaa
open Go.ChangeShapes Go.WideShapes Go.ChangeAt Go.RowKit Go.Joins Go.Deep
set_option linter.unusedVariables false
set_option maxRecDepth 100000

theorem cellsA14 : Try.prog.cellsOf 43 = 8 := by kernel_rfl
theorem bytesA14 : Try.prog.bytesOf 43 = 64 := by kernel_rfl
theorem cellsU64 : Try.prog.cellsOf 41 = 1 := by kernel_rfl
theorem cellsRg : Try.prog.cellsOf 40 = 1 := by kernel_rfl
theorem underU64 : Try.prog.underlying 41 = some (.int .u64) := by kernel_rfl
theorem underRg : Try.prog.underlying 40 = some (.int .i64) := by kernel_rfl
theorem a14_fields : ∃ f0 f1 f2 f3 f4 : Field, Try.prog.underlying 43 = some (.struct #[f0, f1, f2, f3, f4]) ∧ (f0.type = 3 ∧ f0.offset = 0) ∧ (f1.type = 3 ∧ f1.offset = 1) ∧ (f2.type = 39 ∧ f2.offset = 2) ∧ (f3.type = 40 ∧ f3.offset = 6) ∧ (f4.type = 41 ∧ f4.offset = 7) :=
  ⟨_, _, _, _, _, Try.underlying43, ⟨rfl, rfl⟩, ⟨rfl, rfl⟩, ⟨rfl, rfl⟩, ⟨rfl, rfl⟩, ⟨rfl, rfl⟩⟩
section
variable {H : Type} {enc : TypeId × Value → H} {w : World} {base : Nat} {spare : Nat → Bool} {held : Bool}
theorem open_a14_cs {fuel : Nat} {cs : List Value} {y : DataW H × List MemPlace} (h : DataW.trod enc Try.prog w base spare held fuel 43 cs = some y) :
    ∃ x : Ac14, cs = x.cs.toList ∧ x.v < 18446744073709551616 := by
  obtain ⟨f0, f1, f2, f3, f4, hu, ⟨t0, o0⟩, ⟨t1, o1⟩, ⟨t2, o2⟩, ⟨t3, o3⟩, ⟨t4, o4⟩⟩ := a14_fields
  obtain ⟨xs, k, hk, hxy, hlen, hxl, hf⟩ := DataW.trod_struct hu h
  rw [cellsA14] at hlen
  match cs, hlen, xs, hxl with
  | [v0, v1, v2, v3, v4, v5, v6, v7], _, [y0, y1, y2, y3, y4], _ =>
    have g0 := hf 0 f0 rfl
    have g1 := hf 1 f1 rfl
    have g2 := hf 2 f2 rfl
    have g3 := hf 3 f3 rfl
    have g4 := hf 4 f4 rfl
    rw [t0, o0, cellsN] at g0
    rw [t1, o1, cellsN] at g1
    rw [t2, o2, cellsCa] at g2
    rw [t3, o3, cellsRg] at g3
    rw [t4, o4, cellsU64] at g4
    obtain ⟨z0, e0, _, _⟩ := DataW.trod_int underN (show DataW.trod enc Try.prog w base spare held k 3 [v0] = some y0 from g0)
    obtain ⟨z1, e1, _, _⟩ := DataW.trod_int underN (show DataW.trod enc Try.prog w base spare held k 3 [v1] = some y1 from g1)
    obtain ⟨z2, e2⟩ := open_cand_cs (show DataW.trod enc Try.prog w base spare held k 39 [v2, v3, v4, v5] = some y2 from g2)
    obtain ⟨z3, e3, _, _⟩ := DataW.trod_int underRg (show DataW.trod enc Try.prog w base spare held k 40 [v6] = some y3 from g3)
    obtain ⟨z4, e4, _, w4⟩ := DataW.trod_int underU64 (show DataW.trod enc Try.prog w base spare held k 41 [v7] = some y4 from g4)
    simp only [List.cons.injEq, and_true] at e0 e1 e3 e4
    simp [Lit.wf, IntKind.max, IntKind.min, IntKind.signed, IntKind.bits] at w4
    obtain ⟨n4, rfl⟩ := Int.eq_ofNat_of_zero_le (show 0 ≤ z4 by omega)
    obtain ⟨ci, cp, cg, cis⟩ := z2
    simp only [List.cons.injEq, and_true] at e2
    obtain ⟨a0, a1, a2, a3⟩ := e2
    exact ⟨⟨z0, z1, ⟨ci, cp, cg, cis⟩, z3, n4⟩, by rw [e0, e1, a0, a1, a2, a3, e3, e4], by show n4 < _; omega⟩
theorem open_acts {r : Reach} {b0 : Nat} {v : Value} {d : DataW H} {p : List MemPlace} (hv : Value.okWide Try.prog w r b0 30 v) (h : DataW.Trod enc Try.prog w base spare held 30 v d p) :
    ∃ xs, Small 30 d → ActsAt w v xs ∧ xs.length ≤ 140737488355328 := by
  obtain ⟨a, len, cap, rfl⟩ := okWide_slice Try.underlying30 hv
  obtain ⟨fuel, hf⟩ := h
  rcases open_slice Try.underlying30 hf with ⟨h0, _⟩ | ⟨a', len', cap', m, n, D, Pl, h1, hb, hl, hm, hmm, hx, hall⟩
  · simp [Value.cells] at h0
    obtain ⟨rfl, rfl, rfl⟩ := h0
    exact ⟨[], fun _ => ⟨⟨none, 0, rfl, fun h => absurd rfl h⟩, by simp⟩⟩
  · simp [Value.cells] at h1
    obtain ⟨rfl, rfl, rfl⟩ := h1
    have hle : len ≤ m := by rw [hmm]; split <;> omega
    have each : ∀ i, i < m → ∃ q : Ac14, q.v < 18446744073709551616 ∧ ∀ o, o < 8 → w.cell? (a'.add (i * 8 + o)) = q.cs.toList[o]? := by
      intro i hi
      obtain ⟨cs', h2, h3⟩ := hall i hi
      rw [cellsA14] at h2
      obtain ⟨_, hlen, hcell⟩ := World.cells?_some h2
      obtain ⟨x, rfl, hid⟩ := open_a14_cs h3
      refine ⟨x, hid, fun o ho => ?_⟩
      have := hcell o ho
      rw [Go.Deep.add_add] at this
      rw [this]
    obtain ⟨q, hq⟩ := choose_lt each
    refine ⟨(List.range len).map q, fun hs => ⟨⟨some a', cap, by simp, fun hne => ?_⟩, ?_⟩⟩
    · have hpos : 0 < len := by
        rcases Nat.eq_zero_or_pos len with e | e
        · exact absurd (by simp [e]) hne
        · exact e
      obtain ⟨b, off, spot⟩ := a'
      cases spot with
      | some sp =>
        have := (hq 0 (by omega)).2 0 (by omega)
        clear hall hq each hf hs
        simp [World.cell?, Addr.add] at this
        split at this <;> simp_all
      | none =>
        have hbl : b < w.heap.size := by
          have := (hq 0 (by omega)).2 0 (by omega)
          rw [add_mid9] at this
          exact World.block_lt_of_cell? w _ (show w.cell? ⟨b, _, none⟩ = some (.int .i64 (q 0).d) from this)
        refine ⟨b, off, rfl, hbl, fun j hj => ?_⟩
        simp only [List.length_map, List.length_range] at hj
        have ex : nthX ((List.range len).map q) j = q j := by
          rw [nthX, List.getElem?_map, List.getElem?_range hj]; rfl
        rw [ex]
        obtain ⟨hid, hc⟩ := hq j (by omega)
        have hc' : ∀ o, o < 8 → w.cell? ⟨b, off + j * 8 + o, none⟩ = (q j).cs.toList[o]? := fun o ho => by
          have := hc o ho
          rwa [add_mid9, ← Nat.add_assoc] at this
        exact ⟨hid, hc' 0 (by omega), hc' 1 (by omega), hc' 2 (by omega), hc' 3 (by omega), hc' 4 (by omega), hc' 5 (by omega), hc' 6 (by omega), hc' 7 (by omega)⟩
    · have h1 : (len + (m - len)) * 64 ≤ reachBytes := by
        refine hs _ ?_
        rw [(Prod.mk.inj hx).1]
        simp [DataW.weights, Try.underlying30, bytesA14]
      have : reachBytes ≤ 140737488355328 := by decide
      simp only [List.length_map, List.length_range]
      omega

end

end Go.Proofs.Ytnnlimjbmfpalaa
