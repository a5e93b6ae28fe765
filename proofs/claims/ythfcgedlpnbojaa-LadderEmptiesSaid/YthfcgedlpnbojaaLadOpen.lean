/-
  Arguments opened: an act, a slice of acts, read off the data that came in.
-/
import Derived.Test.YthfcgedlpnbojaaLadO
import Derived.ProofKit
import Derived.OpenShut
import Derived.JoinedCond
import Derived.Deep.DeepHandedRow
import Derived.Deep.Slices
import Derived.SizedLaws
import Derived.Lib.SmallJoins
namespace Go.Proofs.Ythfcgedlpnbojaa
open Go.ChangeShapes Go.WideShapes Go.ChangeAt Go.RowKit Go.Joins Go.Deep
set_option linter.unusedVariables false

theorem cells33 : Try.prog.cellsOf 35 = 3 := by kernel_rfl
theorem bytes33 : Try.prog.bytesOf 35 = 24 := by kernel_rfl
theorem cells3 : Try.prog.cellsOf 3 = 1 := by kernel_rfl
theorem under3 : Try.prog.underlying 3 = some (.int .i64) := by kernel_rfl
theorem act_fields : ∃ f0 f1 f2 : Field, Try.prog.underlying 35 = some (.struct #[f0, f1, f2]) ∧ (f0.type = 3 ∧ f0.offset = 0) ∧ (f1.type = 3 ∧ f1.offset = 1) ∧ (f2.type = 3 ∧ f2.offset = 2) :=
  ⟨_, _, _, Try.underlying35, ⟨rfl, rfl⟩, ⟨rfl, rfl⟩, ⟨rfl, rfl⟩⟩
def Small {H : Type} (t : TypeId) (d : DataW H) : Prop := ∀ m ∈ d.weights Try.prog t, m ≤ reachBytes

section
variable {H : Type} {enc : TypeId × Value → H} {w : World} {base : Nat} {spare : Nat → Bool} {held : Bool}

theorem open_act_cs {fuel : Nat} {cs : List Value} {y : DataW H × List MemPlace} (h : DataW.trod enc Try.prog w base spare held fuel 35 cs = some y) :
    ∃ x : Ac, cs = [.int .i64 x.d, .int .i64 x.g, .int .i64 x.p] := by
  obtain ⟨f0, f1, f2, hu, ⟨t0, o0⟩, ⟨t1, o1⟩, ⟨t2, o2⟩⟩ := act_fields
  obtain ⟨xs, k, hk, hxy, hlen, hxl, hf⟩ := DataW.trod_struct hu h
  rw [cells33] at hlen
  match cs, hlen, xs, hxl with
  | [v0, v1, v2], _, [y0, y1, y2], _ =>
    have g0 := hf 0 f0 rfl
    have g1 := hf 1 f1 rfl
    have g2 := hf 2 f2 rfl
    rw [t0, o0, cells3] at g0
    rw [t1, o1, cells3] at g1
    rw [t2, o2, cells3] at g2
    obtain ⟨z0, e0, _, _⟩ := DataW.trod_int under3 (show DataW.trod enc Try.prog w base spare held k 3 [v0] = some y0 from g0)
    obtain ⟨z1, e1, _, _⟩ := DataW.trod_int under3 (show DataW.trod enc Try.prog w base spare held k 3 [v1] = some y1 from g1)
    obtain ⟨z2, e2, _, _⟩ := DataW.trod_int under3 (show DataW.trod enc Try.prog w base spare held k 3 [v2] = some y2 from g2)
    simp only [List.cons.injEq, and_true] at e0 e1 e2
    exact ⟨⟨z0, z1, z2⟩, by rw [e0, e1, e2]⟩

theorem open_agg_cs {r : Reach} {b0 : Nat} {t : TypeId} {fs : Array Field} {v : Value} {d : DataW H} {p : List MemPlace} (hu : Try.prog.underlying t = some (.struct fs)) (hv : Value.okWide Try.prog w r b0 t v) (h : DataW.Trod enc Try.prog w base spare held t v d p) :
    ∃ (cs : Array Value) (fuel : Nat), v = .agg cs ∧ DataW.trod enc Try.prog w base spare held fuel t cs.toList = some (d, p) := by
  obtain ⟨fuel, hf⟩ := h
  simp only [Value.okWide, hu] at hv
  obtain ⟨cs, rfl, _, _⟩ := hv
  exact ⟨cs, fuel, rfl, by simpa [Value.cells] using hf⟩
theorem open_act3 {r : Reach} {b0 : Nat} {v : Value} {d : DataW H} {p : List MemPlace} (hv : Value.okWide Try.prog w r b0 35 v) (h : DataW.Trod enc Try.prog w base spare held 35 v d p) : ∃ x : Ac, v = x.v := by
  obtain ⟨cs, fuel, rfl, hf⟩ := open_agg_cs Try.underlying35 hv h
  obtain ⟨x, e⟩ := open_act_cs hf
  exact ⟨x, by cases cs; simp only at e; rw [e]⟩

theorem open_acts {r : Reach} {b0 : Nat} {v : Value} {d : DataW H} {p : List MemPlace} (hv : Value.okWide Try.prog w r b0 23 v) (h : DataW.Trod enc Try.prog w base spare held 23 v d p) :
    ∃ xs, Small 23 d → ActsAt w v xs ∧ xs.length ≤ 140737488355328 := by
  obtain ⟨a, len, cap, rfl⟩ := okWide_slice Try.underlying23 hv
  obtain ⟨fuel, hf⟩ := h
  rcases open_slice Try.underlying23 hf with ⟨h0, _⟩ | ⟨a', len', cap', m, n, D, Pl, h1, hb, hl, hm, hmm, hx, hall⟩
  · simp [Value.cells] at h0
    obtain ⟨rfl, rfl, rfl⟩ := h0
    exact ⟨[], fun _ => ⟨⟨none, 0, rfl, fun h => absurd rfl h⟩, by simp⟩⟩
  · simp [Value.cells] at h1
    obtain ⟨rfl, rfl, rfl⟩ := h1
    have hle : len ≤ m := by rw [hmm]; split <;> omega
    have each : ∀ i, i < m → ∃ q : Ac, ∀ o, o < 3 → w.cell? (a'.add (i * 3 + o)) = [Value.int .i64 q.d, .int .i64 q.g, .int .i64 q.p][o]? := by
      intro i hi
      obtain ⟨cs', h2, h3⟩ := hall i hi
      rw [cells33] at h2
      obtain ⟨_, hlen, hcell⟩ := World.cells?_some h2
      obtain ⟨x, rfl⟩ := open_act_cs h3
      refine ⟨x, fun o ho => ?_⟩
      have := hcell o ho
      rw [Go.Deep.add_add] at this
      rw [this]
    obtain ⟨q, hq⟩ := choose_lt each
    refine ⟨(List.range len).map q, fun hs => ⟨⟨some a', cap, by simp, fun hne => ?_⟩, ?_⟩⟩
    · have hpos : 0 < len := by
        rcases Nat.eq_zero_or_pos len with e | e
        · exact absurd (by simp [e]) hne
        · exact e
      obtain ⟨b, off, spot⟩ := a'
      cases spot with
      | some sp =>
        have := hq 0 (by omega) 0 (by omega)
        clear hall hq each hf hs
        simp [World.cell?, Addr.add] at this
        split at this <;> simp_all
      | none =>
        have hbl : b < w.heap.size := by
          have := hq 0 (by omega) 0 (by omega)
          rw [add_mid_] at this
          exact World.block_lt_of_cell? w _ (show w.cell? ⟨b, _, none⟩ = some (.int .i64 (q 0).d) from this)
        refine ⟨b, off, rfl, hbl, fun j hj => ?_⟩
        simp only [List.length_map, List.length_range] at hj
        have ex : ((List.range len).map q)[j]?.getD default = q j := by
          rw [List.getElem?_map, List.getElem?_range hj]; rfl
        rw [ex]
        have hc := hq j (by omega)
        have hc' : ∀ o, o < 3 → w.cell? ⟨b, off + j * 3 + o, none⟩ = [Value.int .i64 (q j).d, .int .i64 (q j).g, .int .i64 (q j).p][o]? := fun o ho => by
          have := hc o ho
          rwa [add_mid_, ← Nat.add_assoc] at this
        exact ⟨hc' 0 (by omega), hc' 1 (by omega), hc' 2 (by omega)⟩
    · have h1 : (len + (m - len)) * 24 ≤ reachBytes := by
        refine hs _ ?_
        rw [(Prod.mk.inj hx).1]
        simp [DataW.weights, Try.underlying23, bytes33]
      have : reachBytes ≤ 140737488355328 := by decide
      simp only [List.length_map, List.length_range]
      omega
end

end Go.Proofs.Ythfcgedlpnbojaa
