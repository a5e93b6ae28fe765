/-
  Arguments opened: an act, a slice of acts, two bools, read off the data that came in.
-/
import Derived.Test.YtfjihpcemmobjaaLawC
import Derived.ChangeMaps5
import Derived.ProofKit
import Derived.OpenShut
import Derived.JoinedCond
import Derived.Deep.DeepHandedRow
import Derived.Deep.Slices
import Derived.SizedLaws
import Derived.Lib.SmallJoins
namespace Go.Proofs.Ytfjihpcemmobjaa
open Go.ChangeShapes Go.WideShapes Go.ChangeAt Go.RowKit Go.Joins Go.Deep
set_option linter.unusedVariables false
set_option maxRecDepth 100000

theorem cellsAc : Try.prog.cellsOf 35 = 11 := by kernel_rfl
theorem bytesAc : Try.prog.bytesOf 35 = 64 := by kernel_rfl
theorem cellsB : Try.prog.cellsOf 4 = 1 := by kernel_rfl
theorem cellsN : Try.prog.cellsOf 3 = 1 := by kernel_rfl
theorem cellsS : Try.prog.cellsOf 9 = 1 := by kernel_rfl
theorem cellsK : Try.prog.cellsOf 33 = 1 := by kernel_rfl
theorem cellsI : Try.prog.cellsOf 30 = 4 := by kernel_rfl
theorem cellsL : Try.prog.cellsOf 32 = 7 := by kernel_rfl
theorem underN : Try.prog.underlying 3 = some (.int .i64) := by kernel_rfl
theorem underK : Try.prog.underlying 33 = some (.int .i64) := by kernel_rfl
theorem underS : Try.prog.underlying 9 = some .string := by kernel_rfl
theorem irq_fields : ∃ f0 f1 f2 f3 : Field, Try.prog.underlying 30 = some (.struct #[f0, f1, f2, f3]) ∧ (f0.type = 4 ∧ f0.offset = 0) ∧ (f1.type = 4 ∧ f1.offset = 1) ∧ (f2.type = 4 ∧ f2.offset = 2) ∧ (f3.type = 4 ∧ f3.offset = 3) :=
  ⟨_, _, _, _, Try.underlying30, ⟨rfl, rfl⟩, ⟨rfl, rfl⟩, ⟨rfl, rfl⟩, ⟨rfl, rfl⟩⟩
theorem line_fields : ∃ f0 f1 f2 f3 : Field, Try.prog.underlying 32 = some (.struct #[f0, f1, f2, f3]) ∧ (f0.type = 30 ∧ f0.offset = 0) ∧ (f1.type = 4 ∧ f1.offset = 4) ∧ (f2.type = 3 ∧ f2.offset = 5) ∧ (f3.type = 3 ∧ f3.offset = 6) :=
  ⟨_, _, _, _, Try.underlying32, ⟨rfl, rfl⟩, ⟨rfl, rfl⟩, ⟨rfl, rfl⟩, ⟨rfl, rfl⟩⟩
theorem act_fields : ∃ f0 f1 f2 f3 f4 : Field, Try.prog.underlying 35 = some (.struct #[f0, f1, f2, f3, f4]) ∧ (f0.type = 3 ∧ f0.offset = 0) ∧ (f1.type = 3 ∧ f1.offset = 1) ∧ (f2.type = 32 ∧ f2.offset = 2) ∧ (f3.type = 9 ∧ f3.offset = 9) ∧ (f4.type = 33 ∧ f4.offset = 10) :=
  ⟨_, _, _, _, _, Try.underlying35, ⟨rfl, rfl⟩, ⟨rfl, rfl⟩, ⟨rfl, rfl⟩, ⟨rfl, rfl⟩, ⟨rfl, rfl⟩⟩
def Small {H : Type} (t : TypeId) (d : DataW H) : Prop := ∀ m ∈ d.weights Try.prog t, m ≤ reachBytes
theorem add_mid9 (b o j : Nat) : (⟨b, o, none⟩ : Addr).add j = ⟨b, o + j, none⟩ := by unfold Addr.add; split <;> simp_all

section
variable {H : Type} {enc : TypeId × Value → H} {w : World} {base : Nat} {spare : Nat → Bool} {held : Bool}

theorem open_irq_cs {fuel : Nat} {cs : List Value} {y : DataW H × List MemPlace} (h : DataW.trod enc Try.prog w base spare held fuel 30 cs = some y) :
    ∃ x : St, cs = [.bool x.e, .bool x.l, .bool x.h, .bool x.a] := by
  obtain ⟨f0, f1, f2, f3, hu, ⟨t0, o0⟩, ⟨t1, o1⟩, ⟨t2, o2⟩, ⟨t3, o3⟩⟩ := irq_fields
  obtain ⟨xs, k, hk, hxy, hlen, hxl, hf⟩ := DataW.trod_struct hu h
  rw [cellsI] at hlen
  match cs, hlen, xs, hxl with
  | [v0, v1, v2, v3], _, [y0, y1, y2, y3], _ =>
    have g0 := hf 0 f0 rfl
    have g1 := hf 1 f1 rfl
    have g2 := hf 2 f2 rfl
    have g3 := hf 3 f3 rfl
    rw [t0, o0, cellsB] at g0
    rw [t1, o1, cellsB] at g1
    rw [t2, o2, cellsB] at g2
    rw [t3, o3, cellsB] at g3
    obtain ⟨z0, e0, _⟩ := DataW.trod_bool Try.underlying4 (show DataW.trod enc Try.prog w base spare held k 4 [v0] = some y0 from g0)
    obtain ⟨z1, e1, _⟩ := DataW.trod_bool Try.underlying4 (show DataW.trod enc Try.prog w base spare held k 4 [v1] = some y1 from g1)
    obtain ⟨z2, e2, _⟩ := DataW.trod_bool Try.underlying4 (show DataW.trod enc Try.prog w base spare held k 4 [v2] = some y2 from g2)
    obtain ⟨z3, e3, _⟩ := DataW.trod_bool Try.underlying4 (show DataW.trod enc Try.prog w base spare held k 4 [v3] = some y3 from g3)
    simp only [List.cons.injEq, and_true] at e0 e1 e2 e3
    exact ⟨⟨z0, z1, z2, z3⟩, by rw [e0, e1, e2, e3]⟩

theorem open_line_cs {fuel : Nat} {cs : List Value} {y : DataW H × List MemPlace} (h : DataW.trod enc Try.prog w base spare held fuel 32 cs = some y) :
    ∃ x : Ln, cs = [.bool x.st.e, .bool x.st.l, .bool x.st.h, .bool x.st.a, .bool x.en, .int .i64 x.g, .int .i64 x.p] := by
  obtain ⟨f0, f1, f2, f3, hu, ⟨t0, o0⟩, ⟨t1, o1⟩, ⟨t2, o2⟩, ⟨t3, o3⟩⟩ := line_fields
  obtain ⟨xs, k, hk, hxy, hlen, hxl, hf⟩ := DataW.trod_struct hu h
  rw [cellsL] at hlen
  match cs, hlen, xs, hxl with
  | [v0, v1, v2, v3, v4, v5, v6], _, [y0, y1, y2, y3], _ =>
    have g0 := hf 0 f0 rfl
    have g1 := hf 1 f1 rfl
    have g2 := hf 2 f2 rfl
    have g3 := hf 3 f3 rfl
    rw [t0, o0, cellsI] at g0
    rw [t1, o1, cellsB] at g1
    rw [t2, o2, cellsN] at g2
    rw [t3, o3, cellsN] at g3
    obtain ⟨st, e0⟩ := open_irq_cs (show DataW.trod enc Try.prog w base spare held k 30 [v0, v1, v2, v3] = some y0 from g0)
    obtain ⟨z1, e1, _⟩ := DataW.trod_bool Try.underlying4 (show DataW.trod enc Try.prog w base spare held k 4 [v4] = some y1 from g1)
    obtain ⟨z2, e2, _⟩ := DataW.trod_int underN (show DataW.trod enc Try.prog w base spare held k 3 [v5] = some y2 from g2)
    obtain ⟨z3, e3, _⟩ := DataW.trod_int underN (show DataW.trod enc Try.prog w base spare held k 3 [v6] = some y3 from g3)
    simp only [List.cons.injEq, and_true] at e0 e1 e2 e3
    obtain ⟨a0, a1, a2, a3⟩ := e0
    exact ⟨⟨st, z1, z2, z3⟩, by rw [a0, a1, a2, a3, e1, e2, e3]⟩

theorem open_act_cs {fuel : Nat} {cs : List Value} {y : DataW H × List MemPlace} (h : DataW.trod enc Try.prog w base spare held fuel 35 cs = some y) :
    ∃ x : Ac9, cs = x.ca.toList ∧ Int64 x.id := by
  obtain ⟨f0, f1, f2, f3, f4, hu, ⟨t0, o0⟩, ⟨t1, o1⟩, ⟨t2, o2⟩, ⟨t3, o3⟩, ⟨t4, o4⟩⟩ := act_fields
  obtain ⟨xs, k, hk, hxy, hlen, hxl, hf⟩ := DataW.trod_struct hu h
  rw [cellsAc] at hlen
  match cs, hlen, xs, hxl with
  | [v0, v1, v2, v3, v4, v5, v6, v7, v8, v9, v10], _, [y0, y1, y2, y3, y4], _ =>
    have g0 := hf 0 f0 rfl
    have g1 := hf 1 f1 rfl
    have g2 := hf 2 f2 rfl
    have g3 := hf 3 f3 rfl
    have g4 := hf 4 f4 rfl
    rw [t0, o0, cellsN] at g0
    rw [t1, o1, cellsN] at g1
    rw [t2, o2, cellsL] at g2
    rw [t3, o3, cellsS] at g3
    rw [t4, o4, cellsK] at g4
    obtain ⟨z0, e0, _, _⟩ := DataW.trod_int underN (show DataW.trod enc Try.prog w base spare held k 3 [v0] = some y0 from g0)
    obtain ⟨z1, e1, _, w1⟩ := DataW.trod_int underN (show DataW.trod enc Try.prog w base spare held k 3 [v1] = some y1 from g1)
    obtain ⟨ln, e2⟩ := open_line_cs (show DataW.trod enc Try.prog w base spare held k 32 [v2, v3, v4, v5, v6, v7, v8] = some y2 from g2)
    obtain ⟨z3, e3, _, _⟩ := DataW.trod_string underS (show DataW.trod enc Try.prog w base spare held k 9 [v9] = some y3 from g3)
    obtain ⟨z4, e4, _, _⟩ := DataW.trod_int underK (show DataW.trod enc Try.prog w base spare held k 33 [v10] = some y4 from g4)
    simp only [List.cons.injEq, and_true] at e0 e1 e2 e3 e4
    simp [Lit.wf, IntKind.max, IntKind.min, IntKind.signed, IntKind.bits] at w1
    obtain ⟨a0, a1, a2, a3, a4, a5, a6⟩ := e2
    refine ⟨⟨z0, z1, ln, z3, z4⟩, by rw [e0, e1, a0, a1, a2, a3, a4, a5, a6, e3, e4], ?_⟩
    constructor <;> show _ ≤ _ <;> dsimp only <;> omega

theorem open_agg_cs {r : Reach} {b0 : Nat} {t : TypeId} {fs : Array Field} {v : Value} {d : DataW H} {p : List MemPlace} (hu : Try.prog.underlying t = some (.struct fs)) (hv : Value.okWide Try.prog w r b0 t v) (h : DataW.Trod enc Try.prog w base spare held t v d p) :
    ∃ (cs : Array Value) (fuel : Nat), v = .agg cs ∧ DataW.trod enc Try.prog w base spare held fuel t cs.toList = some (d, p) := by
  obtain ⟨fuel, hf⟩ := h
  simp only [Value.okWide, hu] at hv
  obtain ⟨cs, rfl, _, _⟩ := hv
  exact ⟨cs, fuel, rfl, by simpa [Value.cells] using hf⟩
theorem open_act9 {r : Reach} {b0 : Nat} {v : Value} {d : DataW H} {p : List MemPlace} (hv : Value.okWide Try.prog w r b0 35 v) (h : DataW.Trod enc Try.prog w base spare held 35 v d p) : ∃ x : Ac9, v = x.v ∧ Int64 x.id := by
  obtain ⟨cs, fuel, rfl, hf⟩ := open_agg_cs Try.underlying35 hv h
  obtain ⟨x, e, h2⟩ := open_act_cs hf
  exact ⟨x, by cases cs; simp only at e; rw [e], h2⟩

theorem open_acts {r : Reach} {b0 : Nat} {v : Value} {d : DataW H} {p : List MemPlace} (hv : Value.okWide Try.prog w r b0 22 v) (h : DataW.Trod enc Try.prog w base spare held 22 v d p) :
    ∃ xs, Small 22 d → ActsAt w v xs ∧ xs.length ≤ 140737488355328 := by
  obtain ⟨a, len, cap, rfl⟩ := okWide_slice Try.underlying22 hv
  obtain ⟨fuel, hf⟩ := h
  rcases open_slice Try.underlying22 hf with ⟨h0, _⟩ | ⟨a', len', cap', m, n, D, Pl, h1, hb, hl, hm, hmm, hx, hall⟩
  · simp [Value.cells] at h0
    obtain ⟨rfl, rfl, rfl⟩ := h0
    exact ⟨[], fun _ => ⟨⟨none, 0, rfl, fun h => absurd rfl h⟩, by simp⟩⟩
  · simp [Value.cells] at h1
    obtain ⟨rfl, rfl, rfl⟩ := h1
    have hle : len ≤ m := by rw [hmm]; split <;> omega
    have each : ∀ i, i < m → ∃ q : Ac9, Int64 q.id ∧ ∀ o, o < 11 → w.cell? (a'.add (i * 11 + o)) = q.ca.toList[o]? := by
      intro i hi
      obtain ⟨cs', h2, h3⟩ := hall i hi
      rw [cellsAc] at h2
      obtain ⟨_, hlen, hcell⟩ := World.cells?_some h2
      obtain ⟨x, rfl, hid⟩ := open_act_cs h3
      refine ⟨x, hid, fun o ho => ?_⟩
      have := hcell o ho
      rw [Go.Deep.add_add] at this
      rw [this]
    obtain ⟨q, hq⟩ := choose_lt each
    refine ⟨(List.range len).map q, fun hs => ⟨⟨some a', cap, by simp, fun hne => ?_⟩, ?_⟩⟩
    · have hpos : 0 < len := by
        rcases Nat.eq_zero_or_pos len with e | e
        · exact absurd (by simp [e]) hne
        · exact e
      obtain ⟨b, off, spot⟩ := a'
      cases spot with
      | some sp =>
        have := (hq 0 (by omega)).2 0 (by omega)
        clear hall hq each hf hs
        simp [World.cell?, Addr.add] at this
        split at this <;> simp_all
      | none =>
        have hbl : b < w.heap.size := by
          have := (hq 0 (by omega)).2 0 (by omega)
          rw [add_mid9] at this
          exact World.block_lt_of_cell? w _ (show w.cell? ⟨b, _, none⟩ = some (.int .i64 (q 0).d) from this)
        refine ⟨b, off, rfl, hbl, fun j hj => ?_⟩
        simp only [List.length_map, List.length_range] at hj
        have ex : nthA ((List.range len).map q) j = q j := by
          rw [nthA, List.getElem?_map, List.getElem?_range hj]; rfl
        rw [ex]
        obtain ⟨hid, hc⟩ := hq j (by omega)
        have hc' : ∀ o, o < 11 → w.cell? ⟨b, off + j * 11 + o, none⟩ = (q j).ca.toList[o]? := fun o ho => by
          have := hc o ho
          rwa [add_mid9, ← Nat.add_assoc] at this
        exact ⟨hid, hc' 0 (by omega), hc' 1 (by omega), hc' 2 (by omega), hc' 3 (by omega), hc' 4 (by omega), hc' 5 (by omega), hc' 6 (by omega), hc' 7 (by omega), hc' 8 (by omega), hc' 9 (by omega), hc' 10 (by omega)⟩
    · have h1 : (len + (m - len)) * 64 ≤ reachBytes := by
        refine hs _ ?_
        rw [(Prod.mk.inj hx).1]
        simp [DataW.weights, Try.underlying22, bytesAc]
      have : reachBytes ≤ 140737488355328 := by decide
      simp only [List.length_map, List.length_range]
      omega

theorem trod_array2 {t e : TypeId} {fuel : Nat} {c0 c1 : Value} {x : DataW H × List MemPlace} (ht : Try.prog.underlying t = some (.array 2 e)) (hce : Try.prog.cellsOf e = 1)
    (h : DataW.trod enc Try.prog w base spare held fuel t [c0, c1] = some x) :
    ∃ y0 y1 n, DataW.trod enc Try.prog w base spare held n e [c0] = some y0 ∧ DataW.trod enc Try.prog w base spare held n e [c1] = some y1 := by
  cases fuel with
  | zero => simp [DataW.trod] at h
  | succ n =>
    unfold DataW.trod at h
    rw [ht] at h
    have r2 : List.range 2 = [0, 1] := rfl
    simp [r2, hce] at h
    obtain ⟨_, h⟩ := h
    cases h0 : DataW.trod enc Try.prog w base spare held n e [c0] with
    | none => simp [h0] at h
    | some y0 =>
      cases h1 : DataW.trod enc Try.prog w base spare held n e [c1] with
      | none => simp [h0, h1] at h
      | some y1 => exact ⟨y0, y1, n, h0, h1⟩
theorem open_two {r : Reach} {b0 : Nat} {v : Value} {d : DataW H} {p : List MemPlace} (hv : Value.okWide Try.prog w r b0 23 v) (h : DataW.Trod enc Try.prog w base spare held 23 v d p) :
    ∃ x y : Bool, v = .agg #[.bool x, .bool y] := by
  obtain ⟨cs, rfl, hsz, _⟩ : ∃ cs, v = .agg cs ∧ cs.size = Try.prog.cellsOf 23 ∧ Row.okWide Try.prog w r b0 23 cs := by
    simpa [Value.okWide, Try.underlying23] using hv
  rw [show Try.prog.cellsOf 23 = 2 by kernel_rfl] at hsz
  obtain ⟨l⟩ := cs
  match l, hsz with
  | [c0, c1], _ =>
    obtain ⟨fuel, hf⟩ := h
    obtain ⟨y0, y1, m, hy0, hy1⟩ := trod_array2 Try.underlying23 cellsB hf
    obtain ⟨x0, e0, _⟩ := DataW.trod_bool Try.underlying4 hy0
    obtain ⟨x1, e1, _⟩ := DataW.trod_bool Try.underlying4 hy1
    simp only [List.cons.injEq, and_true] at e0 e1
    subst e0 e1
    exact ⟨x0, x1, rfl⟩
end

end Go.Proofs.Ytfjihpcemmobjaa
