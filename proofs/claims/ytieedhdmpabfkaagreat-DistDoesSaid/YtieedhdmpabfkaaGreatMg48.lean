import Derived.Test.YtieedhdmpabfkaaGreatMg38
import Derived.ChangeMaps5
import Derived.ProofKit
import Derived.OpenShut
import Derived.JoinedCond
import Derived.Deep.DeepHandedRow
import Derived.Deep.Slices
import Derived.SizedLaws
import Derived.Lib.SmallJoins
set_option linter.unusedSimpArgs false
namespace Go.Proofs.YtieedhdmpabfkaaGreat
open Go.ChangeShapes Go.WideShapes Go.ChangeAt Go.RowKit Go.Joins Go.Deep
set_option linter.unusedVariables false
set_option maxRecDepth 100000
theorem cellsAc : Tryz.prog.cellsOf 33 = 11 := by kernel_rfl
theorem bytesAc : Tryz.prog.bytesOf 33 = 56 := by kernel_rfl
theorem cellsB : Tryz.prog.cellsOf 4 = 1 := by kernel_rfl
theorem cellsI : Tryz.prog.cellsOf 31 = 4 := by kernel_rfl
theorem cellsN : Tryz.prog.cellsOf 3 = 1 := by kernel_rfl
theorem cellsU : Tryz.prog.cellsOf 28 = 1 := by kernel_rfl
theorem cellsK : Tryz.prog.cellsOf 29 = 1 := by kernel_rfl
theorem underN : Tryz.prog.underlying 3 = some (.int .i64) := by kernel_rfl
theorem underU : Tryz.prog.underlying 28 = some (.int .u64) := by kernel_rfl
theorem underK : Tryz.prog.underlying 29 = some (.int .i64) := by kernel_rfl
theorem irq_fields : ∃ f0 f1 f2 f3 : Field, Tryz.prog.underlying 31 = some (.struct #[f0, f1, f2, f3]) ∧ (f0.type = 4 ∧ f0.offset = 0) ∧ (f1.type = 4 ∧ f1.offset = 1) ∧ (f2.type = 4 ∧ f2.offset = 2) ∧ (f3.type = 4 ∧ f3.offset = 3) :=
 ⟨_, _, _, _, Tryz.underlying31, ⟨rfl, rfl⟩, ⟨rfl, rfl⟩, ⟨rfl, rfl⟩, ⟨rfl, rfl⟩⟩
theorem act_fields : ∃ f0 f1 f2 f3 f4 f5 f6 f7 : Field, Tryz.prog.underlying 33 = some (.struct #[f0, f1, f2, f3, f4, f5, f6, f7]) ∧ (f0.type = 3 ∧ f0.offset = 0) ∧ (f1.type = 3 ∧ f1.offset = 1) ∧ (f2.type = 3 ∧ f2.offset = 2) ∧ (f3.type = 3 ∧ f3.offset = 3) ∧ (f4.type = 28 ∧ f4.offset = 4) ∧ (f5.type = 29 ∧ f5.offset = 5) ∧ (f6.type = 31 ∧ f6.offset = 6) ∧ (f7.type = 4 ∧ f7.offset = 10) :=
 ⟨_, _, _, _, _, _, _, _, Tryz.underlying33, ⟨rfl, rfl⟩, ⟨rfl, rfl⟩, ⟨rfl, rfl⟩, ⟨rfl, rfl⟩, ⟨rfl, rfl⟩, ⟨rfl, rfl⟩, ⟨rfl, rfl⟩, ⟨rfl, rfl⟩⟩
def Small {H : Type} (t : TypeId) (d : DataW H) : Prop := ∀ m ∈ d.weights Tryz.prog t, m ≤ reachBytes
theorem add_mid9 (b o j : Nat) : (⟨b, o, none⟩ : Addr).add j = ⟨b, o + j, none⟩ := by unfold Addr.add; split <;> simp_all
section
variable {H : Type} {enc : TypeId × Value → H} {w : World} {base : Nat} {spare : Nat → Bool} {held : Bool}
theorem open_irq_cs {fuel : Nat} {cs : List Value} {y : DataW H × List MemPlace} (h : DataW.trod enc Tryz.prog w base spare held fuel 31 cs = some y) :
  ∃ x : St, cs = [.bool x.e, .bool x.l, .bool x.h, .bool x.a] := by
 obtain ⟨f0, f1, f2, f3, hu, ⟨t0, o0⟩, ⟨t1, o1⟩, ⟨t2, o2⟩, ⟨t3, o3⟩⟩ := irq_fields
 obtain ⟨xs, k, hk, hxy, hlen, hxl, hf⟩ := DataW.trod_struct hu h
 rw [cellsI] at hlen
 match cs, hlen, xs, hxl with
 | [v0, v1, v2, v3], _, [y0, y1, y2, y3], _ =>
  have g0 := hf 0 f0 rfl
  have g1 := hf 1 f1 rfl
  have g2 := hf 2 f2 rfl
  have g3 := hf 3 f3 rfl
  rw [t0, o0, cellsB] at g0
  rw [t1, o1, cellsB] at g1
  rw [t2, o2, cellsB] at g2
  rw [t3, o3, cellsB] at g3
  obtain ⟨z0, e0, _⟩ := DataW.trod_bool Tryz.underlying4 (show DataW.trod enc Tryz.prog w base spare held k 4 [v0] = some y0 from g0)
  obtain ⟨z1, e1, _⟩ := DataW.trod_bool Tryz.underlying4 (show DataW.trod enc Tryz.prog w base spare held k 4 [v1] = some y1 from g1)
  obtain ⟨z2, e2, _⟩ := DataW.trod_bool Tryz.underlying4 (show DataW.trod enc Tryz.prog w base spare held k 4 [v2] = some y2 from g2)
  obtain ⟨z3, e3, _⟩ := DataW.trod_bool Tryz.underlying4 (show DataW.trod enc Tryz.prog w base spare held k 4 [v3] = some y3 from g3)
  simp only [List.cons.injEq, and_true] at e0 e1 e2 e3
  exact ⟨⟨z0, z1, z2, z3⟩, by rw [e0, e1, e2, e3]⟩
theorem open_act_cs {fuel : Nat} {cs : List Value} {y : DataW H × List MemPlace} (h : DataW.trod enc Tryz.prog w base spare held fuel 33 cs = some y) :
  ∃ x : Xa, cs = x.cs.toList ∧ x.Ok := by
 obtain ⟨f0, f1, f2, f3, f4, f5, f6, f7, hu, ⟨t0, o0⟩, ⟨t1, o1⟩, ⟨t2, o2⟩, ⟨t3, o3⟩, ⟨t4, o4⟩, ⟨t5, o5⟩, ⟨t6, o6⟩, ⟨t7, o7⟩⟩ := act_fields
 obtain ⟨xs, k, hk, hxy, hlen, hxl, hf⟩ := DataW.trod_struct hu h
 rw [cellsAc] at hlen
 match cs, hlen, xs, hxl with
 | [v0, v1, v2, v3, v4, v5, v6, v7, v8, v9, v10], _, [y0, y1, y2, y3, y4, y5, y6, y7], _ =>
  have g0 := hf 0 f0 rfl
  have g1 := hf 1 f1 rfl
  have g2 := hf 2 f2 rfl
  have g3 := hf 3 f3 rfl
  have g4 := hf 4 f4 rfl
  have g5 := hf 5 f5 rfl
  have g6 := hf 6 f6 rfl
  have g7 := hf 7 f7 rfl
  rw [t0, o0, cellsN] at g0
  rw [t1, o1, cellsN] at g1
  rw [t2, o2, cellsN] at g2
  rw [t3, o3, cellsN] at g3
  rw [t4, o4, cellsU] at g4
  rw [t5, o5, cellsK] at g5
  rw [t6, o6, cellsI] at g6
  rw [t7, o7, cellsB] at g7
  obtain ⟨z0, e0, _, w0⟩ := DataW.trod_int underN (show DataW.trod enc Tryz.prog w base spare held k 3 [v0] = some y0 from g0)
  obtain ⟨z1, e1, _, w1⟩ := DataW.trod_int underN (show DataW.trod enc Tryz.prog w base spare held k 3 [v1] = some y1 from g1)
  obtain ⟨z2, e2, _, w2⟩ := DataW.trod_int underN (show DataW.trod enc Tryz.prog w base spare held k 3 [v2] = some y2 from g2)
  obtain ⟨z3, e3, _, w3⟩ := DataW.trod_int underN (show DataW.trod enc Tryz.prog w base spare held k 3 [v3] = some y3 from g3)
  obtain ⟨z4, e4, _, w4⟩ := DataW.trod_int underU (show DataW.trod enc Tryz.prog w base spare held k 28 [v4] = some y4 from g4)
  obtain ⟨z5, e5, _, w5⟩ := DataW.trod_int underK (show DataW.trod enc Tryz.prog w base spare held k 29 [v5] = some y5 from g5)
  obtain ⟨st, e6⟩ := open_irq_cs (show DataW.trod enc Tryz.prog w base spare held k 31 [v6, v7, v8, v9] = some y6 from g6)
  obtain ⟨z7, e7, _⟩ := DataW.trod_bool Tryz.underlying4 (show DataW.trod enc Tryz.prog w base spare held k 4 [v10] = some y7 from g7)
  simp only [List.cons.injEq, and_true] at e0 e1 e2 e3 e4 e5 e6 e7
  simp [Lit.wf, IntKind.max, IntKind.min, IntKind.signed, IntKind.bits] at w1 w2 w3 w4
  obtain ⟨n4, rfl⟩ := Int.eq_ofNat_of_zero_le (show 0 ≤ z4 by omega)
  obtain ⟨a0, a1, a2, a3⟩ := e6
  refine ⟨⟨z0, z1, z2, z3, n4, z5, st, z7⟩, by rw [e0, e1, e2, e3, e4, e5, a0, a1, a2, a3, e7], ?_, ?_, ?_, ?_⟩
  ·constructor <;> show _ ≤ _ <;> dsimp only <;> omega
  ·constructor <;> show _ ≤ _ <;> dsimp only <;> omega
  ·constructor <;> show _ ≤ _ <;> dsimp only <;> omega
  ·show n4 < _
   omega
theorem open_acts {r : Reach} {b0 : Nat} {v : Value} {d : DataW H} {p : List MemPlace} (hv : Value.okWide Tryz.prog w r b0 22 v) (h : DataW.Trod enc Tryz.prog w base spare held 22 v d p) :
  ∃ xs, Small 22 d → ActsAt w v xs ∧ xs.length ≤ 140737488355328 := by
 obtain ⟨a, len, cap, rfl⟩ := okWide_slice Tryz.underlying22 hv
 obtain ⟨fuel, hf⟩ := h
 rcases open_slice Tryz.underlying22 hf with ⟨h0, _⟩ | ⟨a', len', cap', m, n, D, Pl, h1, hb, hl, hm, hmm, hx, hall⟩
 ·simp [Value.cells] at h0
  obtain ⟨rfl, rfl, rfl⟩ := h0
  exact ⟨[], fun _ => ⟨⟨none, 0, rfl, fun h => absurd rfl h⟩, by simp⟩⟩
 ·simp [Value.cells] at h1
  obtain ⟨rfl, rfl, rfl⟩ := h1
  have hle : len ≤ m := by rw [hmm]; split <;> omega
  have each : ∀ i, i < m → ∃ q : Xa, q.Ok ∧ ∀ o, o < 11 → w.cell? (a'.add (i * 11 + o)) = q.cs.toList[o]? := by
   intro i hi
   obtain ⟨cs', h2, h3⟩ := hall i hi
   rw [cellsAc] at h2
   obtain ⟨_, hlen, hcell⟩ := World.cells?_some h2
   obtain ⟨x, rfl, hid⟩ := open_act_cs h3
   refine ⟨x, hid, fun o ho => ?_⟩
   have := hcell o ho
   rw [Go.Deep.add_add] at this
   rw [this]
  obtain ⟨q, hq⟩ := choose_lt each
  refine ⟨(List.range len).map q, fun hs => ⟨⟨some a', cap, by simp, fun hne => ?_⟩, ?_⟩⟩
  ·have hpos : 0 < len := by
    rcases Nat.eq_zero_or_pos len with e | e
    ·exact absurd (by simp [e]) hne
    ·exact e
   obtain ⟨b, off, spot⟩ := a'
   cases spot with
   | some sp =>
    have := (hq 0 (by omega)).2 0 (by omega)
    clear hall hq each hf hs
    simp [World.cell?, Addr.add] at this
    split at this <;> simp_all
   | none =>
    have hbl : b < w.heap.size := by
     have := (hq 0 (by omega)).2 0 (by omega)
     rw [add_mid9] at this
     exact World.block_lt_of_cell? w _ (show w.cell? ⟨b, _, none⟩ = some (.int .i64 (q 0).d) from this)
    refine ⟨b, off, rfl, hbl, fun j hj => ?_⟩
    simp only [List.length_map, List.length_range] at hj
    have ex : nthA ((List.range len).map q) j = q j := by
     rw [nthA, List.getElem?_map, List.getElem?_range hj]; rfl
    rw [ex]
    obtain ⟨hid, hc⟩ := hq j (by omega)
    have hc' : ∀ o, o < 11 → w.cell? ⟨b, off + j * 11 + o, none⟩ = (q j).cs.toList[o]? := fun o ho => by
     have := hc o ho
     rwa [add_mid9, ← Nat.add_assoc] at this
    exact ⟨hid, hc' 0 (by omega), hc' 1 (by omega), hc' 2 (by omega), hc' 3 (by omega), hc' 4 (by omega), hc' 5 (by omega), hc' 6 (by omega), hc' 7 (by omega), hc' 8 (by omega), hc' 9 (by omega), hc' 10 (by omega)⟩
  ·have h1 : (len + (m - len)) * 56 ≤ reachBytes := by
    refine hs _ ?_
    rw [(Prod.mk.inj hx).1]
    simp [DataW.weights, Tryz.underlying22, bytesAc]
   have : reachBytes ≤ 140737488355328 := by decide
   simp only [List.length_map, List.length_range]
   omega
end
end Go.Proofs.YtieedhdmpabfkaaGreat
