/-
  Arguments opened: an act, a slice of acts, a slice of ints, read off the data that came in.
-/
import Derived.Test.YtjgamfonpagkbaaLawE
import Derived.Test.YtjgamfonpagkbaaInts
import Derived.ChangeMaps5
import Derived.ProofKit
import Derived.OpenShut
import Derived.JoinedCond
import Derived.Deep.DeepHandedRow
import Derived.Deep.Slices
import Derived.SizedLaws
import Derived.Lib.SmallJoins
namespace Go.Proofs.Ytjgamfonpagkbaa
open Go.ChangeShapes Go.WideShapes Go.ChangeAt Go.RowKit Go.Joins Go.Deep
set_option linter.unusedVariables false
set_option maxRecDepth 100000

theorem cellsAc : Try.prog.cellsOf 32 = 5 := by kernel_rfl
theorem bytesAc : Try.prog.bytesOf 32 = 40 := by kernel_rfl
theorem cellsN : Try.prog.cellsOf 3 = 1 := by kernel_rfl
theorem cellsU : Try.prog.cellsOf 29 = 1 := by kernel_rfl
theorem cellsK : Try.prog.cellsOf 30 = 1 := by kernel_rfl
theorem bytes3 : Try.prog.bytesOf 3 = 8 := by kernel_rfl
theorem underN : Try.prog.underlying 3 = some (.int .i64) := by kernel_rfl
theorem underU : Try.prog.underlying 29 = some (.int .u64) := by kernel_rfl
theorem underK : Try.prog.underlying 30 = some (.int .i64) := by kernel_rfl
theorem act_fields : ∃ f0 f1 f2 f3 f4 : Field, Try.prog.underlying 32 = some (.struct #[f0, f1, f2, f3, f4]) ∧ (f0.type = 3 ∧ f0.offset = 0) ∧ (f1.type = 3 ∧ f1.offset = 1) ∧ (f2.type = 3 ∧ f2.offset = 2) ∧ (f3.type = 29 ∧ f3.offset = 3) ∧ (f4.type = 30 ∧ f4.offset = 4) :=
  ⟨_, _, _, _, _, Try.underlying32, ⟨rfl, rfl⟩, ⟨rfl, rfl⟩, ⟨rfl, rfl⟩, ⟨rfl, rfl⟩, ⟨rfl, rfl⟩⟩
def Small {H : Type} (t : TypeId) (d : DataW H) : Prop := ∀ m ∈ d.weights Try.prog t, m ≤ reachBytes
theorem add_mid9 (b o j : Nat) : (⟨b, o, none⟩ : Addr).add j = ⟨b, o + j, none⟩ := by unfold Addr.add; split <;> simp_all

section
variable {H : Type} {enc : TypeId × Value → H} {w : World} {base : Nat} {spare : Nat → Bool} {held : Bool}

theorem open_act_cs {fuel : Nat} {cs : List Value} {y : DataW H × List MemPlace} (h : DataW.trod enc Try.prog w base spare held fuel 32 cs = some y) :
    ∃ x : Ac11, cs = x.ca.toList ∧ AcOk x := by
  obtain ⟨f0, f1, f2, f3, f4, hu, ⟨t0, o0⟩, ⟨t1, o1⟩, ⟨t2, o2⟩, ⟨t3, o3⟩, ⟨t4, o4⟩⟩ := act_fields
  obtain ⟨xs, k, hk, hxy, hlen, hxl, hf⟩ := DataW.trod_struct hu h
  rw [cellsAc] at hlen
  match cs, hlen, xs, hxl with
  | [v0, v1, v2, v3, v4], _, [y0, y1, y2, y3, y4], _ =>
    have g0 := hf 0 f0 rfl
    have g1 := hf 1 f1 rfl
    have g2 := hf 2 f2 rfl
    have g3 := hf 3 f3 rfl
    have g4 := hf 4 f4 rfl
    rw [t0, o0, cellsN] at g0
    rw [t1, o1, cellsN] at g1
    rw [t2, o2, cellsN] at g2
    rw [t3, o3, cellsU] at g3
    rw [t4, o4, cellsK] at g4
    obtain ⟨z0, e0, _, _⟩ := DataW.trod_int underN (show DataW.trod enc Try.prog w base spare held k 3 [v0] = some y0 from g0)
    obtain ⟨z1, e1, _, w1⟩ := DataW.trod_int underN (show DataW.trod enc Try.prog w base spare held k 3 [v1] = some y1 from g1)
    obtain ⟨z2, e2, _, w2⟩ := DataW.trod_int underN (show DataW.trod enc Try.prog w base spare held k 3 [v2] = some y2 from g2)
    obtain ⟨z3, e3, _, w3⟩ := DataW.trod_int underU (show DataW.trod enc Try.prog w base spare held k 29 [v3] = some y3 from g3)
    obtain ⟨z4, e4, _, _⟩ := DataW.trod_int underK (show DataW.trod enc Try.prog w base spare held k 30 [v4] = some y4 from g4)
    simp only [List.cons.injEq, and_true] at e0 e1 e2 e3 e4
    simp [Lit.wf, IntKind.max, IntKind.min, IntKind.signed, IntKind.bits] at w1 w2 w3
    obtain ⟨n3, rfl⟩ := Int.eq_ofNat_of_zero_le (show 0 ≤ z3 by omega)
    refine ⟨⟨z0, z1, z2, n3, z4⟩, by rw [e0, e1, e2, e3, e4], ?_, ?_, ?_⟩
    · constructor <;> show _ ≤ _ <;> dsimp only <;> omega
    · constructor <;> show _ ≤ _ <;> dsimp only <;> omega
    · show n3 < _
      omega

theorem open_agg_cs {r : Reach} {b0 : Nat} {t : TypeId} {fs : Array Field} {v : Value} {d : DataW H} {p : List MemPlace} (hu : Try.prog.underlying t = some (.struct fs)) (hv : Value.okWide Try.prog w r b0 t v) (h : DataW.Trod enc Try.prog w base spare held t v d p) :
    ∃ (cs : Array Value) (fuel : Nat), v = .agg cs ∧ DataW.trod enc Try.prog w base spare held fuel t cs.toList = some (d, p) := by
  obtain ⟨fuel, hf⟩ := h
  simp only [Value.okWide, hu] at hv
  obtain ⟨cs, rfl, _, _⟩ := hv
  exact ⟨cs, fuel, rfl, by simpa [Value.cells] using hf⟩
theorem open_act11 {r : Reach} {b0 : Nat} {v : Value} {d : DataW H} {p : List MemPlace} (hv : Value.okWide Try.prog w r b0 32 v) (h : DataW.Trod enc Try.prog w base spare held 32 v d p) : ∃ x : Ac11, v = x.w ∧ AcOk x := by
  obtain ⟨cs, fuel, rfl, hf⟩ := open_agg_cs Try.underlying32 hv h
  obtain ⟨x, e, h2⟩ := open_act_cs hf
  exact ⟨x, by cases cs; simp only at e; rw [e], h2⟩

theorem open_acts {r : Reach} {b0 : Nat} {v : Value} {d : DataW H} {p : List MemPlace} (hv : Value.okWide Try.prog w r b0 22 v) (h : DataW.Trod enc Try.prog w base spare held 22 v d p) :
    ∃ xs, Small 22 d → ActsAt w v xs ∧ xs.length ≤ 140737488355328 := by
  obtain ⟨a, len, cap, rfl⟩ := okWide_slice Try.underlying22 hv
  obtain ⟨fuel, hf⟩ := h
  rcases open_slice Try.underlying22 hf with ⟨h0, _⟩ | ⟨a', len', cap', m, n, D, Pl, h1, hb, hl, hm, hmm, hx, hall⟩
  · simp [Value.cells] at h0
    obtain ⟨rfl, rfl, rfl⟩ := h0
    exact ⟨[], fun _ => ⟨⟨none, 0, rfl, fun h => absurd rfl h⟩, by simp⟩⟩
  · simp [Value.cells] at h1
    obtain ⟨rfl, rfl, rfl⟩ := h1
    have hle : len ≤ m := by rw [hmm]; split <;> omega
    have each : ∀ i, i < m → ∃ q : Ac11, AcOk q ∧ ∀ o, o < 5 → w.cell? (a'.add (i * 5 + o)) = q.ca.toList[o]? := by
      intro i hi
      obtain ⟨cs', h2, h3⟩ := hall i hi
      rw [cellsAc] at h2
      obtain ⟨_, hlen, hcell⟩ := World.cells?_some h2
      obtain ⟨x, rfl, hid⟩ := open_act_cs h3
      refine ⟨x, hid, fun o ho => ?_⟩
      have := hcell o ho
      rw [Go.Deep.add_add] at this
      rw [this]
    obtain ⟨q, hq⟩ := choose_lt each
    refine ⟨(List.range len).map q, fun hs => ⟨⟨some a', cap, by simp, fun hne => ?_⟩, ?_⟩⟩
    · have hpos : 0 < len := by
        rcases Nat.eq_zero_or_pos len with e | e
        · exact absurd (by simp [e]) hne
        · exact e
      obtain ⟨b, off, spot⟩ := a'
      cases spot with
      | some sp =>
        have := (hq 0 (by omega)).2 0 (by omega)
        clear hall hq each hf hs
        simp [World.cell?, Addr.add] at this
        split at this <;> simp_all
      | none =>
        have hbl : b < w.heap.size := by
          have := (hq 0 (by omega)).2 0 (by omega)
          rw [add_mid9] at this
          exact World.block_lt_of_cell? w _ (show w.cell? ⟨b, _, none⟩ = some (.int .i64 (q 0).d) from this)
        refine ⟨b, off, rfl, hbl, fun j hj => ?_⟩
        simp only [List.length_map, List.length_range] at hj
        have ex : nthA ((List.range len).map q) j = q j := by
          rw [nthA, List.getElem?_map, List.getElem?_range hj]; rfl
        rw [ex]
        obtain ⟨hid, hc⟩ := hq j (by omega)
        have hc' : ∀ o, o < 5 → w.cell? ⟨b, off + j * 5 + o, none⟩ = (q j).ca.toList[o]? := fun o ho => by
          have := hc o ho
          rwa [add_mid9, ← Nat.add_assoc] at this
        exact ⟨hid, hc' 0 (by omega), hc' 1 (by omega), hc' 2 (by omega), hc' 3 (by omega), hc' 4 (by omega)⟩
    · have h1 : (len + (m - len)) * 40 ≤ reachBytes := by
        refine hs _ ?_
        rw [(Prod.mk.inj hx).1]
        simp [DataW.weights, Try.underlying22, bytesAc]
      have : reachBytes ≤ 140737488355328 := by decide
      simp only [List.length_map, List.length_range]
      omega


theorem open_ints_at {r : Reach} {b0 : Nat} {v : Value} {d : DataW H} {p : List MemPlace} (hv : Value.okWide Try.prog w r b0 34 v) (h : DataW.Trod enc Try.prog w base spare held 34 v d p) :
    ∃ (a : Option Addr) (n cap : Nat) (xs : List Int), v = .slice a n cap ∧ IntsAt w v xs ∧ (∀ x ∈ xs, -9223372036854775808 ≤ x ∧ x ≤ 9223372036854775807) ∧ (Small 34 d → n ≤ 17592186044416) := by
  obtain ⟨a, len, cap, rfl⟩ := okWide_slice Try.underlying34 hv
  obtain ⟨fuel, hf⟩ := h
  rcases open_ints (k := .i64) Try.underlying34 Try.underlying3 cellsN hf with ⟨h0, _⟩ | ⟨a', len', cap', zs, h1, hb, hl, hm, hlen, hx, hcell, hwf⟩
  · simp [Value.cells] at h0
    obtain ⟨rfl, rfl, rfl⟩ := h0
    exact ⟨none, 0, 0, [], rfl, ⟨none, 0, rfl, ⟨by simp, by unfold maxLen; omega⟩, fun h => absurd rfl h⟩, (fun x hx => by simp at hx), fun _ => by omega⟩
  · simp [Value.cells] at h1
    obtain ⟨rfl, rfl, rfl⟩ := h1
    have hle : len ≤ zs.length := by rw [hlen]; split <;> omega
    have htl : (zs.take len).length = len := by simp; omega
    refine ⟨some a', len, cap, zs.take len, rfl, ⟨some a', cap, by rw [htl], ⟨by rw [htl]; exact hl, hm⟩, fun hne => ?_⟩, ?_, fun hs => ?_⟩
    · have hpos : 0 < len := by
        rcases Nat.eq_zero_or_pos len with e | e
        · exact absurd (by simp [e]) hne
        · exact e
      obtain ⟨b, off, spot⟩ := a'
      cases spot with
      | some sp =>
        have := hcell 0 (by omega)
        simp [World.cell?, Addr.add] at this
        exfalso
        revert this
        split <;> simp
      | none =>
        refine ⟨b, off, rfl, fun j hj => ?_⟩
        rw [htl] at hj
        have := hcell j (by omega)
        rw [add_mid9] at this
        rw [this, List.getElem?_take_of_lt hj, List.getD_eq_getElem?_getD]
    · intro x hx'
      have := hwf x (List.mem_of_mem_take hx')
      simp [Lit.wf, IntKind.max, IntKind.min, IntKind.signed, IntKind.bits] at this
      omega
    · have h1 : (len + (zs.length - len)) * 8 ≤ reachBytes := by
        refine hs _ ?_
        rw [(Prod.mk.inj hx).1]
        simp [DataW.weights, Try.underlying34, bytes3, lits, Nat.min_eq_left hle]
      have : reachBytes ≤ 140737488355328 := by decide
      omega

end

end Go.Proofs.Ytjgamfonpagkbaa
