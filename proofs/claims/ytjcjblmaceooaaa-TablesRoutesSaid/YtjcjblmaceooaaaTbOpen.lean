/-
  Arguments opened: rows of bytes, of numbers of 16 bits, of bools, of devices and of routes; a device and a table by value.
-/
import Derived.Test.YtjcjblmaceooaaaTbK
import Derived.ProofKit
import Derived.OpenShut
import Derived.JoinedCond
import Derived.Deep.DeepHandedRow
import Derived.Deep.Slices
import Derived.SizedLaws
import Derived.Lib.SmallJoins
namespace Go.Proofs.Ytjcjblmaceooaaa
open Go.ChangeShapes Go.WideShapes Go.ChangeAt Go.RowKit Go.Joins Go.Deep
set_option linter.unusedVariables false
set_option linter.unusedSimpArgs false
set_option maxRecDepth 100000

theorem cellsN : Try.prog.cellsOf 3 = 1 := by kernel_rfl
theorem cellsB : Try.prog.cellsOf 4 = 1 := by kernel_rfl
theorem cells8 : Try.prog.cellsOf 5 = 1 := by kernel_rfl
theorem cells16 : Try.prog.cellsOf 46 = 1 := by kernel_rfl
theorem cellsDv : Try.prog.cellsOf 36 = 3 := by kernel_rfl
theorem cellsRt : Try.prog.cellsOf 52 = 3 := by kernel_rfl
theorem cellsWin : Try.prog.cellsOf 30 = 2 := by kernel_rfl
theorem cellsTb : Try.prog.cellsOf 32 = 3 := by kernel_rfl
theorem underN : Try.prog.underlying 3 = some (.int .i64) := by kernel_rfl
theorem underB : Try.prog.underlying 4 = some .bool := by kernel_rfl
theorem under8 : Try.prog.underlying 5 = some (.int .u8) := by kernel_rfl
theorem under16 : Try.prog.underlying 46 = some (.int .u16) := by kernel_rfl
theorem win_fields : ∃ f0 f1 : Field, Try.prog.underlying 30 = some (.struct #[f0, f1]) ∧ (f0.type = 3 ∧ f0.offset = 0) ∧ (f1.type = 3 ∧ f1.offset = 1) :=
  ⟨_, _, Try.underlying30, ⟨rfl, rfl⟩, ⟨rfl, rfl⟩⟩
theorem tb_fields : ∃ f0 f1 : Field, Try.prog.underlying 32 = some (.struct #[f0, f1]) ∧ (f0.type = 30 ∧ f0.offset = 0) ∧ (f1.type = 3 ∧ f1.offset = 2) :=
  ⟨_, _, Try.underlying32, ⟨rfl, rfl⟩, ⟨rfl, rfl⟩⟩
theorem dv_fields : ∃ f0 f1 f2 : Field, Try.prog.underlying 36 = some (.struct #[f0, f1, f2]) ∧ (f0.type = 4 ∧ f0.offset = 0) ∧ (f1.type = 3 ∧ f1.offset = 1) ∧ (f2.type = 3 ∧ f2.offset = 2) :=
  ⟨_, _, _, Try.underlying36, ⟨rfl, rfl⟩, ⟨rfl, rfl⟩, ⟨rfl, rfl⟩⟩
theorem rt_fields : ∃ f0 f1 f2 : Field, Try.prog.underlying 52 = some (.struct #[f0, f1, f2]) ∧ (f0.type = 3 ∧ f0.offset = 0) ∧ (f1.type = 3 ∧ f1.offset = 1) ∧ (f2.type = 4 ∧ f2.offset = 2) :=
  ⟨_, _, _, Try.underlying52, ⟨rfl, rfl⟩, ⟨rfl, rfl⟩, ⟨rfl, rfl⟩⟩
theorem wf64 {n : Int} (h : (Lit.int .i64 n).wf = true) : i64B n := by
  simp [Lit.wf, IntKind.max, IntKind.min, IntKind.signed, IntKind.bits] at h
  constructor <;> omega
instance : Inhabited Dv := ⟨⟨false, 0, 0⟩⟩
instance : Inhabited Rt := ⟨⟨0, 0, false⟩⟩

section
variable {H : Type} {enc : TypeId × Value → H} {w : World} {base : Nat} {spare : Nat → Bool} {held : Bool}

theorem open_agg_cs {r : Reach} {b0 : Nat} {t : TypeId} {fs : Array Field} {v : Value} {d : DataW H} {p : List MemPlace} (hu : Try.prog.underlying t = some (.struct fs)) (hv : Value.okWide Try.prog w r b0 t v) (h : DataW.Trod enc Try.prog w base spare held t v d p) :
    ∃ (cs : Array Value) (fuel : Nat), v = .agg cs ∧ DataW.trod enc Try.prog w base spare held fuel t cs.toList = some (d, p) := by
  obtain ⟨fuel, hf⟩ := h
  simp only [Value.okWide, hu] at hv
  obtain ⟨cs, rfl, _, _⟩ := hv
  exact ⟨cs, fuel, rfl, by simpa [Value.cells] using hf⟩
theorem open_8_cs {fuel : Nat} {cs : List Value} {y : DataW H × List MemPlace} (hl : cs.length = 1) (h : DataW.trod enc Try.prog w base spare held fuel 5 cs = some y) :
    ∃ x : Nat, cs = u8C x ∧ x < 256 := by
  match cs, hl with
  | [v0], _ =>
    obtain ⟨z, e0, _, wf⟩ := DataW.trod_int under8 h
    simp only [List.cons.injEq, and_true] at e0
    simp [Lit.wf, IntKind.max, IntKind.min, IntKind.signed, IntKind.bits] at wf
    exact ⟨z.toNat, by rw [e0, u8C, Int.toNat_of_nonneg (by omega)], by omega⟩
theorem open_16_cs {fuel : Nat} {cs : List Value} {y : DataW H × List MemPlace} (hl : cs.length = 1) (h : DataW.trod enc Try.prog w base spare held fuel 46 cs = some y) :
    ∃ x : Nat, cs = u16C x ∧ x < 65536 := by
  match cs, hl with
  | [v0], _ =>
    obtain ⟨z, e0, _, wf⟩ := DataW.trod_int under16 h
    simp only [List.cons.injEq, and_true] at e0
    simp [Lit.wf, IntKind.max, IntKind.min, IntKind.signed, IntKind.bits] at wf
    exact ⟨z.toNat, by rw [e0, u16C, Int.toNat_of_nonneg (by omega)], by omega⟩
theorem open_b_cs {fuel : Nat} {cs : List Value} {y : DataW H × List MemPlace} (hl : cs.length = 1) (h : DataW.trod enc Try.prog w base spare held fuel 4 cs = some y) :
    ∃ x : Bool, cs = boolC x ∧ True := by
  match cs, hl with
  | [v0], _ =>
    obtain ⟨z, e0, _⟩ := DataW.trod_bool underB h
    simp only [List.cons.injEq, and_true] at e0
    exact ⟨z, by rw [e0]; rfl, trivial⟩
theorem open_win_cs {fuel : Nat} {cs : List Value} {y : DataW H × List MemPlace} (h : DataW.trod enc Try.prog w base spare held fuel 30 cs = some y) :
    ∃ a s : Int, cs = [.int .i64 a, .int .i64 s] ∧ i64B a ∧ i64B s := by
  obtain ⟨f0, f1, hu, ⟨t0, o0⟩, ⟨t1, o1⟩⟩ := win_fields
  obtain ⟨xs, k, hk, hxy, hlen, hxl, hf⟩ := DataW.trod_struct hu h
  rw [cellsWin] at hlen
  match cs, hlen, xs, hxl with
  | [v0, v1], _, [y0, y1], _ =>
    have g0 := hf 0 f0 rfl
    have g1 := hf 1 f1 rfl
    rw [t0, o0, cellsN] at g0
    rw [t1, o1, cellsN] at g1
    obtain ⟨z0, e0, _, w0⟩ := DataW.trod_int underN (show DataW.trod enc Try.prog w base spare held k 3 [v0] = some y0 from g0)
    obtain ⟨z1, e1, _, w1⟩ := DataW.trod_int underN (show DataW.trod enc Try.prog w base spare held k 3 [v1] = some y1 from g1)
    simp only [List.cons.injEq, and_true] at e0 e1
    exact ⟨z0, z1, by rw [e0, e1], wf64 w0, wf64 w1⟩
theorem open_dv_cs {fuel : Nat} {cs : List Value} {y : DataW H × List MemPlace} (hl : cs.length = 3) (h : DataW.trod enc Try.prog w base spare held fuel 36 cs = some y) :
    ∃ x : Dv, cs = dvC x ∧ x.Fair := by
  obtain ⟨f0, f1, f2, hu, ⟨t0, o0⟩, ⟨t1, o1⟩, ⟨t2, o2⟩⟩ := dv_fields
  obtain ⟨xs, k, hk, hxy, hlen, hxl, hf⟩ := DataW.trod_struct hu h
  rw [cellsDv] at hlen
  match cs, hlen, xs, hxl with
  | [v0, v1, v2], _, [y0, y1, y2], _ =>
    have g0 := hf 0 f0 rfl
    have g1 := hf 1 f1 rfl
    have g2 := hf 2 f2 rfl
    rw [t0, o0, cellsB] at g0
    rw [t1, o1, cellsN] at g1
    rw [t2, o2, cellsN] at g2
    obtain ⟨z0, e0, _⟩ := DataW.trod_bool underB (show DataW.trod enc Try.prog w base spare held k 4 [v0] = some y0 from g0)
    obtain ⟨z1, e1, _, w1⟩ := DataW.trod_int underN (show DataW.trod enc Try.prog w base spare held k 3 [v1] = some y1 from g1)
    obtain ⟨z2, e2, _, w2⟩ := DataW.trod_int underN (show DataW.trod enc Try.prog w base spare held k 3 [v2] = some y2 from g2)
    simp only [List.cons.injEq, and_true] at e0 e1 e2
    exact ⟨⟨z0, z1, z2⟩, by rw [e0, e1, e2]; rfl, wf64 w1, wf64 w2⟩
theorem open_rt_cs {fuel : Nat} {cs : List Value} {y : DataW H × List MemPlace} (hl : cs.length = 3) (h : DataW.trod enc Try.prog w base spare held fuel 52 cs = some y) :
    ∃ x : Rt, cs = rtC x ∧ x.Fair := by
  obtain ⟨f0, f1, f2, hu, ⟨t0, o0⟩, ⟨t1, o1⟩, ⟨t2, o2⟩⟩ := rt_fields
  obtain ⟨xs, k, hk, hxy, hlen, hxl, hf⟩ := DataW.trod_struct hu h
  rw [cellsRt] at hlen
  match cs, hlen, xs, hxl with
  | [v0, v1, v2], _, [y0, y1, y2], _ =>
    have g0 := hf 0 f0 rfl
    have g1 := hf 1 f1 rfl
    have g2 := hf 2 f2 rfl
    rw [t0, o0, cellsN] at g0
    rw [t1, o1, cellsN] at g1
    rw [t2, o2, cellsB] at g2
    obtain ⟨z0, e0, _, w0⟩ := DataW.trod_int underN (show DataW.trod enc Try.prog w base spare held k 3 [v0] = some y0 from g0)
    obtain ⟨z1, e1, _, w1⟩ := DataW.trod_int underN (show DataW.trod enc Try.prog w base spare held k 3 [v1] = some y1 from g1)
    obtain ⟨z2, e2, _⟩ := DataW.trod_bool underB (show DataW.trod enc Try.prog w base spare held k 4 [v2] = some y2 from g2)
    simp only [List.cons.injEq, and_true] at e0 e1 e2
    exact ⟨⟨z0, z1, z2⟩, by rw [e0, e1, e2]; rfl, wf64 w0, wf64 w1⟩
theorem open_tb_cs {fuel : Nat} {cs : List Value} {y : DataW H × List MemPlace} (h : DataW.trod enc Try.prog w base spare held fuel 32 cs = some y) :
    ∃ x : Tb, cs = x.cs.toList ∧ x.Fair := by
  obtain ⟨f0, f1, hu, ⟨t0, o0⟩, ⟨t1, o1⟩⟩ := tb_fields
  obtain ⟨xs, k, hk, hxy, hlen, hxl, hf⟩ := DataW.trod_struct hu h
  rw [cellsTb] at hlen
  match cs, hlen, xs, hxl with
  | [v0, v1, v2], _, [y0, y1], _ =>
    have g0 := hf 0 f0 rfl
    have g1 := hf 1 f1 rfl
    rw [t0, o0, cellsWin] at g0
    rw [t1, o1, cellsN] at g1
    obtain ⟨a, s, e0, wa, ws⟩ := open_win_cs (show DataW.trod enc Try.prog w base spare held k 30 [v0, v1] = some y0 from g0)
    obtain ⟨z1, e1, _, w1⟩ := DataW.trod_int underN (show DataW.trod enc Try.prog w base spare held k 3 [v2] = some y1 from g1)
    simp only [List.cons.injEq, and_true] at e0 e1
    exact ⟨⟨a, s, z1⟩, by rw [e0.1, e0.2, e1], wa, ws, wf64 w1⟩
theorem open_tb {r : Reach} {b0 : Nat} {v : Value} {d : DataW H} {p : List MemPlace} (hv : Value.okWide Try.prog w r b0 32 v) (h : DataW.Trod enc Try.prog w base spare held 32 v d p) : ∃ x : Tb, v = x.v ∧ x.Fair := by
  obtain ⟨cs, fuel, rfl, hf⟩ := open_agg_cs Try.underlying32 hv h
  obtain ⟨x, e, hx⟩ := open_tb_cs hf
  refine ⟨x, ?_, hx⟩
  have : cs = x.cs := by cases cs; simp only at e; rw [e]
  rw [this]
theorem open_dv {r : Reach} {b0 : Nat} {v : Value} {d : DataW H} {p : List MemPlace} (hv : Value.okWide Try.prog w r b0 36 v) (h : DataW.Trod enc Try.prog w base spare held 36 v d p) : ∃ x : Dv, v = x.v ∧ x.Fair := by
  have hl : ∀ cs : Array Value, v = .agg cs → cs.toList.length = 3 := fun cs e => by
    subst e
    simp only [Value.okWide, Try.underlying36] at hv
    obtain ⟨cs', e', hs, _⟩ := hv
    cases e'
    rw [cellsDv] at hs
    simpa using hs
  obtain ⟨cs, fuel, rfl, hf⟩ := open_agg_cs Try.underlying36 hv h
  obtain ⟨x, e, hx⟩ := open_dv_cs (hl _ rfl) hf
  refine ⟨x, ?_, hx⟩
  have : cs = x.cs := by cases cs; simp only at e; rw [e]; rfl
  rw [this]
/-- A slice whose elements are read by 'each'. -/
theorem open_row {T E : TypeId} {sz : Nat} {α : Type} [Inhabited α] {C : α → List Value} {G : α → Prop} (hu : Try.prog.underlying T = some (.slice E)) (hsz : Try.prog.cellsOf E = sz) (hpos : 0 < sz) (hC : ∀ x, (C x).length = sz)
    (each : ∀ {fuel : Nat} {cs : List Value} {y : DataW H × List MemPlace}, cs.length = sz → DataW.trod enc Try.prog w base spare held fuel E cs = some y → ∃ x, cs = C x ∧ G x)
    {r : Reach} {b0 : Nat} {v : Value} {d : DataW H} {p : List MemPlace} (hv : Value.okWide Try.prog w r b0 T v) (h : DataW.Trod enc Try.prog w base spare held T v d p) :
    ∃ (a : Option Addr) (cap b off : Nat) (xs : List α), v = .slice a xs.length cap ∧ RowAt w a b off sz (xs.map C) ∧ ∀ x ∈ xs, G x := by
  obtain ⟨a, len, cap, rfl⟩ := okWide_slice hu hv
  obtain ⟨fuel, hf⟩ := h
  rcases open_slice hu hf with ⟨h0, _⟩ | ⟨a', len', cap', m, n, D, Pl, h1, hb, hl, hm, hmm, hx, hall⟩
  · simp [Value.cells] at h0
    obtain ⟨rfl, rfl, rfl⟩ := h0
    exact ⟨none, 0, 0, 0, [], rfl, ⟨by simp, fun h => absurd rfl h, fun h => absurd rfl h, fun j c hc => by simp at hc⟩, fun x hx => by simp at hx⟩
  · simp [Value.cells] at h1
    obtain ⟨rfl, rfl, rfl⟩ := h1
    have hle : len ≤ m := by rw [hmm]; split <;> omega
    have each' : ∀ i, i < m → ∃ q : α, (∀ o v, (C q)[o]? = some v → w.cell? (a'.add (i * sz + o)) = some v) ∧ G q := by
      intro i hi
      obtain ⟨cs', h2, h3⟩ := hall i hi
      rw [hsz] at h2
      obtain ⟨_, hlen, hcell⟩ := World.cells?_some h2
      obtain ⟨x, rfl, hx⟩ := each hlen h3
      refine ⟨x, fun o v ho => ?_, hx⟩
      have := hcell o (by have := (List.getElem?_eq_some_iff.1 ho).1; omega)
      rw [Go.Deep.add_add] at this
      rw [this, ho]
    obtain ⟨q, hq⟩ := choose_lt each'
    by_cases hz : len = 0
    · subst hz
      exact ⟨some a', cap, 0, 0, [], rfl, ⟨by simp, fun h => absurd rfl h, fun h => absurd rfl h, fun j c hc => by simp at hc⟩, fun x hx => by simp at hx⟩
    have h0v : ∃ v0, (C (q 0))[0]? = some v0 := by
      have hlt : 0 < (C (q 0)).length := by rw [hC]; exact hpos
      exact ⟨_, List.getElem?_eq_getElem hlt⟩
    obtain ⟨v0, hv0⟩ := h0v
    have h00 := (hq 0 (by omega)).1 0 v0 hv0
    obtain ⟨b, off, spot⟩ := a'
    cases spot with
    | some sp =>
      exfalso
      clear hall hq each' hf hv0
      simp [World.cell?, Addr.add] at h00
      split at h00 <;> simp_all
    | none =>
      have h01 := h00
      rw [add_mid_] at h01
      refine ⟨some ⟨b, off, none⟩, cap, b, off, (List.range len).map q, by simp, ⟨by simp; unfold maxLen at hm; omega, fun _ => World.block_lt_of_cell? w _ h01, fun _ => rfl, fun j c hc o v ho => ?_⟩, fun x hx' => ?_⟩
      · have hj : j < len := by
          have := (List.getElem?_eq_some_iff.1 hc).1
          simpa using this
        simp only [List.getElem?_map, List.getElem?_range hj, Option.map_some, Option.some.injEq] at hc
        have := (hq j (by omega)).1 o v (by rw [hc]; exact ho)
        rwa [add_mid_, ← Nat.add_assoc] at this
      · simp only [List.mem_map, List.mem_range] at hx'
        obtain ⟨i, hi, rfl⟩ := hx'
        exact (hq i (by omega)).2
theorem open_u8s {r : Reach} {b0 : Nat} {v : Value} {d : DataW H} {p : List MemPlace} (hv : Value.okWide Try.prog w r b0 22 v) (h : DataW.Trod enc Try.prog w base spare held 22 v d p) :
    ∃ (a : Option Addr) (cap b off : Nat) (xs : List Nat), v = .slice a xs.length cap ∧ RowAt w a b off 1 (xs.map u8C) ∧ ∀ x ∈ xs, x < 256 :=
  open_row Try.underlying22 cells8 (by decide) (fun _ => rfl) (fun hl h => open_8_cs hl h) hv h
theorem open_u16s {r : Reach} {b0 : Nat} {v : Value} {d : DataW H} {p : List MemPlace} (hv : Value.okWide Try.prog w r b0 41 v) (h : DataW.Trod enc Try.prog w base spare held 41 v d p) :
    ∃ (a : Option Addr) (cap b off : Nat) (xs : List Nat), v = .slice a xs.length cap ∧ RowAt w a b off 1 (xs.map u16C) ∧ ∀ x ∈ xs, x < 65536 :=
  open_row Try.underlying41 cells16 (by decide) (fun _ => rfl) (fun hl h => open_16_cs hl h) hv h
theorem open_bools {r : Reach} {b0 : Nat} {v : Value} {d : DataW H} {p : List MemPlace} (hv : Value.okWide Try.prog w r b0 42 v) (h : DataW.Trod enc Try.prog w base spare held 42 v d p) :
    ∃ (a : Option Addr) (cap b off : Nat) (xs : List Bool), v = .slice a xs.length cap ∧ RowAt w a b off 1 (xs.map boolC) ∧ ∀ x ∈ xs, True :=
  open_row Try.underlying42 cellsB (by decide) (fun _ => rfl) (fun hl h => open_b_cs hl h) hv h
theorem open_dvs {r : Reach} {b0 : Nat} {v : Value} {d : DataW H} {p : List MemPlace} (hv : Value.okWide Try.prog w r b0 23 v) (h : DataW.Trod enc Try.prog w base spare held 23 v d p) :
    ∃ (a : Option Addr) (cap b off : Nat) (xs : List Dv), v = .slice a xs.length cap ∧ RowAt w a b off 3 (xs.map dvC) ∧ ∀ x ∈ xs, x.Fair :=
  open_row Try.underlying23 cellsDv (by decide) (fun _ => rfl) (fun hl h => open_dv_cs hl h) hv h
theorem open_rts {r : Reach} {b0 : Nat} {v : Value} {d : DataW H} {p : List MemPlace} (hv : Value.okWide Try.prog w r b0 48 v) (h : DataW.Trod enc Try.prog w base spare held 48 v d p) :
    ∃ (a : Option Addr) (cap b off : Nat) (xs : List Rt), v = .slice a xs.length cap ∧ RowAt w a b off 3 (xs.map rtC) ∧ ∀ x ∈ xs, x.Fair :=
  open_row Try.underlying48 cellsRt (by decide) (fun _ => rfl) (fun hl h => open_rt_cs hl h) hv h
end

end Go.Proofs.Ytjcjblmaceooaaa
