/-
  Arguments opened: a slice of bytes, a row of acts.
-/
import Derived.Test.YtobhdjepfhbgaaaDoorLpOpen
import Derived.Test.YtobhdjepfhbgaaaDoorLrL
namespace Go.Proofs.YtobhdjepfhbgaaaDoor
open Go.ChangeShapes Go.WideShapes Go.ChangeAt Go.RowKit Go.Joins Go.Deep
set_option linter.unusedVariables false
set_option linter.unusedSimpArgs false
set_option maxRecDepth 100000

theorem cellsB : Tryd.prog.cellsOf 4 = 1 := by kernel_rfl
theorem cells8 : Tryd.prog.cellsOf 5 = 1 := by kernel_rfl
theorem cellsAc : Tryd.prog.cellsOf 37 = 5 := by kernel_rfl
theorem underB : Tryd.prog.underlying 4 = some .bool := by kernel_rfl
theorem under8 : Tryd.prog.underlying 5 = some (.int .u8) := by kernel_rfl
theorem ac_fields : ∃ f0 f1 f2 f3 f4 : Field, Tryd.prog.underlying 37 = some (.struct #[f0, f1, f2, f3, f4]) ∧ (f0.type = 3 ∧ f0.offset = 0) ∧ (f1.type = 3 ∧ f1.offset = 1) ∧ (f2.type = 4 ∧ f2.offset = 2) ∧ (f3.type = 4 ∧ f3.offset = 3) ∧ (f4.type = 5 ∧ f4.offset = 4) :=
  ⟨_, _, _, _, _, Tryd.underlying37, ⟨rfl, rfl⟩, ⟨rfl, rfl⟩, ⟨rfl, rfl⟩, ⟨rfl, rfl⟩, ⟨rfl, rfl⟩⟩
instance : Inhabited Ac := ⟨⟨0, 0, false, false, 0⟩⟩

section
variable {H : Type} {enc : TypeId × Value → H} {w : World} {base : Nat} {spare : Nat → Bool} {held : Bool}

theorem open_bytes_cs {fuel : Nat} {bv : Value} {y : DataW H × List MemPlace} (h : DataW.trod enc Tryd.prog w base spare held fuel 22 [bv] = some y) :
    ∃ ys, BytesIn w bv ys ∧ ys.length ≤ 9223372036854775807 := by
  rcases open_slice1 Tryd.underlying22 cells8 h with ⟨h0, _⟩ | ⟨a, len, cap, m, n, V, D, Pl, h1, hb, hl, hm, hmm, hx, hall⟩
  · simp only [List.cons.injEq, and_true] at h0
    subst h0
    exact ⟨[], ⟨none, 0, rfl, Nat.le_refl _, (fun x hx => by simp at hx), fun h => absurd rfl h⟩, by simp⟩
  · simp only [List.cons.injEq, and_true] at h1
    subst h1
    have hle : len ≤ m := by rw [hmm]; split <;> omega
    have hu8 : ∀ i, i < m → ∃ z : Nat, z < 256 ∧ V i = .int .u8 (z : Int) := fun i hi => by
      obtain ⟨_, t0⟩ := hall i hi
      obtain ⟨z, e0, _, wf⟩ := DataW.trod_int under8 t0
      simp only [List.cons.injEq, and_true] at e0
      simp [Lit.wf, IntKind.max, IntKind.min, IntKind.signed, IntKind.bits] at wf
      exact ⟨z.toNat, by omega, by rw [e0, Int.toNat_of_nonneg (by omega)]⟩
    obtain ⟨f, hf⟩ := choose_lt hu8
    refine ⟨(List.range len).map f, ⟨some a, cap, by simp, by simpa using hl, ?_, fun hne => ?_⟩, ?_⟩
    · intro x hx
      simp only [List.mem_map, List.mem_range] at hx
      obtain ⟨i, hi, rfl⟩ := hx
      exact (hf i (by omega)).1
    · have hpos : 0 < len := by
        rcases Nat.eq_zero_or_pos len with e | e
        · exact absurd (by simp [e]) hne
        · exact e
      obtain ⟨b, off, spot⟩ := a
      cases spot with
      | some s =>
        have := (hall 0 (by omega)).1
        clear hall hf hu8 h
        simp [World.cell?, Addr.add] at this
        split at this <;> simp_all
      | none =>
        refine ⟨b, off, rfl, fun j hj => ?_⟩
        have hj' : j < len := by simpa using hj
        have h0 := (hall j (by omega)).1
        rw [add_mid_, (hf j (by omega)).2] at h0
        rw [h0]
        simp [hj']
    · simp only [List.length_map, List.length_range]
      unfold maxLen at hm; omega
theorem open_bytes {r : Reach} {b0 : Nat} {v : Value} {d : DataW H} {p : List MemPlace} (hv : Value.okWide Tryd.prog w r b0 22 v) (h : DataW.Trod enc Tryd.prog w base spare held 22 v d p) :
    ∃ (ys : List Nat) (a : Option Addr) (cap : Nat), v = .slice a ys.length cap ∧ BytesIn w (.slice a ys.length cap) ys ∧ ys.length ≤ 9223372036854775807 := by
  obtain ⟨a, len, cap, rfl⟩ := okWide_slice Tryd.underlying22 hv
  obtain ⟨fuel, hf⟩ := h
  obtain ⟨ys, hy, hl⟩ := open_bytes_cs (show DataW.trod enc Tryd.prog w base spare held fuel 22 [.slice a len cap] = some (d, p) from by simpa [Value.cells] using hf)
  have hy2 := hy
  obtain ⟨a2, c2, e, _⟩ := hy
  cases e
  exact ⟨ys, _, _, rfl, hy2, hl⟩
theorem open_ac_cs {fuel : Nat} {cs : List Value} {y : DataW H × List MemPlace} (hl : cs.length = 5) (h : DataW.trod enc Tryd.prog w base spare held fuel 37 cs = some y) :
    ∃ x : Ac, cs = acC x ∧ x.Fair := by
  obtain ⟨f0, f1, f2, f3, f4, hu, ⟨t0, o0⟩, ⟨t1, o1⟩, ⟨t2, o2⟩, ⟨t3, o3⟩, ⟨t4, o4⟩⟩ := ac_fields
  obtain ⟨xs, k, hk, hxy, hlen, hxl, hf⟩ := DataW.trod_struct hu h
  match cs, hl, xs, hxl with
  | [v0, v1, v2, v3, v4], _, [y0, y1, y2, y3, y4], _ =>
    have g0 := hf 0 f0 rfl
    have g1 := hf 1 f1 rfl
    have g2 := hf 2 f2 rfl
    have g3 := hf 3 f3 rfl
    have g4 := hf 4 f4 rfl
    rw [t0, o0, cellsN] at g0
    rw [t1, o1, cellsN] at g1
    rw [t2, o2, cellsB] at g2
    rw [t3, o3, cellsB] at g3
    rw [t4, o4, cells8] at g4
    obtain ⟨z0, e0, _, w0⟩ := DataW.trod_int underN (show DataW.trod enc Tryd.prog w base spare held k 3 [v0] = some y0 from g0)
    obtain ⟨z1, e1, _, w1⟩ := DataW.trod_int underN (show DataW.trod enc Tryd.prog w base spare held k 3 [v1] = some y1 from g1)
    obtain ⟨z2, e2, _⟩ := DataW.trod_bool underB (show DataW.trod enc Tryd.prog w base spare held k 4 [v2] = some y2 from g2)
    obtain ⟨z3, e3, _⟩ := DataW.trod_bool underB (show DataW.trod enc Tryd.prog w base spare held k 4 [v3] = some y3 from g3)
    obtain ⟨z4, e4, _, w4⟩ := DataW.trod_int under8 (show DataW.trod enc Tryd.prog w base spare held k 5 [v4] = some y4 from g4)
    simp [Lit.wf, IntKind.max, IntKind.min, IntKind.signed, IntKind.bits] at w4
    obtain ⟨n, rfl⟩ := Int.eq_ofNat_of_zero_le (show 0 ≤ z4 by omega)
    simp only [List.cons.injEq, and_true] at e0 e1 e2 e3 e4
    exact ⟨⟨z0, z1, z2, z3, n⟩, by rw [e0, e1, e2, e3, e4]; rfl, wf64 w0, wf64 w1, by show n < 256; omega⟩
theorem open_row {T E : TypeId} {sz : Nat} {α : Type} [Inhabited α] {C : α → List Value} {G : α → Prop} (hu : Tryd.prog.underlying T = some (.slice E)) (hsz : Tryd.prog.cellsOf E = sz) (hpos : 0 < sz) (hC : ∀ x, (C x).length = sz)
    (each : ∀ {fuel : Nat} {cs : List Value} {y : DataW H × List MemPlace}, cs.length = sz → DataW.trod enc Tryd.prog w base spare held fuel E cs = some y → ∃ x, cs = C x ∧ G x)
    {r : Reach} {b0 : Nat} {v : Value} {d : DataW H} {p : List MemPlace} (hv : Value.okWide Tryd.prog w r b0 T v) (h : DataW.Trod enc Tryd.prog w base spare held T v d p) :
    ∃ (a : Option Addr) (cap b off : Nat) (xs : List α), v = .slice a xs.length cap ∧ RowC w a b off sz (xs.map C) ∧ ∀ x ∈ xs, G x := by
  obtain ⟨a, len, cap, rfl⟩ := okWide_slice hu hv
  obtain ⟨fuel, hf⟩ := h
  rcases open_slice hu hf with ⟨h0, _⟩ | ⟨a', len', cap', m, n, D, Pl, h1, hb, hl, hm, hmm, hx, hall⟩
  · simp [Value.cells] at h0
    obtain ⟨rfl, rfl, rfl⟩ := h0
    exact ⟨none, 0, 0, 0, [], rfl, ⟨by simp, fun h => absurd rfl h, fun h => absurd rfl h, fun j c hc => by simp at hc⟩, fun x hx => by simp at hx⟩
  · simp [Value.cells] at h1
    obtain ⟨rfl, rfl, rfl⟩ := h1
    have hle : len ≤ m := by rw [hmm]; split <;> omega
    have each' : ∀ i, i < m → ∃ q : α, (∀ o v, (C q)[o]? = some v → w.cell? (a'.add (i * sz + o)) = some v) ∧ G q := by
      intro i hi
      obtain ⟨cs', h2, h3⟩ := hall i hi
      rw [hsz] at h2
      obtain ⟨_, hlen, hcell⟩ := World.cells?_some h2
      obtain ⟨x, rfl, hx⟩ := each hlen h3
      refine ⟨x, fun o v ho => ?_, hx⟩
      have := hcell o (by have := (List.getElem?_eq_some_iff.1 ho).1; omega)
      rw [Go.Deep.add_add] at this
      rw [this, ho]
    obtain ⟨q, hq⟩ := choose_lt each'
    by_cases hz : len = 0
    · subst hz
      exact ⟨some a', cap, 0, 0, [], rfl, ⟨by simp, fun h => absurd rfl h, fun h => absurd rfl h, fun j c hc => by simp at hc⟩, fun x hx => by simp at hx⟩
    have h0v : ∃ v0, (C (q 0))[0]? = some v0 := by
      have hlt : 0 < (C (q 0)).length := by rw [hC]; exact hpos
      exact ⟨_, List.getElem?_eq_getElem hlt⟩
    obtain ⟨v0, hv0⟩ := h0v
    have h00 := (hq 0 (by omega)).1 0 v0 hv0
    obtain ⟨b, off, spot⟩ := a'
    cases spot with
    | some sp =>
      exfalso
      clear hall hq each' hf hv0
      simp [World.cell?, Addr.add] at h00
      split at h00 <;> simp_all
    | none =>
      have h01 := h00
      rw [add_mid_] at h01
      refine ⟨some ⟨b, off, none⟩, cap, b, off, (List.range len).map q, by simp, ⟨by simp; unfold maxLen at hm; omega, fun _ => World.block_lt_of_cell? w _ h01, fun _ => rfl, fun j c hc o v ho => ?_⟩, fun x hx' => ?_⟩
      · have hj : j < len := by
          have := (List.getElem?_eq_some_iff.1 hc).1
          simpa using this
        simp only [List.getElem?_map, List.getElem?_range hj, Option.map_some, Option.some.injEq] at hc
        have := (hq j (by omega)).1 o v (by rw [hc]; exact ho)
        rwa [add_mid_, ← Nat.add_assoc] at this
      · simp only [List.mem_map, List.mem_range] at hx'
        obtain ⟨i, hi, rfl⟩ := hx'
        exact (hq i (by omega)).2
theorem open_acs {r : Reach} {b0 : Nat} {v : Value} {d : DataW H} {p : List MemPlace} (hv : Value.okWide Tryd.prog w r b0 23 v) (h : DataW.Trod enc Tryd.prog w base spare held 23 v d p) :
    ∃ (xs : List Ac) (a : Option Addr) (cap b off : Nat), v = .slice a xs.length cap ∧ RowC w a b off 5 (xs.map acC) ∧ ∀ x ∈ xs, x.Fair := by
  obtain ⟨a, cap, b, off, xs, e, h1, h2⟩ := open_row (C := acC) (G := Ac.Fair) Tryd.underlying23 cellsAc (by decide) (fun _ => rfl) (fun hl h => open_ac_cs hl h) hv h
  exact ⟨xs, a, cap, b, off, e, h1, h2⟩
end

end Go.Proofs.YtobhdjepfhbgaaaDoor
