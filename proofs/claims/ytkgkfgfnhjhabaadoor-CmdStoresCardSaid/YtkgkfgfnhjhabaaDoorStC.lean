/-
  Arguments opened: a command, four words, read off the data that came in.
  Arguments opened: a slice of bytes, an act, a slice of acts, read off the data that came in.
-/
import Derived.Test.YtkgkfgfnhjhabaaDoorCmB
import Derived.ProofKit
import Derived.OpenShut
import Derived.JoinedCond
import Derived.Deep.DeepHandedRow
import Derived.Deep.Slices
import Derived.SizedLaws
import Derived.Lib.SmallJoins
import Derived.Laws.IdiomArrays
import Derived.Test.YtkgkfgfnhjhabaaDoorMemN
namespace Go.Proofs.YtkgkfgfnhjhabaaDoor
open Go.ChangeShapes Go.WideShapes Go.ChangeAt Go.RowKit Go.Joins Go.Deep
set_option linter.unusedVariables false
set_option linter.unusedSimpArgs false
set_option maxRecDepth 100000

theorem cellsCmd : Tryd.prog.cellsOf 24 = 9 := by kernel_rfl
theorem cellsN : Tryd.prog.cellsOf 3 = 1 := by kernel_rfl
theorem cellsOp : Tryd.prog.cellsOf 22 = 1 := by kernel_rfl
theorem cellsB : Tryd.prog.cellsOf 4 = 1 := by kernel_rfl
theorem cellsU : Tryd.prog.cellsOf 25 = 1 := by kernel_rfl
theorem underN : Tryd.prog.underlying 3 = some (.int .i64) := by kernel_rfl
theorem underOp : Tryd.prog.underlying 22 = some (.int .i64) := by kernel_rfl
theorem underB : Tryd.prog.underlying 4 = some .bool := by kernel_rfl
theorem underU : Tryd.prog.underlying 25 = some (.int .u64) := by kernel_rfl
theorem cmd_fields : ∃ f0 f1 f2 f3 f4 f5 f6 f7 f8 : Field, Tryd.prog.underlying 24 = some (.struct #[f0, f1, f2, f3, f4, f5, f6, f7, f8]) ∧ (f0.type = 22 ∧ f0.offset = 0) ∧ (f1.type = 3 ∧ f1.offset = 1) ∧ (f2.type = 3 ∧ f2.offset = 2) ∧ (f3.type = 3 ∧ f3.offset = 3) ∧ (f4.type = 3 ∧ f4.offset = 4) ∧ (f5.type = 3 ∧ f5.offset = 5) ∧ (f6.type = 3 ∧ f6.offset = 6) ∧ (f7.type = 3 ∧ f7.offset = 7) ∧ (f8.type = 4 ∧ f8.offset = 8) :=
  ⟨_, _, _, _, _, _, _, _, _, Tryd.underlying24, ⟨rfl, rfl⟩, ⟨rfl, rfl⟩, ⟨rfl, rfl⟩, ⟨rfl, rfl⟩, ⟨rfl, rfl⟩, ⟨rfl, rfl⟩, ⟨rfl, rfl⟩, ⟨rfl, rfl⟩, ⟨rfl, rfl⟩⟩
def Small {H : Type} (t : TypeId) (d : DataW H) : Prop := ∀ m ∈ d.weights Tryd.prog t, m ≤ reachBytes
theorem wf64 {n : Int} (h : (Lit.int .i64 n).wf = true) : i64B n := by
  simp [Lit.wf, IntKind.max, IntKind.min, IntKind.signed, IntKind.bits] at h
  constructor <;> omega
theorem wfu64 {n : Int} (h : (Lit.int .u64 n).wf = true) : 0 ≤ n ∧ n < 18446744073709551616 := by
  simp [Lit.wf, IntKind.max, IntKind.min, IntKind.signed, IntKind.bits] at h
  omega

section
variable {H : Type} {enc : TypeId × Value → H} {w : World} {base : Nat} {spare : Nat → Bool} {held : Bool}

theorem open_cmd_cs {fuel : Nat} {cs : List Value} {y : DataW H × List MemPlace} (h : DataW.trod enc Tryd.prog w base spare held fuel 24 cs = some y) :
    ∃ x : Cm, cs = x.cs.toList ∧ x.Fair := by
  obtain ⟨f0, f1, f2, f3, f4, f5, f6, f7, f8, hu, ⟨t0, o0⟩, ⟨t1, o1⟩, ⟨t2, o2⟩, ⟨t3, o3⟩, ⟨t4, o4⟩, ⟨t5, o5⟩, ⟨t6, o6⟩, ⟨t7, o7⟩, ⟨t8, o8⟩⟩ := cmd_fields
  obtain ⟨xs, k, hk, hxy, hlen, hxl, hf⟩ := DataW.trod_struct hu h
  rw [cellsCmd] at hlen
  match cs, hlen, xs, hxl with
  | [v0, v1, v2, v3, v4, v5, v6, v7, v8], _, [y0, y1, y2, y3, y4, y5, y6, y7, y8], _ =>
    have g0 := hf 0 f0 rfl
    have g1 := hf 1 f1 rfl
    have g2 := hf 2 f2 rfl
    have g3 := hf 3 f3 rfl
    have g4 := hf 4 f4 rfl
    have g5 := hf 5 f5 rfl
    have g6 := hf 6 f6 rfl
    have g7 := hf 7 f7 rfl
    have g8 := hf 8 f8 rfl
    rw [t0, o0, cellsOp] at g0
    rw [t1, o1, cellsN] at g1
    rw [t2, o2, cellsN] at g2
    rw [t3, o3, cellsN] at g3
    rw [t4, o4, cellsN] at g4
    rw [t5, o5, cellsN] at g5
    rw [t6, o6, cellsN] at g6
    rw [t7, o7, cellsN] at g7
    rw [t8, o8, cellsB] at g8
    obtain ⟨z0, e0, _, w0⟩ := DataW.trod_int underOp (show DataW.trod enc Tryd.prog w base spare held k 22 [v0] = some y0 from g0)
    obtain ⟨z1, e1, _, w1⟩ := DataW.trod_int underN (show DataW.trod enc Tryd.prog w base spare held k 3 [v1] = some y1 from g1)
    obtain ⟨z2, e2, _, w2⟩ := DataW.trod_int underN (show DataW.trod enc Tryd.prog w base spare held k 3 [v2] = some y2 from g2)
    obtain ⟨z3, e3, _, w3⟩ := DataW.trod_int underN (show DataW.trod enc Tryd.prog w base spare held k 3 [v3] = some y3 from g3)
    obtain ⟨z4, e4, _, w4⟩ := DataW.trod_int underN (show DataW.trod enc Tryd.prog w base spare held k 3 [v4] = some y4 from g4)
    obtain ⟨z5, e5, _, w5⟩ := DataW.trod_int underN (show DataW.trod enc Tryd.prog w base spare held k 3 [v5] = some y5 from g5)
    obtain ⟨z6, e6, _, w6⟩ := DataW.trod_int underN (show DataW.trod enc Tryd.prog w base spare held k 3 [v6] = some y6 from g6)
    obtain ⟨z7, e7, _, w7⟩ := DataW.trod_int underN (show DataW.trod enc Tryd.prog w base spare held k 3 [v7] = some y7 from g7)
    obtain ⟨z8, e8, _⟩ := DataW.trod_bool underB (show DataW.trod enc Tryd.prog w base spare held k 4 [v8] = some y8 from g8)
    simp only [List.cons.injEq, and_true] at e0 e1 e2 e3 e4 e5 e6 e7 e8
    exact ⟨⟨z0, z1, z2, z3, z4, z5, z6, z7, z8⟩, by rw [e0, e1, e2, e3, e4, e5, e6, e7, e8]; rfl, wf64 w0, wf64 w1, wf64 w2, wf64 w3, wf64 w4, wf64 w5, wf64 w6, wf64 w7⟩

theorem open_agg_cs {r : Reach} {b0 : Nat} {t : TypeId} {fs : Array Field} {v : Value} {d : DataW H} {p : List MemPlace} (hu : Tryd.prog.underlying t = some (.struct fs)) (hv : Value.okWide Tryd.prog w r b0 t v) (h : DataW.Trod enc Tryd.prog w base spare held t v d p) :
    ∃ (cs : Array Value) (fuel : Nat), v = .agg cs ∧ DataW.trod enc Tryd.prog w base spare held fuel t cs.toList = some (d, p) := by
  obtain ⟨fuel, hf⟩ := h
  simp only [Value.okWide, hu] at hv
  obtain ⟨cs, rfl, _, _⟩ := hv
  exact ⟨cs, fuel, rfl, by simpa [Value.cells] using hf⟩
theorem open_cmd {r : Reach} {b0 : Nat} {v : Value} {d : DataW H} {p : List MemPlace} (hv : Value.okWide Tryd.prog w r b0 24 v) (h : DataW.Trod enc Tryd.prog w base spare held 24 v d p) : ∃ x : Cm, v = x.v ∧ x.Fair := by
  obtain ⟨cs, fuel, rfl, hf⟩ := open_agg_cs Tryd.underlying24 hv h
  obtain ⟨x, e, hx⟩ := open_cmd_cs hf
  refine ⟨x, ?_, hx⟩
  have : cs = x.cs := by cases cs; simp only at e; rw [e]
  rw [this]; rfl
def fourW (a b c d : Nat) : Ws := fun j => if j = 0 then a else if j = 1 then b else if j = 2 then c else d
theorem open_w4 {r : Reach} {b0 : Nat} {v : Value} {d : DataW H} {p : List MemPlace} (hv : Value.okWide Tryd.prog w r b0 26 v) (h : DataW.Trod enc Tryd.prog w base spare held 26 v d p) :
    ∃ x : Ws, v = .agg #[.int .u64 (x 0), .int .u64 (x 1), .int .u64 (x 2), .int .u64 (x 3)] ∧ ∀ j, x j < 18446744073709551616 := by
  obtain ⟨cs, rfl, hsz, _⟩ : ∃ cs, v = .agg cs ∧ cs.size = Tryd.prog.cellsOf 26 ∧ Row.okWide Tryd.prog w r b0 26 cs := by
    simpa [Value.okWide, Tryd.underlying26] using hv
  rw [show Tryd.prog.cellsOf 26 = 4 by kernel_rfl] at hsz
  obtain ⟨l⟩ := cs
  match l, hsz with
  | [c0, c1, c2, c3], _ =>
    obtain ⟨fuel, hf⟩ := h
    obtain ⟨y0, y1, y2, y3, m, hx, hy0, hy1, hy2, hy3⟩ := trod_array4 Tryd.underlying26 cellsU hf
    obtain ⟨x0, e0, _, w0⟩ := DataW.trod_int Tryd.underlying25 hy0
    obtain ⟨x1, e1, _, w1⟩ := DataW.trod_int Tryd.underlying25 hy1
    obtain ⟨x2, e2, _, w2⟩ := DataW.trod_int Tryd.underlying25 hy2
    obtain ⟨x3, e3, _, w3⟩ := DataW.trod_int Tryd.underlying25 hy3
    simp only [List.cons.injEq, and_true] at e0 e1 e2 e3
    subst e0 e1 e2 e3
    obtain ⟨a0, b0'⟩ := wfu64 w0
    obtain ⟨a1, b1⟩ := wfu64 w1
    obtain ⟨a2, b2⟩ := wfu64 w2
    obtain ⟨a3, b3⟩ := wfu64 w3
    obtain ⟨n0, rfl⟩ := Int.eq_ofNat_of_zero_le a0
    obtain ⟨n1, rfl⟩ := Int.eq_ofNat_of_zero_le a1
    obtain ⟨n2, rfl⟩ := Int.eq_ofNat_of_zero_le a2
    obtain ⟨n3, rfl⟩ := Int.eq_ofNat_of_zero_le a3
    refine ⟨fourW n0 n1 n2 n3, rfl, fun j => ?_⟩
    unfold fourW
    split
    · omega
    · split
      · omega
      · split <;> omega
end

end Go.Proofs.YtkgkfgfnhjhabaaDoor

namespace Go.Proofs.YtkgkfgfnhjhabaaDoor
open Go.ChangeShapes Go.WideShapes Go.ChangeAt Go.RowKit Go.Joins Go.Deep
set_option linter.unusedVariables false
set_option linter.unusedSimpArgs false
set_option maxRecDepth 100000

theorem cells5 : Tryd.prog.cellsOf 5 = 1 := by kernel_rfl
theorem bytes5 : Tryd.prog.bytesOf 5 = 1 := by kernel_rfl
theorem cells33 : Tryd.prog.cellsOf 50 = 7 := by kernel_rfl
theorem cells29 : Tryd.prog.cellsOf 42 = 2 := by kernel_rfl
theorem cells3 : Tryd.prog.cellsOf 3 = 1 := by kernel_rfl
theorem cells30 : Tryd.prog.cellsOf 25 = 1 := by kernel_rfl
theorem cells31 : Tryd.prog.cellsOf 48 = 1 := by kernel_rfl
theorem under5 : Tryd.prog.underlying 5 = some (.int .u8) := by kernel_rfl
theorem under3 : Tryd.prog.underlying 3 = some (.int .i64) := by kernel_rfl
theorem under30 : Tryd.prog.underlying 25 = some (.int .u64) := by kernel_rfl
theorem acts_fields : ∃ f0 f1 f2 f3 f4 f5 : Field, Tryd.prog.underlying 50 = some (.struct #[f0, f1, f2, f3, f4, f5]) ∧ (f0.type = 3 ∧ f0.offset = 0) ∧ (f1.type = 42 ∧ f1.offset = 1) ∧ (f2.type = 3 ∧ f2.offset = 3) ∧ (f3.type = 3 ∧ f3.offset = 4) ∧ (f4.type = 25 ∧ f4.offset = 5) ∧ (f5.type = 48 ∧ f5.offset = 6) :=
  ⟨_, _, _, _, _, _, Tryd.underlying50, ⟨rfl, rfl⟩, ⟨rfl, rfl⟩, ⟨rfl, rfl⟩, ⟨rfl, rfl⟩, ⟨rfl, rfl⟩, ⟨rfl, rfl⟩⟩
theorem win_fields : ∃ f0 f1 : Field, Tryd.prog.underlying 42 = some (.struct #[f0, f1]) ∧ (f0.type = 3 ∧ f0.offset = 0) ∧ (f1.type = 3 ∧ f1.offset = 1) :=
  ⟨_, _, Tryd.underlying42, ⟨rfl, rfl⟩, ⟨rfl, rfl⟩⟩

theorem weights_mem_all {H : Type} {P : Program} {e : TypeId} : ∀ {ds : List (DataW H)} {d : DataW H}, d ∈ ds → ∀ n ∈ d.weights P e, n ∈ DataW.weightsAll P e ds
  | d0 :: ds, d, hd, n, hn => by
    simp only [DataW.weightsAll, List.mem_append]
    rcases List.mem_cons.1 hd with rfl | h
    · exact .inl hn
    · exact .inr (weights_mem_all h n hn)

instance : Inhabited ActD := ⟨⟨0, 0, 0, 0, 0, 0, []⟩⟩

section
variable {H : Type} {enc : TypeId × Value → H} {w : World} {base : Nat} {spare : Nat → Bool} {held : Bool}

theorem open_bytes_cs {fuel : Nat} {bv : Value} {y : DataW H × List MemPlace} (h : DataW.trod enc Tryd.prog w base spare held fuel 48 [bv] = some y) :
    ∃ ys, BytesIn w bv ys ∧ (Small 48 y.1 → ys.length ≤ 140737488355328) := by
  rcases open_slice1 Tryd.underlying48 cells5 h with ⟨h0, _⟩ | ⟨a, len, cap, m, n, V, D, Pl, h1, hb, hl, hm, hmm, hx, hall⟩
  · simp only [List.cons.injEq, and_true] at h0
    subst h0
    exact ⟨[], ⟨none, 0, rfl, Nat.le_refl _, (fun x hx => by simp at hx), fun h => absurd rfl h⟩, fun _ => by simp⟩
  · simp only [List.cons.injEq, and_true] at h1
    subst h1
    have hle : len ≤ m := by rw [hmm]; split <;> omega
    have hu8 : ∀ i, i < m → ∃ z : Nat, z < 256 ∧ V i = .int .u8 (z : Int) := fun i hi => by
      obtain ⟨_, t0⟩ := hall i hi
      obtain ⟨z, e0, _, wf⟩ := DataW.trod_int under5 t0
      simp only [List.cons.injEq, and_true] at e0
      simp [Lit.wf, IntKind.max, IntKind.min, IntKind.signed, IntKind.bits] at wf
      exact ⟨z.toNat, by omega, by rw [e0, Int.toNat_of_nonneg (by omega)]⟩
    obtain ⟨f, hf⟩ := choose_lt hu8
    refine ⟨(List.range len).map f, ⟨some a, cap, by simp, by simpa using hl, ?_, fun hne => ?_⟩, fun hs => ?_⟩
    · intro x hx
      simp only [List.mem_map, List.mem_range] at hx
      obtain ⟨i, hi, rfl⟩ := hx
      exact (hf i (by omega)).1
    · have hpos : 0 < len := by
        rcases Nat.eq_zero_or_pos len with e | e
        · exact absurd (by simp [e]) hne
        · exact e
      obtain ⟨b, off, spot⟩ := a
      cases spot with
      | some s =>
        have := (hall 0 (by omega)).1
        clear hall hf hu8 h
        simp [World.cell?, Addr.add] at this
        split at this <;> simp_all
      | none =>
        refine ⟨b, off, rfl, fun j hj => ?_⟩
        have hj' : j < len := by simpa using hj
        have h0 := (hall j (by omega)).1
        rw [add_mid_, (hf j (by omega)).2] at h0
        rw [h0]
        simp [hj']
    · have h1 : (len + (m - len)) * 1 ≤ reachBytes := by
        refine hs _ ?_
        rw [hx]
        simp [DataW.weights, Tryd.underlying48, bytes5]
      have : reachBytes ≤ 140737488355328 := by decide
      simp only [List.length_map, List.length_range]
      omega

theorem open_win_cs {fuel : Nat} {cs : List Value} {y : DataW H × List MemPlace} (h : DataW.trod enc Tryd.prog w base spare held fuel 42 cs = some y) :
    ∃ a s : Int, cs = [.int .i64 a, .int .i64 s] ∧ (Lit.int .i64 a).wf = true ∧ (Lit.int .i64 s).wf = true := by
  obtain ⟨f0, f1, hu, ⟨t0, o0⟩, ⟨t1, o1⟩⟩ := win_fields
  obtain ⟨xs, k, hk, hxy, hlen, hxl, hf⟩ := DataW.trod_struct hu h
  rw [cells29] at hlen
  match cs, hlen, xs, hxl with
  | [v0, v1], _, [y0, y1], _ =>
    have g0 := hf 0 f0 rfl
    have g1 := hf 1 f1 rfl
    rw [t0, o0, cells3] at g0
    rw [t1, o1, cells3] at g1
    obtain ⟨z0, e0, _, w0⟩ := DataW.trod_int under3 (show DataW.trod enc Tryd.prog w base spare held k 3 [v0] = some y0 from g0)
    obtain ⟨z1, e1, _, w1⟩ := DataW.trod_int under3 (show DataW.trod enc Tryd.prog w base spare held k 3 [v1] = some y1 from g1)
    simp only [List.cons.injEq, and_true] at e0 e1
    exact ⟨z0, z1, by rw [e0, e1], w0, w1⟩

theorem open_act_cs {fuel : Nat} {cs : List Value} {y : DataW H × List MemPlace} (h : DataW.trod enc Tryd.prog w base spare held fuel 50 cs = some y) :
    ∃ (x : ActD) (bv : Value), cs = [.int .i64 x.d, .int .i64 x.a, .int .i64 x.s, .int .i64 x.off, .int .i64 x.wd, .int .u64 x.v, bv] ∧ BytesIn w bv x.ys ∧ (Small 50 y.1 → x.Fair) := by
  obtain ⟨f0, f1, f2, f3, f4, f5, hu, ⟨t0, o0⟩, ⟨t1, o1⟩, ⟨t2, o2⟩, ⟨t3, o3⟩, ⟨t4, o4⟩, ⟨t5, o5⟩⟩ := acts_fields
  obtain ⟨xs, k, hk, hxy, hlen, hxl, hf⟩ := DataW.trod_struct hu h
  rw [cells33] at hlen
  match cs, hlen, xs, hxl with
  | [v0, v1, v2, v3, v4, v5, v6], _, [y0, y1, y2, y3, y4, y5], _ =>
    have g0 := hf 0 f0 rfl
    have g1 := hf 1 f1 rfl
    have g2 := hf 2 f2 rfl
    have g3 := hf 3 f3 rfl
    have g4 := hf 4 f4 rfl
    have g5 := hf 5 f5 rfl
    rw [t0, o0, cells3] at g0
    rw [t1, o1, cells29] at g1
    rw [t2, o2, cells3] at g2
    rw [t3, o3, cells3] at g3
    rw [t4, o4, cells30] at g4
    rw [t5, o5, cells31] at g5
    obtain ⟨z0, e0, _, w0⟩ := DataW.trod_int under3 (show DataW.trod enc Tryd.prog w base spare held k 3 [v0] = some y0 from g0)
    obtain ⟨za, zs, e1, wa, ws⟩ := open_win_cs (show DataW.trod enc Tryd.prog w base spare held k 42 [v1, v2] = some y1 from g1)
    obtain ⟨z2, e2, _, w2⟩ := DataW.trod_int under3 (show DataW.trod enc Tryd.prog w base spare held k 3 [v3] = some y2 from g2)
    obtain ⟨z3, e3, _, w3⟩ := DataW.trod_int under3 (show DataW.trod enc Tryd.prog w base spare held k 3 [v4] = some y3 from g3)
    obtain ⟨z4, e4, _, w4⟩ := DataW.trod_int under30 (show DataW.trod enc Tryd.prog w base spare held k 25 [v5] = some y4 from g4)
    obtain ⟨ys, hy, hsz⟩ := open_bytes_cs (show DataW.trod enc Tryd.prog w base spare held k 48 [v6] = some y5 from g5)
    simp only [List.cons.injEq, and_true] at e0 e1 e2 e3 e4
    simp [Lit.wf, IntKind.max, IntKind.min, IntKind.signed, IntKind.bits] at w0 wa ws w2 w3 w4
    refine ⟨⟨z0, za, zs, z2, z3, z4.toNat, ys⟩, v6, ?_, hy, fun hs => ⟨by show -9223372036854775808 ≤ za; omega, by show za ≤ 9223372036854775807; omega, by show -9223372036854775808 ≤ zs; omega, by show zs ≤ 9223372036854775807; omega, by show -9223372036854775808 ≤ z2; omega, by show z2 ≤ 9223372036854775807; omega, by show -9223372036854775808 ≤ z3; omega, by show z3 ≤ 9223372036854775807; omega, by show z4.toNat < 18446744073709551616; omega, ?_⟩⟩
    · rw [e0, e1.1, e1.2, e2, e3, e4]
      simp only [Int.toNat_of_nonneg (show 0 ≤ z4 by omega)]
    · refine hsz fun m hm => hs m ?_
      rw [hxy]
      simp only [DataW.weights, hu]
      exact DataW.weights_mem_each (j := 5) (t := 48) (d := y5.1) (by simp [t5]) (by simp) m hm

theorem open_acts {r : Reach} {b0 : Nat} {v : Value} {d : DataW H} {p : List MemPlace} (hv : Value.okWide Tryd.prog w r b0 40 v) (h : DataW.Trod enc Tryd.prog w base spare held 40 v d p) :
    ∃ xs, Small 40 d → ActsAt w v xs := by
  obtain ⟨a, len, cap, rfl⟩ := okWide_slice Tryd.underlying40 hv
  obtain ⟨fuel, hf⟩ := h
  rcases open_slice Tryd.underlying40 hf with ⟨h0, _⟩ | ⟨a', len', cap', m, n, D, Pl, h1, hb, hl, hm, hmm, hx, hall⟩
  · simp [Value.cells] at h0
    obtain ⟨rfl, rfl, rfl⟩ := h0
    exact ⟨[], fun _ => ⟨none, 0, rfl, by simp, (fun x hx => by simp at hx), fun h => absurd rfl h⟩⟩
  · simp [Value.cells] at h1
    obtain ⟨rfl, rfl, rfl⟩ := h1
    have hle : len ≤ m := by rw [hmm]; split <;> omega
    have each : ∀ i, i < m → ∃ q : ActD × Value, (∀ o, o < 7 → w.cell? (a'.add (i * 7 + o)) = (q.1.val q.2).cells[o]?) ∧ BytesIn w q.2 q.1.ys ∧ (Small 50 (D i) → q.1.Fair) := by
      intro i hi
      obtain ⟨cs', h2, h3⟩ := hall i hi
      rw [cells33] at h2
      obtain ⟨_, hlen, hcell⟩ := World.cells?_some h2
      obtain ⟨x, bv, rfl, hy, hfair⟩ := open_act_cs h3
      refine ⟨(x, bv), fun o ho => ?_, hy, hfair⟩
      have := hcell o ho
      rw [Go.Deep.add_add] at this
      rw [this]
      simp [ActD.val, Value.cells]
    obtain ⟨q, hq⟩ := choose_lt each
    refine ⟨(List.range len).map fun i => (q i).1, fun hs => ⟨some a', cap, by simp, by simp; unfold maxLen at hm; omega, ?_, fun hne => ?_⟩⟩
    · intro x hx'
      simp only [List.mem_map, List.mem_range] at hx'
      obtain ⟨i, hi, rfl⟩ := hx'
      refine (hq i (by omega)).2.2 fun k hk => hs k ?_
      have ed : d = .slice ((List.range len).map D) ((List.range (m - len)).map fun j => D (len + j)) := (Prod.mk.inj hx).1
      rw [ed]
      simp only [DataW.weights, Tryd.underlying40, List.mem_cons, List.mem_append]
      exact .inr (.inl (weights_mem_all (List.mem_map.2 ⟨i, List.mem_range.2 hi, rfl⟩) k hk))
    · have hpos : 0 < len := by
        rcases Nat.eq_zero_or_pos len with e | e
        · exact absurd (by simp [e]) hne
        · exact e
      obtain ⟨b, off, spot⟩ := a'
      cases spot with
      | some sp =>
        have := (hq 0 (by omega)).1 0 (by omega)
        clear hall hq each hf hs
        simp [World.cell?, Addr.add, ActD.val, Value.cells] at this
        split at this <;> simp_all
      | none =>
        refine ⟨b, off, rfl, fun j x hx' => ?_⟩
        have hj : j < len := by
          have := (List.getElem?_eq_some_iff.1 hx').1
          simpa using this
        have ex : (q j).1 = x := by
          rw [List.getElem?_map, List.getElem?_range hj] at hx'
          simpa using hx'
        obtain ⟨hc, hy, _⟩ := hq j (by omega)
        rw [ex] at hc hy
        have hc' : ∀ o, o < 7 → w.cell? ⟨b, off + j * 7 + o, none⟩ = (x.val (q j).2).cells[o]? := fun o ho => by
          have := hc o ho
          rwa [add_mid_, ← Nat.add_assoc] at this
        exact ⟨(q j).2, hy, hc' 0 (by omega), hc' 1 (by omega), hc' 2 (by omega), hc' 3 (by omega), hc' 4 (by omega), hc' 5 (by omega), hc' 6 (by omega)⟩

theorem open_win {r : Reach} {b0 : Nat} {v : Value} {d : DataW H} {p : List MemPlace} (hv : Value.okWide Tryd.prog w r b0 42 v) (h : DataW.Trod enc Tryd.prog w base spare held 42 v d p) :
    ∃ a s : Int, v = .agg #[.int .i64 a, .int .i64 s] ∧ (Lit.int .i64 a).wf = true ∧ (Lit.int .i64 s).wf = true := by
  obtain ⟨cs, fuel, rfl, hf⟩ := open_agg_cs Tryd.underlying42 hv h
  obtain ⟨a, s, e, h1, h2⟩ := open_win_cs hf
  exact ⟨a, s, by cases cs; simp only at e; rw [e], h1, h2⟩
theorem open_act {r : Reach} {b0 : Nat} {v : Value} {d : DataW H} {p : List MemPlace} (hv : Value.okWide Tryd.prog w r b0 50 v) (h : DataW.Trod enc Tryd.prog w base spare held 50 v d p) :
    ∃ (x : ActD) (bv : Value), v = .agg #[.int .i64 x.d, .int .i64 x.a, .int .i64 x.s, .int .i64 x.off, .int .i64 x.wd, .int .u64 x.v, bv] ∧ BytesIn w bv x.ys ∧ (Small 50 d → x.Fair) := by
  obtain ⟨cs, fuel, rfl, hf⟩ := open_agg_cs Tryd.underlying50 hv h
  obtain ⟨x, bv, e, h1, h2⟩ := open_act_cs hf
  exact ⟨x, bv, by cases cs; simp only at e; rw [e], h1, h2⟩
end

end Go.Proofs.YtkgkfgfnhjhabaaDoor
