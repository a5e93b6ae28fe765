/-
  Arguments opened: a slice of bytes, an act, a slice of acts, read off the data that came in.
-/
import Derived.Test.YtbjplahoalfmjaaDoorMemN
import Derived.Test.YtbjplahoalfmjaaDoorCmOpen
import Derived.ProofKit
import Derived.OpenShut
import Derived.JoinedCond
import Derived.Deep.DeepHandedRow
import Derived.Deep.Slices
import Derived.SizedLaws
import Derived.Lib.SmallJoins
namespace Go.Proofs.YtbjplahoalfmjaaDoor
open Go.ChangeShapes Go.WideShapes Go.ChangeAt Go.RowKit Go.Joins Go.Deep
set_option linter.unusedVariables false
set_option linter.unusedSimpArgs false
set_option maxRecDepth 100000

theorem cells5 : Tryd.prog.cellsOf 5 = 1 := by kernel_rfl
theorem bytes5 : Tryd.prog.bytesOf 5 = 1 := by kernel_rfl
theorem cells33 : Tryd.prog.cellsOf 50 = 7 := by kernel_rfl
theorem cells29 : Tryd.prog.cellsOf 42 = 2 := by kernel_rfl
theorem cells3 : Tryd.prog.cellsOf 3 = 1 := by kernel_rfl
theorem cells30 : Tryd.prog.cellsOf 25 = 1 := by kernel_rfl
theorem cells31 : Tryd.prog.cellsOf 48 = 1 := by kernel_rfl
theorem under5 : Tryd.prog.underlying 5 = some (.int .u8) := by kernel_rfl
theorem under3 : Tryd.prog.underlying 3 = some (.int .i64) := by kernel_rfl
theorem under30 : Tryd.prog.underlying 25 = some (.int .u64) := by kernel_rfl
theorem acts_fields : ∃ f0 f1 f2 f3 f4 f5 : Field, Tryd.prog.underlying 50 = some (.struct #[f0, f1, f2, f3, f4, f5]) ∧ (f0.type = 3 ∧ f0.offset = 0) ∧ (f1.type = 42 ∧ f1.offset = 1) ∧ (f2.type = 3 ∧ f2.offset = 3) ∧ (f3.type = 3 ∧ f3.offset = 4) ∧ (f4.type = 25 ∧ f4.offset = 5) ∧ (f5.type = 48 ∧ f5.offset = 6) :=
  ⟨_, _, _, _, _, _, Tryd.underlying50, ⟨rfl, rfl⟩, ⟨rfl, rfl⟩, ⟨rfl, rfl⟩, ⟨rfl, rfl⟩, ⟨rfl, rfl⟩, ⟨rfl, rfl⟩⟩
theorem win_fields : ∃ f0 f1 : Field, Tryd.prog.underlying 42 = some (.struct #[f0, f1]) ∧ (f0.type = 3 ∧ f0.offset = 0) ∧ (f1.type = 3 ∧ f1.offset = 1) :=
  ⟨_, _, Tryd.underlying42, ⟨rfl, rfl⟩, ⟨rfl, rfl⟩⟩

theorem weights_mem_all {H : Type} {P : Program} {e : TypeId} : ∀ {ds : List (DataW H)} {d : DataW H}, d ∈ ds → ∀ n ∈ d.weights P e, n ∈ DataW.weightsAll P e ds
  | d0 :: ds, d, hd, n, hn => by
    simp only [DataW.weightsAll, List.mem_append]
    rcases List.mem_cons.1 hd with rfl | h
    · exact .inl hn
    · exact .inr (weights_mem_all h n hn)

instance : Inhabited ActD := ⟨⟨0, 0, 0, 0, 0, 0, []⟩⟩

section
variable {H : Type} {enc : TypeId × Value → H} {w : World} {base : Nat} {spare : Nat → Bool} {held : Bool}

theorem open_bytes_cs {fuel : Nat} {bv : Value} {y : DataW H × List MemPlace} (h : DataW.trod enc Tryd.prog w base spare held fuel 48 [bv] = some y) :
    ∃ ys, BytesIn w bv ys ∧ (Small 48 y.1 → ys.length ≤ 140737488355328) := by
  rcases open_slice1 Tryd.underlying48 cells5 h with ⟨h0, _⟩ | ⟨a, len, cap, m, n, V, D, Pl, h1, hb, hl, hm, hmm, hx, hall⟩
  · simp only [List.cons.injEq, and_true] at h0
    subst h0
    exact ⟨[], ⟨none, 0, rfl, Nat.le_refl _, (fun x hx => by simp at hx), fun h => absurd rfl h⟩, fun _ => by simp⟩
  · simp only [List.cons.injEq, and_true] at h1
    subst h1
    have hle : len ≤ m := by rw [hmm]; split <;> omega
    have hu8 : ∀ i, i < m → ∃ z : Nat, z < 256 ∧ V i = .int .u8 (z : Int) := fun i hi => by
      obtain ⟨_, t0⟩ := hall i hi
      obtain ⟨z, e0, _, wf⟩ := DataW.trod_int under5 t0
      simp only [List.cons.injEq, and_true] at e0
      simp [Lit.wf, IntKind.max, IntKind.min, IntKind.signed, IntKind.bits] at wf
      exact ⟨z.toNat, by omega, by rw [e0, Int.toNat_of_nonneg (by omega)]⟩
    obtain ⟨f, hf⟩ := choose_lt hu8
    refine ⟨(List.range len).map f, ⟨some a, cap, by simp, by simpa using hl, ?_, fun hne => ?_⟩, fun hs => ?_⟩
    · intro x hx
      simp only [List.mem_map, List.mem_range] at hx
      obtain ⟨i, hi, rfl⟩ := hx
      exact (hf i (by omega)).1
    · have hpos : 0 < len := by
        rcases Nat.eq_zero_or_pos len with e | e
        · exact absurd (by simp [e]) hne
        · exact e
      obtain ⟨b, off, spot⟩ := a
      cases spot with
      | some s =>
        have := (hall 0 (by omega)).1
        clear hall hf hu8 h
        simp [World.cell?, Addr.add] at this
        split at this <;> simp_all
      | none =>
        refine ⟨b, off, rfl, fun j hj => ?_⟩
        have hj' : j < len := by simpa using hj
        have h0 := (hall j (by omega)).1
        rw [add_mid_, (hf j (by omega)).2] at h0
        rw [h0]
        simp [hj']
    · have h1 : (len + (m - len)) * 1 ≤ reachBytes := by
        refine hs _ ?_
        rw [hx]
        simp [DataW.weights, Tryd.underlying48, bytes5]
      have : reachBytes ≤ 140737488355328 := by decide
      simp only [List.length_map, List.length_range]
      omega

theorem open_win_cs {fuel : Nat} {cs : List Value} {y : DataW H × List MemPlace} (h : DataW.trod enc Tryd.prog w base spare held fuel 42 cs = some y) :
    ∃ a s : Int, cs = [.int .i64 a, .int .i64 s] ∧ (Lit.int .i64 a).wf = true ∧ (Lit.int .i64 s).wf = true := by
  obtain ⟨f0, f1, hu, ⟨t0, o0⟩, ⟨t1, o1⟩⟩ := win_fields
  obtain ⟨xs, k, hk, hxy, hlen, hxl, hf⟩ := DataW.trod_struct hu h
  rw [cells29] at hlen
  match cs, hlen, xs, hxl with
  | [v0, v1], _, [y0, y1], _ =>
    have g0 := hf 0 f0 rfl
    have g1 := hf 1 f1 rfl
    rw [t0, o0, cells3] at g0
    rw [t1, o1, cells3] at g1
    obtain ⟨z0, e0, _, w0⟩ := DataW.trod_int under3 (show DataW.trod enc Tryd.prog w base spare held k 3 [v0] = some y0 from g0)
    obtain ⟨z1, e1, _, w1⟩ := DataW.trod_int under3 (show DataW.trod enc Tryd.prog w base spare held k 3 [v1] = some y1 from g1)
    simp only [List.cons.injEq, and_true] at e0 e1
    exact ⟨z0, z1, by rw [e0, e1], w0, w1⟩

theorem open_act_cs {fuel : Nat} {cs : List Value} {y : DataW H × List MemPlace} (h : DataW.trod enc Tryd.prog w base spare held fuel 50 cs = some y) :
    ∃ (x : ActD) (bv : Value), cs = [.int .i64 x.d, .int .i64 x.a, .int .i64 x.s, .int .i64 x.off, .int .i64 x.wd, .int .u64 x.v, bv] ∧ BytesIn w bv x.ys ∧ (Small 50 y.1 → x.Fair) := by
  obtain ⟨f0, f1, f2, f3, f4, f5, hu, ⟨t0, o0⟩, ⟨t1, o1⟩, ⟨t2, o2⟩, ⟨t3, o3⟩, ⟨t4, o4⟩, ⟨t5, o5⟩⟩ := acts_fields
  obtain ⟨xs, k, hk, hxy, hlen, hxl, hf⟩ := DataW.trod_struct hu h
  rw [cells33] at hlen
  match cs, hlen, xs, hxl with
  | [v0, v1, v2, v3, v4, v5, v6], _, [y0, y1, y2, y3, y4, y5], _ =>
    have g0 := hf 0 f0 rfl
    have g1 := hf 1 f1 rfl
    have g2 := hf 2 f2 rfl
    have g3 := hf 3 f3 rfl
    have g4 := hf 4 f4 rfl
    have g5 := hf 5 f5 rfl
    rw [t0, o0, cells3] at g0
    rw [t1, o1, cells29] at g1
    rw [t2, o2, cells3] at g2
    rw [t3, o3, cells3] at g3
    rw [t4, o4, cells30] at g4
    rw [t5, o5, cells31] at g5
    obtain ⟨z0, e0, _, w0⟩ := DataW.trod_int under3 (show DataW.trod enc Tryd.prog w base spare held k 3 [v0] = some y0 from g0)
    obtain ⟨za, zs, e1, wa, ws⟩ := open_win_cs (show DataW.trod enc Tryd.prog w base spare held k 42 [v1, v2] = some y1 from g1)
    obtain ⟨z2, e2, _, w2⟩ := DataW.trod_int under3 (show DataW.trod enc Tryd.prog w base spare held k 3 [v3] = some y2 from g2)
    obtain ⟨z3, e3, _, w3⟩ := DataW.trod_int under3 (show DataW.trod enc Tryd.prog w base spare held k 3 [v4] = some y3 from g3)
    obtain ⟨z4, e4, _, w4⟩ := DataW.trod_int under30 (show DataW.trod enc Tryd.prog w base spare held k 25 [v5] = some y4 from g4)
    obtain ⟨ys, hy, hsz⟩ := open_bytes_cs (show DataW.trod enc Tryd.prog w base spare held k 48 [v6] = some y5 from g5)
    simp only [List.cons.injEq, and_true] at e0 e1 e2 e3 e4
    simp [Lit.wf, IntKind.max, IntKind.min, IntKind.signed, IntKind.bits] at w0 wa ws w2 w3 w4
    refine ⟨⟨z0, za, zs, z2, z3, z4.toNat, ys⟩, v6, ?_, hy, fun hs => ⟨by show -9223372036854775808 ≤ za; omega, by show za ≤ 9223372036854775807; omega, by show -9223372036854775808 ≤ zs; omega, by show zs ≤ 9223372036854775807; omega, by show -9223372036854775808 ≤ z2; omega, by show z2 ≤ 9223372036854775807; omega, by show -9223372036854775808 ≤ z3; omega, by show z3 ≤ 9223372036854775807; omega, by show z4.toNat < 18446744073709551616; omega, ?_⟩⟩
    · rw [e0, e1.1, e1.2, e2, e3, e4]
      simp only [Int.toNat_of_nonneg (show 0 ≤ z4 by omega)]
    · refine hsz fun m hm => hs m ?_
      rw [hxy]
      simp only [DataW.weights, hu]
      exact DataW.weights_mem_each (j := 5) (t := 48) (d := y5.1) (by simp [t5]) (by simp) m hm

theorem open_acts {r : Reach} {b0 : Nat} {v : Value} {d : DataW H} {p : List MemPlace} (hv : Value.okWide Tryd.prog w r b0 40 v) (h : DataW.Trod enc Tryd.prog w base spare held 40 v d p) :
    ∃ xs, Small 40 d → ActsAt w v xs := by
  obtain ⟨a, len, cap, rfl⟩ := okWide_slice Tryd.underlying40 hv
  obtain ⟨fuel, hf⟩ := h
  rcases open_slice Tryd.underlying40 hf with ⟨h0, _⟩ | ⟨a', len', cap', m, n, D, Pl, h1, hb, hl, hm, hmm, hx, hall⟩
  · simp [Value.cells] at h0
    obtain ⟨rfl, rfl, rfl⟩ := h0
    exact ⟨[], fun _ => ⟨none, 0, rfl, by simp, (fun x hx => by simp at hx), fun h => absurd rfl h⟩⟩
  · simp [Value.cells] at h1
    obtain ⟨rfl, rfl, rfl⟩ := h1
    have hle : len ≤ m := by rw [hmm]; split <;> omega
    have each : ∀ i, i < m → ∃ q : ActD × Value, (∀ o, o < 7 → w.cell? (a'.add (i * 7 + o)) = (q.1.val q.2).cells[o]?) ∧ BytesIn w q.2 q.1.ys ∧ (Small 50 (D i) → q.1.Fair) := by
      intro i hi
      obtain ⟨cs', h2, h3⟩ := hall i hi
      rw [cells33] at h2
      obtain ⟨_, hlen, hcell⟩ := World.cells?_some h2
      obtain ⟨x, bv, rfl, hy, hfair⟩ := open_act_cs h3
      refine ⟨(x, bv), fun o ho => ?_, hy, hfair⟩
      have := hcell o ho
      rw [Go.Deep.add_add] at this
      rw [this]
      simp [ActD.val, Value.cells]
    obtain ⟨q, hq⟩ := choose_lt each
    refine ⟨(List.range len).map fun i => (q i).1, fun hs => ⟨some a', cap, by simp, by simp; unfold maxLen at hm; omega, ?_, fun hne => ?_⟩⟩
    · intro x hx'
      simp only [List.mem_map, List.mem_range] at hx'
      obtain ⟨i, hi, rfl⟩ := hx'
      refine (hq i (by omega)).2.2 fun k hk => hs k ?_
      have ed : d = .slice ((List.range len).map D) ((List.range (m - len)).map fun j => D (len + j)) := (Prod.mk.inj hx).1
      rw [ed]
      simp only [DataW.weights, Tryd.underlying40, List.mem_cons, List.mem_append]
      exact .inr (.inl (weights_mem_all (List.mem_map.2 ⟨i, List.mem_range.2 hi, rfl⟩) k hk))
    · have hpos : 0 < len := by
        rcases Nat.eq_zero_or_pos len with e | e
        · exact absurd (by simp [e]) hne
        · exact e
      obtain ⟨b, off, spot⟩ := a'
      cases spot with
      | some sp =>
        have := (hq 0 (by omega)).1 0 (by omega)
        clear hall hq each hf hs
        simp [World.cell?, Addr.add, ActD.val, Value.cells] at this
        split at this <;> simp_all
      | none =>
        refine ⟨b, off, rfl, fun j x hx' => ?_⟩
        have hj : j < len := by
          have := (List.getElem?_eq_some_iff.1 hx').1
          simpa using this
        have ex : (q j).1 = x := by
          rw [List.getElem?_map, List.getElem?_range hj] at hx'
          simpa using hx'
        obtain ⟨hc, hy, _⟩ := hq j (by omega)
        rw [ex] at hc hy
        have hc' : ∀ o, o < 7 → w.cell? ⟨b, off + j * 7 + o, none⟩ = (x.val (q j).2).cells[o]? := fun o ho => by
          have := hc o ho
          rwa [add_mid_, ← Nat.add_assoc] at this
        exact ⟨(q j).2, hy, hc' 0 (by omega), hc' 1 (by omega), hc' 2 (by omega), hc' 3 (by omega), hc' 4 (by omega), hc' 5 (by omega), hc' 6 (by omega)⟩

theorem open_win {r : Reach} {b0 : Nat} {v : Value} {d : DataW H} {p : List MemPlace} (hv : Value.okWide Tryd.prog w r b0 42 v) (h : DataW.Trod enc Tryd.prog w base spare held 42 v d p) :
    ∃ a s : Int, v = .agg #[.int .i64 a, .int .i64 s] ∧ (Lit.int .i64 a).wf = true ∧ (Lit.int .i64 s).wf = true := by
  obtain ⟨cs, fuel, rfl, hf⟩ := open_agg_cs Tryd.underlying42 hv h
  obtain ⟨a, s, e, h1, h2⟩ := open_win_cs hf
  exact ⟨a, s, by cases cs; simp only at e; rw [e], h1, h2⟩
theorem open_act {r : Reach} {b0 : Nat} {v : Value} {d : DataW H} {p : List MemPlace} (hv : Value.okWide Tryd.prog w r b0 50 v) (h : DataW.Trod enc Tryd.prog w base spare held 50 v d p) :
    ∃ (x : ActD) (bv : Value), v = .agg #[.int .i64 x.d, .int .i64 x.a, .int .i64 x.s, .int .i64 x.off, .int .i64 x.wd, .int .u64 x.v, bv] ∧ BytesIn w bv x.ys ∧ (Small 50 d → x.Fair) := by
  obtain ⟨cs, fuel, rfl, hf⟩ := open_agg_cs Tryd.underlying50 hv h
  obtain ⟨x, bv, e, h1, h2⟩ := open_act_cs hf
  exact ⟨x, bv, by cases cs; simp only at e; rw [e], h1, h2⟩
end

end Go.Proofs.YtbjplahoalfmjaaDoor
