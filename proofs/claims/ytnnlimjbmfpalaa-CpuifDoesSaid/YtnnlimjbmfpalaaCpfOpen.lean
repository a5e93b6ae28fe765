/-
  Arguments opened: an interface, a candidate, a slice of candidates, read off the data that came in.
-/
import Derived.Test.YtnnlimjbmfpalaaCpE
import Derived.ChangeMaps5
import Derived.ProofKit
import Derived.OpenShut
import Derived.JoinedCond
import Derived.Deep.DeepHandedRow
import Derived.Deep.Slices
import Derived.SizedLaws
import Derived.Lib.SmallJoins
namespace Go.Proofs.Ytnnlimjbmfpalaa
open Go.ChangeShapes Go.WideShapes Go.ChangeAt Go.RowKit Go.Joins Go.Deep
set_option linter.unusedVariables false
set_option maxRecDepth 100000

/-- A slice of candidates. -/
structure CdC (W : World) (b o : Nat) (x : Cd) : Prop where
  c0 : W.cell? ⟨b, o, none⟩ = some (.int .i64 x.id)
  c1 : W.cell? ⟨b, o + 1, none⟩ = some (.int .i64 x.p)
  c2 : W.cell? ⟨b, o + 2, none⟩ = some (.int .i64 x.g)
  c3 : W.cell? ⟨b, o + 3, none⟩ = some (.bool x.is)
theorem CdC.below {w W : World} {b o : Nat} {x : Cd} (h : CdC w b o x) (k : Below w.heap.size w W) (hb : b < w.heap.size) : CdC W b o x :=
  have K : ∀ j v, w.cell? ⟨b, j, none⟩ = some v → W.cell? ⟨b, j, none⟩ = some v := fun j v e => (k.cell (p := ⟨b, j, none⟩) hb).trans e
  ⟨K _ _ h.c0, K _ _ h.c1, K _ _ h.c2, K _ _ h.c3⟩
def nthA (xs : List Cd) (k : Nat) : Cd := xs[k]?.getD default
def CandsAt (W : World) (v : Value) (xs : List Cd) : Prop :=
  ∃ (a : Option Addr) (cap : Nat), v = .slice a xs.length cap ∧ (xs ≠ [] → ∃ b off : Nat, a = some ⟨b, off, none⟩ ∧ b < W.heap.size ∧ ∀ j, j < xs.length → CdC W b (off + j * 4) (nthA xs j))
theorem CandsAt.slice {W : World} {v : Value} {xs : List Cd} (h : CandsAt W v xs) : ∃ a cap, v = .slice a xs.length cap := by obtain ⟨a, cap, e, _⟩ := h; exact ⟨a, cap, e⟩
theorem CandsAt.below {w W : World} {v : Value} {xs : List Cd} (h : CandsAt w v xs) (k : Below w.heap.size w W) : CandsAt W v xs := by
  obtain ⟨a, cap, e, hc⟩ := h
  exact ⟨a, cap, e, fun hne => by
    obtain ⟨b, o, ha, hb, hcs⟩ := hc hne
    exact ⟨b, o, ha, Nat.lt_of_lt_of_le hb k.size, fun j hj => (hcs j hj).below k hb⟩⟩
theorem CandsAt.read {w : World} {a : Option Addr} {n cap : Nat} {xs : List Cd} (h : CandsAt w (.slice a n cap) xs) {k : Nat} (hk : k < n) :
    ∃ b o : Nat, a = some ⟨b, o, none⟩ ∧ b < w.heap.size ∧ ∀ W, Below w.heap.size w W → CdC W b (o + k * 4) (nthA xs k) := by
  obtain ⟨a', cap', e, hc⟩ := h
  injection e with e1 e2 e3
  subst e1; subst e2
  obtain ⟨b, o, ha, hb, hcs⟩ := hc (fun e => by simp [e] at hk)
  exact ⟨b, o, ha, hb, fun W hW => (hcs k hk).below hW hb⟩

theorem cellsIf : Try.prog.cellsOf 29 = 8 := by kernel_rfl
theorem cellsCa : Try.prog.cellsOf 39 = 4 := by kernel_rfl
theorem bytesCa : Try.prog.bytesOf 39 = 32 := by kernel_rfl
theorem cellsLa : Try.prog.cellsOf 27 = 2 := by kernel_rfl
theorem cells2i : Try.prog.cellsOf 22 = 2 := by kernel_rfl
theorem cells2b : Try.prog.cellsOf 23 = 2 := by kernel_rfl
theorem cells2u : Try.prog.cellsOf 25 = 2 := by kernel_rfl
theorem cellsB : Try.prog.cellsOf 4 = 1 := by kernel_rfl
theorem cellsN : Try.prog.cellsOf 3 = 1 := by kernel_rfl
theorem cellsU : Try.prog.cellsOf 24 = 1 := by kernel_rfl
theorem underN : Try.prog.underlying 3 = some (.int .i64) := by kernel_rfl
theorem underU : Try.prog.underlying 24 = some (.int .u32) := by kernel_rfl
theorem if_fields : ∃ f0 f1 f2 f3 f4 : Field, Try.prog.underlying 29 = some (.struct #[f0, f1, f2, f3, f4]) ∧ (f0.type = 3 ∧ f0.offset = 0) ∧ (f1.type = 22 ∧ f1.offset = 1) ∧ (f2.type = 23 ∧ f2.offset = 3) ∧ (f3.type = 4 ∧ f3.offset = 5) ∧ (f4.type = 27 ∧ f4.offset = 6) :=
  ⟨_, _, _, _, _, Try.underlying29, ⟨rfl, rfl⟩, ⟨rfl, rfl⟩, ⟨rfl, rfl⟩, ⟨rfl, rfl⟩, ⟨rfl, rfl⟩⟩
theorem cand_fields : ∃ f0 f1 f2 f3 : Field, Try.prog.underlying 39 = some (.struct #[f0, f1, f2, f3]) ∧ (f0.type = 3 ∧ f0.offset = 0) ∧ (f1.type = 3 ∧ f1.offset = 1) ∧ (f2.type = 3 ∧ f2.offset = 2) ∧ (f3.type = 4 ∧ f3.offset = 3) :=
  ⟨_, _, _, _, Try.underlying39, ⟨rfl, rfl⟩, ⟨rfl, rfl⟩, ⟨rfl, rfl⟩, ⟨rfl, rfl⟩⟩
theorem lad_fields : ∃ f0 : Field, Try.prog.underlying 27 = some (.struct #[f0]) ∧ (f0.type = 25 ∧ f0.offset = 0) :=
  ⟨_, Try.underlying27, ⟨rfl, rfl⟩⟩
def Small {H : Type} (t : TypeId) (d : DataW H) : Prop := ∀ m ∈ d.weights Try.prog t, m ≤ reachBytes
theorem add_mid9 (b o j : Nat) : (⟨b, o, none⟩ : Addr).add j = ⟨b, o + j, none⟩ := by unfold Addr.add; split <;> simp_all

section
variable {H : Type} {enc : TypeId × Value → H} {w : World} {base : Nat} {spare : Nat → Bool} {held : Bool}
theorem trod_array2 {t e : TypeId} {fuel : Nat} {c0 c1 : Value} {x : DataW H × List MemPlace} (ht : Try.prog.underlying t = some (.array 2 e)) (hce : Try.prog.cellsOf e = 1)
    (h : DataW.trod enc Try.prog w base spare held fuel t [c0, c1] = some x) :
    ∃ y0 y1 n, DataW.trod enc Try.prog w base spare held n e [c0] = some y0 ∧ DataW.trod enc Try.prog w base spare held n e [c1] = some y1 := by
  cases fuel with
  | zero => simp [DataW.trod] at h
  | succ n =>
    unfold DataW.trod at h
    rw [ht] at h
    have r2 : List.range 2 = [0, 1] := rfl
    simp [r2, hce] at h
    obtain ⟨_, h⟩ := h
    cases h0 : DataW.trod enc Try.prog w base spare held n e [c0] with
    | none => simp [h0] at h
    | some y0 =>
      cases h1 : DataW.trod enc Try.prog w base spare held n e [c1] with
      | none => simp [h0, h1] at h
      | some y1 => exact ⟨y0, y1, n, h0, h1⟩
theorem open_lad_cs {fuel : Nat} {cs : List Value} {y : DataW H × List MemPlace} (h : DataW.trod enc Try.prog w base spare held fuel 27 cs = some y) :
    ∃ r : Rg, cs = [.int .u32 (wd r 0), .int .u32 (wd r 1)] := by
  obtain ⟨f0, hu, ⟨t0, o0⟩⟩ := lad_fields
  obtain ⟨xs, k, hk, hxy, hlen, hxl, hf⟩ := DataW.trod_struct hu h
  rw [cellsLa] at hlen
  match cs, hlen, xs, hxl with
  | [v0, v1], _, [y0], _ =>
    have g0 := hf 0 f0 rfl
    rw [t0, o0, cells2u] at g0
    obtain ⟨z0, z1, m, hz0, hz1⟩ := trod_array2 Try.underlying25 cellsU (show DataW.trod enc Try.prog w base spare held k 25 [v0, v1] = some y0 from g0)
    obtain ⟨a, e0, _, w0⟩ := DataW.trod_int underU hz0
    obtain ⟨b, e1, _, w1⟩ := DataW.trod_int underU hz1
    simp only [List.cons.injEq, and_true] at e0 e1
    simp [Lit.wf, IntKind.max, IntKind.min, IntKind.signed, IntKind.bits] at w0 w1
    obtain ⟨a', rfl⟩ := Int.eq_ofNat_of_zero_le (show 0 ≤ a by omega)
    obtain ⟨b', rfl⟩ := Int.eq_ofNat_of_zero_le (show 0 ≤ b by omega)
    refine ⟨ofW a' b', ?_⟩
    rw [wd_ofW0 b' (by omega), wd_ofW1 a' (by omega), e0, e1]
theorem open_if_cs {fuel : Nat} {cs : List Value} {y : DataW H × List MemPlace} (h : DataW.trod enc Try.prog w base spare held fuel 29 cs = some y) :
    ∃ x : Fc, cs = x.cs.toList := by
  obtain ⟨f0, f1, f2, f3, f4, hu, ⟨t0, o0⟩, ⟨t1, o1⟩, ⟨t2, o2⟩, ⟨t3, o3⟩, ⟨t4, o4⟩⟩ := if_fields
  obtain ⟨xs, k, hk, hxy, hlen, hxl, hf⟩ := DataW.trod_struct hu h
  rw [cellsIf] at hlen
  match cs, hlen, xs, hxl with
  | [v0, v1, v2, v3, v4, v5, v6, v7], _, [y0, y1, y2, y3, y4], _ =>
    have g0 := hf 0 f0 rfl
    have g1 := hf 1 f1 rfl
    have g2 := hf 2 f2 rfl
    have g3 := hf 3 f3 rfl
    have g4 := hf 4 f4 rfl
    rw [t0, o0, cellsN] at g0
    rw [t1, o1, cells2i] at g1
    rw [t2, o2, cells2b] at g2
    rw [t3, o3, cellsB] at g3
    rw [t4, o4, cellsLa] at g4
    obtain ⟨m, e0, _, _⟩ := DataW.trod_int underN (show DataW.trod enc Try.prog w base spare held k 3 [v0] = some y0 from g0)
    obtain ⟨z1, z2, m1, hz1, hz2⟩ := trod_array2 Try.underlying22 cellsN (show DataW.trod enc Try.prog w base spare held k 22 [v1, v2] = some y1 from g1)
    obtain ⟨p0, e1, _, _⟩ := DataW.trod_int underN hz1
    obtain ⟨p1, e2, _, _⟩ := DataW.trod_int underN hz2
    obtain ⟨z3, z4, m2, hz3, hz4⟩ := trod_array2 Try.underlying23 cellsB (show DataW.trod enc Try.prog w base spare held k 23 [v3, v4] = some y2 from g2)
    obtain ⟨b0, e3, _⟩ := DataW.trod_bool Try.underlying4 hz3
    obtain ⟨b1, e4, _⟩ := DataW.trod_bool Try.underlying4 hz4
    obtain ⟨sp, e5, _⟩ := DataW.trod_bool Try.underlying4 (show DataW.trod enc Try.prog w base spare held k 4 [v5] = some y3 from g3)
    obtain ⟨r, e6⟩ := open_lad_cs (show DataW.trod enc Try.prog w base spare held k 27 [v6, v7] = some y4 from g4)
    simp only [List.cons.injEq, and_true] at e0 e1 e2 e3 e4 e5 e6
    obtain ⟨e6, e7⟩ := e6
    exact ⟨⟨m, p0, p1, b0, b1, sp, r⟩, by rw [e0, e1, e2, e3, e4, e5, e6, e7]⟩
theorem open_cand_cs {fuel : Nat} {cs : List Value} {y : DataW H × List MemPlace} (h : DataW.trod enc Try.prog w base spare held fuel 39 cs = some y) :
    ∃ x : Cd, cs = x.cs.toList := by
  obtain ⟨f0, f1, f2, f3, hu, ⟨t0, o0⟩, ⟨t1, o1⟩, ⟨t2, o2⟩, ⟨t3, o3⟩⟩ := cand_fields
  obtain ⟨xs, k, hk, hxy, hlen, hxl, hf⟩ := DataW.trod_struct hu h
  rw [cellsCa] at hlen
  match cs, hlen, xs, hxl with
  | [v0, v1, v2, v3], _, [y0, y1, y2, y3], _ =>
    have g0 := hf 0 f0 rfl
    have g1 := hf 1 f1 rfl
    have g2 := hf 2 f2 rfl
    have g3 := hf 3 f3 rfl
    rw [t0, o0, cellsN] at g0
    rw [t1, o1, cellsN] at g1
    rw [t2, o2, cellsN] at g2
    rw [t3, o3, cellsB] at g3
    obtain ⟨z0, e0, _, _⟩ := DataW.trod_int underN (show DataW.trod enc Try.prog w base spare held k 3 [v0] = some y0 from g0)
    obtain ⟨z1, e1, _, _⟩ := DataW.trod_int underN (show DataW.trod enc Try.prog w base spare held k 3 [v1] = some y1 from g1)
    obtain ⟨z2, e2, _, _⟩ := DataW.trod_int underN (show DataW.trod enc Try.prog w base spare held k 3 [v2] = some y2 from g2)
    obtain ⟨z3, e3, _⟩ := DataW.trod_bool Try.underlying4 (show DataW.trod enc Try.prog w base spare held k 4 [v3] = some y3 from g3)
    simp only [List.cons.injEq, and_true] at e0 e1 e2 e3
    exact ⟨⟨z0, z1, z2, z3⟩, by rw [e0, e1, e2, e3]⟩

theorem open_agg_cs {r : Reach} {b0 : Nat} {t : TypeId} {fs : Array Field} {v : Value} {d : DataW H} {p : List MemPlace} (hu : Try.prog.underlying t = some (.struct fs)) (hv : Value.okWide Try.prog w r b0 t v) (h : DataW.Trod enc Try.prog w base spare held t v d p) :
    ∃ (cs : Array Value) (fuel : Nat), v = .agg cs ∧ DataW.trod enc Try.prog w base spare held fuel t cs.toList = some (d, p) := by
  obtain ⟨fuel, hf⟩ := h
  simp only [Value.okWide, hu] at hv
  obtain ⟨cs, rfl, _, _⟩ := hv
  exact ⟨cs, fuel, rfl, by simpa [Value.cells] using hf⟩
theorem open_if {r : Reach} {b0 : Nat} {v : Value} {d : DataW H} {p : List MemPlace} (hv : Value.okWide Try.prog w r b0 29 v) (h : DataW.Trod enc Try.prog w base spare held 29 v d p) : ∃ x : Fc, v = x.v := by
  obtain ⟨cs, fuel, rfl, hf⟩ := open_agg_cs Try.underlying29 hv h
  obtain ⟨x, e⟩ := open_if_cs hf
  exact ⟨x, by cases cs; simp only at e; rw [e]⟩
theorem open_cand {r : Reach} {b0 : Nat} {v : Value} {d : DataW H} {p : List MemPlace} (hv : Value.okWide Try.prog w r b0 39 v) (h : DataW.Trod enc Try.prog w base spare held 39 v d p) : ∃ x : Cd, v = x.v := by
  obtain ⟨cs, fuel, rfl, hf⟩ := open_agg_cs Try.underlying39 hv h
  obtain ⟨x, e⟩ := open_cand_cs hf
  exact ⟨x, by cases cs; simp only at e; rw [e]⟩

theorem open_cands {r : Reach} {b0 : Nat} {v : Value} {d : DataW H} {p : List MemPlace} (hv : Value.okWide Try.prog w r b0 56 v) (h : DataW.Trod enc Try.prog w base spare held 56 v d p) :
    ∃ xs, Small 56 d → CandsAt w v xs ∧ xs.length ≤ 140737488355328 := by
  obtain ⟨a, len, cap, rfl⟩ := okWide_slice Try.underlying56 hv
  obtain ⟨fuel, hf⟩ := h
  rcases open_slice Try.underlying56 hf with ⟨h0, _⟩ | ⟨a', len', cap', m, n, D, Pl, h1, hb, hl, hm, hmm, hx, hall⟩
  · simp [Value.cells] at h0
    obtain ⟨rfl, rfl, rfl⟩ := h0
    exact ⟨[], fun _ => ⟨⟨none, 0, rfl, fun h => absurd rfl h⟩, by simp⟩⟩
  · simp [Value.cells] at h1
    obtain ⟨rfl, rfl, rfl⟩ := h1
    have hle : len ≤ m := by rw [hmm]; split <;> omega
    have each : ∀ i, i < m → ∃ q : Cd, ∀ o, o < 4 → w.cell? (a'.add (i * 4 + o)) = q.cs.toList[o]? := by
      intro i hi
      obtain ⟨cs', h2, h3⟩ := hall i hi
      rw [cellsCa] at h2
      obtain ⟨_, hlen, hcell⟩ := World.cells?_some h2
      obtain ⟨x, rfl⟩ := open_cand_cs h3
      refine ⟨x, fun o ho => ?_⟩
      have := hcell o ho
      rw [Go.Deep.add_add] at this
      rw [this]
    obtain ⟨q, hq⟩ := choose_lt each
    refine ⟨(List.range len).map q, fun hs => ⟨⟨some a', cap, by simp, fun hne => ?_⟩, ?_⟩⟩
    · have hpos : 0 < len := by
        rcases Nat.eq_zero_or_pos len with e | e
        · exact absurd (by simp [e]) hne
        · exact e
      obtain ⟨b, off, spot⟩ := a'
      cases spot with
      | some sp =>
        have := (hq 0 (by omega)) 0 (by omega)
        clear hall hq each hf hs
        simp [World.cell?, Addr.add] at this
        split at this <;> simp_all
      | none =>
        have hbl : b < w.heap.size := by
          have := (hq 0 (by omega)) 0 (by omega)
          rw [add_mid9] at this
          exact World.block_lt_of_cell? w _ (show w.cell? ⟨b, _, none⟩ = some (.int .i64 (q 0).id) from this)
        refine ⟨b, off, rfl, hbl, fun j hj => ?_⟩
        simp only [List.length_map, List.length_range] at hj
        have ex : nthA ((List.range len).map q) j = q j := by
          rw [nthA, List.getElem?_map, List.getElem?_range hj]; rfl
        rw [ex]
        have hc := hq j (by omega)
        have hc' : ∀ o, o < 4 → w.cell? ⟨b, off + j * 4 + o, none⟩ = (q j).cs.toList[o]? := fun o ho => by
          have := hc o ho
          rwa [add_mid9, ← Nat.add_assoc] at this
        exact ⟨hc' 0 (by omega), hc' 1 (by omega), hc' 2 (by omega), hc' 3 (by omega)⟩
    · have h1 : (len + (m - len)) * 32 ≤ reachBytes := by
        refine hs _ ?_
        rw [(Prod.mk.inj hx).1]
        simp [DataW.weights, Try.underlying56, bytesCa]
      have : reachBytes ≤ 140737488355328 := by decide
      simp only [List.length_map, List.length_range]
      omega

end

end Go.Proofs.Ytnnlimjbmfpalaa
