/-
  Package bank: Get.
-/
import Derived.Test.YtjgamfonpagkbaaBnkC
namespace Go.Proofs.Ytjgamfonpagkbaa
open Go.ChangeShapes Go.WideShapes Go.ChangeAt Go.RowKit
set_option linter.unusedVariables false

def En.zero : En := ⟨Ln.zero, ⟨#[]⟩⟩
abbrev En.ca (x : En) : Array Value := #[.bool x.ln.st.e, .bool x.ln.st.l, .bool x.ln.st.h, .bool x.ln.st.a, .bool x.ln.en, .int .i64 x.ln.g, .int .i64 x.ln.p, .string x.s]
theorem results_ent {fn : Func} {c t : Tmp} (h : fn.results = #[.cell c 54, .tmp t]) (tmps : Array Value) (w : World) (b : Nat) (x : En) (v : Value) (hp : tmps.getD c undef = .pointer (some ⟨b, 0, none⟩)) (ht : tmps.getD t undef = v)
    (hb : CB w b 54 x.ca) : (results fn tmps).run Try.prog w = .ok (.tuple #[x.v, v]) w := by
  have hp' : tmps[c]?.getD undef = .pointer (some ⟨b, 0, none⟩) := by simpa using hp
  have ht' : tmps[t]?.getD undef = v := by simpa using ht
  have c0 := hb.cell 0
  have c1 := hb.cell 1
  have c2 := hb.cell 2
  have c3 := hb.cell 3
  have c4 := hb.cell 4
  have c5 := hb.cell 5
  have c6 := hb.cell 6
  have c7 := hb.cell 7
  simp at c0 c1 c2 c3 c4 c5 c6 c7
  simp [results, h, go_sem, hp', ht', c0, c1, c2, c3, c4, c5, c6, c7]

/-- An entry's box, stored anew. -/
abbrev setE (W : World) (B o : Nat) (x : En) : World := (((((((W.setCell ⟨B, o, none⟩ (.bool x.ln.st.e)).setCell ⟨B, o + 1, none⟩ (.bool x.ln.st.l)).setCell ⟨B, o + 2, none⟩ (.bool x.ln.st.h)).setCell ⟨B, o + 3, none⟩ (.bool x.ln.st.a)).setCell ⟨B, o + 4, none⟩ (.bool x.ln.en)).setCell ⟨B, o + 5, none⟩ (.int .i64 x.ln.g)).setCell ⟨B, o + 6, none⟩ (.int .i64 x.ln.p)).setCell ⟨B, o + 7, none⟩ (.string x.s)
theorem CB.put8 {W : World} {B : Nat} {t : TypeId} {a0 a1 a2 a3 a4 a5 a6 a7 : Value} (h : CB W B t #[a0, a1, a2, a3, a4, a5, a6, a7]) (v0 v1 v2 v3 v4 v5 v6 v7 : Value) :
    CB ((((((((W.setCell ⟨B, 0, none⟩ v0).setCell ⟨B, 1, none⟩ v1).setCell ⟨B, 2, none⟩ v2).setCell ⟨B, 3, none⟩ v3).setCell ⟨B, 4, none⟩ v4).setCell ⟨B, 5, none⟩ v5).setCell ⟨B, 6, none⟩ v6).setCell ⟨B, 7, none⟩ v7) B t #[v0, v1, v2, v3, v4, v5, v6, v7] := by
  have := ((((((((h.set 0 v0).set 1 v1).set 2 v2).set 3 v3).set 4 v4).set 5 v5).set 6 v6).set 7 v7)
  simpa only [List.setIfInBounds_toArray, List.set_cons_zero, List.set_cons_succ] using this
theorem CB.putE {W : World} {B : Nat} {t : TypeId} {y : En} (h : CB W B t y.ca) (x : En) : CB (setE W B 0 x) B t x.ca := h.put8 _ _ _ _ _ _ _ _
theorem below_putE {n : Nat} {w W : World} (h : Below n w W) {B o : Nat} (hb : n ≤ B) (x : En) : Below n w (setE W B o x) :=
  below_set (below_set (below_set (below_set (below_set (below_set (below_set (below_set h hb _) hb _) hb _) hb _) hb _) hb _) hb _) hb _
theorem CB.drewN {W : World} {B : Nat} {t : TypeId} {cs : Array Value} (h : CB W B t cs) (m : Nat) : CB (W.drewN m) B t cs := h

set_option maxHeartbeats 1000000 in
theorem get_no {b g cap : Nat} {f : Int} {es : List En} {id : Int} {w : World} (h : BkAt w b g cap f es) (hf : Fit f es.length) (hi' : Int64 id) (hn : hasB f es.length id = false) :
    Calls Try.prog 19 #[.pointer (some ⟨b, 0, none⟩), .int .i64 id] w fun e w' => e = .returned (.tuple #[En.zero.v, .int .i64 90]) ∧ Below w.heap.size w w' := by
  have HC := hi (fun W (hW : Below w.heap.size w W) => has_any (h.below hW) hf hi')
  rw [hn] at HC
  clear h hf hi' hn
  go_enter Try.func19, Try.ntmps19
  go_wp2_with (go_at_call 17; ((with_reducible refine (HC.out _ (bal _ _)).mono ?_); rintro e w1 ⟨rfl, m, rfl⟩))
  exact bodyPost_ret (results_ent rfl _ _ w.heap.size En.zero _ rfl rfl (CB.putE (y := En.zero) (CB.drewN (CB.new _ _ _) _) En.zero)) rfl ⟨rfl, below_putE (Below.drewN (bal w _)) (Nat.le_refl _) En.zero⟩

set_option maxHeartbeats 1000000 in
theorem get_yes {b g cap k : Nat} {f : Int} {es : List En} {x : En} {w : World} (h : BkAt w b g cap f es) (hf : Fit f es.length) (hk : es[k]? = some x) :
    Calls Try.prog 19 #[.pointer (some ⟨b, 0, none⟩), .int .i64 (f + k)] w fun e w' => e = .returned (.tuple #[x.v, .int .i64 0]) ∧ Below w.heap.size w w' := by
  have hkl : k < es.length := (List.getElem?_eq_some_iff.1 hk).1
  have h64 : Int64 (f + k) := by have := hf.f0; have := hf.s1; constructor <;> omega
  have HC := hi (fun W (hW : Below w.heap.size w W) => has_any (h.below hW) hf h64)
  rw [show hasB f es.length (f + k) = true by rw [hasB_iff]; omega] at HC
  have hw : IntKind.i64.wrap (f + k - f) = k := by rw [IntKind.wrap_i64]; have := hf.n1; omega
  have c0 := h.box.cell 0
  have c1 := h.box.cell 1
  obtain ⟨e0, e1, e2, e3, e4, e5, e6, e7⟩ := h.row.ent hk
  obtain ⟨n, hn⟩ : ∃ n, es.length = n := ⟨_, rfl⟩
  rw [hn] at c1 hkl
  have hbl := h.box.lt
  have hgl := h.row.lt
  clear h hf hn h64
  obtain ⟨⟨⟨e, l, q, a⟩, en, gr, p⟩, s⟩ := x
  dsimp only at e0 e1 e2 e3 e4 e5 e6 e7
  go_enter Try.func19, Try.ntmps19
  go_wp2_with (go_at_call 17; ((with_reducible refine (HC.out _ (bal _ _)).mono ?_); rintro e w1 ⟨rfl, m, rfl⟩))
  go_region
  go_wp2
  exact bodyPost_ret (results_ent rfl _ _ w.heap.size ⟨⟨⟨e, l, q, a⟩, en, gr, p⟩, s⟩ _ rfl rfl (CB.putE (y := En.zero) (CB.drewN (CB.new _ _ _) _) ⟨⟨⟨e, l, q, a⟩, en, gr, p⟩, s⟩)) rfl ⟨rfl, below_putE (Below.drewN (bal w _)) (Nat.le_refl _) ⟨⟨⟨e, l, q, a⟩, en, gr, p⟩, s⟩⟩

end Go.Proofs.Ytjgamfonpagkbaa
