/-
  The document's bank in memory: At, Put, Do.
-/
import Derived.Test.YtjgamfonpagkbaaBnkF
import Derived.Deep.RegionHeld3
namespace Go.Proofs.Ytjgamfonpagkbaa
open Go.ChangeShapes Go.WideShapes Go.ChangeAt Go.RowKit
set_option linter.unusedVariables false

/-- The document's bank in block b: its lines in block lg, its texts in block xg. -/
structure RfAt (W : World) (b lg xg : Nat) (la xa : Option Addr) (lc xc : Nat) (f : Int) (es : List En) : Prop where
  box : CB W b 74 #[.int .i64 f, .slice la es.length lc, .slice xa es.length xc]
  ne0 : es ≠ [] → la = some ⟨lg, 0, none⟩ ∧ xa = some ⟨xg, 0, none⟩ ∧ Row W lg 52 (flL es) ∧ Row W xg 9 (flX es) ∧ b ≠ lg ∧ b ≠ xg ∧ lg ≠ xg
section
variable {W W' : World} {b lg xg : Nat} {la xa : Option Addr} {lc xc : Nat} {f : Int} {es : List En}
theorem RfAt.below (h : RfAt W b lg xg la xa lc xc f es) (k : Below W.heap.size W W') : RfAt W' b lg xg la xa lc xc f es :=
  ⟨h.box.below k, fun hne => by obtain ⟨h1, h2, h3, h4, h5⟩ := h.ne0 hne; exact ⟨h1, h2, h3.below k, h4.below k, h5⟩⟩
theorem RfAt.kept (h : RfAt W b lg xg la xa lc xc f es) {bs : Nat → Prop} (k : Kept bs W W') (hb : ¬ bs b) (hl : es ≠ [] → ¬ bs lg ∧ ¬ bs xg) : RfAt W' b lg xg la xa lc xc f es :=
  ⟨h.box.heap (k.block b h.box.lt hb), fun hne => by obtain ⟨h1, h2, h3, h4, h5⟩ := h.ne0 hne; exact ⟨h1, h2, h3.kept k (hl hne).1, h4.kept k (hl hne).2, h5⟩⟩
theorem RfAt.drew (h : RfAt W b lg xg la xa lc xc f es) : RfAt W.drew b lg xg la xa lc xc f es := ⟨h.box, h.ne0⟩
end
theorem set_ne {es : List En} {k : Nat} {y : En} (h : k < es.length) : es.set k y ≠ [] := fun e => by
  have h1 := congrArg List.length e
  rw [List.length_set, List.length_nil] at h1
  omega
/-- One line's cells. -/
structure LnC (W : World) (g o : Nat) (x : Ln) : Prop where
  c0 : W.cell? ⟨g, o, none⟩ = some (.bool x.st.e)
  c1 : W.cell? ⟨g, o + 1, none⟩ = some (.bool x.st.l)
  c2 : W.cell? ⟨g, o + 2, none⟩ = some (.bool x.st.h)
  c3 : W.cell? ⟨g, o + 3, none⟩ = some (.bool x.st.a)
  c4 : W.cell? ⟨g, o + 4, none⟩ = some (.bool x.en)
  c5 : W.cell? ⟨g, o + 5, none⟩ = some (.int .i64 x.g)
  c6 : W.cell? ⟨g, o + 6, none⟩ = some (.int .i64 x.p)
theorem Row.lnc {W : World} {g : Nat} {t : TypeId} {es : List En} (h : Row W g t (flL es)) {k : Nat} {x : En} (hk : es[k]? = some x) : LnC W g (k * 7) x.ln := by
  have hl : k < es.length := (List.getElem?_eq_some_iff.1 hk).1
  have K : ∀ c u, c < 7 → x.ln.cs[c]? = some u → W.cell? ⟨g, k * 7 + c, none⟩ = some u := fun c u hc hu => by
    rw [h.cell (by rw [flL_len]; omega), flat_get (fun x : En => ln_len x.ln) es k c x hc hk]
    exact hu
  exact ⟨K 0 _ (by decide) rfl, K 1 _ (by decide) rfl, K 2 _ (by decide) rfl, K 3 _ (by decide) rfl, K 4 _ (by decide) rfl, K 5 _ (by decide) rfl, K 6 _ (by decide) rfl⟩
theorem Row.txt {W : World} {g : Nat} {t : TypeId} {es : List En} (h : Row W g t (flX es)) {k : Nat} {x : En} (hk : es[k]? = some x) : W.cell? ⟨g, k, none⟩ = some (.string x.s) := by
  have hl : k < es.length := (List.getElem?_eq_some_iff.1 hk).1
  have h1 := flat_get (enc := fun x : En => [Value.string x.s]) (m := 1) (fun _ => rfl) es k 0 x (by omega) hk
  rw [h.cell (by rw [flX_len]; exact hl)]
  simpa using h1
theorem Row.lnThere {W : World} {g : Nat} {t : TypeId} {es : List En} (h : Row W g t (flL es)) {k : Nat} (hk : k < es.length) : W.there g (k * 7) 7 := h.there (by rw [flL_len]; omega)
theorem LnC.heap {W W' : World} {g o : Nat} {x : Ln} (h : LnC W g o x) (e : W'.heap[g]? = W.heap[g]?) : LnC W' g o x :=
  ⟨(World.cell?_of_block (w := W) (a := ⟨g, o, none⟩) e).trans h.c0, (World.cell?_of_block (w := W) (a := ⟨g, o + 1, none⟩) e).trans h.c1, (World.cell?_of_block (w := W) (a := ⟨g, o + 2, none⟩) e).trans h.c2,
   (World.cell?_of_block (w := W) (a := ⟨g, o + 3, none⟩) e).trans h.c3, (World.cell?_of_block (w := W) (a := ⟨g, o + 4, none⟩) e).trans h.c4, (World.cell?_of_block (w := W) (a := ⟨g, o + 5, none⟩) e).trans h.c5,
   (World.cell?_of_block (w := W) (a := ⟨g, o + 6, none⟩) e).trans h.c6⟩
abbrev Ln.ca (x : Ln) : Array Value := #[.bool x.st.e, .bool x.st.l, .bool x.st.h, .bool x.st.a, .bool x.en, .int .i64 x.g, .int .i64 x.p]
theorem CB.lnc {W : World} {B : Nat} {t : TypeId} {x : Ln} (h : CB W B t x.ca) : LnC W B 0 x := ⟨h.cell 0, h.cell 1, h.cell 2, h.cell 3, h.cell 4, h.cell 5, h.cell 6⟩

/-! ### At -/
def atI (f : Int) (n : Nat) (id : Int) : Int := if hasB f n id then id - f else -1
theorem atI_at {f : Int} {n k : Nat} (h : k < n) : atI f n (f + k) = k := by
  have : hasB f n (f + k) = true := by rw [hasB_iff]; omega
  rw [atI, if_pos this]; omega
theorem atI_no {f : Int} {n : Nat} {id : Int} (h : hasB f n id = false) : atI f n id = -1 := by simp [atI, h]
set_option maxHeartbeats 1000000 in
theorem at_any {b lg xg : Nat} {la xa : Option Addr} {lc xc : Nat} {f : Int} {es : List En} {id : Int} {w : World} (h : RfAt w b lg xg la xa lc xc f es) (hf : Fit f es.length) :
    Calls Try.prog 34 #[.pointer (some ⟨b, 0, none⟩), .int .i64 id] w fun e w' => e = .returned (.int .i64 (atI f es.length id)) ∧ w = w' := by
  have c0 := h.box.cell 0
  have c1 := h.box.cell 1
  have f0 := hf.f0
  have hn1 := hf.n1
  have hs1 := hf.s1
  obtain ⟨n, hn⟩ : ∃ n, es.length = n := ⟨_, rfl⟩
  rw [hn] at c1 hn1 hs1 ⊢
  clear h hf hn
  go_enter Try.func34, Try.ntmps34
  go_wp2
  go_loop [5] (fun i => ∃ k : Nat, k ≤ n ∧ i = .int .i64 k ∧ Hi (¬ (f ≤ id ∧ id < f + k))) (fun i => n - (intOf i).toNat)
  case atStart => exact ⟨0, Nat.zero_le _, rfl, hi (by omega)⟩
  case round =>
    obtain ⟨k, hk, rfl, HX⟩ := hrel
    by_cases hlt : k < n
    · have hw : IntKind.i64.wrap (f + k) = f + k := by rw [IntKind.wrap_i64]; omega
      by_cases he : f + k = id
      · have hq : (f + (k : Int) == id) = true := by simpa using he
        have hr := atI_at (f := f) hlt
        rw [he] at hr
        have HR := hi hr
        clear hr he
        go_wp2
        go_ret
        exact ⟨by rw [HR.out]; rfl, rfl⟩
      · have hq : (f + (k : Int) == id) = false := by simpa using he
        have HE := hi he
        clear he
        go_wp2
        go_round
        case rel => exact ⟨k + 1, by omega, by go_num, hi (by have := HX.out; have := HE.out; omega)⟩
        case measure => simp only [intOf]; omega
    · obtain rfl : k = n := by omega
      have hr : atI f k id = -1 := by
        refine atI_no ?_
        cases hb : hasB f k id
        · rfl
        · rw [hasB_iff] at hb; exact absurd hb HX.out
      have HR := hi hr
      clear hr
      go_wp2
      go_ret
      exact ⟨by rw [HR.out]; rfl, rfl⟩

/-! ### What a store leaves -/
structure RfAfter (w : World) (b lg xg : Nat) (la xa : Option Addr) (lc xc : Nat) (f : Int) (es : List En) (W : World) : Prop where
  rf : RfAt W b lg xg la xa lc xc f es
  kept : Kept (fun i => es ≠ [] ∧ (i = lg ∨ i = xg)) w W
section
variable {W w : World} {b lg xg : Nat} {la xa : Option Addr} {lc xc : Nat} {f : Int} {es : List En}
theorem RfAfter.of (h : RfAt w b lg xg la xa lc xc f es) (k : Below w.heap.size w W) : RfAfter w b lg xg la xa lc xc f es W := ⟨h.below k, Kept.of k⟩
theorem RfAt.setLn (h : RfAt W b lg xg la xa lc xc f es) {k : Nat} {x : En} (hk : es[k]? = some x) (y : Ln) : RfAt (W.setCells lg (k * 7) y.cs) b lg xg la xa lc xc f (es.set k ⟨y, x.s⟩) := by
  have hl : k < es.length := (List.getElem?_eq_some_iff.1 hk).1
  obtain ⟨h1, h2, h3, h4, h5, h6, h7⟩ := h.ne0 (fun e => by rw [e] at hl; simp at hl)
  refine ⟨by rw [List.length_set]; exact h.box.heap (heap_sets h5 _ _ _), fun _ => ⟨h1, h2, ?_, ?_, h5, h6, h7⟩⟩
  · have g1 := h3.sets y.cs (k * 7) (by rw [flL_len, ln_len]; omega)
    have g2 := flat_set (fun x : En => ln_len x.ln) es k 0 x ⟨y, x.s⟩ y.cs hk (by rw [ln_len]; omega) (splice_all x.ln.cs y.cs rfl).symm
    rw [Nat.add_zero] at g2
    rwa [g2] at g1
  · have g1 := h4.heap (heap_sets (b := lg) (i := xg) (Ne.symm h7) y.cs (k * 7) W)
    have e : flX (es.set k ⟨y, x.s⟩) = flX es := by
      have g2 := flat_set (enc := fun x : En => [Value.string x.s]) (m := 1) (fun _ => rfl) es k 0 x ⟨y, x.s⟩ [.string x.s] hk (by simp) (splice_all _ _ rfl).symm
      have g3 := flat_set (enc := fun x : En => [Value.string x.s]) (m := 1) (fun _ => rfl) es k 0 x x [.string x.s] hk (by simp) (splice_all _ _ rfl).symm
      rw [flX, ← g2, g3]
      congr 1
      apply List.ext_getElem?
      intro i
      by_cases hi' : k = i
      · subst hi'; rw [List.getElem?_set_self hl, hk]
      · rw [List.getElem?_set_ne hi']
    rw [e]
    exact g1
theorem RfAt.setTxt (h : RfAt W b lg xg la xa lc xc f es) {k : Nat} {x : En} (hk : es[k]? = some x) (s : ByteArray) : RfAt (W.setCell ⟨xg, k, none⟩ (.string s)) b lg xg la xa lc xc f (es.set k ⟨x.ln, s⟩) := by
  have hl : k < es.length := (List.getElem?_eq_some_iff.1 hk).1
  obtain ⟨h1, h2, h3, h4, h5, h6, h7⟩ := h.ne0 (fun e => by rw [e] at hl; simp at hl)
  refine ⟨by rw [List.length_set]; exact h.box.other _ _ _ h6, fun _ => ⟨h1, h2, ?_, ?_, h5, h6, h7⟩⟩
  · have g1 := h3.heap (Below.heap_setCell W ⟨xg, k, none⟩ (.string s) lg h7)
    have e : flL (es.set k ⟨x.ln, s⟩) = flL es := by
      have g2 := flat_set (fun x : En => ln_len x.ln) es k 0 x ⟨x.ln, s⟩ x.ln.cs hk (by rw [ln_len]; omega) (splice_all _ _ rfl).symm
      have g3 := flat_set (fun x : En => ln_len x.ln) es k 0 x x x.ln.cs hk (by rw [ln_len]; omega) (splice_all _ _ rfl).symm
      rw [flL, ← g2, g3]
      congr 1
      apply List.ext_getElem?
      intro i
      by_cases hi' : k = i
      · subst hi'; rw [List.getElem?_set_self hl, hk]
      · rw [List.getElem?_set_ne hi']
    rw [e]
    exact g1
  · have g1 := h4.sets [.string s] k (by rw [flX_len]; simp; omega)
    have g2 := flat_set (enc := fun x : En => [Value.string x.s]) (m := 1) (fun _ => rfl) es k 0 x ⟨x.ln, s⟩ [.string s] hk (by simp) (splice_all _ _ rfl).symm
    rw [Nat.mul_one, Nat.add_zero] at g2
    rwa [g2] at g1
theorem RfAt.setIrq (h : RfAt W b lg xg la xa lc xc f es) {k : Nat} {x : En} (hk : es[k]? = some x) (y : St) : RfAt (W.setCells lg (k * 7) [.bool y.e, .bool y.l, .bool y.h, .bool y.a]) b lg xg la xa lc xc f (es.set k ⟨{ x.ln with st := y }, x.s⟩) := by
  have hl : k < es.length := (List.getElem?_eq_some_iff.1 hk).1
  obtain ⟨h1, h2, h3, h4, h5, h6, h7⟩ := h.ne0 (fun e => by rw [e] at hl; simp at hl)
  have hS := h.setLn hk { x.ln with st := y }
  obtain ⟨_, _, _, h4', _⟩ := hS.ne0 (set_ne hl)
  refine ⟨by rw [List.length_set]; exact h.box.heap (heap_sets h5 _ _ _), fun _ => ⟨h1, h2, ?_, ?_, h5, h6, h7⟩⟩
  · have g1 := h3.sets [.bool y.e, .bool y.l, .bool y.h, .bool y.a] (k * 7) (by rw [flL_len]; simp; omega)
    have g2 := flat_set (fun x : En => ln_len x.ln) es k 0 x ⟨{ x.ln with st := y }, x.s⟩ [.bool y.e, .bool y.l, .bool y.h, .bool y.a] hk (by simp) rfl
    rw [Nat.add_zero] at g2
    rwa [g2] at g1
  · exact h4'.heap ((heap_sets (b := lg) (i := xg) (Ne.symm h7) _ _ W).trans (heap_sets (b := lg) (i := xg) (Ne.symm h7) _ _ W).symm)
end

/-! ### Put -/
theorem rput_no_at {f : Int} {n : Nat} {id : Int} (h : hasB f n id = false) : atI f n id = -1 := atI_no h
theorem okB_cases (g p : Int) (st : St) (en : Bool) (h : Ln.okB ⟨st, en, g, p⟩ = false) : (g ≠ 0 ∧ g ≠ 1) ∨ ((g = 0 ∨ g = 1) ∧ p < 0) ∨ ((g = 0 ∨ g = 1) ∧ 0 ≤ p ∧ 255 < p) := by
  simp [Ln.okB] at h
  omega
theorem okB_true (g p : Int) (st : St) (en : Bool) (h : Ln.okB ⟨st, en, g, p⟩ = true) : (g = 0 ∨ g = 1) ∧ 0 ≤ p ∧ p ≤ 255 := by
  simp [Ln.okB] at h
  omega
theorem CB.ln7 {W : World} {B : Nat} {t : TypeId} {x : Ln} (h : CB W B t x.ca) (p : Int) : CB (W.setCell ⟨B, 6, none⟩ (.int .i64 p)) B t (Ln.ca { x with p := p }) := by
  have := h.set 6 (.int .i64 p)
  simpa only [List.setIfInBounds_toArray, List.set_cons_zero, List.set_cons_succ] using this
/-- What the region that stores the line reads. -/
structure PR (b lg bx n lc k : Nat) (xv : Value) (x : Ln) (W : World) : Prop where
  c1 : W.cell? ⟨b, 1, none⟩ = some (.slice (some ⟨lg, 0, none⟩) n lc)
  c2 : W.cell? ⟨b, 2, none⟩ = some xv
  ln : LnC W bx 0 x
  th : W.there lg (k * 7) 7
theorem PR.sets {b lg bx n lc k : Nat} {xv : Value} {x : Ln} {W : World} (h : PR b lg bx n lc k xv x W) (hb : b ≠ lg) (hx : bx ≠ lg) (o : Nat) (vs : List Value) : PR b lg bx n lc k xv x (W.setCells lg o vs) :=
  ⟨(World.cell?_of_block (w := W) (a := ⟨b, 1, none⟩) (heap_sets hb vs o W)).trans h.c1, (World.cell?_of_block (w := W) (a := ⟨b, 2, none⟩) (heap_sets hb vs o W)).trans h.c2, h.ln.heap (heap_sets hx vs o W), World.there_setCells h.th _ _ _⟩

end Go.Proofs.Ytjgamfonpagkbaa
