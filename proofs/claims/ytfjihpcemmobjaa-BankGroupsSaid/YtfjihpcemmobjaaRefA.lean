/-
  The document's bank in memory: At, Put, Do.
-/
import Derived.Test.YtfjihpcemmobjaaBnkF
import Derived.Deep.RegionHeld3
namespace Go.Proofs.Ytfjihpcemmobjaa
open Go.ChangeShapes Go.WideShapes Go.ChangeAt Go.RowKit
set_option linter.unusedVariables false

/-- The document's bank in block b: its lines in block lg, its texts in block xg. -/
structure RfAt (W : World) (b lg xg : Nat) (la xa : Option Addr) (lc xc : Nat) (f : Int) (es : List En) : Prop where
  box : CB W b 82 #[.int .i64 f, .slice la es.length lc, .slice xa es.length xc]
  ne0 : es ≠ [] → la = some ⟨lg, 0, none⟩ ∧ xa = some ⟨xg, 0, none⟩ ∧ Row W lg 32 (flL es) ∧ Row W xg 9 (flX es) ∧ b ≠ lg ∧ b ≠ xg ∧ lg ≠ xg
section
variable {W W' : World} {b lg xg : Nat} {la xa : Option Addr} {lc xc : Nat} {f : Int} {es : List En}
theorem RfAt.below (h : RfAt W b lg xg la xa lc xc f es) (k : Below W.heap.size W W') : RfAt W' b lg xg la xa lc xc f es :=
  ⟨h.box.below k, fun hne => by obtain ⟨h1, h2, h3, h4, h5⟩ := h.ne0 hne; exact ⟨h1, h2, h3.below k, h4.below k, h5⟩⟩
theorem RfAt.kept (h : RfAt W b lg xg la xa lc xc f es) {bs : Nat → Prop} (k : Kept bs W W') (hb : ¬ bs b) (hl : es ≠ [] → ¬ bs lg ∧ ¬ bs xg) : RfAt W' b lg xg la xa lc xc f es :=
  ⟨h.box.heap (k.block b h.box.lt hb), fun hne => by obtain ⟨h1, h2, h3, h4, h5⟩ := h.ne0 hne; exact ⟨h1, h2, h3.kept k (hl hne).1, h4.kept k (hl hne).2, h5⟩⟩
theorem RfAt.drew (h : RfAt W b lg xg la xa lc xc f es) : RfAt W.drew b lg xg la xa lc xc f es := ⟨h.box, h.ne0⟩
end
theorem set_ne {es : List En} {k : Nat} {y : En} (h : k < es.length) : es.set k y ≠ [] := fun e => by
  have h1 := congrArg List.length e
  rw [List.length_set, List.length_nil] at h1
  omega
/-- One line's cells. -/
structure LnC (W : World) (g o : Nat) (x : Ln) : Prop where
  c0 : W.cell? ⟨g, o, none⟩ = some (.bool x.st.e)
  c1 : W.cell? ⟨g, o + 1, none⟩ = some (.bool x.st.l)
  c2 : W.cell? ⟨g, o + 2, none⟩ = some (.bool x.st.h)
  c3 : W.cell? ⟨g, o + 3, none⟩ = some (.bool x.st.a)
  c4 : W.cell? ⟨g, o + 4, none⟩ = some (.bool x.en)
  c5 : W.cell? ⟨g, o + 5, none⟩ = some (.int .i64 x.g)
  c6 : W.cell? ⟨g, o + 6, none⟩ = some (.int .i64 x.p)
theorem Row.lnc {W : World} {g : Nat} {t : TypeId} {es : List En} (h : Row W g t (flL es)) {k : Nat} {x : En} (hk : es[k]? = some x) : LnC W g (k * 7) x.ln := by
  have hl : k < es.length := (List.getElem?_eq_some_iff.1 hk).1
  have K : ∀ c u, c < 7 → x.ln.cs[c]? = some u → W.cell? ⟨g, k * 7 + c, none⟩ = some u := fun c u hc hu => by
    rw [h.cell (by rw [flL_len]; omega), flat_get (fun x : En => ln_len x.ln) es k c x hc hk]
    exact hu
  exact ⟨K 0 _ (by decide) rfl, K 1 _ (by decide) rfl, K 2 _ (by decide) rfl, K 3 _ (by decide) rfl, K 4 _ (by decide) rfl, K 5 _ (by decide) rfl, K 6 _ (by decide) rfl⟩
theorem Row.txt {W : World} {g : Nat} {t : TypeId} {es : List En} (h : Row W g t (flX es)) {k : Nat} {x : En} (hk : es[k]? = some x) : W.cell? ⟨g, k, none⟩ = some (.string x.s) := by
  have hl : k < es.length := (List.getElem?_eq_some_iff.1 hk).1
  have h1 := flat_get (enc := fun x : En => [Value.string x.s]) (m := 1) (fun _ => rfl) es k 0 x (by omega) hk
  rw [h.cell (by rw [flX_len]; exact hl)]
  simpa using h1
theorem Row.lnThere {W : World} {g : Nat} {t : TypeId} {es : List En} (h : Row W g t (flL es)) {k : Nat} (hk : k < es.length) : W.there g (k * 7) 7 := h.there (by rw [flL_len]; omega)
theorem LnC.heap {W W' : World} {g o : Nat} {x : Ln} (h : LnC W g o x) (e : W'.heap[g]? = W.heap[g]?) : LnC W' g o x :=
  ⟨(World.cell?_of_block (w := W) (a := ⟨g, o, none⟩) e).trans h.c0, (World.cell?_of_block (w := W) (a := ⟨g, o + 1, none⟩) e).trans h.c1, (World.cell?_of_block (w := W) (a := ⟨g, o + 2, none⟩) e).trans h.c2,
   (World.cell?_of_block (w := W) (a := ⟨g, o + 3, none⟩) e).trans h.c3, (World.cell?_of_block (w := W) (a := ⟨g, o + 4, none⟩) e).trans h.c4, (World.cell?_of_block (w := W) (a := ⟨g, o + 5, none⟩) e).trans h.c5,
   (World.cell?_of_block (w := W) (a := ⟨g, o + 6, none⟩) e).trans h.c6⟩
abbrev Ln.ca (x : Ln) : Array Value := #[.bool x.st.e, .bool x.st.l, .bool x.st.h, .bool x.st.a, .bool x.en, .int .i64 x.g, .int .i64 x.p]
theorem CB.lnc {W : World} {B : Nat} {t : TypeId} {x : Ln} (h : CB W B t x.ca) : LnC W B 0 x := ⟨h.cell 0, h.cell 1, h.cell 2, h.cell 3, h.cell 4, h.cell 5, h.cell 6⟩

/-! ### At -/
def atI (f : Int) (n : Nat) (id : Int) : Int := if hasB f n id then id - f else -1
theorem atI_at {f : Int} {n k : Nat} (h : k < n) : atI f n (f + k) = k := by
  have : hasB f n (f + k) = true := by rw [hasB_iff]; omega
  rw [atI, if_pos this]; omega
theorem atI_no {f : Int} {n : Nat} {id : Int} (h : hasB f n id = false) : atI f n id = -1 := by simp [atI, h]
set_option maxHeartbeats 1000000 in
theorem at_any {b lg xg : Nat} {la xa : Option Addr} {lc xc : Nat} {f : Int} {es : List En} {id : Int} {w : World} (h : RfAt w b lg xg la xa lc xc f es) (hf : Fit f es.length) :
    Calls Try.prog 17 #[.pointer (some ⟨b, 0, none⟩), .int .i64 id] w fun e w' => e = .returned (.int .i64 (atI f es.length id)) ∧ w = w' := by
  have c0 := h.box.cell 0
  have c1 := h.box.cell 1
  have f0 := hf.f0
  have hn1 := hf.n1
  have hs1 := hf.s1
  obtain ⟨n, hn⟩ : ∃ n, es.length = n := ⟨_, rfl⟩
  rw [hn] at c1 hn1 hs1 ⊢
  clear h hf hn
  go_enter Try.func17, Try.ntmps17
  go_wp2
  go_loop [5] (fun i => ∃ k : Nat, k ≤ n ∧ i = .int .i64 k ∧ Hi (¬ (f ≤ id ∧ id < f + k))) (fun i => n - (intOf i).toNat)
  case atStart => exact ⟨0, Nat.zero_le _, rfl, hi (by omega)⟩
  case round =>
    obtain ⟨k, hk, rfl, HX⟩ := hrel
    by_cases hlt : k < n
    · have hw : IntKind.i64.wrap (f + k) = f + k := by rw [IntKind.wrap_i64]; omega
      by_cases he : f + k = id
      · have hq : (f + (k : Int) == id) = true := by simpa using he
        have hr := atI_at (f := f) hlt
        rw [he] at hr
        have HR := hi hr
        clear hr he
        go_wp2
        go_ret
        exact ⟨by rw [HR.out]; rfl, rfl⟩
      · have hq : (f + (k : Int) == id) = false := by simpa using he
        have HE := hi he
        clear he
        go_wp2
        go_round
        case rel => exact ⟨k + 1, by omega, by go_num, hi (by have := HX.out; have := HE.out; omega)⟩
        case measure => simp only [intOf]; omega
    · obtain rfl : k = n := by omega
      have hr : atI f k id = -1 := by
        refine atI_no ?_
        cases hb : hasB f k id
        · rfl
        · rw [hasB_iff] at hb; exact absurd hb HX.out
      have HR := hi hr
      clear hr
      go_wp2
      go_ret
      exact ⟨by rw [HR.out]; rfl, rfl⟩

/-! ### What a store leaves -/
structure RfAfter (w : World) (b lg xg : Nat) (la xa : Option Addr) (lc xc : Nat) (f : Int) (es : List En) (W : World) : Prop where
  rf : RfAt W b lg xg la xa lc xc f es
  kept : Kept (fun i => es ≠ [] ∧ (i = lg ∨ i = xg)) w W
section
variable {W w : World} {b lg xg : Nat} {la xa : Option Addr} {lc xc : Nat} {f : Int} {es : List En}
theorem RfAfter.of (h : RfAt w b lg xg la xa lc xc f es) (k : Below w.heap.size w W) : RfAfter w b lg xg la xa lc xc f es W := ⟨h.below k, Kept.of k⟩
theorem RfAt.setLn (h : RfAt W b lg xg la xa lc xc f es) {k : Nat} {x : En} (hk : es[k]? = some x) (y : Ln) : RfAt (W.setCells lg (k * 7) y.cs) b lg xg la xa lc xc f (es.set k ⟨y, x.s⟩) := by
  have hl : k < es.length := (List.getElem?_eq_some_iff.1 hk).1
  obtain ⟨h1, h2, h3, h4, h5, h6, h7⟩ := h.ne0 (fun e => by rw [e] at hl; simp at hl)
  refine ⟨by rw [List.length_set]; exact h.box.heap (heap_sets h5 _ _ _), fun _ => ⟨h1, h2, ?_, ?_, h5, h6, h7⟩⟩
  · have g1 := h3.sets y.cs (k * 7) (by rw [flL_len, ln_len]; omega)
    have g2 := flat_set (fun x : En => ln_len x.ln) es k 0 x ⟨y, x.s⟩ y.cs hk (by rw [ln_len]; omega) (splice_all x.ln.cs y.cs rfl).symm
    rw [Nat.add_zero] at g2
    rwa [g2] at g1
  · have g1 := h4.heap (heap_sets (b := lg) (i := xg) (Ne.symm h7) y.cs (k * 7) W)
    have e : flX (es.set k ⟨y, x.s⟩) = flX es := by
      have g2 := flat_set (enc := fun x : En => [Value.string x.s]) (m := 1) (fun _ => rfl) es k 0 x ⟨y, x.s⟩ [.string x.s] hk (by simp) (splice_all _ _ rfl).symm
      have g3 := flat_set (enc := fun x : En => [Value.string x.s]) (m := 1) (fun _ => rfl) es k 0 x x [.string x.s] hk (by simp) (splice_all _ _ rfl).symm
      rw [flX, ← g2, g3]
      congr 1
      apply List.ext_getElem?
      intro i
      by_cases hi' : k = i
      · subst hi'; rw [List.getElem?_set_self hl, hk]
      · rw [List.getElem?_set_ne hi']
    rw [e]
    exact g1
theorem RfAt.setTxt (h : RfAt W b lg xg la xa lc xc f es) {k : Nat} {x : En} (hk : es[k]? = some x) (s : ByteArray) : RfAt (W.setCell ⟨xg, k, none⟩ (.string s)) b lg xg la xa lc xc f (es.set k ⟨x.ln, s⟩) := by
  have hl : k < es.length := (List.getElem?_eq_some_iff.1 hk).1
  obtain ⟨h1, h2, h3, h4, h5, h6, h7⟩ := h.ne0 (fun e => by rw [e] at hl; simp at hl)
  refine ⟨by rw [List.length_set]; exact h.box.other _ _ _ h6, fun _ => ⟨h1, h2, ?_, ?_, h5, h6, h7⟩⟩
  · have g1 := h3.heap (Below.heap_setCell W ⟨xg, k, none⟩ (.string s) lg h7)
    have e : flL (es.set k ⟨x.ln, s⟩) = flL es := by
      have g2 := flat_set (fun x : En => ln_len x.ln) es k 0 x ⟨x.ln, s⟩ x.ln.cs hk (by rw [ln_len]; omega) (splice_all _ _ rfl).symm
      have g3 := flat_set (fun x : En => ln_len x.ln) es k 0 x x x.ln.cs hk (by rw [ln_len]; omega) (splice_all _ _ rfl).symm
      rw [flL, ← g2, g3]
      congr 1
      apply List.ext_getElem?
      intro i
      by_cases hi' : k = i
      · subst hi'; rw [List.getElem?_set_self hl, hk]
      · rw [List.getElem?_set_ne hi']
    rw [e]
    exact g1
  · have g1 := h4.sets [.string s] k (by rw [flX_len]; simp; omega)
    have g2 := flat_set (enc := fun x : En => [Value.string x.s]) (m := 1) (fun _ => rfl) es k 0 x ⟨x.ln, s⟩ [.string s] hk (by simp) (splice_all _ _ rfl).symm
    rw [Nat.mul_one, Nat.add_zero] at g2
    rwa [g2] at g1
theorem RfAt.setIrq (h : RfAt W b lg xg la xa lc xc f es) {k : Nat} {x : En} (hk : es[k]? = some x) (y : St) : RfAt (W.setCells lg (k * 7) [.bool y.e, .bool y.l, .bool y.h, .bool y.a]) b lg xg la xa lc xc f (es.set k ⟨{ x.ln with st := y }, x.s⟩) := by
  have hl : k < es.length := (List.getElem?_eq_some_iff.1 hk).1
  obtain ⟨h1, h2, h3, h4, h5, h6, h7⟩ := h.ne0 (fun e => by rw [e] at hl; simp at hl)
  have hS := h.setLn hk { x.ln with st := y }
  obtain ⟨_, _, _, h4', _⟩ := hS.ne0 (set_ne hl)
  refine ⟨by rw [List.length_set]; exact h.box.heap (heap_sets h5 _ _ _), fun _ => ⟨h1, h2, ?_, ?_, h5, h6, h7⟩⟩
  · have g1 := h3.sets [.bool y.e, .bool y.l, .bool y.h, .bool y.a] (k * 7) (by rw [flL_len]; simp; omega)
    have g2 := flat_set (fun x : En => ln_len x.ln) es k 0 x ⟨{ x.ln with st := y }, x.s⟩ [.bool y.e, .bool y.l, .bool y.h, .bool y.a] hk (by simp) rfl
    rw [Nat.add_zero] at g2
    rwa [g2] at g1
  · exact h4'.heap ((heap_sets (b := lg) (i := xg) (Ne.symm h7) _ _ W).trans (heap_sets (b := lg) (i := xg) (Ne.symm h7) _ _ W).symm)
end

/-! ### Put -/
theorem rput_no_at {f : Int} {n : Nat} {id : Int} (h : hasB f n id = false) : atI f n id = -1 := atI_no h
set_option maxHeartbeats 1000000 in
theorem rput_no {b lg xg : Nat} {la xa : Option Addr} {lc xc : Nat} {f : Int} {es : List En} {id : Int} {x : En} {w : World} (h : RfAt w b lg xg la xa lc xc f es) (hf : Fit f es.length) (hn : hasB f es.length id = false) :
    Calls Try.prog 36 #[.pointer (some ⟨b, 0, none⟩), .int .i64 id, x.ln.v, .string x.s] w fun e w' => e = .returned (.int .i64 90) ∧ Below w.heap.size w w' := by
  have HC := hi (fun W (hW : Below w.heap.size w W) => at_any (id := id) (h.below hW) hf)
  rw [atI_no hn] at HC
  clear h hf hn
  go_enter Try.func36, Try.ntmps36
  go_wp2_with (go_at_call 17; ((with_reducible refine (HC.out _ (bal _ _)).mono ?_); rintro e w1 ⟨rfl, rfl⟩))
  go_ret
  exact ⟨rfl, bal w _⟩

theorem okB_cases (g p : Int) (st : St) (en : Bool) (h : Ln.okB ⟨st, en, g, p⟩ = false) : (g ≠ 0 ∧ g ≠ 1) ∨ ((g = 0 ∨ g = 1) ∧ p < 0) ∨ ((g = 0 ∨ g = 1) ∧ 0 ≤ p ∧ 255 < p) := by
  simp [Ln.okB] at h
  omega
theorem okB_true (g p : Int) (st : St) (en : Bool) (h : Ln.okB ⟨st, en, g, p⟩ = true) : (g = 0 ∨ g = 1) ∧ 0 ≤ p ∧ p ≤ 255 := by
  simp [Ln.okB] at h
  omega
set_option maxHeartbeats 2000000 in
theorem rput_bad {b lg xg k : Nat} {la xa : Option Addr} {lc xc : Nat} {f : Int} {es : List En} {x : En} {w : World} (h : RfAt w b lg xg la xa lc xc f es) (hf : Fit f es.length) (hk : k < es.length) (hx : x.ln.okB = false) :
    Calls Try.prog 36 #[.pointer (some ⟨b, 0, none⟩), .int .i64 (f + k), x.ln.v, .string x.s] w fun e w' => e = .returned (.int .i64 1) ∧ Below w.heap.size w w' := by
  have HC := hi (fun W (hW : Below w.heap.size w W) => at_any (id := f + k) (h.below hW) hf)
  rw [atI_at hk] at HC
  clear h hf hk
  obtain ⟨⟨⟨e, l, q, a⟩, en, gr, p⟩, s⟩ := x
  dsimp only [Ln.v]
  dsimp only at hx
  rcases okB_cases gr p _ _ hx with ⟨h0, h1⟩ | ⟨h0, h1⟩ | ⟨h0, h1, h2⟩
  · have q0 : (gr != 0) = true := by simpa using h0
    have q1 : (gr != 1) = true := by simpa using h1
    clear hx h0 h1
    go_enter Try.func36, Try.ntmps36
    go_wp2_with (go_at_call 17; ((with_reducible refine (HC.out _ (bal _ _)).mono ?_); rintro e w1 ⟨rfl, rfl⟩))
    go_ret
    exact ⟨rfl, bal w _⟩
  · have hd : decide (p < 0) = true := by simpa using h1
    clear hx
    rcases h0 with rfl | rfl
    all_goals
      go_enter Try.func36, Try.ntmps36
      go_wp2_with (go_at_call 17; ((with_reducible refine (HC.out _ (bal _ _)).mono ?_); rintro e w1 ⟨rfl, rfl⟩))
      go_ret
      exact ⟨rfl, bal w _⟩
  · have hd : decide (p < 0) = false := by simp; omega
    have hd2 : decide (255 < p) = true := by simpa using h2
    clear hx
    rcases h0 with rfl | rfl
    all_goals
      go_enter Try.func36, Try.ntmps36
      go_wp2_with (go_at_call 17; ((with_reducible refine (HC.out _ (bal _ _)).mono ?_); rintro e w1 ⟨rfl, rfl⟩))
      go_ret
      exact ⟨rfl, bal w _⟩

theorem CB.ln7 {W : World} {B : Nat} {t : TypeId} {x : Ln} (h : CB W B t x.ca) (p : Int) : CB (W.setCell ⟨B, 6, none⟩ (.int .i64 p)) B t (Ln.ca { x with p := p }) := by
  have := h.set 6 (.int .i64 p)
  simpa only [List.setIfInBounds_toArray, List.set_cons_zero, List.set_cons_succ] using this
/-- What the region that stores the line reads. -/
structure PR (b lg bx n lc k : Nat) (xv : Value) (x : Ln) (W : World) : Prop where
  c1 : W.cell? ⟨b, 1, none⟩ = some (.slice (some ⟨lg, 0, none⟩) n lc)
  c2 : W.cell? ⟨b, 2, none⟩ = some xv
  ln : LnC W bx 0 x
  th : W.there lg (k * 7) 7
theorem PR.sets {b lg bx n lc k : Nat} {xv : Value} {x : Ln} {W : World} (h : PR b lg bx n lc k xv x W) (hb : b ≠ lg) (hx : bx ≠ lg) (o : Nat) (vs : List Value) : PR b lg bx n lc k xv x (W.setCells lg o vs) :=
  ⟨(World.cell?_of_block (w := W) (a := ⟨b, 1, none⟩) (heap_sets hb vs o W)).trans h.c1, (World.cell?_of_block (w := W) (a := ⟨b, 2, none⟩) (heap_sets hb vs o W)).trans h.c2, h.ln.heap (heap_sets hx vs o W), World.there_setCells h.th _ _ _⟩

set_option maxRecDepth 100000 in
set_option maxHeartbeats 4000000 in
theorem rput_yes {b lg xg k : Nat} {la xa : Option Addr} {lc xc : Nat} {f : Int} {es : List En} {x : En} {w : World} (h : RfAt w b lg xg la xa lc xc f es) (hf : Fit f es.length) (hk : k < es.length) (hx : x.ln.okB = true) :
    Calls Try.prog 36 #[.pointer (some ⟨b, 0, none⟩), .int .i64 (f + k), x.ln.v, .string x.s] w fun e w' => e = .returned (.int .i64 0) ∧ RfAfter w b lg xg la xa lc xc f (es.set k x.real) w' := by
  have HC := hi (fun W (hW : Below w.heap.size w W) => at_any (id := f + k) (h.below hW) hf)
  rw [atI_at hk] at HC
  have HP := hi (fun W => refReal_any x.ln.p W)
  obtain ⟨hla, hxa, hlr, hxr, hblg, hbxg, hlxg⟩ := h.ne0 (fun e => by rw [e] at hk; simp at hk)
  have hlgl := hlr.lt
  have hxgl := hxr.lt
  have hbl := h.box.lt
  have H := hi h
  have HK := hi hk
  have HE := hi (nthE_at hk)
  obtain ⟨n, hn⟩ : ∃ n, es.length = n := ⟨_, rfl⟩
  have HN := hi hn
  rw [hn] at hk
  clear h hf hn hlr hxr
  obtain ⟨⟨⟨e, l, q, a⟩, en, gr, p⟩, s⟩ := x
  obtain ⟨hg01, hp0, hp1⟩ := okB_true gr p _ _ hx
  dsimp only [Ln.v] at HP ⊢
  have HR := hi (show En.real ⟨⟨⟨e, l, q, a⟩, en, gr, p⟩, s⟩ = ⟨⟨⟨e, l, q, a⟩, en, gr, realV p⟩, s⟩ from rfl)
  obtain ⟨p2, hp2⟩ : ∃ p2, realV p = p2 := ⟨_, rfl⟩
  rw [hp2] at HP HR
  have hd : decide (p < 0) = false := by simp; omega
  have hd2 : decide (255 < p) = false := by simp; omega
  have HX := hi (CB.new w 32 (Ln.ca ⟨⟨e, l, q, a⟩, en, gr, p⟩))
  have HX2 := hi (HX.out.ln7 p2)
  have hB2 : Below w.heap.size w (w.alloc (.cells (Ln.ca ⟨⟨e, l, q, a⟩, en, gr, p2⟩) 32)) := bal w _
  have HX3 := hi (CB.new w 32 (Ln.ca ⟨⟨e, l, q, a⟩, en, gr, p2⟩))
  clear hp2 hx
  rcases hg01 with rfl | rfl
  · go_enter Try.func36, Try.ntmps36
    go_wp2_with (first
      | (go_at_call 17; ((with_reducible refine (HC.out _ (bal _ _)).mono ?_); rintro e' w1 ⟨rfl, rfl⟩))
      | (go_at_call 51; ((with_reducible refine (HP.out _).mono ?_); rintro e' w3 ⟨rfl, rfl⟩)))
    obtain ⟨W3, hW3⟩ : ∃ W3, w.alloc (.cells (Ln.ca ⟨⟨e, l, q, a⟩, en, 0, p2⟩) 32) = W3 := ⟨_, rfl⟩
    rw [hW3] at hB2 HX3 ⊢
    clear hW3 HX HX2
    have hRF := H.out.below hB2
    have HRF := hi hRF
    have HB2 := hi hB2
    have hbx1 : w.heap.size ≠ lg := by omega
    have hbx2 : w.heap.size ≠ xg := by omega
    subst hla hxa
    have hPR : PR b lg w.heap.size n lc k (.slice (some ⟨xg, 0, none⟩) n xc) ⟨⟨e, l, q, a⟩, en, 0, p2⟩ W3.drew := ⟨by rw [← HN.out]; exact hRF.box.cell 1, by rw [← HN.out]; exact hRF.box.cell 2, (HX3.out.drew).lnc, (hRF.ne0 (fun e => by have := HK.out; rw [e] at this; simp at this)).2.2.1.lnThere HK.out⟩
    clear hRF hB2
    obtain ⟨c1, c2, ⟨e0, e1, e2, e3, e4, e5, e6⟩, hth⟩ := hPR
    have hPR : PR b lg w.heap.size n lc k (.slice (some ⟨xg, 0, none⟩) n xc) ⟨⟨e, l, q, a⟩, en, 0, p2⟩ W3.drew := ⟨c1, c2, ⟨e0, e1, e2, e3, e4, e5, e6⟩, hth⟩
    dsimp only [Nat.zero_add] at e0 e1 e2 e3 e4 e5 e6
    refine wp_region_noPanic ?_
    refine wp_region_held_drew (S := (fun w' => w'.cell? ⟨b, 1, none⟩ = some (.slice (some ⟨lg, 0, none⟩) n lc) ∧ w'.cell? ⟨w.heap.size, 0, none⟩ = some (.bool e) ∧ w'.cell? ⟨w.heap.size, 1, none⟩ = some (.bool l) ∧ w'.cell? ⟨w.heap.size, 2, none⟩ = some (.bool q) ∧ w'.cell? ⟨w.heap.size, 3, none⟩ = some (.bool a) ∧ w'.cell? ⟨w.heap.size, 4, none⟩ = some (.bool en) ∧ w'.cell? ⟨w.heap.size, 5, none⟩ = some (.int .i64 0) ∧ w'.cell? ⟨w.heap.size, 6, none⟩ = some (.int .i64 p2) ∧ PR b lg w.heap.size n lc k (.slice (some ⟨xg, 0, none⟩) n xc) ⟨⟨e, l, q, a⟩, en, 0, p2⟩ w')) (by kernel_rfl) ⟨hPR.c1, hPR.ln.c0, hPR.ln.c1, hPR.ln.c2, hPR.ln.c3, hPR.ln.c4, hPR.ln.c5, hPR.ln.c6, hPR⟩ (fun hHeld => ?_)
    (try simp only [Array.replicate_succ, Array.replicate_zero, List.push_toArray, List.nil_append, List.cons_append])
    refine wpAnyH_take (i := 0) (v := ?_) rfl (by kernel_rfl) (by kernel_rfl) (by kernel_rfl) (fun _ _ _ h => h) (Or.inl ⟨by rfl, ?_⟩) (by assumption) ?_
    rotate_left
    · intro w' hSw; (try dsimp only at hSw); obtain ⟨hs0, hs1, hs2, hs3, hs4, hs5, hs6, hs7, hs8⟩ := hSw; go_simp; (try with_reducible rfl)
    (try simp only [Act.put, List.getElem_toArray, List.getElem_cons_zero, List.setIfInBounds_toArray, List.set_cons_zero, List.set_cons_succ])
    refine wpAnyH_take (i := 1) (v := ?_) rfl (by kernel_rfl) (by kernel_rfl) (by kernel_rfl) (fun _ _ _ h => h) (Or.inl ⟨by rfl, ?_⟩) (by assumption) ?_
    rotate_left
    · intro w' hSw; (try dsimp only at hSw); obtain ⟨hs0, hs1, hs2, hs3, hs4, hs5, hs6, hs7, hs8⟩ := hSw; go_simp; (try with_reducible rfl)
    (try simp only [Act.put, List.getElem_toArray, List.getElem_cons_zero, List.getElem_cons_succ, List.setIfInBounds_toArray, List.set_cons_zero, List.set_cons_succ])
    refine wpAnyH_take (i := 2) (v := ?_) rfl (by kernel_rfl) (by kernel_rfl) (by kernel_rfl) (fun _ _ _ h => h) (Or.inl ⟨by rfl, ?_⟩) (by assumption) ?_
    rotate_left
    · intro w' hSw; (try dsimp only at hSw); obtain ⟨hs0, hs1, hs2, hs3, hs4, hs5, hs6, hs7, hs8⟩ := hSw; go_simp; (try with_reducible rfl)
    (try simp only [Act.put, List.getElem_toArray, List.getElem_cons_zero, List.getElem_cons_succ, List.setIfInBounds_toArray, List.set_cons_zero, List.set_cons_succ])
    refine wpAnyH_take (i := 3) (v := ?_) rfl (by kernel_rfl) (by kernel_rfl) (by kernel_rfl) (fun _ _ _ h => h) (Or.inl ⟨by rfl, ?_⟩) (by assumption) ?_
    rotate_left
    · intro w' hSw; (try dsimp only at hSw); obtain ⟨hs0, hs1, hs2, hs3, hs4, hs5, hs6, hs7, hs8⟩ := hSw; go_simp; (try with_reducible rfl)
    (try simp only [Act.put, List.getElem_toArray, List.getElem_cons_zero, List.getElem_cons_succ, List.setIfInBounds_toArray, List.set_cons_zero, List.set_cons_succ])
    refine wpAnyH_take (i := 4) (v := ?_) rfl (by kernel_rfl) (by kernel_rfl) (by kernel_rfl) (fun _ _ _ h => h) (Or.inl ⟨by rfl, ?_⟩) (by assumption) ?_
    rotate_left
    · intro w' hSw; (try dsimp only at hSw); obtain ⟨hs0, hs1, hs2, hs3, hs4, hs5, hs6, hs7, hs8⟩ := hSw; go_simp; (try with_reducible rfl)
    (try simp only [Act.put, List.getElem_toArray, List.getElem_cons_zero, List.getElem_cons_succ, List.setIfInBounds_toArray, List.set_cons_zero, List.set_cons_succ])
    refine wpAnyH_take (i := 5) (v := ?_) rfl (by kernel_rfl) (by kernel_rfl) (by kernel_rfl) (fun _ _ _ h => h) (Or.inl ⟨by rfl, ?_⟩) (by assumption) ?_
    rotate_left
    · intro w' hSw; (try dsimp only at hSw); obtain ⟨hs0, hs1, hs2, hs3, hs4, hs5, hs6, hs7, hs8⟩ := hSw; go_simp; (try with_reducible rfl)
    (try simp only [Act.put, List.getElem_toArray, List.getElem_cons_zero, List.getElem_cons_succ, List.setIfInBounds_toArray, List.set_cons_zero, List.set_cons_succ])
    refine wpAnyH_take (i := 6) (v := ?_) rfl (by kernel_rfl) (by kernel_rfl) (by kernel_rfl) (fun _ _ _ h => h) (Or.inl ⟨by rfl, ?_⟩) (by assumption) ?_
    rotate_left
    · intro w' hSw; (try dsimp only at hSw); obtain ⟨hs0, hs1, hs2, hs3, hs4, hs5, hs6, hs7, hs8⟩ := hSw; go_simp; (try with_reducible rfl)
    (try simp only [Act.put, List.getElem_toArray, List.getElem_cons_zero, List.getElem_cons_succ, List.setIfInBounds_toArray, List.set_cons_zero, List.set_cons_succ])
    refine wpAnyH_ready (rs := [7]) (by kernel_rfl) (by simp) ?_
    refine AllReadyH.cons rfl (fun KK hKK => ?_) AllReadyH.nil
    rw [if_pos (by rfl)]
    refine wp_store_mid 32 (.tmp 43) (.tmp 42) rfl lg (k * 7) #[.bool e, .bool l, .bool q, .bool a, .bool en, .int .i64 0, .int .i64 p2] rfl rfl hPR.th size_ln (by simp [Value.oneCell']) ?_
    simp only
    have hPR2 := hPR.sets hblg hbx1 (k * 7) [.bool e, .bool l, .bool q, .bool a, .bool en, .int .i64 0, .int .i64 p2]
    refine hKK.out _ _ ⟨hPR2.c1, hPR2.ln.c0, hPR2.ln.c1, hPR2.ln.c2, hPR2.ln.c3, hPR2.ln.c4, hPR2.ln.c5, hPR2.ln.c6, hPR2⟩ (fun hHeld => ?_)
    clear hKK KK
    (try simp only [Act.put, List.getElem_toArray, List.getElem_cons_zero, List.getElem_cons_succ])
    refine wpAnyH_done (by kernel_rfl) ?_ _
    refine NoPanic.normal ?_
    have hRF2 := HRF.out.drew.setLn HE.out ⟨⟨e, l, q, a⟩, en, 0, p2⟩
    have hKP : Kept (fun i => i = lg ∨ i = xg) w (W3.drew.setCells lg (k * 7) [.bool e, .bool l, .bool q, .bool a, .bool en, .int .i64 0, .int .i64 p2]) := kept_sets (bs := fun i => i = lg ∨ i = xg) (b := lg) (.inl rfl) _ _ (Kept.drew (Kept.of HB2.out))
    have HRF2 := hi hRF2
    have HKP := hi hKP
    obtain ⟨W5, hW5⟩ : ∃ W5, W3.drew.setCells lg (k * 7) [.bool e, .bool l, .bool q, .bool a, .bool en, .int .i64 0, .int .i64 p2] = W5 := ⟨_, rfl⟩
    have hRF2' : RfAt W5 b lg xg (some ⟨lg, 0, none⟩) (some ⟨xg, 0, none⟩) lc xc f (es.set k ⟨⟨⟨e, l, q, a⟩, en, 0, p2⟩, (nthE es k).s⟩) := by rw [← hW5]; exact hRF2
    have HRF3 := hi hRF2'
    rw [hW5] at hPR2 HKP ⊢
    have c2' := hPR2.c2
    have hu : ∃ u, W5.cell? ⟨xg, k, none⟩ = some u := ⟨_, (HRF3.out.ne0 (set_ne HK.out)).2.2.2.1.txt (by rw [List.getElem?_set_self HK.out])⟩
    obtain ⟨u, hu⟩ := hu
    have huf := (HRF3.out.ne0 (set_ne HK.out)).2.2.2.1.frozen k
    clear hPR hPR2 c1 c2 e0 e1 e2 e3 e4 e5 e6 hth hW5 hRF2 hKP hRF2' HRF2
    go_wp2
    go_ret
    have hKF : Kept (fun i => es.set k (En.real ⟨⟨⟨e, l, q, a⟩, en, 0, p⟩, s⟩) ≠ [] ∧ (i = lg ∨ i = xg)) w (W5.setCell ⟨xg, k, none⟩ (.string s)) := (HKP.out.set _ _ (.inr rfl)).mono (fun i h9 => ⟨set_ne HK.out, h9⟩)
    refine ⟨rfl, ?_, hKF⟩
    have h8 := HRF3.out.setTxt (List.getElem?_set_self HK.out) s
    rw [List.set_set] at h8
    rw [HR.out]
    exact h8
  · go_enter Try.func36, Try.ntmps36
    go_wp2_with (first
      | (go_at_call 17; ((with_reducible refine (HC.out _ (bal _ _)).mono ?_); rintro e' w1 ⟨rfl, rfl⟩))
      | (go_at_call 51; ((with_reducible refine (HP.out _).mono ?_); rintro e' w3 ⟨rfl, rfl⟩)))
    obtain ⟨W3, hW3⟩ : ∃ W3, w.alloc (.cells (Ln.ca ⟨⟨e, l, q, a⟩, en, 1, p2⟩) 32) = W3 := ⟨_, rfl⟩
    rw [hW3] at hB2 HX3 ⊢
    clear hW3 HX HX2
    have hRF := H.out.below hB2
    have HRF := hi hRF
    have HB2 := hi hB2
    have hbx1 : w.heap.size ≠ lg := by omega
    have hbx2 : w.heap.size ≠ xg := by omega
    subst hla hxa
    have hPR : PR b lg w.heap.size n lc k (.slice (some ⟨xg, 0, none⟩) n xc) ⟨⟨e, l, q, a⟩, en, 1, p2⟩ W3.drew := ⟨by rw [← HN.out]; exact hRF.box.cell 1, by rw [← HN.out]; exact hRF.box.cell 2, (HX3.out.drew).lnc, (hRF.ne0 (fun e => by have := HK.out; rw [e] at this; simp at this)).2.2.1.lnThere HK.out⟩
    clear hRF hB2
    obtain ⟨c1, c2, ⟨e0, e1, e2, e3, e4, e5, e6⟩, hth⟩ := hPR
    have hPR : PR b lg w.heap.size n lc k (.slice (some ⟨xg, 0, none⟩) n xc) ⟨⟨e, l, q, a⟩, en, 1, p2⟩ W3.drew := ⟨c1, c2, ⟨e0, e1, e2, e3, e4, e5, e6⟩, hth⟩
    dsimp only [Nat.zero_add] at e0 e1 e2 e3 e4 e5 e6
    refine wp_region_noPanic ?_
    refine wp_region_held_drew (S := (fun w' => w'.cell? ⟨b, 1, none⟩ = some (.slice (some ⟨lg, 0, none⟩) n lc) ∧ w'.cell? ⟨w.heap.size, 0, none⟩ = some (.bool e) ∧ w'.cell? ⟨w.heap.size, 1, none⟩ = some (.bool l) ∧ w'.cell? ⟨w.heap.size, 2, none⟩ = some (.bool q) ∧ w'.cell? ⟨w.heap.size, 3, none⟩ = some (.bool a) ∧ w'.cell? ⟨w.heap.size, 4, none⟩ = some (.bool en) ∧ w'.cell? ⟨w.heap.size, 5, none⟩ = some (.int .i64 1) ∧ w'.cell? ⟨w.heap.size, 6, none⟩ = some (.int .i64 p2) ∧ PR b lg w.heap.size n lc k (.slice (some ⟨xg, 0, none⟩) n xc) ⟨⟨e, l, q, a⟩, en, 1, p2⟩ w')) (by kernel_rfl) ⟨hPR.c1, hPR.ln.c0, hPR.ln.c1, hPR.ln.c2, hPR.ln.c3, hPR.ln.c4, hPR.ln.c5, hPR.ln.c6, hPR⟩ (fun hHeld => ?_)
    (try simp only [Array.replicate_succ, Array.replicate_zero, List.push_toArray, List.nil_append, List.cons_append])
    refine wpAnyH_take (i := 0) (v := ?_) rfl (by kernel_rfl) (by kernel_rfl) (by kernel_rfl) (fun _ _ _ h => h) (Or.inl ⟨by rfl, ?_⟩) (by assumption) ?_
    rotate_left
    · intro w' hSw; (try dsimp only at hSw); obtain ⟨hs0, hs1, hs2, hs3, hs4, hs5, hs6, hs7, hs8⟩ := hSw; go_simp; (try with_reducible rfl)
    (try simp only [Act.put, List.getElem_toArray, List.getElem_cons_zero, List.setIfInBounds_toArray, List.set_cons_zero, List.set_cons_succ])
    refine wpAnyH_take (i := 1) (v := ?_) rfl (by kernel_rfl) (by kernel_rfl) (by kernel_rfl) (fun _ _ _ h => h) (Or.inl ⟨by rfl, ?_⟩) (by assumption) ?_
    rotate_left
    · intro w' hSw; (try dsimp only at hSw); obtain ⟨hs0, hs1, hs2, hs3, hs4, hs5, hs6, hs7, hs8⟩ := hSw; go_simp; (try with_reducible rfl)
    (try simp only [Act.put, List.getElem_toArray, List.getElem_cons_zero, List.getElem_cons_succ, List.setIfInBounds_toArray, List.set_cons_zero, List.set_cons_succ])
    refine wpAnyH_take (i := 2) (v := ?_) rfl (by kernel_rfl) (by kernel_rfl) (by kernel_rfl) (fun _ _ _ h => h) (Or.inl ⟨by rfl, ?_⟩) (by assumption) ?_
    rotate_left
    · intro w' hSw; (try dsimp only at hSw); obtain ⟨hs0, hs1, hs2, hs3, hs4, hs5, hs6, hs7, hs8⟩ := hSw; go_simp; (try with_reducible rfl)
    (try simp only [Act.put, List.getElem_toArray, List.getElem_cons_zero, List.getElem_cons_succ, List.setIfInBounds_toArray, List.set_cons_zero, List.set_cons_succ])
    refine wpAnyH_take (i := 3) (v := ?_) rfl (by kernel_rfl) (by kernel_rfl) (by kernel_rfl) (fun _ _ _ h => h) (Or.inl ⟨by rfl, ?_⟩) (by assumption) ?_
    rotate_left
    · intro w' hSw; (try dsimp only at hSw); obtain ⟨hs0, hs1, hs2, hs3, hs4, hs5, hs6, hs7, hs8⟩ := hSw; go_simp; (try with_reducible rfl)
    (try simp only [Act.put, List.getElem_toArray, List.getElem_cons_zero, List.getElem_cons_succ, List.setIfInBounds_toArray, List.set_cons_zero, List.set_cons_succ])
    refine wpAnyH_take (i := 4) (v := ?_) rfl (by kernel_rfl) (by kernel_rfl) (by kernel_rfl) (fun _ _ _ h => h) (Or.inl ⟨by rfl, ?_⟩) (by assumption) ?_
    rotate_left
    · intro w' hSw; (try dsimp only at hSw); obtain ⟨hs0, hs1, hs2, hs3, hs4, hs5, hs6, hs7, hs8⟩ := hSw; go_simp; (try with_reducible rfl)
    (try simp only [Act.put, List.getElem_toArray, List.getElem_cons_zero, List.getElem_cons_succ, List.setIfInBounds_toArray, List.set_cons_zero, List.set_cons_succ])
    refine wpAnyH_take (i := 5) (v := ?_) rfl (by kernel_rfl) (by kernel_rfl) (by kernel_rfl) (fun _ _ _ h => h) (Or.inl ⟨by rfl, ?_⟩) (by assumption) ?_
    rotate_left
    · intro w' hSw; (try dsimp only at hSw); obtain ⟨hs0, hs1, hs2, hs3, hs4, hs5, hs6, hs7, hs8⟩ := hSw; go_simp; (try with_reducible rfl)
    (try simp only [Act.put, List.getElem_toArray, List.getElem_cons_zero, List.getElem_cons_succ, List.setIfInBounds_toArray, List.set_cons_zero, List.set_cons_succ])
    refine wpAnyH_take (i := 6) (v := ?_) rfl (by kernel_rfl) (by kernel_rfl) (by kernel_rfl) (fun _ _ _ h => h) (Or.inl ⟨by rfl, ?_⟩) (by assumption) ?_
    rotate_left
    · intro w' hSw; (try dsimp only at hSw); obtain ⟨hs0, hs1, hs2, hs3, hs4, hs5, hs6, hs7, hs8⟩ := hSw; go_simp; (try with_reducible rfl)
    (try simp only [Act.put, List.getElem_toArray, List.getElem_cons_zero, List.getElem_cons_succ, List.setIfInBounds_toArray, List.set_cons_zero, List.set_cons_succ])
    refine wpAnyH_ready (rs := [7]) (by kernel_rfl) (by simp) ?_
    refine AllReadyH.cons rfl (fun KK hKK => ?_) AllReadyH.nil
    rw [if_pos (by rfl)]
    refine wp_store_mid 32 (.tmp 43) (.tmp 42) rfl lg (k * 7) #[.bool e, .bool l, .bool q, .bool a, .bool en, .int .i64 1, .int .i64 p2] rfl rfl hPR.th size_ln (by simp [Value.oneCell']) ?_
    simp only
    have hPR2 := hPR.sets hblg hbx1 (k * 7) [.bool e, .bool l, .bool q, .bool a, .bool en, .int .i64 1, .int .i64 p2]
    refine hKK.out _ _ ⟨hPR2.c1, hPR2.ln.c0, hPR2.ln.c1, hPR2.ln.c2, hPR2.ln.c3, hPR2.ln.c4, hPR2.ln.c5, hPR2.ln.c6, hPR2⟩ (fun hHeld => ?_)
    clear hKK KK
    (try simp only [Act.put, List.getElem_toArray, List.getElem_cons_zero, List.getElem_cons_succ])
    refine wpAnyH_done (by kernel_rfl) ?_ _
    refine NoPanic.normal ?_
    have hRF2 := HRF.out.drew.setLn HE.out ⟨⟨e, l, q, a⟩, en, 1, p2⟩
    have hKP : Kept (fun i => i = lg ∨ i = xg) w (W3.drew.setCells lg (k * 7) [.bool e, .bool l, .bool q, .bool a, .bool en, .int .i64 1, .int .i64 p2]) := kept_sets (bs := fun i => i = lg ∨ i = xg) (b := lg) (.inl rfl) _ _ (Kept.drew (Kept.of HB2.out))
    have HRF2 := hi hRF2
    have HKP := hi hKP
    obtain ⟨W5, hW5⟩ : ∃ W5, W3.drew.setCells lg (k * 7) [.bool e, .bool l, .bool q, .bool a, .bool en, .int .i64 1, .int .i64 p2] = W5 := ⟨_, rfl⟩
    have hRF2' : RfAt W5 b lg xg (some ⟨lg, 0, none⟩) (some ⟨xg, 0, none⟩) lc xc f (es.set k ⟨⟨⟨e, l, q, a⟩, en, 1, p2⟩, (nthE es k).s⟩) := by rw [← hW5]; exact hRF2
    have HRF3 := hi hRF2'
    rw [hW5] at hPR2 HKP ⊢
    have c2' := hPR2.c2
    have hu : ∃ u, W5.cell? ⟨xg, k, none⟩ = some u := ⟨_, (HRF3.out.ne0 (set_ne HK.out)).2.2.2.1.txt (by rw [List.getElem?_set_self HK.out])⟩
    obtain ⟨u, hu⟩ := hu
    have huf := (HRF3.out.ne0 (set_ne HK.out)).2.2.2.1.frozen k
    clear hPR hPR2 c1 c2 e0 e1 e2 e3 e4 e5 e6 hth hW5 hRF2 hKP hRF2' HRF2
    go_wp2
    go_ret
    have hKF : Kept (fun i => es.set k (En.real ⟨⟨⟨e, l, q, a⟩, en, 1, p⟩, s⟩) ≠ [] ∧ (i = lg ∨ i = xg)) w (W5.setCell ⟨xg, k, none⟩ (.string s)) := (HKP.out.set _ _ (.inr rfl)).mono (fun i h9 => ⟨set_ne HK.out, h9⟩)
    refine ⟨rfl, ?_, hKF⟩
    have h8 := HRF3.out.setTxt (List.getElem?_set_self HK.out) s
    rw [List.set_set] at h8
    rw [HR.out]
    exact h8

theorem rput_any {b lg xg : Nat} {la xa : Option Addr} {lc xc : Nat} {f : Int} {es : List En} {id : Int} {x : En} {w : World} (h : RfAt w b lg xg la xa lc xc f es) (hf : Fit f es.length) :
    Calls Try.prog 36 #[.pointer (some ⟨b, 0, none⟩), .int .i64 id, x.ln.v, .string x.s] w fun e w' => e = .returned (.int .i64 (putR f es id x).2) ∧ RfAfter w b lg xg la xa lc xc f (putR f es id x).1 w' := by
  unfold putR
  cases hb : hasB f es.length id
  · refine (rput_no h hf hb).mono fun e w' ⟨h1, h2⟩ => ⟨by simpa using h1, ?_⟩
    simpa using RfAfter.of h h2
  · obtain ⟨k, rfl, hk, e1⟩ := has_at hb
    cases hx : x.ln.okB
    · refine (rput_bad h hf hk hx).mono fun e w' ⟨h1, h2⟩ => ⟨by simpa using h1, ?_⟩
      simpa using RfAfter.of h h2
    · refine (rput_yes h hf hk hx).mono fun e w' ⟨h1, h2⟩ => ⟨by simpa using h1, ?_⟩
      rw [e1]
      simpa using h2

end Go.Proofs.Ytfjihpcemmobjaa
