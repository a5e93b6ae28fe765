/-
  Package bank: Do, Reset.
-/
import Derived.Test.YtjgamfonpagkbaaBnkE
namespace Go.Proofs.Ytjgamfonpagkbaa
open Go.ChangeShapes Go.WideShapes Go.ChangeAt Go.RowKit
set_option linter.unusedVariables false

def En.step (x : En) (a : Int) : En := ⟨{ x.ln with st := x.ln.st.step a }, x.s⟩
def nthE (es : List En) (k : Nat) : En := es[k]?.getD default
theorem nthE_at {es : List En} {k : Nat} (h : k < es.length) : es[k]? = some (nthE es k) := by simp [nthE, List.getElem?_eq_getElem h]
def doR (f : Int) (es : List En) (id a : Int) : List En × Int :=
  if hasB f es.length id then (es.set (id - f).toNat ((nthE es (id - f).toNat).step a), 0) else (es, 90)

theorem BkAt.setIrq {W : World} {b g cap : Nat} {f : Int} {es : List En} (h : BkAt W b g cap f es) {k : Nat} {x : En} (hk : es[k]? = some x) (y : St) :
    BkAt (W.setCells g (k * 8) [.bool y.e, .bool y.l, .bool y.h, .bool y.a]) b g cap f (es.set k ⟨{ x.ln with st := y }, x.s⟩) :=
  ⟨by rw [List.length_set]; exact h.box.heap (heap_sets h.ne _ _ _), by
    have hl : k < es.length := (List.getElem?_eq_some_iff.1 hk).1
    have h1 := h.row.sets [.bool y.e, .bool y.l, .bool y.h, .bool y.a] (k * 8) (by rw [flE_len]; simp; omega)
    have h2 := flat_set en_len es k 0 x ⟨{ x.ln with st := y }, x.s⟩ [.bool y.e, .bool y.l, .bool y.h, .bool y.a] hk (by simp) rfl
    rw [Nat.add_zero] at h2
    rwa [h2] at h1, h.ne⟩
theorem BkAt.setLn {W : World} {b g cap : Nat} {f : Int} {es : List En} (h : BkAt W b g cap f es) {k : Nat} {x : En} (hk : es[k]? = some x) (y : Ln) :
    BkAt (W.setCells g (k * 8) y.cs) b g cap f (es.set k ⟨y, x.s⟩) :=
  ⟨by rw [List.length_set]; exact h.box.heap (heap_sets h.ne _ _ _), by
    have hl : k < es.length := (List.getElem?_eq_some_iff.1 hk).1
    have h1 := h.row.sets y.cs (k * 8) (by rw [flE_len, ln_len]; omega)
    have h2 := flat_set en_len es k 0 x ⟨y, x.s⟩ y.cs hk (by rw [ln_len]; omega) rfl
    rw [Nat.add_zero] at h2
    rwa [h2] at h1, h.ne⟩

set_option maxHeartbeats 1000000 in
theorem do_no {b g cap : Nat} {f : Int} {es : List En} {id a : Int} {w : World} (h : BkAt w b g cap f es) (hf : Fit f es.length) (hi' : Int64 id) (hn : hasB f es.length id = false) :
    Calls Try.prog 27 #[.pointer (some ⟨b, 0, none⟩), .int .i64 id, .int .i64 a] w fun e w' => e = .returned (.int .i64 90) ∧ Below w.heap.size w w' := by
  have HC := hi (has_any h hf hi')
  rw [hn] at HC
  clear h hf hi' hn
  go_enter Try.func27, Try.ntmps27
  go_wp2_with (go_at_call 17; ((with_reducible refine HC.out.mono ?_); rintro e w1 ⟨rfl, m, rfl⟩))
  go_ret
  exact ⟨rfl, Below.drewN (Below.refl _ _)⟩

set_option maxRecDepth 100000 in
set_option maxHeartbeats 2000000 in
theorem do_yes {b g cap k : Nat} {f a : Int} {es : List En} {x : En} {w : World} (h : BkAt w b g cap f es) (hf : Fit f es.length) (hk : es[k]? = some x) :
    Calls Try.prog 27 #[.pointer (some ⟨b, 0, none⟩), .int .i64 (f + k), .int .i64 a] w fun e w' => e = .returned (.int .i64 0) ∧ After w b g cap f (es.set k (x.step a)) w' := by
  have hkl : k < es.length := (List.getElem?_eq_some_iff.1 hk).1
  have h64 : Int64 (f + k) := by have := hf.f0; have := hf.s1; constructor <;> omega
  have HC := hi (has_any h hf h64)
  rw [show hasB f es.length (f + k) = true by rw [hasB_iff]; omega] at HC
  have HS := hi (fun W => step_any x.ln.st a W)
  have hw : IntKind.i64.wrap (f + k - f) = k := by rw [IntKind.wrap_i64]; have := hf.n1; omega
  have H := hi h
  have HK := hi hk
  have HKL := hi hkl
  have c0 := h.box.cell 0
  have c1 := h.box.cell 1
  obtain ⟨e0, e1, e2, e3, e4, e5, e6, e7⟩ := h.row.ent hk
  obtain ⟨n, hn⟩ : ∃ n, es.length = n := ⟨_, rfl⟩
  rw [hn] at c1 hkl
  have HX := hi (show x.step a = ⟨{ x.ln with st := x.ln.st.step a }, x.s⟩ from rfl)
  obtain ⟨y, hy⟩ : ∃ y, x.ln.st.step a = y := ⟨_, rfl⟩
  rw [hy] at HS HX
  clear h hf hn h64 hk hy
  obtain ⟨⟨⟨e, l, q, a'⟩, en, gr, p⟩, s⟩ := x
  obtain ⟨ye, yl, yh, ya⟩ := y
  dsimp only [St.v] at HS
  dsimp only at e0 e1 e2 e3 e4 e5 e6 e7
  go_enter Try.func27, Try.ntmps27
  go_wp2_with (go_at_call 17; ((with_reducible refine HC.out.mono ?_); rintro e' w1 ⟨rfl, m, rfl⟩))
  go_quiet (fail)
  go_wp2_with (first
    | (go_at_call 46; ((with_reducible refine (HS.out _).mono ?_); rintro e' w2 ⟨rfl, hb⟩; have HB := hi ((Below.drewN (Below.refl w.heap.size w)).trans (hb.mono (by simp))); have HBK := hi (H.out.below HB.out); have HTH := hi (show w2.there g (k * 8) 4 from fun j hj => (HBK.out.row.entThere HKL.out) j (by omega)); clear hb))
    | (refine wpList_store_mid rfl 50 (.tmp 33) (.tmp 30) rfl g _ #[.bool ye, .bool yl, .bool yh, .bool ya] rfl rfl (by simpa using HTH.out) size_irq (by simp [Value.oneCell']) ?_))
  go_ret
  refine ⟨rfl, ?_, kept_sets (bs := (· = g)) (b := g) rfl _ _ (Kept.of HB.out)⟩
  rw [HX.out]
  simpa using HBK.out.setIrq HK.out ⟨ye, yl, yh, ya⟩

theorem do_any {b g cap : Nat} {f : Int} {es : List En} {id a : Int} {w : World} (h : BkAt w b g cap f es) (hf : Fit f es.length) (hi' : Int64 id) :
    Calls Try.prog 27 #[.pointer (some ⟨b, 0, none⟩), .int .i64 id, .int .i64 a] w fun e w' => e = .returned (.int .i64 (doR f es id a).2) ∧ After w b g cap f (doR f es id a).1 w' := by
  unfold doR
  cases hb : hasB f es.length id
  · refine (do_no h hf hi' hb).mono fun e w' ⟨h1, h2⟩ => ⟨by simpa using h1, ?_⟩
    simpa using After.of h h2
  · obtain ⟨k, rfl, hk, e1⟩ := has_at hb
    refine (do_yes h hf (nthE_at hk)).mono fun e w' ⟨h1, h2⟩ => ⟨by simpa using h1, ?_⟩
    rw [e1]
    simpa using h2

/-! ### Reset -/
def En.wipe (x : En) : En := ⟨Ln.zero, x.s⟩
def wipeTo (es : List En) (k : Nat) : List En := (es.take k).map En.wipe ++ es.drop k
theorem wipeTo_zero (es : List En) : wipeTo es 0 = es := by simp [wipeTo]
theorem wipeTo_all (es : List En) : wipeTo es es.length = es.map En.wipe := by simp [wipeTo]
theorem wipeTo_len (es : List En) (k : Nat) : (wipeTo es k).length = es.length := by simp [wipeTo]; omega
theorem wipeTo_at {es : List En} {k : Nat} (h : k < es.length) : (wipeTo es k)[k]? = some (nthE es k) := by
  rw [wipeTo, List.getElem?_append_right (by simp; omega)]
  simp only [List.length_map, List.length_take, Nat.min_eq_left (Nat.le_of_lt h), Nat.sub_self, List.getElem?_drop, Nat.add_zero]
  exact nthE_at h
theorem wipeTo_succ {es : List En} {k : Nat} (h : k < es.length) : (wipeTo es k).set k (nthE es k).wipe = wipeTo es (k + 1) := by
  have e1 : (es.take k).length = k := by simp; omega
  rw [wipeTo, List.set_append_right _ _ (by simp; omega), List.length_map, e1, Nat.sub_self, wipeTo, List.take_add_one, nthE_at h]
  have e2 : es.drop k = nthE es k :: es.drop (k + 1) := by
    rw [List.drop_eq_getElem_cons h]
    congr 1
    simp [nthE, List.getElem?_eq_getElem h]
  rw [e2]
  simp

set_option maxRecDepth 100000 in
set_option maxHeartbeats 2000000 in
theorem reset_any {b g cap : Nat} {f : Int} {es : List En} {w : World} (h : BkAt w b g cap f es) (hf : Fit f es.length) :
    Calls Try.prog 23 #[.pointer (some ⟨b, 0, none⟩)] w fun e w' => e = .returned (.tuple #[]) ∧ After w b g cap f (es.map En.wipe) w' := by
  have H0 := hi (show After w b g cap f (wipeTo es 0) w by rw [wipeTo_zero]; exact ⟨h, Kept.refl _ _⟩)
  have HE := hi (wipeTo_all es)
  have HL := hi (fun k => wipeTo_len es k)
  have HA := hi (fun k (hk : k < es.length) => wipeTo_at hk)
  have HSU := hi (fun k (hk : k < es.length) => wipeTo_succ hk)
  have hn1 := hf.n1
  have c0 := h.box.cell 0
  have c1 := h.box.cell 1
  have hbl := h.box.lt
  have hbg := h.ne
  obtain ⟨n, hn⟩ : ∃ n, es.length = n := ⟨_, rfl⟩
  rw [hn] at c1 hn1 HE HL HA HSU
  rw [← HE.out]
  clear h hf hn HE
  go_enter Try.func23, Try.ntmps23
  go_wp2
  go_loopw [8] (fun i wr => ∃ k : Nat, k ≤ n ∧ i = .int .i64 k ∧ Hi (After w b g cap f (wipeTo es k) wr)) (fun i _ => n - (intOf i).toNat)
  case atStart => exact ⟨0, Nat.zero_le _, rfl, H0⟩
  case round =>
    obtain ⟨k, hk, rfl, HX⟩ := hrel
    clear H0
    by_cases hlt : k < n
    · have hbk := HX.out.bk
      have r1 := hbk.box.cell 1
      rw [HL.out k] at r1
      have HTH := hi (show wr.there g (k * 8) (#[Value.bool false, .bool false, .bool false, .bool false, .bool false, .int .i64 0, .int .i64 0] : Array Value).size from fun j hj => (hbk.row.entThere (by rw [HL.out k]; exact hlt)) j (Nat.lt_of_lt_of_le hj (by decide)))
      clear hbk c0 c1
      go_wp2_with (first
        | (refine wpList_store_mid rfl 52 (.tmp 18) (.tmp 16) rfl g (k * 8) #[.bool false, .bool false, .bool false, .bool false, .bool false, .int .i64 0, .int .i64 0] rfl rfl ?_ size_ln (by simp [Value.oneCell']) ?_; · exact HTH.out))
      go_roundw
      case rel =>
        refine ⟨k + 1, by omega, by go_num, hi ⟨?_, kept_sets (bs := (· = g)) (b := g) rfl _ _ HX.out.kept⟩⟩
        rw [← HSU.out k hlt]
        exact HX.out.bk.setLn (HA.out k hlt) Ln.zero
      case measure => simp [intOf]; omega
    · obtain rfl : k = n := by omega
      go_wp2
      go_end0
      exact ⟨rfl, HX.out⟩

end Go.Proofs.Ytjgamfonpagkbaa
