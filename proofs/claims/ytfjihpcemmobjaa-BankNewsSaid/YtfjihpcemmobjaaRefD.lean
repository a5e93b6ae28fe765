/-
  The document's bank: Ready.
-/
import Derived.Test.YtfjihpcemmobjaaRefC
namespace Go.Proofs.Ytfjihpcemmobjaa
open Go.ChangeShapes Go.WideShapes Go.ChangeAt Go.RowKit Go.Shelf
set_option linter.unusedVariables false
attribute [local go_sem] Oper.semAt_some

/-- What is collected of the first k. -/
def rl (f : Int) (es : List En) (g0 g1 : Bool) (k : Nat) : List It := ((items f es).take k).filter (rdyB g0 g1)
theorem rl_zero (f : Int) (es : List En) (g0 g1 : Bool) : rl f es g0 g1 0 = [] := by simp [rl]
theorem rl_all (f : Int) (es : List En) (g0 g1 : Bool) : rl f es g0 g1 es.length = readyL f es g0 g1 := by rw [rl, ← items_len f es, List.take_length]; rfl
theorem rl_yes {f : Int} {es : List En} {g0 g1 : Bool} {k : Nat} {x : En} (h : es[k]? = some x) (hb : rdyB g0 g1 (f + k, x) = true) : rl f es g0 g1 (k + 1) = rl f es g0 g1 k ++ [(f + k, x)] := by
  rw [rl, items_succ h, filter_yes _ hb]; rfl
theorem rl_no {f : Int} {es : List En} {g0 g1 : Bool} {k : Nat} {x : En} (h : es[k]? = some x) (hb : rdyB g0 g1 (f + k, x) = false) : rl f es g0 g1 (k + 1) = rl f es g0 g1 k := by
  rw [rl, items_succ h, filter_no _ hb]; rfl
theorem rl_len (f : Int) (es : List En) (g0 g1 : Bool) (k : Nat) : (rl f es g0 g1 k).length ≤ k := Nat.le_trans (List.length_filter_le _ _) (by rw [List.length_take]; exact Nat.min_le_left _ _)

/-- Where the loop stands. -/
structure RD (w : World) (g0 g1 : Bool) (v : Value) (m : Nat) (q : List Value) (W : World) : Prop where
  box : CB W w.heap.size 23 #[.bool g0, .bool g1]
  row : W.ownsRow (w.heap.size + 1) 3 1 v m q
  below : Below w.heap.size w W
theorem RD.later {w W W' : World} {g0 g1 : Bool} {v : Value} {m : Nat} {q : List Value} (h : RD w g0 g1 v m q W) (k : Below W.heap.size W W') : RD w g0 g1 v m q W' :=
  ⟨h.box.below k, own_later h.row k, h.below.trans (k.mono h.below.size)⟩
theorem RD.grow {w W w9 : World} {g0 g1 : Bool} {v v' : Value} {m m' : Nat} {q q' : List Value} {tmp : Obj} (h : RD w g0 g1 v m q W) (ho : w9.ownsRow (w.heap.size + 1) 3 1 v' m' q') (hg : (W.alloc tmp).grownBy w9 v.ownBlock) : RD w g0 g1 v' m' q' w9 :=
  ⟨CB.kept (h.box.alloc tmp) hg (own_above h.row (by omega)), ho, (h.below.alloc h.below.size tmp).grown hg (by have := h.below.size; simp; omega) (fun j e => by have := (h.row.lt j e).1; omega)⟩

set_option maxRecDepth 100000 in
set_option maxHeartbeats 8000000 in
theorem refReady_any {b lg xg : Nat} {la xa : Option Addr} {lc xc : Nat} {f : Int} {es : List En} {w : World} (g0 g1 : Bool) (h : RfAt w b lg xg la xa lc xc f es) (hf : Fit f es.length) (hg : ∀ x ∈ es, x.ln.Right) :
    Calls Try.prog 18 #[.pointer (some ⟨b, 0, none⟩), .agg #[.bool g0, .bool g1]] w (SomeInts w (idsOf (readyL f es g0 g1))) := by
  obtain ⟨i0, hi2, hz0, hz1, hz2⟩ := info_parts info_i
  obtain ⟨n, hn⟩ : ∃ n, es.length = n := ⟨_, rfl⟩
  have HN := hi hn
  have f0 := hf.f0
  have hn1 := hf.n1
  have hs1 := hf.s1
  rw [hn] at hn1 hs1
  have HG := hi hg
  have HA := hi (fun W (hW : Below w.heap.size w W) => h.below hW)
  have HL := hi (rl_len f es g0 g1)
  have HEND := hi (show rl f es g0 g1 n = readyL f es g0 g1 by rw [← hn]; exact rl_all f es g0 g1)
  have H0 := hi (show RD w g0 g1 (.slice none 0 0) (rl f es g0 g1 0).length (ints (idsOf (rl f es g0 g1 0))) (w.alloc (.cells #[.bool g0, .bool g1] 23)) from ⟨CB.new w _ _, by rw [rl_zero]; exact World.ownsRow_nil _ _ _ _, bal w _⟩)
  clear h hf hg hn
  go_enter Try.func18, Try.ntmps18
  go_wp2
  go_loopw [5, 6] (fun v i wr => ∃ k : Nat, k ≤ n ∧ i = .int .i64 k ∧ Hi (RD w g0 g1 v (rl f es g0 g1 k).length (ints (idsOf (rl f es g0 g1 k))) wr)) (fun _ i _ => n - (intOf i).toNat)
  case atStart => exact ⟨0, Nat.zero_le _, rfl, H0⟩
  case round =>
    obtain ⟨k, hk, rfl, HX⟩ := hrel
    clear H0
    have hR := HA.out _ HX.out.below
    have hbl := hR.box.lt
    have r0 := hR.box.cell 0
    have r1 := hR.box.cell 1
    have hwl := HX.out.box.lt
    have gb0 := HX.out.box.cell 0
    have gb1 := HX.out.box.cell 1
    have hws := HX.out.below.size
    rw [HN.out] at r1
    obtain ⟨m, hm⟩ : ∃ m, (rl f es g0 g1 k).length = m := ⟨_, rfl⟩
    obtain ⟨q, hq⟩ : ∃ q, ints (idsOf (rl f es g0 g1 k)) = q := ⟨_, rfl⟩
    have hml := HL.out k
    have HM := hi hm
    have HQ := hi hq
    have HX2 := HX
    rw [hm, hq] at HX2
    rw [hm] at hml
    have hmb : m ≤ 16384 := by omega
    by_cases hlt : k < n
    · have hke : es[k]? = some (nthE es k) := nthE_at (by rw [HN.out]; exact hlt)
      obtain ⟨x, hx⟩ : ∃ x, nthE es k = x := ⟨_, rfl⟩
      rw [hx] at hke
      obtain ⟨rfl, rfl, hlr, hxr, _⟩ := hR.ne0 (fun e => by rw [e] at hke; simp at hke)
      obtain ⟨e0, e1, e2, e3, e4, e5, e6⟩ := hlr.lnc hke
      have hlgl := hlr.lt
      have hrt := HG.out x (List.mem_of_getElem? hke)
      have HY := hi (rl_yes (f := f) (g0 := g0) (g1 := g1) hke)
      have HNO := hi (rl_no (f := f) (g0 := g0) (g1 := g1) hke)
      have hw : IntKind.i64.wrap (f + k) = f + k := by rw [IntKind.wrap_i64]; omega
      have HRD := hi (fun V => rready_any x.ln.st V)
      obtain ⟨rd, hrd⟩ : ∃ rd, x.ln.st.ready = rd := ⟨_, rfl⟩
      rw [hrd] at HRD
      have HRX := hi hrd
      clear hx hke hlr hxr hR HX hm hq hrd
      obtain ⟨⟨⟨e, lb', q', a⟩, en, gr, p⟩, s⟩ := x
      dsimp only [St.v] at HRD
      dsimp only at e0 e1 e2 e3 e4 e5 e6
      dsimp only [Ln.Right] at hrt
      obtain ⟨va, vc, rfl⟩ := own_slice HX2.out.row
      by_cases hen : en = true
      · subst hen
        rcases hrt with rfl | rfl
        · by_cases hgb : g0 = true
          · subst hgb
            by_cases hr1 : rd = true
            · subst hr1
              have HB := hi (HY.out (by have := HRX.out; dsimp only at this; simp [rdyB, this]))
              clear HY HNO
              go_wp2_with (first
                | (go_at_call 38; ((with_reducible refine (HRD.out _).mono ?_); rintro e' W2 ⟨rfl, hb⟩; have H2 := hi ((HX2.out.later (bal wr (.cells (Ln.ca ⟨⟨e, lb', q', a⟩, true, 0, p⟩) 32))).later hb); have hR2 := HA.out _ H2.out.below; have s0 := hR2.box.cell 0; have hrow2 := H2.out.row; have hw2 := H2.out.below.size; clear hb hR2))
                | (at_builtin; refine wpList_append_own _ rfl _ _ 43 rfl (w.heap.size + 1) 3 i0 (.int .i64 0) 1 8 Try.underlying43 hi2 hz0 hz1 hz2 rfl (by decide) _ _ _ rfl (hrow2.alloc _) ⟨W2.heap.size, 0, none⟩ 1 1 [.int .i64 (f + k)] rfl rfl (cell_one_new _ _ _) (by simp [Value.oneCell']) (by unfold maxLen; omega) (by omega) (by have := H2.out.box.lt; simp; omega) ?_; intro v' w9 hown' hgrow _; obtain ⟨g', cap', rfl⟩ := ownsRow_succ hown'; have H9 := hi (H2.out.grow hown' hgrow); clear hown' hgrow))
              go_roundw
              case rel =>
                refine ⟨k + 1, by omega, by go_num, hi ?_⟩
                rw [HB.out, idsOf_append, show idsOf [(f + (k : Int), (⟨⟨⟨e, lb', q', a⟩, true, 0, p⟩, s⟩ : En))] = [f + (k : Int)] from rfl, ints_append, HQ.out, List.length_append, HM.out]
                exact H9.out
              case measure => simp only [intOf]; omega
            · obtain rfl : rd = false := by simpa using hr1
              have HB := hi (HNO.out (by have := HRX.out; dsimp only at this; simp [rdyB, this]))
              clear HY HNO hr1
              go_wp2_with (first
                | (go_at_call 38; ((with_reducible refine (HRD.out _).mono ?_); rintro e' W2 ⟨rfl, hb⟩; have H2 := hi ((HX2.out.later (bal wr (.cells (Ln.ca ⟨⟨e, lb', q', a⟩, true, 0, p⟩) 32))).later hb); have hR2 := HA.out _ H2.out.below; have s0 := hR2.box.cell 0; have hrow2 := H2.out.row; have hw2 := H2.out.below.size; clear hb hR2)))
              go_roundw
              case rel =>
                refine ⟨k + 1, by omega, by go_num, hi ?_⟩
                rw [HB.out, HQ.out, HM.out]
                exact H2.out
              case measure => simp only [intOf]; omega
          · obtain rfl : g0 = false := by simpa using hgb
            have HB := hi (HNO.out (by simp [rdyB]))
            clear HY HNO hgb
            go_wp2
            go_roundw
            case rel =>
              refine ⟨k + 1, by omega, by go_num, hi ?_⟩
              rw [HB.out, HQ.out, HM.out]
              exact HX2.out.later (bal wr _)
            case measure => simp only [intOf]; omega
        · by_cases hgb : g1 = true
          · subst hgb
            by_cases hr1 : rd = true
            · subst hr1
              have HB := hi (HY.out (by have := HRX.out; dsimp only at this; simp [rdyB, this]))
              clear HY HNO
              go_wp2_with (first
                | (go_at_call 38; ((with_reducible refine (HRD.out _).mono ?_); rintro e' W2 ⟨rfl, hb⟩; have H2 := hi ((HX2.out.later (bal wr (.cells (Ln.ca ⟨⟨e, lb', q', a⟩, true, 1, p⟩) 32))).later hb); have hR2 := HA.out _ H2.out.below; have s0 := hR2.box.cell 0; have hrow2 := H2.out.row; have hw2 := H2.out.below.size; clear hb hR2))
                | (at_builtin; refine wpList_append_own _ rfl _ _ 43 rfl (w.heap.size + 1) 3 i0 (.int .i64 0) 1 8 Try.underlying43 hi2 hz0 hz1 hz2 rfl (by decide) _ _ _ rfl (hrow2.alloc _) ⟨W2.heap.size, 0, none⟩ 1 1 [.int .i64 (f + k)] rfl rfl (cell_one_new _ _ _) (by simp [Value.oneCell']) (by unfold maxLen; omega) (by omega) (by have := H2.out.box.lt; simp; omega) ?_; intro v' w9 hown' hgrow _; obtain ⟨g', cap', rfl⟩ := ownsRow_succ hown'; have H9 := hi (H2.out.grow hown' hgrow); clear hown' hgrow))
              go_roundw
              case rel =>
                refine ⟨k + 1, by omega, by go_num, hi ?_⟩
                rw [HB.out, idsOf_append, show idsOf [(f + (k : Int), (⟨⟨⟨e, lb', q', a⟩, true, 1, p⟩, s⟩ : En))] = [f + (k : Int)] from rfl, ints_append, HQ.out, List.length_append, HM.out]
                exact H9.out
              case measure => simp only [intOf]; omega
            · obtain rfl : rd = false := by simpa using hr1
              have HB := hi (HNO.out (by have := HRX.out; dsimp only at this; simp [rdyB, this]))
              clear HY HNO hr1
              go_wp2_with (first
                | (go_at_call 38; ((with_reducible refine (HRD.out _).mono ?_); rintro e' W2 ⟨rfl, hb⟩; have H2 := hi ((HX2.out.later (bal wr (.cells (Ln.ca ⟨⟨e, lb', q', a⟩, true, 1, p⟩) 32))).later hb); have hR2 := HA.out _ H2.out.below; have s0 := hR2.box.cell 0; have hrow2 := H2.out.row; have hw2 := H2.out.below.size; clear hb hR2)))
              go_roundw
              case rel =>
                refine ⟨k + 1, by omega, by go_num, hi ?_⟩
                rw [HB.out, HQ.out, HM.out]
                exact H2.out
              case measure => simp only [intOf]; omega
          · obtain rfl : g1 = false := by simpa using hgb
            have HB := hi (HNO.out (by simp [rdyB]))
            clear HY HNO hgb
            go_wp2
            go_roundw
            case rel =>
              refine ⟨k + 1, by omega, by go_num, hi ?_⟩
              rw [HB.out, HQ.out, HM.out]
              exact HX2.out.later (bal wr _)
            case measure => simp only [intOf]; omega
      · obtain rfl : en = false := by simpa using hen
        have HB := hi (HNO.out (by simp [rdyB]))
        clear HY HNO hen
        go_wp2
        go_roundw
        case rel =>
          refine ⟨k + 1, by omega, by go_num, hi ?_⟩
          rw [HB.out, HQ.out, HM.out]
          exact HX2.out.later (bal wr _)
        case measure => simp only [intOf]; omega
    · obtain rfl : k = n := by omega
      obtain ⟨va, vc, rfl⟩ := own_slice HX2.out.row
      go_wp2
      go_ret
      refine someInts_of (base := w.heap.size + 1) ?_ HX2.out.below
      rw [← HEND.out, idsOf_len, HM.out, HQ.out]
      exact HX2.out.row

end Go.Proofs.Ytfjihpcemmobjaa
