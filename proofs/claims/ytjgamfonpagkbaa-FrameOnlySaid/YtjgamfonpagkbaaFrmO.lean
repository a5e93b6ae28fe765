/-
  crierref01.Has over a slice of ints; frame.Only at every bank and every ids.
-/
import Derived.Test.YtjgamfonpagkbaaLnEq
import Derived.Test.YtjgamfonpagkbaaInts
import Derived.Test.YtjgamfonpagkbaaLawA
import Derived.Test.YtjgamfonpagkbaaLawF
namespace Go.Proofs.Ytjgamfonpagkbaa
open Go.ChangeShapes Go.WideShapes Go.ChangeAt Go.RowKit Go.Shelf
set_option linter.unusedVariables false
attribute [local go_sem] Oper.semAt_some

theorem intsAt_grew {W W' : World} {v : Value} {xs : List Int} (h : IntsAt W v xs) (hb : Below W.heap.size W W') : IntsAt W' v xs := by
  obtain ⟨a, cap, hv, hcap, hc⟩ := h
  refine ⟨a, cap, hv, hcap, fun hx => ?_⟩
  obtain ⟨b, off, ha, hcs⟩ := hc hx
  exact ⟨b, off, ha, fun j hj => cell_kept (hcs j hj) (Below.grew hb) (fun r e => by cases e)⟩
def isIn (xs : List Int) (x : Int) : Bool := decide (x ∈ xs)
def NotUpto (xs : List Int) (x : Int) (k : Nat) : Prop := ∀ j, j < k → xs[j]?.getD 0 ≠ x
theorem NotUpto.zero (xs : List Int) (x : Int) : NotUpto xs x 0 := fun j h => by omega
theorem NotUpto.succ {xs : List Int} {x : Int} {k : Nat} (h : NotUpto xs x k) (e : xs[k]?.getD 0 ≠ x) : NotUpto xs x (k + 1) := fun j hj => by
  by_cases y : j = k
  · subst y; exact e
  · exact h j (by omega)
theorem isIn_no {xs : List Int} {x : Int} (h : NotUpto xs x xs.length) : isIn xs x = false := by
  simp only [isIn, decide_eq_false_iff_not, List.mem_iff_getElem]
  rintro ⟨i, hi, e⟩
  exact h i hi (by simp [hi, e])
theorem isIn_at {xs : List Int} {x : Int} {k : Nat} (hk : k < xs.length) (h : xs[k]?.getD 0 = x) : isIn xs x = true := by
  simp only [isIn, decide_eq_true_eq, List.mem_iff_getElem]
  exact ⟨k, hk, by simpa [hk] using h⟩

set_option maxHeartbeats 1000000 in
theorem ints_has (xs : List Int) (x : Int) (va : Value) (w : World) (ha : IntsAt w va xs) (hx : xs.length ≤ 9223372036854775806) :
    Calls Try.prog 22 #[va, .int .i64 x] w fun e w' => e = .returned (.bool (isIn xs x)) ∧ w = w' := by
  obtain ⟨a, cap, rfl, _, ha⟩ := ha
  go_enter Try.func22, Try.ntmps22
  go_wp2
  go_loop [5] (fun i => ∃ k : Nat, k ≤ xs.length ∧ i = .int .i64 k ∧ NotUpto xs x k) (fun i => xs.length - (intOf i).toNat)
  case atStart => exact ⟨0, Nat.zero_le _, rfl, NotUpto.zero _ _⟩
  case round =>
    obtain ⟨k, hk, rfl, hu⟩ := hrel
    by_cases hlt : k < xs.length
    · have hne : xs ≠ [] := fun e => by simp [e] at hlt
      obtain ⟨b1, o1, rfl, h1⟩ := ha hne
      have hc1 := h1 k hlt
      have HU := Lib.hid hu
      clear h1 ha hne hu
      go_wp2
      · have hq : (xs[k] == x) = true := by assumption
        go_ret
        exact ⟨by rw [isIn_at hlt (by simpa [hlt] using hq)]; rfl, rfl⟩
      · have hq : (xs[k] == x) = false := by assumption
        go_round
        case rel => exact ⟨k + 1, by omega, by go_num, HU.out.succ (by simpa [hlt] using hq)⟩
        case measure => simp [intOf]; omega
    · have e : k = xs.length := by omega
      subst e
      have hs := isIn_no hu
      have HS := Lib.hid hs
      clear hs hu ha
      go_wp2
      go_ret
      exact ⟨by rw [HS.out]; rfl, rfl⟩

/-! ### Only -/
def keepK (f : Int) (es : List En) (cur : List En) (id : Int) : List En := if hasB f es.length id then cur.set (id - f).toNat (nthE es (id - f).toNat) else cur
def onlyV (f : Int) (es : List En) (ids : List Int) : List En := ids.foldl (keepK f es) (es.map En.wipe)
theorem keepK_len (f : Int) (es cur : List En) (id : Int) : (keepK f es cur id).length = cur.length := by
  unfold keepK
  split
  · simp
  · rfl
theorem keep_len (f : Int) (es : List En) : ∀ (ids : List Int) (cur : List En), (ids.foldl (keepK f es) cur).length = cur.length
  | [], _ => rfl
  | x :: xs, cur => by rw [List.foldl_cons, keep_len f es xs, keepK_len]
theorem onlyV_len (f : Int) (es : List En) (ids : List Int) : (onlyV f es ids).length = es.length := by rw [onlyV, keep_len, List.length_map]
theorem keep_at (f : Int) (es : List En) (j : Nat) (hj : j < es.length) : ∀ (ids : List Int) (cur : List En), cur.length = es.length →
    nthE (ids.foldl (keepK f es) cur) j = if isIn ids (f + j) then nthE es j else nthE cur j
  | [], _, _ => by simp [isIn]
  | x :: xs, cur, hc => by
    rw [List.foldl_cons, keep_at f es j hj xs _ (by rw [keepK_len, hc])]
    by_cases h1 : (f + (j : Int)) ∈ xs
    · simp [isIn, h1]
    · by_cases h2 : f + (j : Int) = x
      · have h3 : hasB f es.length x = true := by rw [hasB_iff]; omega
        have h4 : (x - f).toNat = j := by omega
        simp only [isIn, h2, List.mem_cons, true_or, decide_true, if_true]
        simp only [keepK, h3, if_true, h4]
        split
        · rfl
        · exact nthE_set_self (by omega)
      · have h5 : nthE (keepK f es cur x) j = nthE cur j := by
          unfold keepK
          split
          · rename_i h6
            rw [hasB_iff] at h6
            exact nthE_set_ne (by omega)
          · rfl
        simp [isIn, h1, h2, h5]
theorem onlyV_at {f : Int} {es : List En} {ids : List Int} {j : Nat} (hj : j < es.length) : nthE (onlyV f es ids) j = if isIn ids (f + j) then nthE es j else (nthE es j).wipe := by
  have h1 : nthE (es.map En.wipe) j = (nthE es j).wipe := by
    simp only [nthE, List.getElem?_map, List.getElem?_eq_getElem hj, Option.map_some, Option.getD_some]
  rw [onlyV, keep_at f es j hj ids _ (by simp), h1]
theorem nth_any {es : List En} {x : En} (h : x ∈ es) : ∃ j, j < es.length ∧ nthE es j = x := by
  obtain ⟨j, hj, e⟩ := List.mem_iff_getElem.1 h
  exact ⟨j, hj, by simp [nthE, List.getElem?_eq_getElem hj, e]⟩
theorem onlyV_fine {f : Int} {es : List En} {ids : List Int} (h : FineAll es) : FineAll (onlyV f es ids) := fun x hx => by
  obtain ⟨j, hj, rfl⟩ := nth_any hx
  rw [onlyV_len] at hj
  rw [onlyV_at hj]
  split
  · exact h.nth hj
  · exact fine_zero
def keepTo (f : Int) (es : List En) (ids : List Int) (k : Nat) : List En := (ids.take k).foldl (keepK f es) (es.map En.wipe)
theorem keepTo_zero (f : Int) (es : List En) (ids : List Int) : keepTo f es ids 0 = es.map En.wipe := rfl
theorem keepTo_all (f : Int) (es : List En) (ids : List Int) : keepTo f es ids ids.length = onlyV f es ids := by rw [keepTo, List.take_length]; rfl
theorem keepTo_len (f : Int) (es : List En) (ids : List Int) (k : Nat) : (keepTo f es ids k).length = es.length := by rw [keepTo, keep_len, List.length_map]
theorem keepTo_succ {f : Int} {es : List En} {ids : List Int} {k : Nat} (h : k < ids.length) : keepTo f es ids (k + 1) = keepK f es (keepTo f es ids k) (ids[k]?.getD 0) := by
  rw [keepTo, List.take_add_one, List.foldl_append, keepTo, List.getElem?_eq_getElem h]
  rfl

/-- Where Only stands: the source, and the copy above it. -/
structure OnA (w : World) (b g cap b2 g2 cap2 : Nat) (f : Int) (es q : List En) (W : World) : Prop where
  src : BkAt W b g cap f es
  dst : BkAt W b2 g2 cap2 f q
  l1 : w.heap.size ≤ b2
  l2 : w.heap.size ≤ g2
  lb : b < w.heap.size
  lg : g < w.heap.size
  below : Below w.heap.size w W
section
variable {w W W' : World} {b g cap b2 g2 cap2 : Nat} {f : Int} {es q q' : List En}
theorem OnA.later (h : OnA w b g cap b2 g2 cap2 f es q W) (k : Below W.heap.size W W') : OnA w b g cap b2 g2 cap2 f es q W' := ⟨h.src.below k, h.dst.below k, h.l1, h.l2, h.lb, h.lg, h.below.trans (k.mono h.below.size)⟩
theorem OnA.put (h : OnA w b g cap b2 g2 cap2 f es q W) (k : After W b2 g2 cap2 f q' W') : OnA w b g cap b2 g2 cap2 f es q' W' :=
  have h1 := h.lb; have h2 := h.lg; have h3 := h.l2
  ⟨h.src.kept k.kept (fun e => by omega) (fun e => by omega), k.bk, h.l1, h.l2, h.lb, h.lg, h.below.trans (k.kept.toBelow h.below.size (fun i e => by subst e; exact h.l2))⟩
end
theorem ints_slice {W : World} {v : Value} {xs : List Int} (h : IntsAt W v xs) : ∃ a cap, v = .slice a xs.length cap := by obtain ⟨a, cap, e, _⟩ := h; exact ⟨a, cap, e⟩
theorem ints_read {W : World} {a : Option Addr} {n cap : Nat} {xs : List Int} (h : IntsAt W (.slice a n cap) xs) {k : Nat} (hk : k < n) : n = xs.length ∧ ∃ b o : Nat, a = some ⟨b, o, none⟩ ∧ W.cell? ⟨b, o + k, none⟩ = some (.int .i64 (xs[k]?.getD 0)) := by
  obtain ⟨a', cap', e, _, hc⟩ := h
  injection e with e1 e2 e3
  subst e1; subst e2
  obtain ⟨b, o, ha, hcs⟩ := hc (fun e => by simp [e] at hk)
  exact ⟨rfl, b, o, ha, hcs k hk⟩

set_option maxRecDepth 100000 in
set_option maxHeartbeats 8000000 in
theorem only_any {b g cap : Nat} {f : Int} {es : List En} {v : Value} {ids : List Int} {w : World} (h : BkAt w b g cap f es) (hf : Fit f es.length) (hfine : FineAll es) (hv : IntsAt w v ids) (hr : ∀ x ∈ ids, Int64 x) (hl : ids.length ≤ 9223372036854775806) :
    Calls Try.prog 20 #[.pointer (some ⟨b, 0, none⟩), v] w fun e w' => ∃ b' g' cap', e = .returned (.pointer (some ⟨b', 0, none⟩)) ∧ w.heap.size ≤ b' ∧ w.heap.size ≤ g' ∧ BkAt w' b' g' cap' f (onlyV f es ids) ∧ Below w.heap.size w w' := by
  obtain ⟨a0, cap0, rfl⟩ := ints_slice hv
  have CC := hi (copy_any h hf)
  have HV := hi hv
  have HR := hi hr
  have H := hi h
  have HF := hi hf
  have HFA := hi hfine
  have hbl := h.box.lt
  have hgl := h.row.lt
  have HK0 := hi (keepTo_zero f es ids)
  have HKA := hi (keepTo_all f es ids)
  have HKL := hi (fun k => keepTo_len f es ids k)
  have HKS := hi (fun k (hk : k < ids.length) => keepTo_succ (f := f) (es := es) hk)
  obtain ⟨k9, hk9⟩ : ∃ k, ids.length = k := ⟨_, rfl⟩
  have HID := hi (show ∀ k, k < k9 → Int64 (ids[k]?.getD 0) from fun k hk => by
    rw [← hk9] at hk
    rw [List.getElem?_eq_getElem hk]
    exact hr _ (List.getElem_mem hk))
  rw [hk9] at HV hl HKA HKS ⊢
  clear h hv hr hf hfine hk9
  go_enter Try.func20, Try.ntmps20
  go_wp2_with (first
    | (go_at_call 40; ((with_reducible refine CC.out.mono ?_); rintro e' w1 ⟨b2, g2, cap2, rfl, hb2, hg2, hbk, hB⟩; have HO1 := hi (show OnA w b g cap b2 g2 cap2 f es es w1 from ⟨H.out.below hB, hbk, hb2, hg2, hbl, hgl, hB⟩); clear hbk hB hb2 hg2))
    | (go_at_call 23; ((with_reducible refine (reset_any HO1.out.dst HF.out).mono ?_); rintro e' w2 ⟨rfl, hA⟩; have HO2 := hi (HO1.out.put hA); clear hA)))
  go_loopw [16] (fun i wr => ∃ k : Nat, k ≤ k9 ∧ i = .int .i64 k ∧ Hi (OnA w b g cap b2 g2 cap2 f es (keepTo f es ids k) wr)) (fun i _ => k9 - (intOf i).toNat)
  case atStart => exact ⟨0, Nat.zero_le _, rfl, by rw [HK0.out]; exact HO2⟩
  case round =>
    obtain ⟨k, hk, rfl, HX⟩ := hrel
    clear HO2 HO1 HK0
    by_cases hlt : k < k9
    · obtain ⟨h9, ab, o, rfl, c0⟩ := ints_read (intsAt_grew HV.out HX.out.below) hlt
      clear h9
      have hid := HID.out k hlt
      have HS := hi (HKS.out k hlt)
      have HL := hi (HKL.out k)
      obtain ⟨q, hq⟩ : ∃ q, keepTo f es ids k = q := ⟨_, rfl⟩
      obtain ⟨id, he⟩ : ∃ id, ids[k]?.getD 0 = id := ⟨_, rfl⟩
      rw [hq] at HX HS HL
      rw [he] at HS hid c0
      clear hq he
      by_cases hb : hasB f es.length id = true
      · obtain ⟨j, hj, hjn, hje⟩ := has_at hb
        have HW := hi (show keepTo f es ids (k + 1) = q.set j (nthE es j) by rw [HS.out, keepK, if_pos hb, hje])
        have hke := nthE_at hjn
        have HFY := hi (HFA.out.nth hjn)
        have HG := hi (get_yes HX.out.src HF.out hke)
        rw [← hj] at HG
        have HP := hi (fun W (hW : BkAt W b2 g2 cap2 f q) => put_yes (x := nthE es j) hW (by rw [HL.out]; exact HF.out) (show j < q.length by rw [HL.out]; exact hjn) HFY.out.ok)
        rw [real_fine HFY.out, ← hj] at HP
        clear HFY hke hj hje HS hb
        obtain ⟨y, hy⟩ : ∃ y, nthE es j = y := ⟨_, rfl⟩
        rw [hy] at HW HG HP
        clear hy
        obtain ⟨⟨⟨e, lb', qq, a⟩, en, gr, p⟩, s⟩ := y
        dsimp only [En.v, Ln.v] at HG HP
        go_wp2_with (first
          | (go_at_call 19; ((with_reducible refine HG.out.mono ?_); rintro e' V1 ⟨rfl, hB⟩; have HX1 := hi ((HX.out.later hB).later (bal V1 (.cells #[.bool e, .bool lb', .bool qq, .bool a, .bool en, .int .i64 gr, .int .i64 p, .string s] 54))); obtain ⟨d0, d1, d2, d3, d4, d5, d6, d7⟩ := CB.ent (x := ⟨⟨⟨e, lb', qq, a⟩, en, gr, p⟩, s⟩) (CB.new V1 54 #[.bool e, .bool lb', .bool qq, .bool a, .bool en, .int .i64 gr, .int .i64 p, .string s]); dsimp only at d0 d1 d2 d3 d4 d5 d6 d7; clear hB))
          | (go_at_call 39; ((with_reducible refine (HP.out _ HX1.out.dst).mono ?_); rintro e' V2 ⟨rfl, hA⟩; have HX2 := hi (HX1.out.put hA); clear hA)))
        go_roundw
        case rel => exact ⟨k + 1, by omega, by go_num, by rw [HW.out]; exact HX2⟩
        case measure => simp only [intOf]; omega
      · have hb' : hasB f es.length id = false := by simpa using hb
        have HW := hi (show keepTo f es ids (k + 1) = q by rw [HS.out, keepK, if_neg hb])
        have HG := hi (get_no HX.out.src HF.out hid hb')
        clear hb hb' HS
        go_wp2_with (first
          | (go_at_call 19; ((with_reducible refine HG.out.mono ?_); rintro e' V1 ⟨rfl, hB⟩; have HX1 := hi ((HX.out.later hB).later (bal V1 (.cells En.zero.ca 54))); clear hB)))
        go_roundw
        case rel => exact ⟨k + 1, by omega, by go_num, by rw [HW.out]; exact HX1⟩
        case measure => simp only [intOf]; omega
    · obtain rfl : k = k9 := by omega
      rw [HKA.out] at HX
      go_wp2
      go_ret
      exact ⟨b2, g2, cap2, rfl, HX.out.l1, HX.out.l2, HX.out.dst, HX.out.below⟩

end Go.Proofs.Ytjgamfonpagkbaa
