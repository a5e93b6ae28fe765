/-
  The document's Place.
-/
import Derived.Test.YtcdfkdlddmkhmaaBusI
namespace Go.Proofs.Ytcdfkdlddmkhmaa
open Go.ChangeShapes Go.WideShapes Go.ChangeAt Go.RowKit
set_option linter.unusedVariables false

theorem gap1_ok {a t : Int} {g : Int × Int} (h : g ∈ gap1 a t) (ha : 0 ≤ a) : 0 ≤ g.1 ∧ 1 ≤ g.2 ∧ g.1 + g.2 ≤ t := by
  unfold gap1 at h
  split at h
  · simp at h; subst h; simp; omega
  · cases h
theorem gaps_ok {fin : Int} : ∀ {l : List Sp} {a : Int}, (∀ x ∈ l, x.Ok) → 0 ≤ a → ∀ g ∈ gapsFrom fin a l, 0 ≤ g.1 ∧ 1 ≤ g.2 ∧ g.1 + g.2 ≤ fin
  | [], a, _, ha, g, hg => gap1_ok hg ha
  | x :: r, a, h, ha, g, hg => by
    rcases List.mem_append.1 hg with q | q
    · have := gap1_ok q ha; omega
    · have hx := h x (by simp)
      exact gaps_ok (fun z hz => h z (List.mem_cons_of_mem _ hz)) (by have := hx.b0; have := hx.s1; omega) g q

def fitB (size step : Int) (g : Int × Int) : Bool := decide (mulUp g.1 step + size ≤ g.1 + g.2)
def two (a b : Int) : Value := .tuple #[.int .i64 a, .int .i64 b]
def placeT (step : Int) : Option (Int × Int) → Value
  | some g => two (mulUp g.1 step) 0
  | none => two 0 2
def badP (size step fin : Int) : Prop := size < 1 ∨ 1099511627776 < size ∨ step < 1 ∨ 1099511627776 < step ∨ fin < 0 ∨ 1099511627776 < fin
instance (size step fin : Int) : Decidable (badP size step fin) := by unfold badP; exact inferInstance
def placeV (xs : List Sp) (size step fin : Int) : Value := if badP size step fin then two 0 1 else placeT step ((gapsFrom fin 0 xs).find? (fitB size step))
theorem findG_none {α : Type} {xs : List α} {p : α → Bool} (h : ∀ x ∈ xs, p x = false) : xs.find? p = none := List.find?_eq_none.2 fun x hx => by simp [h x hx]
theorem findG_some {α : Type} {xs ini : List α} {x : α} {p : α → Bool} (hp : ini ++ [x] <+: xs) (h : ∀ z ∈ ini, p z = false) (hx : p x = true) : xs.find? p = some x := by
  obtain ⟨r, rfl⟩ := hp
  rw [List.find?_append, List.find?_append, findG_none h]
  simp [hx]
theorem findG_at {α : Type} {xs : List α} {k : Nat} {x : α} {p : α → Bool} (hx : xs[k]? = some x) (h : ∀ (j : Nat) (z : α), j < k → xs[j]? = some z → p z = false) (hp : p x = true) : xs.find? p = some x := by
  refine findG_some (ini := xs.take k) ?_ (fun z hz => ?_) hp
  · have := List.take_prefix (k + 1) xs
    rwa [List.take_add_one, hx] at this
  · obtain ⟨j, hj⟩ := List.mem_iff_getElem?.1 hz
    have hjk : j < k := by have := (List.getElem?_eq_some_iff.1 hj).1; simp at this; omega
    rw [List.getElem?_take, if_pos hjk] at hj
    exact h j z hjk hj

theorem flatG_get : ∀ (l : List (Int × Int)) (k : Nat) (g : Int × Int), l[k]? = some g → (flatG l)[2 * k]? = some g.1 ∧ (flatG l)[2 * k + 1]? = some g.2
  | [], k, g, h => by simp at h
  | y :: r, 0, g, h => by
    simp only [List.getElem?_cons_zero, Option.some.injEq] at h
    subst h
    exact ⟨rfl, rfl⟩
  | y :: r, k + 1, g, h => by
    have := flatG_get r k g (by simpa using h)
    simp only [flatG, List.flatMap_cons, List.cons_append, List.nil_append]
    exact ⟨by rw [show 2 * (k + 1) = 2 * k + 1 + 1 by omega]; simpa [flatG] using this.1, by rw [show 2 * (k + 1) + 1 = 2 * k + 1 + 1 + 1 by omega]; simpa [flatG] using this.2⟩
/-- The two numbers of a range, where they lie. -/
theorem gap_cells {W : World} {base g cap n : Nat} {l : List (Int × Int)} (h : W.ownsRow base 3 1 (.slice (some ⟨g, 0, none⟩) n cap) n (ints (flatG l))) {k i : Nat} {q : Int × Int} (hq : l[k]? = some q) (hi : i = 2 * k) :
    W.cell? ⟨g, i, none⟩ = some (.int .i64 q.1) ∧ W.cell? ⟨g, i + 1, none⟩ = some (.int .i64 q.2) := by
  have hc := h.cells (g := g) rfl
  obtain ⟨a, b⟩ := flatG_get l k q hq
  subst hi
  have ha := hc (2 * k) (.int .i64 q.1) (by simp [ints, a])
  have hb := hc (2 * k + 1) (.int .i64 q.2) (by simp [ints, b])
  rw [addr_add, Nat.zero_add] at ha hb
  exact ⟨ha, hb⟩

set_option maxRecDepth 100000 in
set_option maxHeartbeats 4000000 in
theorem rplace_bad (v : Value) (a : Option Addr) (n cap : Nat) (size step fin : Int) (w : World) (hv : v = .slice a n cap) (hb : badP size step fin) :
    Calls Try.prog 17 #[v, .int .i64 size, .int .i64 step, .int .i64 fin] w fun e w' => e = .returned (two 0 1) ∧ Below w.heap.size w w' := by
  subst hv
  unfold badP at hb
  have HB := hi hb
  clear hb
  go_enter Try.func17, Try.ntmps17
  go_wp2
  all_goals (first
    | (go_ret2; exact ⟨rfl, Below.refl _ _⟩)
    | (exfalso; have := HB.out; omega))

set_option maxRecDepth 100000 in
set_option maxHeartbeats 4000000 in
theorem rplace_ok (lo hi' : Nat) (v : Value) (xs : List Sp) (size step fin : Int) (w : World) (h : SpIn lo hi' w v xs) (hh : hi' ≤ w.heap.size) (hR : Row xs) (hb : ¬ badP size step fin) :
    Calls Try.prog 17 #[v, .int .i64 size, .int .i64 step, .int .i64 fin] w fun e w' => e = .returned (placeT step ((gapsFrom fin 0 xs).find? (fitB size step))) ∧ Below w.heap.size w w' := by
  unfold badP at hb
  have hs0 : 1 ≤ size := by omega
  have hs1 : size ≤ 1099511627776 := by omega
  have ht0 : 1 ≤ step := by omega
  have ht1 : step ≤ 1099511627776 := by omega
  have hf0 : 0 ≤ fin := by omega
  have hf1 : fin ≤ 1099511627776 := by omega
  clear hb
  have d1 : decide (size < 1) = false := by simp; omega
  have d2 : decide (1099511627776 < size) = false := by simp; omega
  have d3 : decide (step < 1) = false := by simp; omega
  have d4 : decide (1099511627776 < step) = false := by simp; omega
  have d5 : decide (fin < 0) = false := by simp; omega
  have d6 : decide (1099511627776 < fin) = false := by simp; omega
  have HF := hi (rfree_any lo hi' v xs fin w h hh hR (by omega) (by omega))
  have hgl := gaps_len fin xs
  have hxl := hR.len
  have HG := hi (gaps_ok (fin := fin) (a := 0) hR.ok (Int.le_refl _))
  obtain ⟨gs, hgs⟩ : ∃ gs, gapsFrom fin 0 xs = gs := ⟨_, rfl⟩
  rw [hgs] at HF HG hgl ⊢
  obtain ⟨a, cap, rfl⟩ := h.slice
  obtain ⟨n, hn⟩ : ∃ n, xs.length = n := ⟨_, rfl⟩
  rw [hn] at HF hgl hxl ⊢
  obtain ⟨m, hm⟩ : ∃ m, gs.length = m := ⟨_, rfl⟩
  have HM := hi hm
  rw [hm] at HF hgl
  clear h hR hgs hn hm
  go_enter Try.func17, Try.ntmps17
  go_wp2_with (go_at_call 20; ((with_reducible refine HF.out.mono ?_); rintro e w1 ⟨o, rfl, hown, hb1⟩; obtain ⟨oa, oc, rfl⟩ := ownI_slice hown; have HO := hi hown; have HB := hi hb1; clear hown hb1))
  go_loopw [11] (fun i wr => ∃ j k : Nat, i = .int .i64 j ∧ j ≤ 2 * m ∧ Hi (j = 2 * k ∧ (∀ (t : Nat) (z : Int × Int), t < k → gs[t]? = some z → fitB size step z = false) ∧ Below w1.heap.size w1 wr)) (fun i _ => 2 * m - (intOf i).toNat)
  case atStart => exact ⟨0, 0, rfl, Nat.zero_le _, hi ⟨rfl, fun t z h => by omega, Below.refl _ _⟩⟩
  case round =>
    obtain ⟨j, k, rfl, hj, HJ⟩ := hrel
    have hjk := HJ.out.1
    by_cases hlt : j < 2 * m
    · obtain ⟨q, hq⟩ : ∃ q, gs[k]? = some q := ⟨gs[k]'(by have := HM.out; omega), List.getElem?_eq_getElem _⟩
      have hoa : ∃ go, oa = some ⟨go, 0, none⟩ ∧ go < w1.heap.size := by
        rcases HO.out.2 with ⟨_, h0⟩ | ⟨g, c, cur, e, _, hg, _⟩
        · omega
        · simp only [Value.slice.injEq] at e; exact ⟨g, e.1, (Array.getElem?_eq_some_iff.1 hg).1⟩
      obtain ⟨go, rfl, hgo⟩ := hoa
      obtain ⟨c0, c1⟩ := gap_cells (ownI_later HO.out HJ.out.2.2) hq hjk
      obtain ⟨g0, g1, g2⟩ := HG.out q (List.mem_of_getElem? hq)
      obtain ⟨mq, e1, e2, e3⟩ := mulUp_spec g0 ht0
      have hmod := mulUp_mod g0 ht0
      have HQ := hi hq
      obtain ⟨u, hu⟩ : ∃ u, mulUp q.1 step = u := ⟨_, rfl⟩
      have HU := hi hu
      rw [hu] at e2 e3 hmod
      have hft : fitB size step q = decide (u + size ≤ q.1 + q.2) := by unfold fitB; rw [hu]
      have HFT := hi hft
      have m0 := Int.emod_nonneg q.1 (show step ≠ 0 by omega)
      have m1 := Int.emod_lt_of_pos q.1 (show 0 < step by omega)
      obtain ⟨qa, qn⟩ := q
      dsimp only at c0 c1 g0 g1 g2 e2 e3 hmod m0 m1 HFT
      have hj1 : j + 1 < 2 * m := by omega
      clear hq hu e1 hft hgo hjk
      by_cases hz : qa % step = 0
      · rw [if_pos hz] at hmod
        have hzb : (qa % step != 0) = false := by simpa using hz
        have hu2 : u = qa := hmod
        have hq1 : 0 ≤ qa := by omega
        have hq2 : qa ≤ 2199023255552 := by omega
        obtain ⟨S, hS⟩ : ∃ S, qa + size = S := ⟨_, rfl⟩
        obtain ⟨E, hE⟩ : ∃ E, qa + qn = E := ⟨_, rfl⟩
        have hw1 : IntKind.i64.wrap (qa + size) = S := by rw [IntKind.wrap_i64]; omega
        have hw2 : IntKind.i64.wrap (qa + qn) = E := by rw [IntKind.wrap_i64]; omega
        have hw3 : IntKind.i64.wrap ((j : Int) + 1) = (j : Int) + 1 := by rw [IntKind.wrap_i64]; omega
        have hw4 : (0 : Int) ≤ (j : Int) + 1 := by omega
        have hw5 : ((j : Int) + 1).toNat = j + 1 := by omega
        have hw6 : (j : Int) + 1 < 2 * (m : Int) := by omega
        have hfq : fitB size step (qa, qn) = decide (S ≤ E) := by rw [HFT.out, hu2, hS, hE]
        have HFQ := hi hfq
        have HU2 := hi hu2
        by_cases hft : S ≤ E
        · have t1 : decide (S ≤ E) = true := by simpa using hft
          have hfd := findG_at HQ.out HJ.out.2.1 (by rw [HFQ.out, t1])
          have HFD := hi hfd
          clear hft hfq hS hE hu2 hmod e2 e3 hfd hz
          go_wp2
          go_quiet (fail)
          go_wp2
          go_ret2
          exact ⟨by rw [HFD.out]; show _ = Ending.returned (two (mulUp qa step) 0); rw [HU.out, HU2.out]; rfl, HB.out.trans ((Below.drewN HJ.out.2.2).mono HB.out.size)⟩
        · have t1 : decide (S ≤ E) = false := by simpa using hft
          have hfn : fitB size step (qa, qn) = false := by rw [HFQ.out, t1]
          have HFN := hi hfn
          clear hft hfq hS hE hu2 hmod e2 e3 hfn hz
          go_wp2
          go_quiet (fail)
          go_wp2
          go_roundw
          case rel => exact ⟨j + 2, k + 1, by go_num, by omega, hi ⟨by have := HJ.out.1; omega, fun t z ht hz => by
            rcases Nat.lt_or_ge t k with q | q
            · exact HJ.out.2.1 t z q hz
            · obtain rfl : t = k := by omega
              rw [HQ.out] at hz
              cases hz
              exact HFN.out, Below.drewN HJ.out.2.2⟩⟩
          case measure => simp [intOf]; omega
      · rw [if_neg hz] at hmod
        have hzb : (qa % step != 0) = true := by simpa using hz
        have hu2 : u = (qa + step - qa % step) := hmod
        have hq1 : 0 ≤ (qa + step - qa % step) := by omega
        have hq2 : (qa + step - qa % step) ≤ 2199023255552 := by omega
        obtain ⟨S, hS⟩ : ∃ S, (qa + step - qa % step) + size = S := ⟨_, rfl⟩
        obtain ⟨E, hE⟩ : ∃ E, qa + qn = E := ⟨_, rfl⟩
        have hw1 : IntKind.i64.wrap ((qa + step - qa % step) + size) = S := by rw [IntKind.wrap_i64]; omega
        have hw2 : IntKind.i64.wrap (qa + qn) = E := by rw [IntKind.wrap_i64]; omega
        have hw3 : IntKind.i64.wrap ((j : Int) + 1) = (j : Int) + 1 := by rw [IntKind.wrap_i64]; omega
        have hw4 : (0 : Int) ≤ (j : Int) + 1 := by omega
        have hw5 : ((j : Int) + 1).toNat = j + 1 := by omega
        have hw6 : (j : Int) + 1 < 2 * (m : Int) := by omega
        have hfq : fitB size step (qa, qn) = decide (S ≤ E) := by rw [HFT.out, hu2, hS, hE]
        have HFQ := hi hfq
        have HU2 := hi hu2
        by_cases hft : S ≤ E
        · have t1 : decide (S ≤ E) = true := by simpa using hft
          have hfd := findG_at HQ.out HJ.out.2.1 (by rw [HFQ.out, t1])
          have HFD := hi hfd
          clear hft hfq hS hE hu2 hmod e2 e3 hfd hz
          go_wp2
          go_quiet (fail)
          go_wp2
          go_ret2
          exact ⟨by rw [HFD.out]; show _ = Ending.returned (two (mulUp qa step) 0); rw [HU.out, HU2.out]; rfl, HB.out.trans ((Below.drewN HJ.out.2.2).mono HB.out.size)⟩
        · have t1 : decide (S ≤ E) = false := by simpa using hft
          have hfn : fitB size step (qa, qn) = false := by rw [HFQ.out, t1]
          have HFN := hi hfn
          clear hft hfq hS hE hu2 hmod e2 e3 hfn hz
          go_wp2
          go_quiet (fail)
          go_wp2
          go_roundw
          case rel => exact ⟨j + 2, k + 1, by go_num, by omega, hi ⟨by have := HJ.out.1; omega, fun t z ht hz => by
            rcases Nat.lt_or_ge t k with q | q
            · exact HJ.out.2.1 t z q hz
            · obtain rfl : t = k := by omega
              rw [HQ.out] at hz
              cases hz
              exact HFN.out, Below.drewN HJ.out.2.2⟩⟩
          case measure => simp [intOf]; omega
    · obtain rfl : j = 2 * m := by omega
      have hf := findG_none (xs := gs) (p := fitB size step) fun z hz => by
        obtain ⟨t, ht⟩ := List.mem_iff_getElem?.1 hz
        exact HJ.out.2.1 t z (by have := (List.getElem?_eq_some_iff.1 ht).1; have := HM.out; omega) ht
      have HFN := hi hf
      clear hf hlt hj hjk
      go_wp2
      go_ret2
      exact ⟨by rw [HFN.out]; rfl, HB.out.trans (HJ.out.2.2.mono HB.out.size)⟩

end Go.Proofs.Ytcdfkdlddmkhmaa
