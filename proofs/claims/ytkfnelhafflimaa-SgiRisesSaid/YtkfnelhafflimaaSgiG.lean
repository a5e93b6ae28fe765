/-
  The document's To at every call; crierref01.Has.
-/
import Derived.Test.YtkfnelhafflimaaSgiF
namespace Go.Proofs.Ytkfnelhafflimaa
open Go.ChangeShapes Go.WideShapes Go.ChangeAt Go.RowKit Go.Shelf
set_option linter.unusedVariables false

/-- o holds xs in a block made since w (or is nil), and what lay in w lies. -/
structure Col (w : World) (o : Value) (xs : List Int) (W : World) : Prop where
  own : W.ownsRow w.heap.size 3 1 o xs.length (xs.map (Value.int .i64))
  below : Below w.heap.size w W
theorem Col.sz {w W : World} {o : Value} {xs : List Int} (h : Col w o xs W) : w.heap.size ≤ W.heap.size := h.below.size
theorem Col.nil (w W : World) (h : Below w.heap.size w W) : Col w (.slice none 0 0) [] W := ⟨World.ownsRow_nil _ _ _ _, h⟩
theorem Col.app {w W w1 : World} {o v' : Value} {xs : List Int} {x : Int} {tmp : Obj} (h : Col w o xs W)
    (hown : w1.ownsRow w.heap.size 3 1 v' (xs.length + 1) (xs.map (Value.int .i64) ++ [.int .i64 x])) (hg : (W.alloc tmp).grownBy w1 o.ownBlock) :
    Col w v' (xs ++ [x]) w1 ∧ ∃ g cap, v' = .slice (some ⟨g, 0, none⟩) (xs.length + 1) cap := by
  refine ⟨⟨by simpa using hown, ?_⟩, ownsRow_succ hown⟩
  refine Below.grown (h.below.alloc h.sz _) hg (by have := h.sz; simp; omega) (fun k e => (h.own.lt k e).1)
theorem Col.some {w W : World} {o : Value} {xs : List Int} (h : Col w o xs W) : SomeInts w xs (.returned o) W := someInts_of (base := w.heap.size) h.own h.below

def refL (all odd : Bool) (tg fr cores : Int) : List Nat := toL ⟨0, all, tg, odd⟩ fr cores
theorem refL_eq (c : Cl) (fr cores : Int) : refL c.all c.odd c.tg fr cores = toL c fr cores := rfl

set_option maxRecDepth 100000 in
set_option maxHeartbeats 4000000 in
theorem refTo_any (all odd : Bool) (tg fr cores : Int) (w : World) : Calls Try.prog 13 #[.bool all, .bool odd, .int .i64 tg, .int .i64 fr, .int .i64 cores] w (SomeInts w (nums (refL all odd tg fr cores))) := by
  obtain ⟨i0, hi', hz0, hz1, hz2⟩ := info_parts info_i
  have hcap : capN cores = (min cores 8).toNat := rfl
  obtain ⟨f, hf⟩ : ∃ f, callV ⟨0, all, tg, odd⟩ fr = f := ⟨_, rfl⟩
  have hr : refL all odd tg fr cores = upto f (capN cores) := by rw [← hf]; rfl
  rw [hr]
  have HF := hi (fun k => congrFun hf k)
  clear hr hf
  go_enter Try.func13, Try.ntmps13
  go_wp2
  go_loopw [11, 12] (fun o i wr => ∃ k : Nat, i = .int .i64 k ∧ Hi (k ≤ capN cores ∧ Col w o (nums (upto f k)) wr)) (fun _ i _ => 8 - (intOf i).toNat)
  case atStart => exact ⟨0, rfl, hi ⟨Nat.zero_le _, Col.nil _ _ (Below.refl _ _)⟩⟩
  case round =>
    obtain ⟨k, rfl, HH⟩ := hrel
    obtain ⟨hk, hC⟩ := HH.out
    by_cases hlt : k < capN cores
    · have x1 : (k : Int) < cores := by omega
      have x2 : (k : Int) < 8 := by omega
      have hfk := HF.out k
      obtain ⟨q, eq⟩ : ∃ q, nums (upto f k) = q := ⟨_, rfl⟩
      have hq8 : q.length ≤ 8 := by rw [← eq, nums_len]; have := upto_len f k; omega
      rw [eq] at hC
      have HC := hi hC
      have HLT := hi hlt
      have HQ := hi eq
      have hb := bit_eq tg k (by omega)
      obtain ⟨ao, co, rfl⟩ := own_slice HC.out.own
      clear hC hlt hk HH hcap eq
      cases all
      · cases odd
        · cases hbt : bt tg k
          · rw [hbt] at hb
            replace hfk : f k = false := by rw [← hfk]; simp [callV, hbt]
            clear hbt
            have HE := hi (upto_neg hfk)
            clear hfk HF
            go_wp2
            go_roundw
            case rel => exact ⟨k + 1, by go_num, hi ⟨HLT.out, by rw [HE.out, HQ.out]; exact HC.out⟩⟩
            case measure => have := HLT.out; simp only [intOf]; omega
          · rw [hbt] at hb
            replace hfk : f k = true := by rw [← hfk]; simp [callV, hbt]
            clear hbt
            have HE := hi (upto_pos hfk)
            clear hfk HF
            go_wp2_with (first
              | (at_builtin; refine wpList_append_own _ rfl _ _ 29 rfl w.heap.size 3 i0 (.int .i64 0) 1 8 Try.underlying29 hi' hz0 hz1 hz2 rfl (by decide) _ _ _ rfl (HC.out.own.alloc _) ⟨wr.heap.size, 0, none⟩ 1 1 [.int .i64 k] rfl rfl (cell_one_new _ _ _) (by simp [Value.oneCell']) (by unfold maxLen; omega) (by omega) (by have := HC.out.sz; simp; omega) ?_; intro v' w1 hown' hgrow _; obtain ⟨hc1, g', cap', rfl⟩ := HC.out.app hown' hgrow; replace HC := hi hc1; clear hown' hgrow hc1))
            go_roundw
            case rel => exact ⟨k + 1, by go_num, hi ⟨HLT.out, by rw [HE.out, nums_append, nums_one, HQ.out]; exact HC.out⟩⟩
            case measure => have := HLT.out; simp only [intOf]; omega
        · replace hfk : f k = false := by rw [← hfk]; simp [callV]
          clear hb
          have HE := hi (upto_neg hfk)
          clear hfk HF
          go_wp2
          go_roundw
          case rel => exact ⟨k + 1, by go_num, hi ⟨HLT.out, by rw [HE.out, HQ.out]; exact HC.out⟩⟩
          case measure => have := HLT.out; simp only [intOf]; omega
      · by_cases hkf : (k : Int) = fr
        · have ht : ((k : Int) != fr) = false := by simp [hkf]
          replace hfk : f k = false := by rw [← hfk]; simp [callV, hkf]
          clear hb hkf
          have HE := hi (upto_neg hfk)
          clear hfk HF
          go_wp2
          go_roundw
          case rel => exact ⟨k + 1, by go_num, hi ⟨HLT.out, by rw [HE.out, HQ.out]; exact HC.out⟩⟩
          case measure => have := HLT.out; simp only [intOf]; omega
        · have ht : ((k : Int) != fr) = true := by simp [hkf]
          replace hfk : f k = true := by rw [← hfk]; simp [callV, hkf]
          clear hb hkf
          have HE := hi (upto_pos hfk)
          clear hfk HF
          go_wp2_with (first
            | (at_builtin; refine wpList_append_own _ rfl _ _ 29 rfl w.heap.size 3 i0 (.int .i64 0) 1 8 Try.underlying29 hi' hz0 hz1 hz2 rfl (by decide) _ _ _ rfl (HC.out.own.alloc _) ⟨wr.heap.size, 0, none⟩ 1 1 [.int .i64 k] rfl rfl (cell_one_new _ _ _) (by simp [Value.oneCell']) (by unfold maxLen; omega) (by omega) (by have := HC.out.sz; simp; omega) ?_; intro v' w1 hown' hgrow _; obtain ⟨hc1, g', cap', rfl⟩ := HC.out.app hown' hgrow; replace HC := hi hc1; clear hown' hgrow hc1))
          go_roundw
          case rel => exact ⟨k + 1, by go_num, hi ⟨HLT.out, by rw [HE.out, nums_append, nums_one, HQ.out]; exact HC.out⟩⟩
          case measure => have := HLT.out; simp only [intOf]; omega
    · have ek : k = capN cores := by omega
      have hx : ¬ (k : Int) < cores ∨ ((k : Int) < cores ∧ ¬ (k : Int) < 8) := by omega
      rw [ek] at hC
      have HC := hi hC
      obtain ⟨ao, co, rfl⟩ := own_slice HC.out.own
      clear hC hlt hk HH hcap ek HF
      rcases hx with hx | ⟨hx, hx2⟩
      all_goals
        go_wp2
        go_ret
        exact HC.out.some

/-! ### Has -/
def isIn (xs : List Int) (x : Int) : Bool := decide (x ∈ xs)
def NotUpto (xs : List Int) (x : Int) (k : Nat) : Prop := ∀ j, j < k → xs[j]?.getD 0 ≠ x
theorem NotUpto.zero (xs : List Int) (x : Int) : NotUpto xs x 0 := fun j h => by omega
theorem NotUpto.succ {xs : List Int} {x : Int} {k : Nat} (h : NotUpto xs x k) (e : xs[k]?.getD 0 ≠ x) : NotUpto xs x (k + 1) := fun j hj => by
  by_cases y : j = k
  · subst y; exact e
  · exact h j (by omega)
theorem isIn_no {xs : List Int} {x : Int} (h : NotUpto xs x xs.length) : isIn xs x = false := by
  simp only [isIn, decide_eq_false_iff_not, List.mem_iff_getElem]
  rintro ⟨i, hi, e⟩
  exact h i hi (by simp [hi, e])
theorem isIn_at {xs : List Int} {x : Int} {k : Nat} (hk : k < xs.length) (h : xs[k]?.getD 0 = x) : isIn xs x = true := by
  simp only [isIn, decide_eq_true_eq, List.mem_iff_getElem]
  exact ⟨k, hk, by simpa [hk] using h⟩

attribute [local go_sem] Oper.semAt_some in
set_option maxHeartbeats 1000000 in
theorem ints_has (xs : List Int) (x : Int) (va : Value) (w : World) (ha : IntsAt w va xs) (hx : xs.length ≤ 9223372036854775806) :
    Calls Try.prog 19 #[va, .int .i64 x] w fun e w' => e = .returned (.bool (isIn xs x)) ∧ w = w' := by
  obtain ⟨a, cap, rfl, _, ha⟩ := ha
  go_enter Try.func19, Try.ntmps19
  go_wp2
  go_loop [5] (fun i => ∃ k : Nat, k ≤ xs.length ∧ i = .int .i64 k ∧ NotUpto xs x k) (fun i => xs.length - (intOf i).toNat)
  case atStart => exact ⟨0, Nat.zero_le _, rfl, NotUpto.zero _ _⟩
  case round =>
    obtain ⟨k, hk, rfl, hu⟩ := hrel
    by_cases hlt : k < xs.length
    · have hne : xs ≠ [] := fun e => by simp [e] at hlt
      obtain ⟨b1, o1, rfl, h1⟩ := ha hne
      have hc1 := h1 k hlt
      have HU := Lib.hid hu
      clear h1 ha hne hu
      go_wp2
      · have hq : (xs[k] == x) = true := by assumption
        go_ret
        exact ⟨by rw [isIn_at hlt (by simpa [hlt] using hq)]; rfl, rfl⟩
      · have hq : (xs[k] == x) = false := by assumption
        go_round
        case rel => exact ⟨k + 1, by omega, by go_num, HU.out.succ (by simpa [hlt] using hq)⟩
        case measure => simp [intOf]; omega
    · have e : k = xs.length := by omega
      subst e
      have hs := isIn_no hu
      have HS := Lib.hid hs
      clear hs hu ha
      go_wp2
      go_ret
      exact ⟨by rw [HS.out]; rfl, rfl⟩

end Go.Proofs.Ytkfnelhafflimaa
