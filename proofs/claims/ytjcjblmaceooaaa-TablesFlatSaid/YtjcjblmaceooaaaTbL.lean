/-
  A flat table of 16 devices and one of pages of four, side by side, plain.
-/
import Derived.Test.YtjcjblmaceooaaaTbK
namespace Go.Proofs.Ytjcjblmaceooaaa
open Go.ChangeShapes Go.WideShapes Go.ChangeAt Go.RowKit
set_option linter.unusedVariables false
set_option linter.unusedSimpArgs false

def flT : Tb := ⟨0, 128, 0⟩
def pgT : Tb := ⟨128, 32, 32⟩
/-- Where a device's entry stands among the pages. -/
def pgP (i : Nat) : Nat := 200 + 40 * (i / 4) + 8 * (i % 4)
theorem flT_fair : flT.Fair := by constructor <;> (unfold i64B flT; decide)
theorem pgT_fair : pgT.Fair := by constructor <;> (unfold i64B pgT; decide)
theorem fl_right : rightE 1000 flT = 0 ∧ rightE 1000 pgT = 0 := by constructor <;> kernel_rfl
/-- The pages' addresses stand. -/
def LedB (bs : List Nat) : Prop := ∀ k, k < 4 → w8 bs (128 + 8 * k) = 9223372036854775808 + (200 + 40 * k)
theorem nthP_in {n a s k : Nat} (h1 : a + s ≤ n) (h2 : 8 * k + 8 ≤ s) (hk : k < 131072) : nthP n a s k = some (a + 8 * k) := by
  have : nthB n a s k = true := by
    simp only [nthB, holdsB, Bool.and_eq_true, decide_eq_true_eq]; omega
  rw [nthP, if_pos this]
  congr 1
theorem nthP_out {n a s k : Nat} (h2 : s < 8 * k + 8) : nthP n a s k = none := by
  have : nthB n a s k = false := by
    simp only [nthB, holdsB, Bool.and_eq_false_iff, decide_eq_false_iff_not]; omega
  rw [nthP, if_neg (by rw [this]; decide)]
theorem fl_find {bs : List Nat} (hl : bs.length = 1000) {i : Nat} (hi : i < 16) : findP bs flT i = some (8 * i) := by
  have h := nthP_in (n := 1000) (a := 0) (s := 128) (k := i) (by omega) (by omega) (by omega)
  rw [findP, if_pos (show flT.page = 0 from rfl), hl]
  simp only [flT]
  simpa using h
theorem fl_find_no {bs : List Nat} (hl : bs.length = 1000) : findP bs flT 16 = none := by
  have h := nthP_out (n := 1000) (a := 0) (s := 128) (k := 16) (by omega)
  rw [findP, if_pos (show flT.page = 0 from rfl), hl]
  simp only [flT]
  simpa using h
theorem per4 : perN pgT = 4 := by decide
theorem findP_two {bs : List Nat} {t : Tb} {id : Int} {n q v P : Nat} (h0 : t.page ≠ 0) (h1 : 0 ≤ id ∧ id < 131072) (hl : bs.length = n) (hq : nthP n t.at_ t.size (id.tdiv (perN t)) = some q) (hw : w8 bs q = v) (hv : 9223372036854775808 ≤ v)
    (hP : nthP n ((v % 4294967296 : Nat) : Int) t.page (id.tmod (perN t)) = some P) : findP bs t id = some P := by
  rw [findP, if_neg h0, if_pos h1, hl, hq]
  dsimp only
  rw [hw, if_pos hv]
  exact hP
theorem findP_off {bs : List Nat} {t : Tb} {id : Int} {n : Nat} (h0 : t.page ≠ 0) (h1 : 0 ≤ id ∧ id < 131072) (hl : bs.length = n) (hq : nthP n t.at_ t.size (id.tdiv (perN t)) = none) : findP bs t id = none := by
  rw [findP, if_neg h0, if_pos h1, hl, hq]
theorem pg_find {bs : List Nat} (hl : bs.length = 1000) (h : LedB bs) {i : Nat} (hi : i < 16) : findP bs pgT i = some (pgP i) := by
  have h1 := nthP_in (n := 1000) (a := 128) (s := 32) (k := i / 4) (by omega) (by omega) (by omega)
  have h2 := h (i / 4) (by omega)
  have h3 := nthP_in (n := 1000) (a := 200 + 40 * (i / 4)) (s := 32) (k := i % 4) (by omega) (by omega) (by omega)
  have e1 : (i : Int).tdiv (perN pgT) = ((i / 4 : Nat) : Int) := by rw [per4, Int.tdiv_eq_ediv_of_nonneg (by omega)]; omega
  have e2 : (i : Int).tmod (perN pgT) = ((i % 4 : Nat) : Int) := by rw [per4, Int.tmod_eq_emod_of_nonneg (by omega)]; omega
  obtain ⟨v, hv⟩ : ∃ v, w8 bs (128 + 8 * (i / 4)) = v := ⟨_, rfl⟩
  rw [hv] at h2
  have hv1 : 9223372036854775808 ≤ v := by omega
  have hv2 : v % 4294967296 = 200 + 40 * (i / 4) := by omega
  exact findP_two (t := pgT) (by decide) ⟨by omega, by omega⟩ hl (by rw [e1]; exact h1) hv hv1 (by rw [e2, hv2]; exact h3)
theorem pg_find_no {bs : List Nat} (hl : bs.length = 1000) : findP bs pgT 16 = none := by
  have h1 := nthP_out (n := 1000) (a := 128) (s := 32) (k := 4) (by omega)
  have e1 : (16 : Int).tdiv (perN pgT) = ((4 : Nat) : Int) := by decide
  exact findP_off (t := pgT) (by decide) ⟨by omega, by omega⟩ hl (by rw [e1]; exact h1)
theorem ent_in {bs : List Nat} {t : Tb} {i : Int} {P : Nat} (hr : rightE bs.length t = 0) (hf : findP bs t i = some P) : entE bs t i = 0 ∧ entP bs t i = P := by
  constructor
  · rw [entE, if_pos hr, hf]; rfl
  · rw [entP, hf]; rfl
theorem ent_no {bs : List Nat} {t : Tb} {i : Int} (hr : rightE bs.length t = 0) (hf : findP bs t i = none) : entE bs t i = 180 := by
  rw [entE, if_pos hr, hf]; rfl
/-- What stands in both. -/
structure FlOk (bs : List Nat) : Prop where
  len : bs.length = 1000
  led : LedB bs
  same : ∀ i, i < 16 → w8 bs (8 * i) = w8 bs (pgP i)
theorem FlOk.get_fl {bs : List Nat} (h : FlOk bs) {i : Nat} (hi : i < 16) : entE bs flT i = 0 ∧ getV bs flT i = devV (w8 bs (8 * i)) := by
  obtain ⟨h1, h2⟩ := ent_in (t := flT) (i := (i : Int)) (by rw [h.len]; exact fl_right.1) (fl_find h.len hi)
  exact ⟨h1, by rw [getV, if_pos h1, h2]⟩
theorem FlOk.get_pg {bs : List Nat} (h : FlOk bs) {i : Nat} (hi : i < 16) : entE bs pgT i = 0 ∧ getV bs pgT i = devV (w8 bs (8 * i)) := by
  obtain ⟨h1, h2⟩ := ent_in (t := pgT) (i := (i : Int)) (by rw [h.len]; exact fl_right.2) (pg_find h.len h.led hi)
  exact ⟨h1, by rw [getV, if_pos h1, h2, h.same i hi]⟩
theorem pgP_bd {i : Nat} (hi : i < 16) : 200 ≤ pgP i ∧ pgP i + 8 ≤ 1000 := by unfold pgP; omega
theorem pgP_ne {i j : Nat} (hi : i < 16) (hj : j < 16) (h : i ≠ j) : pgP i + 8 ≤ pgP j ∨ pgP j + 8 ≤ pgP i := by unfold pgP; omega
/-- Both puts. -/
def flPut (bs : List Nat) (i : Nat) (d : Dv) : List Nat := putB bs flT i d
def pgPut (bs : List Nat) (i : Nat) (d : Dv) : List Nat := putB (flPut bs i d) pgT i d
theorem FlOk.put {bs : List Nat} (h : FlOk bs) {i : Nat} (hi : i < 16) (d : Dv) :
    tputE bs flT i d = d.err ∧ tputE (flPut bs i d) pgT i d = d.err ∧ (flPut bs i d).length = 1000 ∧ FlOk (pgPut bs i d) ∧ ∀ o, o < 16 → o ≠ i → w8 (pgPut bs i d) (8 * o) = w8 bs (8 * o) := by
  obtain ⟨h1, h2⟩ := ent_in (t := flT) (i := (i : Int)) (by rw [h.len]; exact fl_right.1) (fl_find h.len hi)
  have hl1 : (flPut bs i d).length = 1000 := putB_len.trans h.len
  have hl2 : (pgPut bs i d).length = 1000 := putB_len.trans hl1
  have e1 : tputE bs flT i d = d.err := by rw [tputE, if_pos h1]
  obtain ⟨hb1, hb2⟩ := pgP_bd hi
  by_cases he : d.err = 0
  · have f1 : flPut bs i d = s8 bs (8 * i) d.word := by rw [flPut, putB, if_pos (by rw [e1, he]), h2]
    have a1 : ∀ q, q + 8 ≤ 8 * i ∨ 8 * i + 8 ≤ q → w8 (flPut bs i d) q = w8 bs q := fun q hq => by rw [f1]; exact w8_other (by rw [h.len]; omega) hq
    have hled : LedB (flPut bs i d) := fun k hk => by rw [a1 _ (by omega)]; exact h.led k hk
    obtain ⟨h3, h4⟩ := ent_in (t := pgT) (i := (i : Int)) (by rw [hl1]; exact fl_right.2) (pg_find hl1 hled hi)
    have e2 : tputE (flPut bs i d) pgT i d = d.err := by rw [tputE, if_pos h3]
    have f2 : pgPut bs i d = s8 (flPut bs i d) (pgP i) d.word := by rw [pgPut, putB, if_pos (by rw [e2, he]), h4]
    have a2 : ∀ q, q + 8 ≤ pgP i ∨ pgP i + 8 ≤ q → w8 (pgPut bs i d) q = w8 (flPut bs i d) q := fun q hq => by rw [f2]; exact w8_other (by rw [hl1]; omega) hq
    have same1 : w8 (flPut bs i d) (8 * i) = d.word := by rw [f1]; exact w8_same (by rw [h.len]; omega) d.word_lt
    have same2 : w8 (pgPut bs i d) (pgP i) = d.word := by rw [f2]; exact w8_same (by rw [hl1]; omega) d.word_lt
    refine ⟨e1, e2, hl1, ⟨hl2, fun k hk => ?_, fun j hj => ?_⟩, fun o ho hne => ?_⟩
    · rw [a2 _ (by omega)]; exact hled k hk
    · by_cases hji : j = i
      · subst hji
        rw [a2 (8 * j) (by omega), same1, same2]
      · have := pgP_ne hj hi hji
        have := pgP_bd hj
        rw [a2 (8 * j) (by omega), a1 (8 * j) (by omega), a2 (pgP j) (by omega), a1 (pgP j) (by omega)]
        exact h.same j hj
    · rw [a2 (8 * o) (by omega), a1 (8 * o) (by omega)]
  · have f1 : flPut bs i d = bs := by rw [flPut, putB, if_neg (by rw [e1]; exact he)]
    have hled : LedB (flPut bs i d) := by rw [f1]; exact h.led
    obtain ⟨h3, h4⟩ := ent_in (t := pgT) (i := (i : Int)) (by rw [hl1]; exact fl_right.2) (pg_find hl1 hled hi)
    have e2 : tputE (flPut bs i d) pgT i d = d.err := by rw [tputE, if_pos h3]
    have f2 : pgPut bs i d = bs := by rw [pgPut, putB, if_neg (by rw [e2]; exact he), f1]
    refine ⟨e1, e2, hl1, by rw [f2]; exact h, fun o ho hne => by rw [f2]⟩

/-- The memory behind the pages that are led. -/
def ldN : Nat → List Nat
  | 0 => List.replicate 1000 0
  | k + 1 => leadB (ldN k) pgT (4 * (k : Int)) (200 + 40 * (k : Int))
theorem ldN_len : ∀ k, (ldN k).length = 1000
  | 0 => List.length_replicate
  | k + 1 => leadB_len.trans (ldN_len k)
theorem ldN_ok (k : Nat) (hk : k < 4) : leadE (ldN k) pgT (4 * (k : Int)) (200 + 40 * (k : Int)) = 0 := by
  have : k = 0 ∨ k = 1 ∨ k = 2 ∨ k = 3 := by omega
  rcases this with rfl | rfl | rfl | rfl <;> decide +kernel
theorem ldN_four : FlOk (ldN 4) := by
  refine ⟨ldN_len 4, ?_, ?_⟩
  · have h : ∀ k ∈ List.range 4, w8 (ldN 4) (128 + 8 * k) = 9223372036854775808 + (200 + 40 * k) := by decide +kernel
    exact fun k hk => h k (by simpa using hk)
  · have h : ∀ i ∈ List.range 16, w8 (ldN 4) (8 * i) = w8 (ldN 4) (pgP i) := by decide +kernel
    exact fun i hi => h i (by simpa using hi)

end Go.Proofs.Ytjcjblmaceooaaa
