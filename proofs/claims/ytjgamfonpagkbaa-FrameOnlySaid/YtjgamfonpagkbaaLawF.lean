/-
  Plain: what writes and reads of a place make of each interrupt. Nothing of the program.
-/
import Derived.Test.YtjgamfonpagkbaaLawE
namespace Go.Proofs.Ytjgamfonpagkbaa
set_option linter.unusedVariables false

/-! ### Reads, bit by bit -/
theorem div_iff {n i k : Nat} (hn : 1 ≤ n) : (n * k ≤ i ∧ i < n * k + n) ↔ i / n = k := by
  constructor
  · rintro ⟨h1, h2⟩
    rw [Nat.mul_comm] at h1
    have h3 : k ≤ i / n := (Nat.le_div_iff_mul_le (by omega)).2 h1
    have h4 : i / n < k + 1 := (Nat.div_lt_iff_lt_mul (by omega)).2 (by rw [Nat.add_mul, Nat.one_mul, Nat.mul_comm]; exact h2)
    omega
  · rintro rfl
    have h1 := Nat.div_add_mod i n
    have h2 := Nat.mod_lt i (show 0 < n by omega)
    omega
theorem sub_mod {n i k : Nat} (h : i / n = k) : i - n * k = i % n := by
  subst h
  have h1 := Nat.div_add_mod i n
  omega
theorem readL_bit (p : Pl) (f0 : Int) (es : List En) (i : Nat) : ∀ ks, (readL p f0 es ks).testBit i = (decide (i < 64) && (ks.contains (i / wideN p.r) && (toldV (nthE es (plcK f0 p.f (i / wideN p.r))).ln p.r).testBit (i % wideN p.r))) :=
  list_snoc (by simp [readL]) (fun ks k ih => by
    have hn := (wide_pos p.r).1
    rw [readL_snoc, withN_bit, ih]
    by_cases h : i / wideN p.r = k
    · have h2 := (div_iff hn (i := i) (k := k)).2 h
      rw [if_pos h2, sub_mod h, h]
      simp
    · have h2 : ¬ (wideN p.r * k ≤ i ∧ i < wideN p.r * k + wideN p.r) := fun e => h ((div_iff hn).1 e)
      rw [if_neg h2]
      by_cases h3 : i < 64
      · have h5 : (ks ++ [k]).contains (i / wideN p.r) = ks.contains (i / wideN p.r) := by
          rw [Bool.eq_iff_iff]; simp [h]
        rw [h5]; simp [h3]
      · simp [h3])
theorem readV_bit (p : Pl) (c : Nat) (f0 : Int) (es : List En) (i : Nat) : (readV p c f0 es).testBit i = (decide (i < 64) && ((decide (i / wideN p.r < c) && hasB f0 es.length (p.f + ((i / wideN p.r : Nat) : Int))) && (toldV (nthE es (plcK f0 p.f (i / wideN p.r))).ln p.r).testBit (i % wideN p.r))) := by
  rw [readV, readL_bit]
  have : (presL f0 es.length p.f c).contains (i / wideN p.r) = (decide (i / wideN p.r < c) && hasB f0 es.length (p.f + ((i / wideN p.r : Nat) : Int))) := by
    rw [Bool.eq_iff_iff]
    simp [presL, inB]
  rw [this]
theorem readV_lt (p : Pl) (c : Nat) (f0 : Int) (es : List En) : readV p c f0 es < 18446744073709551616 := readL_lt _ _ _ _
/-- Reads go by what registers tell. -/
theorem readL_congr {p : Pl} {f0 : Int} {es es' : List En} : ∀ ks : List Nat, (∀ k ∈ ks, toldV (nthE es (plcK f0 p.f k)).ln p.r = toldV (nthE es' (plcK f0 p.f k)).ln p.r) → readL p f0 es ks = readL p f0 es' ks :=
  list_snoc (fun _ => rfl) (fun ks k ih h => by rw [readL_snoc, readL_snoc, ih (fun k' h' => h k' (by simp [h'])), h k (by simp)])

/-! ### Writes, interrupt by interrupt -/
theorem pres_in {f0 : Int} {n : Nat} {fp : Int} {c k : Nat} : k ∈ presL f0 n fp c ↔ k < c ∧ hasB f0 n (fp + k) = true := by
  rw [presL, List.mem_filter, List.mem_range]; rfl
theorem pres_nodup (f0 : Int) (n : Nat) (fp : Int) (c : Nat) : (presL f0 n fp c).Nodup := List.Pairwise.filter _ List.nodup_range
theorem plc_inj {f0 fp : Int} {n k k' : Nat} (h : hasB f0 n (fp + k) = true) (h' : hasB f0 n (fp + k') = true) (e : plcK f0 fp k = plcK f0 fp k') : k = k' := by
  have h1 := (plc_at h).1
  have h2 := (plc_at h').1
  rw [e] at h1
  omega
theorem nthE_set_self {es : List En} {k : Nat} {y : En} (h : k < es.length) : nthE (es.set k y) k = y := by simp [nthE, h]
theorem nthE_set_ne {es : List En} {k j : Nat} {y : En} (h : k ≠ j) : nthE (es.set k y) j = nthE es j := by simp [nthE, List.getElem?_set_ne h]
/-- The line of one interrupt behind a write. -/
def lnW (p : Pl) (f0 : Int) (v : Nat) (es : List En) (k : Nat) : Ln := chgV (p.f + k) (nthE es (plcK f0 p.f k)).ln p.r (fieldN (wideN p.r) v k)
theorem wrL_out {p : Pl} {f0 : Int} {v : Nat} {es : List En} {j : Nat} : ∀ ks : List Nat, (∀ k ∈ ks, plcK f0 p.f k ≠ j) → nthE (wrL p f0 v es ks).1 j = nthE es j :=
  list_snoc (fun _ => rfl) (fun ks k ih h => by
    rw [wrL_snoc, wrK, nthE_set_ne (h k (by simp))]
    exact ih (fun k' h' => h k' (by simp [h'])))
theorem wrL_in {p : Pl} {f0 : Int} {v : Nat} {es : List En} {k0 : Nat} : ∀ ks : List Nat, ks.Nodup → (∀ k ∈ ks, hasB f0 es.length (p.f + k) = true) → k0 ∈ ks → nthE (wrL p f0 v es ks).1 (plcK f0 p.f k0) = (nthE es (plcK f0 p.f k0)).with_ (lnW p f0 v es k0) :=
  list_snoc (fun _ _ h => by cases h) (fun ks k ih hnd hin hm => by
    have hnd' : ks.Nodup := (List.nodup_append.1 hnd).1
    have hkn : k ∉ ks := fun e => (List.nodup_append.1 hnd).2.2 k e k (by simp) rfl
    have hin' : ∀ k ∈ ks, hasB f0 es.length (p.f + k) = true := fun k' h' => hin k' (by simp [h'])
    have hk := hin k (by simp)
    rw [wrL_snoc, wrK]
    have hout : nthE (wrL p f0 v es ks).1 (plcK f0 p.f k) = nthE es (plcK f0 p.f k) := wrL_out ks (fun k' h' e => hkn (by rw [← plc_inj (hin' k' h') hk e]; exact h'))
    by_cases e : k0 = k
    · subst e
      rw [nthE_set_self (by rw [wrL_len]; exact (plc_at hk).2), hout]
      rfl
    · have hm' : k0 ∈ ks := by
        rcases List.mem_append.1 hm with h | h
        · exact h
        · exact absurd (by simpa using h) e
      rw [nthE_set_ne (fun e' => e (plc_inj (hin' k0 hm') hk e'.symm))]
      exact ih hnd' hin' hm')
/-- Where no interrupt changes, nothing does. -/
theorem wrL_stay {p : Pl} {f0 : Int} {v : Nat} {es : List En} : ∀ ks : List Nat, (∀ k ∈ ks, hasB f0 es.length (p.f + k) = true ∧ lnW p f0 v es k = (nthE es (plcK f0 p.f k)).ln) → wrL p f0 v es ks = (es, 0) :=
  list_snoc (fun _ => rfl) (fun ks k ih h => by
    obtain ⟨h1, h2⟩ := h k (by simp)
    rw [wrL_snoc, ih (fun k' h' => h k' (by simp [h'])), wrK]
    dsimp only
    rw [show chgV (p.f + k) (nthE es (plcK f0 p.f k)).ln p.r (fieldN (wideN p.r) v k) = (nthE es (plcK f0 p.f k)).ln from h2, if_pos rfl]
    rw [show (nthE es (plcK f0 p.f k)).with_ (nthE es (plcK f0 p.f k)).ln = nthE es (plcK f0 p.f k) from rfl, set_self (plc_at h1).2])
theorem writeV_stay {p : Pl} {c : Nat} {f0 : Int} {v : Nat} {es : List En} (h : ∀ k, k < c → hasB f0 es.length (p.f + k) = true → lnW p f0 v es k = (nthE es (plcK f0 p.f k)).ln) : writeV p c f0 v es = (es, 0) :=
  wrL_stay _ (fun k hk => ⟨(pres_in.1 hk).2, h k (pres_in.1 hk).1 (pres_in.1 hk).2⟩)
theorem writeV_at {p : Pl} {c : Nat} {f0 : Int} {v : Nat} {es : List En} {k : Nat} (hk : k < c) (h : hasB f0 es.length (p.f + k) = true) : nthE (writeV p c f0 v es).1 (plcK f0 p.f k) = (nthE es (plcK f0 p.f k)).with_ (lnW p f0 v es k) :=
  wrL_in _ (pres_nodup _ _ _ _) (fun k' h' => (pres_in.1 h').2) (pres_in.2 ⟨hk, h⟩)
theorem writeV_le (p : Pl) (c : Nat) (f0 : Int) (v : Nat) (es : List En) : (writeV p c f0 v es).2 ≤ c := by
  refine Nat.le_trans (wrL_le p f0 v es (presL f0 es.length p.f c)) ?_
  have h2 : (presL f0 es.length p.f c).length ≤ (List.range c).length := List.length_filter_le _ _
  rwa [List.length_range] at h2
/-- A line that is changed is changed no more. -/
theorem step_again (x : St) (a : Int) (h : a ≠ 1 ∧ a ≠ 5) : (x.step a).step a = x.step a := by
  obtain ⟨e, l, q, c⟩ := x
  rcases act_cases a with rfl | rfl | rfl | rfl | rfl | rfl | rfl | rfl | rfl | h9
  · exact absurd rfl h.1
  · rfl
  · rfl
  · rfl
  · exact absurd rfl h.2
  · rfl
  · rfl
  · rfl
  · rfl
  · rw [step_odd h9, step_odd h9]
theorem trig_ne (id : Int) (x : Nat) : trigV id x ≠ 1 ∧ trigV id x ≠ 5 := by
  unfold trigV
  split
  · decide
  · split <;> decide
theorem actV_ne (r : Int) : actV r ≠ 1 ∧ actV r ≠ 5 := by
  unfold actV
  repeat' split
  all_goals decide
theorem chg_again (id : Int) (l : Ln) (r : Int) (x : Nat) : chgV id (chgV id l r x) r x = chgV id l r x := by
  by_cases h4 : r = 4
  · simp only [chgV, if_pos h4]
  · by_cases h5 : r = 5 ∨ r = 6
    · by_cases h1 : x = 1
      · simp only [chgV, if_neg h4, if_pos h5, if_pos h1]
      · simp only [chgV, if_neg h4, if_pos h5, if_neg h1]
    · by_cases h11 : r = 11
      · simp only [chgV, if_neg h4, if_neg h5, if_pos h11]
      · by_cases h12 : r = 12
        · simp only [chgV, if_neg h4, if_neg h5, if_neg h11, if_pos h12, step_again _ _ (trig_ne id x)]
        · by_cases h1 : x = 1
          · simp only [chgV, if_neg h4, if_neg h5, if_neg h11, if_neg h12, if_pos h1, step_again _ _ (actV_ne r)]
          · simp only [chgV, if_neg h4, if_neg h5, if_neg h11, if_neg h12, if_neg h1]
theorem writeV_again (p : Pl) (c : Nat) (f0 : Int) (v : Nat) (es : List En) : writeV p c f0 v (writeV p c f0 v es).1 = ((writeV p c f0 v es).1, 0) :=
  writeV_stay (fun k hk h => by
    rw [writeV_len] at h
    rw [lnW, writeV_at hk h]
    exact chg_again _ _ _ _)

/-! ### Registers that tell of nothing -/
theorem told_odd {r : Int} (h : ¬ (4 ≤ r ∧ r ≤ 12)) (l : Ln) : toldV l r = 0 := by
  rw [toldV, if_neg (by omega), if_neg (by omega), if_neg (by omega), if_neg (by omega), if_neg (by omega), if_neg (by omega)]
theorem chg_odd {r : Int} (h : ¬ (4 ≤ r ∧ r ≤ 12)) (id : Int) (l : Ln) (x : Nat) : chgV id l r x = l := by
  rw [chgV, if_neg (by omega), if_neg (by omega), if_neg (by omega), if_neg (by omega)]
  have : actV r = 0 := by rw [actV, if_neg (by omega), if_neg (by omega), if_neg (by omega), if_neg (by omega)]
  rw [this, show l.st.step 0 = l.st from step_odd (by decide)]
  split <;> rfl
theorem read_odd {p : Pl} (h : ¬ (4 ≤ p.r ∧ p.r ≤ 12)) (c : Nat) (f0 : Int) (es : List En) : readV p c f0 es = 0 := by
  apply Nat.eq_of_testBit_eq
  intro i
  rw [readV_bit, told_odd h]
  simp
theorem write_odd {p : Pl} (h : ¬ (4 ≤ p.r ∧ p.r ≤ 12)) (c : Nat) (f0 : Int) (v : Nat) (es : List En) : writeV p c f0 v es = (es, 0) := writeV_stay (fun k _ _ => chg_odd h _ _ _)

end Go.Proofs.Ytjgamfonpagkbaa
