import Derived.Test.YtggeakkofcaklaaGreatMg36
namespace Go.Proofs.YtggeakkofcaklaaGreat
open Go.ChangeShapes Go.WideShapes Go.ChangeAt Go.RowKit Go.Shelf
set_option linter.unusedVariables false
attribute [local go_sem] Oper.semAt_some
structure CpI (lo : Nat) (D : Ds) (cap k : Nat) (b c : Nat → Nat) (W : World) : Prop where
  box : CB W (b 0) 83 #[.bool D.g0, .bool D.g1, .slice (some ⟨b 1, 0, none⟩) D.cs.length cap, .pointer (some ⟨b 2, 0, none⟩)]
  row : ∃ vs, Row W (b 1) 86 vs ∧ vs.length = 2 * D.cs.length ∧ (∀ i, i < k → vs[i * 2]? = some (.pointer (some ⟨b (4 + 2 * i), 0, none⟩))) ∧ ∀ i, i < D.cs.length → vs[i * 2 + 1]? = some (.bool (D.nth i).sl)
  shr : BkAt W (b 2) (b 3) (c 1) 32 D.sh
  own : ∀ i, i < k → BkAt W (b (4 + 2 * i)) (b (5 + 2 * i)) (c (2 + i)) 0 (D.nth i).es
  inj : ∀ i j, i < 4 + 2 * k → j < 4 + 2 * k → i ≠ j → b i ≠ b j
  rng : ∀ i, i < 4 + 2 * k → lo ≤ b i ∧ b i < W.heap.size
theorem CpI.below {lo cap k : Nat} {D : Ds} {b c : Nat → Nat} {W W' : World} (h : CpI lo D cap k b c W) (kk : Below W.heap.size W W') : CpI lo D cap k b c W' := by
  obtain ⟨vs, hr, r⟩ := h.row
  exact ⟨h.box.below kk, ⟨vs, hr.below kk, r⟩, h.shr.below kk, fun i hi => (h.own i hi).below kk, h.inj, fun i hi => ⟨(h.rng i hi).1, Nat.lt_of_lt_of_le (h.rng i hi).2 kk.size⟩⟩
theorem CpI.row_at {lo cap k : Nat} {D : Ds} {b c : Nat → Nat} {W W1 : World} (h : CpI lo D cap k b c W) (hk : k < D.cs.length) (hb : Below W.heap.size W W1) : (∃ v, W1.cell? ⟨b 1, k * 2, none⟩ = some v) ∧ W1.frozen? ⟨b 1, k * 2, none⟩ = false := by
  obtain ⟨vs, hr, hv1, hv2, hv3⟩ := h.row
  have hl : k * 2 < vs.length := by omega
  exact ⟨⟨vs[k * 2], by rw [(hr.below hb).cell hl, List.getElem?_eq_getElem hl]⟩, (hr.below hb).frozen _⟩
theorem CpI.step {lo cap k : Nat} {D : Ds} {b c : Nat → Nat} {W W1 : World} (h : CpI lo D cap k b c W) (hk : k < D.cs.length) {B G cp : Nat} (hB : BkAt W1 B G cp 0 (D.nth k).es) (hb : Below W.heap.size W W1) (h1 : W.heap.size ≤ B) (h2 : W.heap.size ≤ G) :
    CpI lo D cap (k + 1) (upd b (4 + 2 * k) B G) (fun i => if i = 2 + k then cp else c i) (W1.setCell ⟨b 1, k * 2, none⟩ (.pointer (some ⟨B, 0, none⟩))) := by
  obtain ⟨vs, hr, hv1, hv2, hv3⟩ := h.row
  have hbl := hB.box.lt
  have hgl := hB.row.lt
  have r1 := (h.rng 1 (by omega))
  have S : ∀ i, i ≠ b 1 → (W1.setCell ⟨b 1, k * 2, none⟩ (.pointer (some ⟨B, 0, none⟩))).heap[i]? = W1.heap[i]? := fun i hne => Below.heap_setCell W1 ⟨b 1, k * 2, none⟩ _ _ hne
  have N : ∀ i, i < 4 + 2 * k → i ≠ 1 → b i ≠ b 1 := fun i q1 q2 => h.inj i 1 q1 (by omega) q2
  have uo : ∀ i, i < 4 + 2 * k → upd b (4 + 2 * k) B G i = b i := fun i q => upd_o _ (by omega) (by omega)
  refine ⟨?_, ⟨vs.set (k * 2) (.pointer (some ⟨B, 0, none⟩)), ?_, by rw [List.length_set]; exact hv1, fun i hi => ?_, fun i hi => ?_⟩, ?_, fun i hi => ?_, ?_, fun i hi => ?_⟩
  · rw [uo 0 (by omega), uo 1 (by omega), uo 2 (by omega)]
    exact (h.box.below hb).heap (S _ (N 0 (by omega) (by omega)))
  · rw [uo 1 (by omega)]
    exact (hr.below hb).set _ (by omega)
  · by_cases e : i = k
    · subst e
      rw [List.getElem?_set_self (by omega), upd_a]
    · rw [List.getElem?_set_ne (by omega), hv2 i (by omega), uo _ (by omega)]
  · rw [List.getElem?_set_ne (by omega), hv3 i hi]
  · rw [uo 2 (by omega), uo 3 (by omega)]
    (try dsimp only)
    rw [if_neg (by omega)]
    exact (h.shr.below hb).heap (S _ (N 2 (by omega) (by omega))) (S _ (N 3 (by omega) (by omega)))
  · by_cases e : i = k
    · subst e
      rw [upd_a, show 5 + 2 * i = 4 + 2 * i + 1 by omega, upd_b]
      simp only [if_true]
      exact ⟨hB.box.heap (S _ (by omega)), hB.row.heap (S _ (by omega)), hB.ne⟩
    · rw [uo _ (by omega), uo _ (by omega)]
      (try dsimp only)
      rw [if_neg (by omega)]
      exact ((h.own i (by omega)).below hb).heap (S _ (N _ (by omega) (by omega))) (S _ (N _ (by omega) (by omega)))
  · have := upd_inj (V := fun i => i < 4 + 2 * k) (j := 4 + 2 * k) h.inj (fun i q => (h.rng i q).2) h1 h2 hB.ne
    intro i j q1 q2
    exact this i j (by omega) (by omega)
  · have hs := hb.size
    rw [World.size_setCell]
    by_cases e1 : i = 4 + 2 * k
    · subst e1; rw [upd_a]; omega
    · by_cases e2 : i = 4 + 2 * k + 1
      · subst e2; rw [upd_b]; omega
      · rw [upd_o _ e1 e2]
        have := h.rng i (by omega)
        omega
theorem CpI.done {lo cap : Nat} {D : Ds} {b c : Nat → Nat} {W : World} (h : CpI lo D cap D.cs.length b c W) : ∃ c', DiAt W lo W.heap.size b c' D := by
  obtain ⟨vs, hr, hv1, hv2, hv3⟩ := h.row
  refine ⟨fun i => if i = 0 then cap else c i, ⟨h.box, ?_, h.shr, fun k hk => ?_, h.inj, h.rng, Nat.le_refl _⟩⟩
  · have e : flat encCo (D.prs b) = vs := by
      apply List.ext_getElem?
      intro j
      by_cases hj : j < 2 * D.cs.length
      · obtain ⟨i, hi, e⟩ : ∃ i, i < D.cs.length ∧ (j = i * 2 ∨ j = i * 2 + 1) := ⟨j / 2, by omega, by omega⟩
        have hp := Ds.prs_at (b := b) hi
        rcases e with rfl | rfl
        · have g := flat_get encCo_len _ i 0 _ (by decide) hp
          rw [Nat.add_zero] at g
          rw [g, hv2 i hi]
          rfl
        · rw [flat_get encCo_len _ i 1 _ (by decide) hp, hv3 i hi]
          rfl
      · rw [List.getElem?_eq_none (by rw [flat_len encCo_len, Ds.prs_len]; omega), List.getElem?_eq_none (by omega)]
    rw [e]
    exact hr
  · (try dsimp only)
    rw [if_neg (by omega)]
    exact h.own k hk
theorem CpI.start {w W1 W2 : World} {lo hi' : Nat} {b c : Nat → Nat} {D : Ds} (h : DiAt w lo hi' b c D) {G cap B2 G2 c2 : Nat} (hr : Row W1 G 86 (flat encCo (D.prs b))) (hb1 : Below w.heap.size w W1) (hG : w.heap.size ≤ G)
    (hB : BkAt W2 B2 G2 c2 32 D.sh) (hb2 : Below W1.heap.size W1 W2) (l1 : W1.heap.size ≤ B2) (l2 : W1.heap.size ≤ G2) :
    ∃ b' c', b' 0 = W2.heap.size ∧ b' 1 = G ∧ b' 2 = B2 ∧ CpI w.heap.size D cap 0 b' c' (W2.alloc (.cells #[.bool D.g0, .bool D.g1, .slice (some ⟨G, 0, none⟩) D.cs.length cap, .pointer (some ⟨B2, 0, none⟩)] 83)) ∧ Below w.heap.size w (W2.alloc (.cells #[.bool D.g0, .bool D.g1, .slice (some ⟨G, 0, none⟩) D.cs.length cap, .pointer (some ⟨B2, 0, none⟩)] 83)) := by
  have hs1 := hb1.size
  have hs2 := hb2.size
  have hlG := hr.lt
  have hlB := hB.box.lt
  have hlC := hB.row.lt
  have hne := hB.ne
  refine ⟨fun i => if i = 0 then W2.heap.size else if i = 1 then G else if i = 2 then B2 else G2, fun _ => c2, rfl, rfl, rfl, ⟨CB.new _ _ _, ⟨_, (hr.below hb2).below (bal _ _), ?_, fun i hi => by omega, fun i hi => ?_⟩, hB.below (bal _ _), fun i hi => by omega, fun i j q1 q2 q3 => ?_, fun i q => ?_⟩, ((hb1.trans (hb2.mono hs1)).alloc (by omega) _)⟩
  · rw [flat_len encCo_len, Ds.prs_len]; omega
  · rw [flat_get encCo_len _ i 1 _ (by decide) (Ds.prs_at hi)]
    rfl
  · have hI : i = 0 ∨ i = 1 ∨ i = 2 ∨ i = 3 := by omega
    have hJ : j = 0 ∨ j = 1 ∨ j = 2 ∨ j = 3 := by omega
    rcases hI with rfl | rfl | rfl | rfl <;> rcases hJ with rfl | rfl | rfl | rfl <;> simp <;> omega
  · rw [World.size_alloc]
    have hI : i = 0 ∨ i = 1 ∨ i = 2 ∨ i = 3 := by omega
    rcases hI with rfl | rfl | rfl | rfl <;> simp <;> omega
end Go.Proofs.YtggeakkofcaklaaGreat
