/-
  BusFinds' walk.
-/
import Derived.Test.YthfcadalidfcfaaBusU
namespace Go.Proofs.Ythfcadalidfcfaa
open Go.ChangeShapes Go.WideShapes Go.ChangeAt Go.RowKit
set_option linter.unusedVariables false
attribute [local go_sem high] neq4 eql4 guard4

/-- Behind the append: the bus' own spans, and the document's, each in blocks of its own. -/
structure Two (w2 w3 w4 : World) (p : Nat) (sv rv : Value) (ys : List Sp) (W : World) : Prop where
  bus : BusAt w2.heap.size w3.heap.size W p sv ys
  row : SpIn w3.heap.size w4.heap.size W rv ys
  s34 : w3.heap.size ≤ w4.heap.size
  s4 : w4.heap.size ≤ W.heap.size
theorem Two.kept {w2 w3 w4 : World} {p : Nat} {sv rv : Value} {ys : List Sp} {W W' : World} (h : Two w2 w3 w4 p sv rv ys W) (k : ∀ i, w2.heap.size ≤ i → i < W.heap.size → W'.heap[i]? = W.heap[i]?) (h23 : w2.heap.size ≤ w3.heap.size) (hs : W.heap.size ≤ W'.heap.size) : Two w2 w3 w4 p sv rv ys W' :=
  ⟨h.bus.kept (fun i a b => k i a (by have := h.s34; have := h.s4; omega)), h.row.kept (fun i a b => k i (by omega) (by have := h.s4; omega)), h.s34, Nat.le_trans h.s4 hs⟩
theorem Two.later {w2 w3 w4 : World} {p : Nat} {sv rv : Value} {ys : List Sp} {W W' : World} (h : Two w2 w3 w4 p sv rv ys W) (k : Below W.heap.size W W') : Two w2 w3 w4 p sv rv ys W' :=
  ⟨h.bus.below k (by have := h.s34; have := h.s4; omega), h.row.below k h.s4, h.s34, Nat.le_trans h.s4 k.size⟩

set_option maxRecDepth 100000 in
set_option maxHeartbeats 8000000 in
theorem finds_any (hi' : Nat) (v : Value) (xs : List Sp) (addr width : Int) (w : World) (h : SpIn 0 hi' w v xs) (hh : hi' ≤ w.heap.size) :
    Calls Try.prog 3 #[v, .int .i64 addr, .int .i64 width] w fun e w' => e = .returned (.bool true) ∧ Below w.heap.size w w' := by
  obtain ⟨a, cap, rfl⟩ := h.slice
  have hl := h.len
  have H := hi h
  obtain ⟨n, hn⟩ : ∃ n, xs.length = n := ⟨_, rfl⟩
  have HN := hi hn
  rw [hn] at hl ⊢
  have HA := hi (fun W => awake_any W)
  have hat : ∀ W, Below w.heap.size w W → SpIn 0 hi' W (.slice a n cap) xs := fun W hb => by
    have := h.below hb hh
    rwa [hn] at this
  have HAT := hi hat
  have HF := hi h.fair
  clear h hn hat
  by_cases he : newE xs = 0
  · have HRW := hi (row_of_new he)
    have HE := hi he
    obtain ⟨ys, hys⟩ : ∃ ys, sortB xs = ys := ⟨_, rfl⟩
    rw [hys] at HRW
    have HYS := hi hys
    have hyl : ys.length ≤ 64 := by have := HRW.out.len; omega
    have HYF := hi (fun x (hx : x ∈ ys) => HF.out x ((sortB_perm xs).mem_iff.1 (by rw [hys]; exact hx)))
    obtain ⟨z, off, er, hfv⟩ := findV_tup ys addr width
    have HV := hi hfv
    have hez := eq4_self z.b z.s z.k z.i
    clear he hys hfv
    go_enter Try.func3, Try.ntmps3
    go_wp2_with (first
      | (go_at_call 9; ((with_reducible refine (HA.out _).mono ?_); rintro e w1 ⟨rfl, hb1⟩; replace hb1 := hi hb1))
      | (at_builtin; refine wpList_append_spans rfl _ _ rfl rfl 0 hi' _ xs rfl (HAT.out _ hb1.out) ?_; intro v2 w2 hown2 hb2; rw [HN.out] at hown2; obtain ⟨oa, oc, rfl⟩ := own_slice hown2; have HO2 := hi hown2; have HB2 := hi (hb1.out.trans (hb2.mono hb1.out.size)); have HIN2 := hi (show SpIn 0 w2.heap.size w2 (.slice oa n oc) xs from (spIn_of_own (base := w1.heap.size) (by rw [HN.out]; exact hown2) (by rw [HN.out]; exact hl) HF.out).mono (Nat.zero_le _) (Nat.le_refl _)); have HZ2 := hi hb2.size; clear hown2 hb2)
      | (go_at_call 10; ((with_reducible refine (new_yes2 0 w2.heap.size _ xs _ HIN2.out (Nat.le_refl _) HE.out).mono ?_); rintro e w3 ⟨p, sv, rfl, hs3, hb3⟩; rw [HYS.out] at hs3; have HS3 := hi hs3; have HB3 := hi (HB2.out.trans (hb3.mono HB2.out.size)); have HIN3 := hi (HIN2.out.below hb3 (Nat.le_refl _)); have HO3 := hi (own_later HO2.out hb3); have HZ3 := hi hb3.size; clear hs3 hb3))
      | (go_at_call 11; ((with_reducible refine (rnew_yes2 0 hi' _ xs _ (HAT.out _ HB3.out) (Nat.le_trans hh HB3.out.size) HE.out).mono ?_); rintro e w4 ⟨rv, rfl, hr4, hb4⟩; rw [HYS.out] at hr4; obtain ⟨ra, rc, rfl⟩ := hr4.slice; have HT4 := hi (show Two w2 w3 w4 p sv _ ys w4 from ⟨HS3.out.below hb4 (Nat.le_refl _), hr4, hb4.size, Nat.le_refl _⟩); have HB4 := hi (HB3.out.trans (hb4.mono HB3.out.size)); have HIN4 := hi (HIN3.out.below hb4 HZ3.out); have HO4 := hi (own_later HO3.out hb4); clear hr4 hb4))
      | (go_at_call 12; ((with_reducible refine (same_any _ _ _ _ xs xs _ _ _ HIN4.out (HAT.out _ HB4.out)).mono ?_); rintro e w5 ⟨he5, m5, rfl⟩; rw [sameS_self] at he5; subst he5)))
    have hown : ∀ g, (Value.slice oa n oc).ownBlock = some g → w.heap.size ≤ g ∧ g < w2.heap.size ∧ RowIs w4 g n := fun g hg => by
      refine ⟨?_, (HO2.out.lt g hg).2, ?_⟩
      · rcases HO2.out.2 with ⟨e, _⟩ | ⟨g', c', cur, e, hb, _⟩
        · rw [e] at hg; simp [Value.ownBlock] at hg
        · rw [e] at hg
          obtain rfl : g' = g := by simpa [Value.ownBlock] using hg
          exact Nat.le_trans hb1.out.size hb
      · rcases HO4.out.2 with ⟨e, _⟩ | ⟨g', c', cur, e, hb, hgc, h1, h2, h3, _⟩
        · rw [e] at hg; simp [Value.ownBlock] at hg
        · rw [e] at hg
          obtain rfl : g' = g := by simpa [Value.ownBlock] using hg
          exact ⟨cur, hgc, by rw [h3]; exact Nat.mul_le_mul_right 4 h1⟩
    have HOWN := hi hown
    clear hown
    go_loopw [13] (fun i wr => ∃ k : Nat, i = .int .i64 k ∧ k ≤ n ∧ Hi (Kept (fun j => (Value.slice oa n oc).ownBlock = some j) w4 wr ∧ ∀ g, (Value.slice oa n oc).ownBlock = some g → RowIs wr g n)) (fun i _ => n - (intOf i).toNat)
    case atStart => exact ⟨0, rfl, Nat.zero_le _, hi ⟨⟨rfl, rfl, rfl, Nat.le_refl _, fun _ _ _ => rfl⟩, fun g hg => (HOWN.out g hg).2.2⟩⟩
    case round =>
      obtain ⟨k, rfl, hk, HJ⟩ := hrel
      by_cases hlt : k < n
      · obtain ⟨g, rfl⟩ : ∃ g, oa = some ⟨g, 0, none⟩ := by
          rcases HO4.out.2 with ⟨e, e0⟩ | ⟨g', c', cur, e, _⟩
          · omega
          · simp only [Value.slice.injEq] at e; exact ⟨g', e.1⟩
        have hr := HJ.out.2 g rfl
        have HR := hi hr
        clear hr
        go_wp2_with (first
          | (refine wpList_store_mid rfl 33 (.tmp 67) (.tmp 66) rfl g _ #[.int .i64 0, .int .i64 0, .int .i64 0, .int .i64 0] rfl rfl (by simpa using HR.out.there hlt) size_sp4 zero_one ?_))
        go_roundw
        case rel => exact ⟨k + 1, by go_num, by omega, hi ⟨kept_sets (bs := fun j => (Value.slice (some ⟨g, 0, none⟩) n oc).ownBlock = some j) (b := g) rfl _ _ HJ.out.1, fun g' hg' => by
          obtain rfl : g = g' := by simpa [Value.ownBlock] using hg'
          exact RowIs.sets _ _ HR.out⟩⟩
        case measure => simp [intOf]; omega
      · obtain rfl : k = n := by omega
        have hT := HT4.out.kept (W' := wr) (fun i h1 h2 => HJ.out.1.block i h2 (fun e => by have := (HOWN.out i e).2.1; omega)) HZ3.out HJ.out.1.size
        have hB : Below w.heap.size w wr := HB4.out.trans (HJ.out.1.toBelow HB4.out.size (fun i e => (HOWN.out i e).1))
        have HT := hi hT
        have HB := hi hB
        clear hT hB hlt
        go_wp2_with (first
          | (go_at_call 13; ((with_reducible refine (find_any _ _ p sv ys addr width _ HT.out.bus (Nat.le_trans HT.out.s34 HT.out.s4) HRW.out.ok).mono ?_); rintro e w7 ⟨he7, hb7⟩; rw [HV.out] at he7; unfold tup at he7; subst he7; have HT7 := hi (HT.out.later hb7); have HB7 := hi (HB.out.trans (hb7.mono HB.out.size)); clear hb7))
          | (go_at_call 14; ((with_reducible refine (rfind_any _ _ _ ys addr width _ (HT7.out.later (bal _ _)).row (HT7.out.later (bal _ _)).s4 HRW.out.ok).mono ?_); rintro e w8 ⟨he8, hb8⟩; rw [HV.out] at he8; unfold tup at he8; subst he8; have HT8 := hi ((HT7.out.later (bal _ _)).later hb8); have HB8 := hi ((HB7.out.trans ((bal _ _).mono HB7.out.size)).trans (hb8.mono (Nat.le_trans HB7.out.size (bal _ _).size))); have hlt8 : w7.heap.size < w8.heap.size := (by have := hb8.size; simp at this; omega); have d0 : w8.cell? ⟨w7.heap.size, 0, none⟩ = some (.int .i64 z.b) := (hb8.cell (p := ⟨w7.heap.size, 0, none⟩) (by simp)).trans (by simp); have d1 : w8.cell? ⟨w7.heap.size, 1, none⟩ = some (.int .i64 z.s) := (hb8.cell (p := ⟨w7.heap.size, 1, none⟩) (by simp)).trans (by simp); have d2 : w8.cell? ⟨w7.heap.size, 2, none⟩ = some (.int .i64 z.k) := (hb8.cell (p := ⟨w7.heap.size, 2, none⟩) (by simp)).trans (by simp); have d3 : w8.cell? ⟨w7.heap.size, 3, none⟩ = some (.int .i64 z.i) := (hb8.cell (p := ⟨w7.heap.size, 3, none⟩) (by simp)).trans (by simp); clear hb8))
          | (go_at_call 15; ((with_reducible refine (all_any _ _ p sv ys _ (HT8.out.later (bal _ _)).bus (Nat.le_trans HT8.out.s34 (HT8.out.later (bal _ _)).s4) hyl).mono ?_); rintro e w9 ⟨v9, rfl, hr9, hb9⟩; obtain ⟨a9, c9, rfl⟩ := own_slice hr9; have HT9 := hi ((HT8.out.later (bal _ _)).later hb9); have HB9 := hi ((HB8.out.trans ((bal _ _).mono HB8.out.size)).trans (hb9.mono (Nat.le_trans HB8.out.size (bal _ _).size))); replace hr9 := hi hr9; clear hb9))
          | (go_at_call 12; ((with_reducible refine (same_any _ _ _ _ ys ys _ _ _ (spIn_of_own hr9.out (by omega) HYF.out) HT9.out.row).mono ?_); rintro e w10 ⟨he10, m10, rfl⟩; rw [sameS_self] at he10; subst he10)))
        go_ret
        exact ⟨rfl, Below.drewN HB9.out⟩
  · have hd : (newE xs != 0) = true := by simpa using he
    have HE := hi he
    obtain ⟨z, hz⟩ : ∃ z, newE xs = z := ⟨_, rfl⟩
    rw [hz] at hd
    have HZ := hi hz
    clear he hz
    go_enter Try.func3, Try.ntmps3
    go_wp2_with (first
      | (go_at_call 9; ((with_reducible refine (HA.out _).mono ?_); rintro e w1 ⟨rfl, hb1⟩; replace hb1 := hi hb1))
      | (at_builtin; refine wpList_append_spans rfl _ _ rfl rfl 0 hi' _ xs rfl (HAT.out _ hb1.out) ?_; intro v2 w2 hown2 hb2; rw [HN.out] at hown2; obtain ⟨oa, oc, rfl⟩ := own_slice hown2; have HB2 := hi (hb1.out.trans (hb2.mono hb1.out.size)); have HIN2 := hi (show SpIn 0 w2.heap.size w2 (.slice oa n oc) xs from (spIn_of_own (base := w1.heap.size) (by rw [HN.out]; exact hown2) (by rw [HN.out]; exact hl) HF.out).mono (Nat.zero_le _) (Nat.le_refl _)); clear hown2 hb2)
      | (go_at_call 10; ((with_reducible refine (new_no 0 w2.heap.size _ xs _ HIN2.out (Nat.le_refl _) HE.out).mono ?_); rintro e w3 ⟨he3, hb3⟩; rw [HZ.out] at he3; subst he3; have HB3 := hi (HB2.out.trans (hb3.mono HB2.out.size)); have HIN3 := hi (HIN2.out.below hb3 (Nat.le_refl _)); have HZ3 := hi hb3.size; clear hb3))
      | (go_at_call 11; ((with_reducible refine (rnew_no 0 hi' _ xs _ (HAT.out _ HB3.out) (Nat.le_trans hh HB3.out.size) HE.out).mono ?_); rintro e w4 ⟨he4, hb4⟩; rw [HZ.out] at he4; subst he4; have HB4 := hi (HB3.out.trans (hb4.mono HB3.out.size)); have HIN4 := hi (HIN3.out.below hb4 HZ3.out); clear hb4))
      | (go_at_call 12; ((with_reducible refine (same_any _ _ _ _ xs xs _ _ _ HIN4.out (HAT.out _ HB4.out)).mono ?_); rintro e w5 ⟨he5, m5, rfl⟩; rw [sameS_self] at he5; subst he5)))
    go_ret
    exact ⟨rfl, Below.drewN HB4.out⟩

end Go.Proofs.Ythfcadalidfcfaa
