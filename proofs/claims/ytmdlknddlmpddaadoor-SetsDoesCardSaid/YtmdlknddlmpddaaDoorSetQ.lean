/-
  The laws' Alike at every set and the document's list of it: it answers true.
-/
import Derived.Test.YtmdlknddlmpddaaDoorRefD
import Derived.Test.YtmdlknddlmpddaaDoorMost
import Derived.Test.YtmdlknddlmpddaaDoorSetsLeft
namespace Go.Proofs.YtmdlknddlmpddaaDoor
open Go.ChangeShapes Go.WideShapes Go.ChangeAt Go.RowKit Go.Shelf
set_option linter.unusedVariables false

theorem runs_is (l F : List Int) (a : Option Addr) (ca : Nat) (w : World) (hv : IntsAt w (.slice a l.length ca) l) (hl : l.length ≤ 20000) (hbd : ∀ i, i < l.length → 0 ≤ at0 l i ∧ at0 l i < 16384) (e : runsTo l l.length = F) :
    Calls Tryd.prog 38 #[.slice a l.length ca] w (GivesCol w F) := e ▸ runsL_any l a ca w hv hl hbd
theorem runsList_is (b : Nat) (S : Words) (xs : List Rn) (F : List Int) (w : World) (hR : RowAt 58 w b S) (hT : TabW w) (hxs : RunFrom S 0 xs) (e : flat xs = F) :
    Calls Tryd.prog 37 #[.pointer (some ⟨b, 0, none⟩)] w (SomeInts w F) := by
  subst e
  exact (callsIn_wide.1 (runsList_in 3 (Nat.le_refl _) b S xs w hR hT hxs)).mono fun e W' ⟨o, he, ho, hb⟩ => by
    obtain ⟨a, cap, rfl, hcap, hc⟩ := intsAt_row ho.1
    exact ⟨a, cap, he, ⟨a, cap, rfl, hcap, hc⟩, hb⟩
theorem len_is (b n : Nat) (S : Words) (w : World) (hR : RowAt 58 w b S) (e : lenTo S 256 = n) :
    Calls Tryd.prog 32 #[.pointer (some ⟨b, 0, none⟩)] w fun e w' => e = .returned (.int .i64 (n : Int)) ∧ w = w' := e ▸ len_any b S w hR

theorem Lists.bd {S : Words} {l : List Int} (h : Lists S l) (i : Nat) (hi : i < l.length) : 0 ≤ at0 l i ∧ at0 l i < 16384 := by
  have hm : at0 l i ∈ l := by unfold at0; simp [hi]
  obtain ⟨k, e, hk, _⟩ := memZ_bd ((h.2 _).1 hm)
  rw [e]; omega
theorem Lists.none {S : Words} (h : Lists S []) (hS : ∀ i, S i < 18446744073709551616) : ∀ i, i < 256 → S i = 0 := fun i hi => word_zero_of hS (fun j hj => by
  cases e : memS S j
  · rfl
  · have : (j : Int) ∈ ([] : List Int) := (h.2 _).2 (by rw [memZ_nat, decide_eq_true (show j < 16384 by omega), e]; rfl)
    simp at this)
theorem rises_last {l : List Int} (h : Rises l) (hne : l ≠ []) : ∀ x ∈ l, x ≤ at0 l (l.length - 1) := by
  rcases List.eq_nil_or_concat l with rfl | ⟨p, y, rfl⟩
  · exact absurd rfl hne
  · rw [List.concat_eq_append] at h ⊢
    have e : at0 (p ++ [y]) ((p ++ [y]).length - 1) = y := by simp [at0]
    rw [e]
    intro x hx
    rcases List.mem_append.1 hx with a | a
    · have := (List.pairwise_append.1 h).2.2 x a y (by simp); omega
    · simp at a; omega
theorem Lists.top {S : Words} {l : List Int} (h : Lists S l) (hne : l ≠ []) : ∃ r : Nat, at0 l (l.length - 1) = (r : Int) ∧ IsTop S r := by
  have hlen : 0 < l.length := by cases l with
    | nil => exact absurd rfl hne
    | cons _ _ => simp
  have hm : at0 l (l.length - 1) ∈ l := by unfold at0; simp [show l.length - 1 < l.length by omega]
  obtain ⟨r, e, hr, hmr⟩ := memZ_bd ((h.2 _).1 hm)
  refine ⟨r, e, hr, hmr, fun j h1 h2 => ?_⟩
  cases c : memS S j
  · rfl
  · have := rises_last h.1 hne (j : Int) ((h.2 _).2 (by rw [memZ_nat, decide_eq_true h2, c]; rfl))
    omega
theorem Lists.head {S : Words} {l : List Int} (h : Lists S l) (hne : l ≠ []) : ∃ k : Nat, at0 l 0 = (k : Int) ∧ k < 16384 ∧ IsNx (memS S) 0 k := by
  cases l with
  | nil => exact absurd rfl hne
  | cons x r =>
    obtain ⟨k, e, hk, h1, _⟩ := h.from0
    exact ⟨k, by simp [at0, e], hk, h1⟩

theorem same_nil (a b : Option Addr) (cap cap' : Nat) (w : World) (ha : IntsAt w (.slice a 0 cap) []) (hb : IntsAt w (.slice b 0 cap') []) :
    Calls Tryd.prog 22 #[.slice a 0 cap, .slice b 0 cap'] w fun e w' => e = .returned (.bool true) ∧ Below w.heap.size w w' := same_x [] a b cap cap' w (by simp) ha hb
theorem list_nil (b : Nat) (S : Words) (w : World) (hR : RowAt 58 w b S) (hT : TabW w) (hxs : MemFrom S 0 []) :
    Calls Tryd.prog 33 #[.pointer (some ⟨b, 0, none⟩)] w fun e W' => ∃ a cap, e = .returned (.slice a 0 cap) ∧ IntsAt W' (.slice a 0 cap) [] ∧ Below w.heap.size w W' := list_ints b S [] w hR hT hxs
theorem runs_nil (F : List Int) (a : Option Addr) (ca : Nat) (w : World) (hv : IntsAt w (.slice a 0 ca) []) (e : runsTo [] 0 = F) :
    Calls Tryd.prog 38 #[.slice a 0 ca] w (GivesCol w F) := runs_is [] F a ca w hv (by simp) (fun i h => by simp at h) e

set_option maxRecDepth 100000 in
set_option maxHeartbeats 2000000 in
theorem alike_nil (b : Nat) (S : Words) (a : Option Addr) (ca : Nat) (w : World) (hR : RowAt 58 w b S) (hT : TabW w) (hv : IntsAt w (.slice a 0 ca) []) (h : Lists S []) :
    Calls Tryd.prog 12 #[.pointer (some ⟨b, 0, none⟩), .slice a 0 ca] w fun e w' => e = .returned (.bool true) ∧ Below w.heap.size w w' := by
  obtain ⟨xs, hxs⟩ := runFrom_ex S 16384 0 (by omega) (by omega)
  obtain ⟨F, eF⟩ : ∃ F, flat xs = F := ⟨_, rfl⟩
  have hr := runsTo_is h.from0 hxs
  rw [eF] at hr
  replace hr : runsTo [] 0 = F := hr
  have hFl : F.length ≤ 20000 := by rw [← eF, flat_len]; have := runFrom_len hxs; omega
  have HR := hi hR
  have HT := hi hT
  have HV := hi hv
  have HX := hi hxs
  have HF := hi eF
  have HRT := hi hr
  have HLEN := hi (show lenTo S 256 = 0 from memFrom_lenTo h.from0)
  have HNX := hi (show IsNx (memS S) 0 16384 from h.from0)
  have HZR := hi (h.none hR.2)
  have HLS := hi h
  have HB := hi (Below.refl w.heap.size w)
  have HFL := hi hFl
  clear hR hT hv hxs eF hr h hFl
  go_enter Tryd.func12, Tryd.ntmps12
  go_wp2_with (first
    | (go_at_call 32; ((with_reducible refine (len_is b 0 S _ (HR.out.below HB.out) HLEN.out).mono ?_); rintro e w2 ⟨rfl, rfl⟩))
    | (go_at_call 33; ((with_reducible refine (list_nil b S _ (HR.out.below HB.out) (HT.out.below HB.out) HLS.out.from0).mono ?_); rintro e w3 ⟨a3, c3, rfl, hi3, hb3⟩; replace HB := hi (HB.out.trans (hb3.mono HB.out.size)); clear hb3))
    | (go_at_call 22; ((with_reducible refine (same_nil a3 a _ _ _ hi3 (intsAt_grew HV.out HB.out)).mono ?_); rintro e w4 ⟨rfl, hb4⟩; replace HB := hi (HB.out.trans (hb4.mono HB.out.size)); clear hb4))
    | (go_at_call 37; ((with_reducible refine (runsList_is b S xs F _ (HR.out.below HB.out) (HT.out.below HB.out) HX.out HF.out).mono ?_); rintro e w5 ⟨a5, c5, rfl, hi5, hb5⟩; replace HB := hi (HB.out.trans (hb5.mono HB.out.size)); clear hb5))
    | (go_at_call 38; ((with_reducible refine (runs_nil F a _ _ (intsAt_grew HV.out HB.out) HRT.out).mono ?_); rintro e w6 ⟨a6, c6, rfl, hc6⟩; replace HB := hi (HB.out.trans (hc6.below.mono HB.out.size)); have hi6 := intsAt_row hc6.own; replace hi5 := intsAt_grew hi5 hc6.below; clear hc6))
    | (go_at_call 22; ((with_reducible refine (same_x F a5 a6 _ _ _ (by have := HFL.out; omega) hi5 hi6).mono ?_); rintro e w7 ⟨rfl, hb7⟩; replace HB := hi (HB.out.trans (hb7.mono HB.out.size)); clear hb7))
    | (go_at_call 36; ((with_reducible refine (least_none b S _ (HR.out.below HB.out) (HT.out.below HB.out) HNX.out).mono ?_); rintro e w8 ⟨rfl, rfl⟩))
    | (go_at_call 39; ((with_reducible refine (most_none b S _ (HR.out.below HB.out) HZR.out).mono ?_); rintro e w8 ⟨rfl, rfl⟩)))
  go_ret
  exact ⟨rfl, HB.out⟩

set_option maxRecDepth 100000 in
set_option maxHeartbeats 2000000 in
theorem alike_cons (b : Nat) (S : Words) (l : List Int) (a : Option Addr) (ca : Nat) (w : World) (hR : RowAt 58 w b S) (hT : TabW w) (hv : IntsAt w (.slice a l.length ca) l) (h : Lists S l) (hne : l ≠ []) :
    Calls Tryd.prog 12 #[.pointer (some ⟨b, 0, none⟩), .slice a l.length ca] w fun e w' => e = .returned (.bool true) ∧ Below w.heap.size w w' := by
  obtain ⟨xs, hxs⟩ := runFrom_ex S 16384 0 (by omega) (by omega)
  obtain ⟨F, eF⟩ : ∃ F, flat xs = F := ⟨_, rfl⟩
  have hr := runsTo_is h.from0 hxs
  rw [eF] at hr
  have hFl : F.length ≤ 20000 := by rw [← eF, flat_len]; have := runFrom_len hxs; omega
  have HR := hi hR
  have HT := hi hT
  have HV := hi hv
  have HX := hi hxs
  have HF := hi eF
  have HRT := hi hr
  have HLEN := hi ( memFrom_lenTo h.from0)
  obtain ⟨k, ek, hk, hnx⟩ := h.head hne
  obtain ⟨t, et, htop⟩ := h.top hne
  have hpos : 0 < l.length := by cases l with
    | nil => exact absurd rfl hne
    | cons _ _ => simp
  have hll := h.len
  obtain ⟨bl, off, rfl, hbl, hr0, _⟩ := intsAt_read hv (Below.refl _ _) hpos
  obtain ⟨bl', off', e', _, hr1, _⟩ := intsAt_read hv (Below.refl _ _) (show l.length - 1 < l.length by omega)
  simp only [Option.some.injEq, Addr.mk.injEq, and_true] at e'
  obtain ⟨rfl, rfl⟩ := e'
  rw [show l[0]?.getD 0 = at0 l 0 from rfl, ek, Nat.add_zero] at hr0
  rw [show l[l.length - 1]?.getD 0 = at0 l (l.length - 1) from rfl, et] at hr1
  have HNX := hi hnx
  have HTOP := hi htop
  have HK := hi hk
  have HR0 := hi (fun (W : World) (hW : Below w.heap.size w W) => (hW.cell (p := ⟨bl, off, none⟩) hbl).trans hr0)
  have HR1 := hi (fun (W : World) (hW : Below w.heap.size w W) => (hW.cell (p := ⟨bl, off + (l.length - 1), none⟩) hbl).trans hr1)
  have hz : ((l.length : Int) == 0) = false := by simp; omega
  have hl0 : 0 < (l.length : Int) := by omega
  have hl9 : (l.length : Int) ≤ 16384 := by omega
  have hidx : ((l.length : Int) - 1).toNat = l.length - 1 := by omega
  have HLL := hi hll
  have HLS := hi h
  have HB := hi (Below.refl w.heap.size w)
  have HFL := hi hFl
  clear hR hT hv hxs eF hr h hFl hnx htop hk hr0 hr1 ek et hne hpos hll hbl
  go_enter Tryd.func12, Tryd.ntmps12
  go_wp2_with (first
    | (go_at_call 32; ((with_reducible refine (len_is b l.length S _ (HR.out.below HB.out) HLEN.out).mono ?_); rintro e w2 ⟨rfl, rfl⟩))
    | (go_at_call 33; ((with_reducible refine (list_ints b S l _ (HR.out.below HB.out) (HT.out.below HB.out) HLS.out.from0).mono ?_); rintro e w3 ⟨a3, c3, rfl, hi3, hb3⟩; replace HB := hi (HB.out.trans (hb3.mono HB.out.size)); clear hb3))
    | (go_at_call 22; ((with_reducible refine (same_x l a3 _ _ _ _ (by have := HLL.out; omega) hi3 (intsAt_grew HV.out HB.out)).mono ?_); rintro e w4 ⟨rfl, hb4⟩; replace HB := hi (HB.out.trans (hb4.mono HB.out.size)); clear hb4))
    | (go_at_call 37; ((with_reducible refine (runsList_is b S xs F _ (HR.out.below HB.out) (HT.out.below HB.out) HX.out HF.out).mono ?_); rintro e w5 ⟨a5, c5, rfl, hi5, hb5⟩; replace HB := hi (HB.out.trans (hb5.mono HB.out.size)); clear hb5))
    | (go_at_call 38; ((with_reducible refine (runs_is l F _ _ _ (intsAt_grew HV.out HB.out) (by have := HLL.out; omega) HLS.out.bd HRT.out).mono ?_); rintro e w6 ⟨a6, c6, rfl, hc6⟩; replace HB := hi (HB.out.trans (hc6.below.mono HB.out.size)); have hi6 := intsAt_row hc6.own; replace hi5 := intsAt_grew hi5 hc6.below; clear hc6))
    | (go_at_call 22; ((with_reducible refine (same_x F a5 a6 _ _ _ (by have := HFL.out; omega) hi5 hi6).mono ?_); rintro e w7 ⟨rfl, hb7⟩; replace HB := hi (HB.out.trans (hb7.mono HB.out.size)); clear hb7))
    | (go_at_call 36; ((with_reducible refine (least_some b S k _ (HR.out.below HB.out) (HT.out.below HB.out) HNX.out HK.out).mono ?_); rintro e w8 ⟨rfl, rfl⟩))
    | (go_at_call 39; ((with_reducible refine (most_some b S t _ (HR.out.below HB.out) HTOP.out).mono ?_); rintro e w9 ⟨rfl, rfl⟩; have hr0 := HR0.out _ HB.out; have hr1 := HR1.out _ HB.out)))
  go_ret
  exact ⟨rfl, HB.out⟩


theorem alike_any (b : Nat) (S : Words) (l : List Int) (a : Option Addr) (ca : Nat) (w : World) (hR : RowAt 58 w b S) (hT : TabW w) (hv : IntsAt w (.slice a l.length ca) l) (h : Lists S l) :
    Calls Tryd.prog 12 #[.pointer (some ⟨b, 0, none⟩), .slice a l.length ca] w fun e w' => e = .returned (.bool true) ∧ Below w.heap.size w w' := by
  by_cases hne : l = []
  · subst hne
    exact alike_nil b S a ca w hR hT hv h
  · exact alike_cons b S l a ca w hR hT hv h hne

end Go.Proofs.YtmdlknddlmpddaaDoor
