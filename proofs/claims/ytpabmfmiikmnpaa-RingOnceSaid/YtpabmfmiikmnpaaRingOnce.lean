/-
  RingOnce: for every ring, read and write: each place that waits is gone through once, begins an entry, and is not where write is (the law answers true). No condition.
-/
import Derived.Test.YtpabmfmiikmnpaaRingWaits
import Derived.Deep.RegionHeld3
namespace Go.Proofs.Ytpabmfmiikmnpaa
open Go.ChangeShapes Go.WideShapes Go.ChangeAt Go.RowKit Go.Shelf
set_option linter.unusedVariables false

theorem seq_left {s t r v : Int} (h : mayB s t r = true) (g : mayB s t v = true) {k : Nat} (hk : k < (leftR s t r v).toNat) : seqR s t r k ≠ v := fun e => by
  have hbd := leftR_bd h g
  have := left_seq h g k (by omega)
  rw [e, leftR_self] at this
  omega
theorem seq_once {s t r v : Int} (h : mayB s t r = true) (g : mayB s t v = true) {j k : Nat} (hj : j < k) (hk : k < (leftR s t r v).toNat) : seqR s t r j ≠ seqR s t r k := fun e => by
  have hbd := leftR_bd h g
  have h1 := left_seq h g j (by omega)
  have h2 := left_seq h g k (by omega)
  rw [e] at h1
  omega
theorem xsV_at {s t r v : Int} {k : Nat} (hk : k < (leftR s t r v).toNat) : (xsV s t r v)[k]?.getD 0 = seqR s t r k := by simp [xsV, hk]
theorem xsV_take {s t r v : Int} {k : Nat} (hk : k < (leftR s t r v).toNat) : (xsV s t r v).take k = upR s t r k := by
  simp [upR, xsV, ← List.map_take, List.take_range, Nat.min_eq_left (Nat.le_of_lt hk)]
theorem xsV_before {s t r v : Int} (h : mayB s t r = true) (g : mayB s t v = true) {k : Nat} (hk : k < (leftR s t r v).toNat) : isIn ((xsV s t r v).take k) (seqR s t r k) = false := by
  rw [xsV_take hk]
  simp only [isIn, decide_eq_false_iff_not, upR, List.mem_map, List.mem_range]
  rintro ⟨j, hj, e⟩
  exact seq_once h g hj hk e
theorem xsV_in {s t r v : Int} {k : Nat} (hk : k < (leftR s t r v).toNat) : isIn (xsV s t r v) (seqR s t r k) = true := by
  simp only [isIn, decide_eq_true_eq, xsV, List.mem_map, List.mem_range]
  exact ⟨k, hk, rfl⟩

theorem intsAt_take {W : World} {a : Option Addr} {cap k : Nat} {xs : List Int} (h : IntsAt W (.slice a xs.length cap) xs) (hk : k ≤ xs.length) : IntsAt W (.slice a k cap) (xs.take k) := by
  obtain ⟨a', cap', e, hcap, hc⟩ := h
  simp only [Value.slice.injEq, true_and] at e
  obtain ⟨rfl, rfl⟩ := e
  refine ⟨a, cap, by simp [Nat.min_eq_left hk], ⟨by simp; omega, hcap.2⟩, fun hne => ?_⟩
  have hne' : xs ≠ [] := fun e => hne (by simp [e])
  obtain ⟨b, off, ha, hcs⟩ := hc hne'
  refine ⟨b, off, ha, fun j hj => ?_⟩
  have hj' : j < k ∧ j < xs.length := by simp at hj; omega
  rw [hcs j hj'.2, List.getElem?_take_of_lt hj'.1]

theorem has_take (xs : List Int) (x : Int) (k : Nat) (a : Option Addr) (cap : Nat) (w : World) (eb : isIn (xs.take k) x = false) (hk : k ≤ xs.length) (hx : xs.length ≤ 9223372036854775806) (ha : IntsAt w (.slice a xs.length cap) xs) :
    Calls Try.prog 24 #[.slice a k cap, .int .i64 x] w fun e w' => e = .returned (.bool false) ∧ Below w.heap.size w w' :=
  (has_any (xs.take k) x _ w (intsAt_take ha hk) (by simp; omega)).mono fun e w' ⟨h1, h2⟩ => ⟨by rw [h1, eb], by rw [h2]; exact Below.refl _ _⟩

def SinceR (W0 W : World) : Prop := Below W0.heap.size W0 W
theorem keepS {W0 wq w1 : World} {B b o : Nat} {x y z : Value} {v : Value} {xs : List Int} (hb : Below wq.heap.size wq w1)
    (h : wq.cell? ⟨B, 0, none⟩ = some x ∧ wq.cell? ⟨B, 1, none⟩ = some y ∧ wq.cell? ⟨b, o, none⟩ = some z ∧ SinceR W0 wq ∧ IntsAt wq v xs) :
    w1.cell? ⟨B, 0, none⟩ = some x ∧ w1.cell? ⟨B, 1, none⟩ = some y ∧ w1.cell? ⟨b, o, none⟩ = some z ∧ SinceR W0 w1 ∧ IntsAt w1 v xs := by
  obtain ⟨h1, h2, h3, h4, h5⟩ := h
  exact ⟨cell_kept h1 (Below.grew hb) (fun r e => by cases e), cell_kept h2 (Below.grew hb) (fun r e => by cases e), cell_kept h3 (Below.grew hb) (fun r e => by cases e), Below.trans h4 (hb.mono h4.size), intsAt_grew h5 hb⟩

set_option maxRecDepth 100000 in
set_option maxHeartbeats 4000000 in
theorem ringOnce_yes (s t r v : Int) (xs : List Int) (w : World) (hs : s ≤ 9223372036854775807) (ex : xsR s t r v = xs) (hl : xs.length ≤ 1024)
    (hat : ∀ k, k < xs.length → mayB s t (xs[k]?.getD 0) = true ∧ xs[k]?.getD 0 ≠ v ∧ isIn (xs.take k) (xs[k]?.getD 0) = false ∧ isIn xs (xs[k]?.getD 0) = true) (h0 : 0 < xs.length → xs[0]?.getD 0 = r) :
    Calls Try.prog 7 #[.agg #[.int .i64 s, .int .i64 t], .int .i64 r, .int .i64 v] w fun e w' => e = .returned (.bool true) ∧ Below w.heap.size w w' := by
  have HB := Below.refl (w.alloc (.cells #[.int .i64 s, .int .i64 t] 23)).heap.size (w.alloc (.cells #[.int .i64 s, .int .i64 t] 23))
  have EX := Lib.hid ex
  have HAT := Lib.hid hat
  have H0 := Lib.hid h0
  clear ex hat h0
  go_enter Try.func7, Try.ntmps7
  go_wp2_with (first
    | (go_at_call 9; ((with_reducible refine (awake_any _).mono ?_); rintro e w1 ⟨rfl, hb⟩; replace HB := HB.trans (hb.mono HB.size); (try clear hc hf); obtain ⟨hc, hf⟩ := bcell HB; clear hb))
    | (go_at_call 22; ((with_reducible refine (each_x s t r v xs hs _ EX.out).mono ?_); rintro e w1 ⟨a1, cap1, rfl, hi1, hb⟩; replace HB := HB.trans (hb.mono HB.size); (try clear hc hf); obtain ⟨hc, hf⟩ := bcell HB; clear hb)))
  go_loopw [9] (fun i wr => ∃ k : Nat, k ≤ xs.length ∧ i = .int .i64 k ∧ Below (w.alloc (.cells #[.int .i64 s, .int .i64 t] 23)).heap.size (w.alloc (.cells #[.int .i64 s, .int .i64 t] 23)) wr ∧ IntsAt wr (.slice a1 xs.length cap1) xs)
    (fun i _ => xs.length - (intOf i).toNat)
  case atStart => exact ⟨0, Nat.zero_le _, rfl, HB, hi1⟩
  case round =>
    clear hc hf HB hi1
    obtain ⟨k, hk, rfl, HB, hi1⟩ := hrel
    obtain ⟨hc, hf⟩ := bcell HB
    by_cases hlt : k < xs.length
    · obtain ⟨m1, m2, m3, m4⟩ := HAT.out k hlt
      have hi2 := hi1
      obtain ⟨a', cap', e, hcap, hcs⟩ := hi2
      simp only [Value.slice.injEq, true_and] at e
      obtain ⟨rfl, rfl⟩ := e
      obtain ⟨b, off, rfl, hcs2⟩ := hcs (fun e => by simp [e] at hlt)
      have hx := hcs2 k hlt
      obtain ⟨x, ex⟩ : ∃ x, xs[k]?.getD 0 = x := ⟨_, rfl⟩
      rw [ex] at m1 m2 m3 m4 hx
      have M1 := Lib.hid m1
      have M3 := Lib.hid m3
      have M4 := Lib.hid m4
      have hne : (x == v) = false := by simpa using m2
      have hcapk : k ≤ cap1 := by omega
      clear hcs hcs2 m1 m2 m3 m4 ex
      have hs0 : wr.cell? ⟨w.heap.size, 0, none⟩ = some (.int .i64 s) := by rw [hc _ _ (by simp)]; simp
      have hs1 : wr.cell? ⟨w.heap.size, 1, none⟩ = some (.int .i64 t) := by rw [hc _ _ (by simp)]; simp
      clear hc hf
      have hk0 : (0 : Int) ≤ (k : Int) := by omega
      have hk1 : (k : Int) < (xs.length : Int) := by omega
      have hk2 : (k : Int) ≤ (cap1 : Int) := by omega
      have HBd : SinceR (w.alloc (.cells #[.int .i64 s, .int .i64 t] 23)) wr.drew := HB.drew
      have hid : IntsAt wr.drew (.slice (some ⟨b, off, none⟩) xs.length cap1) xs := hi1
      go_wp2
      go_region_held3 (fun w' => w'.cell? ⟨w.heap.size, 0, none⟩ = some (.int .i64 s) ∧ w'.cell? ⟨w.heap.size, 1, none⟩ = some (.int .i64 t) ∧ w'.cell? ⟨b, off + k, none⟩ = some (.int .i64 x) ∧ SinceR (w.alloc (.cells #[.int .i64 s, .int .i64 t] 23)) w' ∧ IntsAt w' (.slice (some ⟨b, off, none⟩) xs.length cap1) xs)
        (first
          | go_keep
          | ((try dsimp only); go_split_ands; exact ⟨by assumption, by assumption, by assumption, by assumption, by assumption⟩))
        (first
          | (go_at_call 13; (with_reducible refine (may_yes s t x _ M1.out hs).mono ?_); rintro e w1 ⟨rfl, hb⟩; have hS := keepS hb (by go_split_ands; exact ⟨by assumption, by assumption, by assumption, by assumption, by assumption⟩); clear hb; go_split_ands)
          | (go_at_call 24; (with_reducible refine (has_take xs x k _ _ _ M3.out (by omega) (by omega) (by go_split_ands; assumption)).mono ?_); rintro e w1 ⟨rfl, hb⟩; have hS := keepS hb (by go_split_ands; exact ⟨by assumption, by assumption, by assumption, by assumption, by assumption⟩); clear hb; go_split_ands)
          | (go_at_call 23; (with_reducible refine (waits_x s t r v x xs true hs _ EX.out M4.out).mono ?_); rintro e w1 ⟨rfl, hb⟩; have hS := keepS hb (by go_split_ands; exact ⟨by assumption, by assumption, by assumption, by assumption, by assumption⟩); clear hb; go_split_ands))
      have HX : SinceR (w.alloc (.cells #[.int .i64 s, .int .i64 t] 23)) w1 := by assumption
      have hi3 : IntsAt w1 (.slice (some ⟨b, off, none⟩) xs.length cap1) xs := by assumption
      go_wp2
      go_roundw
      case rel => exact ⟨k + 1, by omega, by go_num, HX, hi3⟩
      case measure => simp [intOf]; omega
    · have ek : k = xs.length := by omega
      subst ek
      by_cases he : xs.length = 0
      · have HE : ((xs.length : Int) == 0) = true := by simp [he]
        clear he hlt hk
        go_wp2
        go_ret
        exact ⟨rfl, ba HB⟩
      · have h0 := H0.out (by omega)
        have hpos : (0 : Int) < (xs.length : Int) := by omega
        have HE : ((xs.length : Int) == 0) = false := by
          have : (xs.length : Int) ≠ 0 := by omega
          simpa [-List.length_eq_zero_iff] using he
        obtain ⟨a', cap', e, hcap, hcs⟩ := hi1
        simp only [Value.slice.injEq, true_and] at e
        obtain ⟨rfl, rfl⟩ := e
        obtain ⟨b, off, rfl, hcs2⟩ := hcs (fun e => he (by simp [e]))
        have hx := hcs2 0 (by omega)
        rw [h0, Nat.add_zero] at hx
        clear hcs hcs2 he hlt hk h0
        go_wp2
        go_ret
        exact ⟨rfl, ba HB⟩

theorem ringOnce_any (s t r v : Int) (w : World) (hs : s ≤ 9223372036854775807) :
    Calls Try.prog 7 #[.agg #[.int .i64 s, .int .i64 t], .int .i64 r, .int .i64 v] w fun e w' => e = .returned (.bool true) ∧ Below w.heap.size w w' := by
  cases hm : mayB s t r && mayB s t v
  · have hx : xsR s t r v = [] := by simp only [xsR, hm]; rfl
    exact ringOnce_yes s t r v [] w hs hx (by simp) (fun k hk => by simp at hk) (fun h => by simp at h)
  · obtain ⟨hr, hv⟩ := mayB_out2 hm
    have hx := xsR_yes hr hv
    refine ringOnce_yes s t r v _ w hs hx (by rw [← hx]; exact xsR_len s t r v) (fun k hk => ?_) (fun h => ?_)
    · rw [xsV_len] at hk
      rw [xsV_at hk]
      exact ⟨seqR_may hr k, seq_left hr hv hk, xsV_before hr hv hk, xsV_in hk⟩
    · rw [xsV_len] at h
      rw [xsV_at h]
      rfl

end Go.Proofs.Ytpabmfmiikmnpaa
