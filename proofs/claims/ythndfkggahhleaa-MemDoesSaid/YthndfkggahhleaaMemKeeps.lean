/-
  MemKeeps: a write changes its own bytes alone; one that is refused none: its walk.
-/
import Derived.Test.YthndfkggahhleaaMemBackA
namespace Go.Proofs.Ythndfkggahhleaa
open Go.ChangeShapes Go.WideShapes Go.ChangeAt Go.RowKit
set_option linter.unusedVariables false

theorem box7_cells {W : World} {b : Nat} {c0 c1 c2 c3 c4 c5 c6 : Value} {T : TypeId} (h : W.heap[b]? = some (.cells #[c0, c1, c2, c3, c4, c5, c6] T (0, 0))) :
    W.cell? ⟨b, 0, none⟩ = some c0 ∧ W.cell? ⟨b, 1, none⟩ = some c1 ∧ W.cell? ⟨b, 2, none⟩ = some c2 ∧ W.cell? ⟨b, 3, none⟩ = some c3 ∧ W.cell? ⟨b, 4, none⟩ = some c4 ∧ W.cell? ⟨b, 5, none⟩ = some c5 ∧ W.cell? ⟨b, 6, none⟩ = some c6 :=
  ⟨cell_of_box h 0, cell_of_box h 1, cell_of_box h 2, cell_of_box h 3, cell_of_box h 4, cell_of_box h 5, cell_of_box h 6⟩
theorem frozen_of_box {W : World} {b : Nat} {cs : Array Value} {T : TypeId} (h : W.heap[b]? = some (.cells cs T (0, 0))) (o : Nat) : W.frozen? ⟨b, o, none⟩ = false := by
  simp [World.frozen?, h]
theorem box_below {w W : World} {cs : Array Value} {T : TypeId} (h : Below (w.alloc (.cells cs T)).heap.size (w.alloc (.cells cs T)) W) : W.heap[w.heap.size]? = some (.cells cs T (0, 0)) :=
  (h.block w.heap.size (by rw [size_al]; omega)).trans (heap_new _ _)
/-- What Bytes of one byte gives: a slice that reads so, and goes on doing so. -/
theorem bytes_later {w2 w3 W : World} {v : Value} {l : List Nat} (h : (v = .slice none 0 0 ∧ l = []) ∨ ∃ h, OwnB w3 w2.heap.size h v l) {g : Nat} (hg : g < w2.heap.size) (k : Kept (· = g) w3 W) : BytesIn W v l := by
  rcases h with ⟨rfl, rfl⟩ | ⟨h, ho⟩
  · exact ⟨none, 0, rfl, Nat.le_refl _, (fun x hx => by simp at hx), fun h => absurd rfl h⟩
  · refine ho.bytesIn.kept k ?_
    obtain ⟨cap, rfl, hb, _⟩ := ho
    intro b off cp e _ (e2 : b = g)
    simp only [Value.slice.injEq, Option.some.injEq, Addr.mk.injEq] at e
    omega


theorem does1_out (p g cap : Nat) (bs : List Nat) (a s off wd : Int) (v : Nat) (ys : List Nat) (bv : Value) (w : World) (hx : ActD.Fair ⟨1, a, s, off, wd, v, ys⟩) (hM : MemAt 60 w p g cap bs) (hy : BytesIn w bv ys) :
    Calls Try.prog 14 #[.pointer (some ⟨p, 0, none⟩), .agg #[.int .i64 1, .int .i64 a, .int .i64 s, .int .i64 off, .int .i64 wd, .int .u64 (v : Int), bv]] w fun e w' => e = .returned (.int .i64 (accE bs.length a s off wd)) ∧ MemAt 60 w' p g cap (wrB bs a s off wd v) ∧ Kept (· = g) w w' := by
  have h := does_out p g cap bs ⟨1, a, s, off, wd, v, ys⟩ bv w hx hM hy
  have e1 : doE bs ⟨1, a, s, off, wd, v, ys⟩ = accE bs.length a s off wd := by simp [doE]
  have e2 : doL bs ⟨1, a, s, off, wd, v, ys⟩ = wrB bs a s off wd v := by simp [doL]
  rw [e1, e2] at h
  exact h
theorem bytes1_out (p g cap : Nat) (bs : List Nat) (K : Int) (w : World) (hM : MemAt 60 w p g cap bs) (h0 : -9223372036854775808 ≤ K) (h1 : K ≤ 9223372036854775807) :
    Calls Try.prog 19 #[.pointer (some ⟨p, 0, none⟩), .agg #[.int .i64 K, .int .i64 1]] w fun e w' => ∃ v, e = .returned (.tuple #[v, .int .i64 (bytesE bs.length K 1)]) ∧ ((v = .slice none 0 0 ∧ bytesL bs K 1 = []) ∨ ∃ h, OwnB w' w.heap.size h v (bytesL bs K 1)) ∧ Below w.heap.size w w' :=
  bytes_any p g cap bs K 1 w hM h0 h1 (by omega) (by omega)
theorem bytesE_two (n : Nat) (K : Int) : bytesE n K 1 = 0 ∨ bytesE n K 1 = 42 := by unfold bytesE; split <;> simp


theorem splice_away (bs cs : List Nat) (o k : Nat) (h : o + cs.length ≤ bs.length) (hk : k < o ∨ o + cs.length ≤ k) : (splice bs o cs)[k]? = bs[k]? := by
  have h1 : (bs.take o).length = o := by simp; omega
  simp only [splice]
  rcases hk with hk | hk
  · rw [List.getElem?_append_left (by omega), List.getElem?_take_of_lt hk]
  · rw [List.getElem?_append_right (by omega), h1, List.getElem?_append_right (by omega), List.getElem?_drop]
    congr 1
    omega
theorem sub1_ext {bs cs : List Nat} {k : Nat} (h : bs[k]? = cs[k]?) : sub bs k 1 = sub cs k 1 := by
  apply List.ext_getElem?
  intro i
  by_cases hi : i < 1
  · rw [sub_get hi, sub_get hi, show k + i = k by omega, h]
  · rw [List.getElem?_eq_none (by simp [sub]; omega), List.getElem?_eq_none (by simp [sub]; omega)]
theorem keeps_no {bs : List Nat} {a s off wd K : Int} {v : Nat} (h : accE bs.length a s off wd ≠ 0) : bytesL (wrB bs a s off wd v) K 1 = bytesL bs K 1 := by simp [wrB, h]
theorem keeps_away {bs : List Nat} {a s off wd K : Int} {v : Nat} (hl : bs.length ≤ 131072) (h : accE bs.length a s off wd = 0) (hk : K < a + off ∨ a + off + wd ≤ K) : bytesL (wrB bs a s off wd v) K 1 = bytesL bs K 1 := by
  have h2 := wrB_len (bs := bs) (a := a) (s := s) (off := off) (width := wd) (v := v) hl
  have e : wrB bs a s off wd v = splice bs (a.toNat + off.toNat) (le wd.toNat v) := by simp [wrB, h]
  simp only [bytesL, h2]
  split
  · rename_i hh
    obtain ⟨k, _, rfl, _, _⟩ := holdsB_out hh
    obtain ⟨A, S, o, n, rfl, rfl, rfl, rfl, hA, ho, _, _⟩ := accE_out hl h
    rw [e]
    refine sub1_ext (splice_away _ _ _ _ ?_ ?_)
    · rw [le_len]; simp only [Int.toNat_natCast]; omega
    · rw [le_len]; simp only [Int.toNat_natCast]; omega
  · rfl
theorem acc_sums {n : Nat} {a s off wd : Int} (hl : n ≤ 4096) (h : accE n a s off wd = 0) : IntKind.i64.wrap (a + off) = a + off ∧ IntKind.i64.wrap (a + off + wd) = a + off + wd := by
  obtain ⟨A, S, o, k, rfl, rfl, rfl, rfl, hA, ho, _, _⟩ := accE_out (by omega) h
  rw [IntKind.wrap_i64, IntKind.wrap_i64]
  omega

set_option maxHeartbeats 4000000 in
theorem memKeeps_out (size : Int) (sv : Value) (xs : List ActD) (d a s off wd : Int) (v : Nat) (ys : List Nat) (bv : Value) (K : Int) (w : World) (hacts : ActsAt w sv xs)
    (hx : ActD.Fair ⟨1, a, s, off, wd, v, ys⟩) (hy : BytesIn w bv ys) (hK0 : -9223372036854775808 ≤ K) (hK1 : K ≤ 9223372036854775807)
    (hm : bytesE (newN size) K 1 = 42) :
    Calls Try.prog 6 #[.int .i64 size, sv, .agg #[.int .i64 d, .int .i64 a, .int .i64 s, .int .i64 off, .int .i64 wd, .int .u64 (v : Int), bv], .int .i64 K] w fun e w' => e = .returned (.bool true) ∧ Below w.heap.size w w' := by
  have HS := hi (hacts.below (bal w (.cells #[.int .i64 d, .int .i64 a, .int .i64 s, .int .i64 off, .int .i64 wd, .int .u64 (v : Int), bv] 33)))
  have HXF := hi hx
  have HY := hi hy
  have HK := hi (And.intro hK0 hK1)
  have HQ := hi hm
  clear hm
  obtain ⟨sa, scap, rfl, hsl, _, _⟩ := hacts
  clear hx hy hK0 hK1
  go_enter Try.func6, Try.ntmps6
  go_wp2_with (first
    | (go_at_call 8; ((with_reducible refine (awake_any _).mono ?_); rintro e w1 ⟨rfl, hb1⟩; have HK1 := hi hb1; clear hb1))
    | (go_at_call 9; ((with_reducible refine (lawNew_any size _).mono ?_); rintro e w2 ⟨p, g, q, h, rfl, hB⟩; have HM0 := hi (Since.base hB.mem HK1.out); clear hB)))
  have hnl := newN_le size
  go_loopw [12] (fun i wr => ∃ j : Nat, i = .int .i64 j ∧ Hi (j ≤ xs.length ∧ ∃ bs : List Nat, bs.length = newN size ∧ Since (w.alloc (.cells #[.int .i64 d, .int .i64 a, .int .i64 s, .int .i64 off, .int .i64 wd, .int .u64 (v : Int), bv] 33)) p g (newN size) bs wr)) (fun i _ => xs.length - (intOf i).toNat)
  case atStart => exact ⟨0, rfl, hi ⟨Nat.zero_le _, _, List.length_replicate, HM0.out⟩⟩
  case round =>
    obtain ⟨j, rfl, HJ⟩ := hrel
    have hj := HJ.out.1
    obtain ⟨bs, hbl, hsn⟩ := HJ.out.2
    have HSN := hi hsn
    have HBL := hi hbl
    clear hsn hbl
    by_cases hlt : j < xs.length
    · obtain ⟨x, bv, b, off, hmem, rfl, hfair, hy, c0, c1, c2, c3, c4, c5, c6⟩ := actsAt_read HS.out HSN.out.below hlt
      have HX := hi (And.intro hfair hy)
      clear hmem hfair hy
      go_wp2_with (go_at_call 14; ((with_reducible refine (does_out p g (newN size) bs x bv _ HX.out.1 HSN.out.mem HX.out.2).mono ?_); rintro e w3 ⟨rfl, hm3, hk3⟩))
      have HS3 := hi (HSN.out.wrote hk3 hm3)
      clear hm3 hk3
      go_roundw
      case rel => exact ⟨j + 1, by go_num, hi ⟨hlt, _, (doL_len (by rw [HBL.out]; omega)).trans HBL.out, HS3.out⟩⟩
      case measure => simp [intOf]; omega
    · have e : j = xs.length := by omega
      subst e
      have hX0 := box_below HSN.out.below
      obtain ⟨c0, c1, c2, c3, c4, c5, c6⟩ := box7_cells hX0
      have hfr := frozen_of_box hX0 0
      have hgw : w.heap.size < g := by have := HSN.out.g; rw [size_al] at this; omega
      have hpw : w.heap.size < p := by have := HSN.out.p; rw [size_al] at this; omega
      have hX1 := Joins.block_setCell (i := 0) hX0 (.int .i64 1)
      have hkk : Kept (· = w.heap.size) wr (wr.setCell ⟨w.heap.size, 0, none⟩ (.int .i64 1)) := kept_setCell _ _ _ _
      have HS1 : Hi (Since w p g (newN size) bs (wr.setCell ⟨w.heap.size, 0, none⟩ (.int .i64 1))) := hi ⟨HSN.out.mem.kept hkk (fun (e : p = w.heap.size) => by omega) (fun (e : g = w.heap.size) => by omega), by omega, by omega, (((bal w _).trans (HSN.out.below.mono (by rw [size_al]; omega))).trans (hkk.toBelow (by have := HSN.out.sz; rw [size_al] at this; omega) (fun k (e : k = w.heap.size) => by omega)))⟩
      have HX1 := hi hX1
      have hxl : w.heap.size < wr.heap.size := (Array.getElem?_eq_some_iff.1 hX0).1
      have hgl : g < wr.heap.size := HSN.out.mem.bytes.lt
      have HG := hi (And.intro hgl (And.intro hxl hgw))
      have hzs : (wr.setCell ⟨w.heap.size, 0, none⟩ (.int .i64 1)).heap.size = wr.heap.size := by simp [World.setCell]
      have HZS := hi hzs
      clear hX0 hX1 hkk hgw hpw hxl hgl hzs
      have HBY := hi (fun (l : List Nat) (hl : l.length = newN size) W (hW : MemAt 60 W p g (newN size) l) => bytes1_out p g (newN size) l K W hW HK.out.1 HK.out.2)
      have HDO := hi (fun W (hW : MemAt 60 W p g (newN size) bs) (hy : BytesIn W bv ys) => does1_out p g (newN size) bs a s off wd v ys bv W HXF.out hW hy)
      rw [HBL.out] at HDO
      have hl2 : (wrB bs a s off wd v).length = newN size := (wrB_len (by rw [HBL.out]; omega)).trans HBL.out
      have HL2 := hi hl2
      have HB1 := hi (fun W hW => HBL.out ▸ HBY.out bs HBL.out W hW)
      have HB2 := hi (fun W hW => HL2.out ▸ HBY.out (wrB bs a s off wd v) HL2.out W hW)
      have hXE : (wr.setCell ⟨w.heap.size, 0, none⟩ (.int .i64 1)).heap[w.heap.size]? = some (.cells #[.int .i64 1, .int .i64 a, .int .i64 s, .int .i64 off, .int .i64 wd, .int .u64 (v : Int), bv] 33 (0, 0)) := HX1.out.trans rfl
      have HXE := hi hXE
      clear hl2 hXE HX1
      rw [HQ.out] at HB1 HB2
      obtain ⟨m2, hm2⟩ : ∃ m2, accE (newN size) a s off wd = m2 := ⟨_, rfl⟩
      rw [hm2] at HDO
      clear hm2
      go_wp2_with (first
        | (go_at_call 19; ((with_reducible refine (HB1.out _ (HS1.out.later (bal _ _)).mem).mono ?_); rintro e w3 ⟨v1, rfl, hv1, hb3⟩; have HS3 := hi ((HS1.out.later (bal _ _)).later hb3); have HV1 := hi hv1; have hX3 := hi ((hb3.block w.heap.size (by rw [size_al, HZS.out]; have := HG.out; omega)).trans ((Below.heap_alloc _ _ _ (by rw [HZS.out]; exact HG.out.2.1)).trans HXE.out)); obtain ⟨d0, d1, d2, d3, d4, d5, d6⟩ := box7_cells hX3.out; have hO3 := (box2_new (wr.setCell ⟨w.heap.size, 0, none⟩ (.int .i64 1)) (.int .i64 K) (.int .i64 1) 29).below hb3; rw [HZS.out] at hO3; have HO3 := hi hO3; clear hb3 hv1 hO3 c0 c1 c2 c3 c4 c5 c6 hfr))
        | (go_at_call 14; ((with_reducible refine (HDO.out _ HS3.out.mem (HY.out.below HS3.out.below)).mono ?_); rintro e w4 ⟨rfl, hm4, hk4⟩; have HS4 := hi (HS3.out.wrote hk4 hm4); have hX4 := hi ((hk4.block w.heap.size (Array.getElem?_eq_some_iff.1 hX3.out).1 (fun (e : w.heap.size = g) => by have := HG.out.2.2; omega)).trans hX3.out); have HO4 := hi (HO3.out.kept hk4 (fun (e : wr.heap.size = g) => by have := HG.out.1; omega)); obtain ⟨o0, o1, _⟩ := HO4.out; have HK4 := hi hk4; clear hm4 hk4))
        | (go_at_call 19; ((with_reducible refine (HB2.out _ HS4.out.mem).mono ?_); rintro e w5 ⟨v2, rfl, hv2, hb5⟩; have HS5 := hi (HS4.out.later hb5); have hX5 := hi ((hb5.block w.heap.size (Array.getElem?_eq_some_iff.1 hX4.out).1).trans hX4.out); obtain ⟨f0, f1, f2, f3, f4, f5, f6⟩ := box7_cells hX5.out; have hcv1 := conv_bytes (bytes_later HV1.out (g := g) (by rw [size_al, HZS.out]; have := HG.out; omega) (HK4.out.trans (Kept.of hb5))); have hcv2 := conv_bytes (bytes_later hv2 (g := g) HS4.out.mem.bytes.lt (Kept.refl _ _)); clear hb5 hv2)))
      go_ret
      exact ⟨by simp, HS5.out.below⟩

set_option maxHeartbeats 4000000 in
theorem memKeeps_no (size : Int) (sv : Value) (xs : List ActD) (d a s off wd : Int) (v : Nat) (ys : List Nat) (bv : Value) (K : Int) (w : World) (hacts : ActsAt w sv xs)
    (hx : ActD.Fair ⟨1, a, s, off, wd, v, ys⟩) (hy : BytesIn w bv ys) (hK0 : -9223372036854775808 ≤ K) (hK1 : K ≤ 9223372036854775807)
    (hm : bytesE (newN size) K 1 = 0) (hE : accE (newN size) a s off wd ≠ 0) :
    Calls Try.prog 6 #[.int .i64 size, sv, .agg #[.int .i64 d, .int .i64 a, .int .i64 s, .int .i64 off, .int .i64 wd, .int .u64 (v : Int), bv], .int .i64 K] w fun e w' => e = .returned (.bool true) ∧ Below w.heap.size w w' := by
  have HS := hi (hacts.below (bal w (.cells #[.int .i64 d, .int .i64 a, .int .i64 s, .int .i64 off, .int .i64 wd, .int .u64 (v : Int), bv] 33)))
  have HXF := hi hx
  have HY := hi hy
  have HK := hi (And.intro hK0 hK1)
  have HQ := hi hm
  have HE := hi hE
  clear hm hE
  obtain ⟨sa, scap, rfl, hsl, _, _⟩ := hacts
  clear hx hy hK0 hK1
  go_enter Try.func6, Try.ntmps6
  go_wp2_with (first
    | (go_at_call 8; ((with_reducible refine (awake_any _).mono ?_); rintro e w1 ⟨rfl, hb1⟩; have HK1 := hi hb1; clear hb1))
    | (go_at_call 9; ((with_reducible refine (lawNew_any size _).mono ?_); rintro e w2 ⟨p, g, q, h, rfl, hB⟩; have HM0 := hi (Since.base hB.mem HK1.out); clear hB)))
  have hnl := newN_le size
  go_loopw [12] (fun i wr => ∃ j : Nat, i = .int .i64 j ∧ Hi (j ≤ xs.length ∧ ∃ bs : List Nat, bs.length = newN size ∧ Since (w.alloc (.cells #[.int .i64 d, .int .i64 a, .int .i64 s, .int .i64 off, .int .i64 wd, .int .u64 (v : Int), bv] 33)) p g (newN size) bs wr)) (fun i _ => xs.length - (intOf i).toNat)
  case atStart => exact ⟨0, rfl, hi ⟨Nat.zero_le _, _, List.length_replicate, HM0.out⟩⟩
  case round =>
    obtain ⟨j, rfl, HJ⟩ := hrel
    have hj := HJ.out.1
    obtain ⟨bs, hbl, hsn⟩ := HJ.out.2
    have HSN := hi hsn
    have HBL := hi hbl
    clear hsn hbl
    by_cases hlt : j < xs.length
    · obtain ⟨x, bv, b, off, hmem, rfl, hfair, hy, c0, c1, c2, c3, c4, c5, c6⟩ := actsAt_read HS.out HSN.out.below hlt
      have HX := hi (And.intro hfair hy)
      clear hmem hfair hy
      go_wp2_with (go_at_call 14; ((with_reducible refine (does_out p g (newN size) bs x bv _ HX.out.1 HSN.out.mem HX.out.2).mono ?_); rintro e w3 ⟨rfl, hm3, hk3⟩))
      have HS3 := hi (HSN.out.wrote hk3 hm3)
      clear hm3 hk3
      go_roundw
      case rel => exact ⟨j + 1, by go_num, hi ⟨hlt, _, (doL_len (by rw [HBL.out]; omega)).trans HBL.out, HS3.out⟩⟩
      case measure => simp [intOf]; omega
    · have e : j = xs.length := by omega
      subst e
      have hX0 := box_below HSN.out.below
      obtain ⟨c0, c1, c2, c3, c4, c5, c6⟩ := box7_cells hX0
      have hfr := frozen_of_box hX0 0
      have hgw : w.heap.size < g := by have := HSN.out.g; rw [size_al] at this; omega
      have hpw : w.heap.size < p := by have := HSN.out.p; rw [size_al] at this; omega
      have hX1 := Joins.block_setCell (i := 0) hX0 (.int .i64 1)
      have hkk : Kept (· = w.heap.size) wr (wr.setCell ⟨w.heap.size, 0, none⟩ (.int .i64 1)) := kept_setCell _ _ _ _
      have HS1 : Hi (Since w p g (newN size) bs (wr.setCell ⟨w.heap.size, 0, none⟩ (.int .i64 1))) := hi ⟨HSN.out.mem.kept hkk (fun (e : p = w.heap.size) => by omega) (fun (e : g = w.heap.size) => by omega), by omega, by omega, (((bal w _).trans (HSN.out.below.mono (by rw [size_al]; omega))).trans (hkk.toBelow (by have := HSN.out.sz; rw [size_al] at this; omega) (fun k (e : k = w.heap.size) => by omega)))⟩
      have HX1 := hi hX1
      have hxl : w.heap.size < wr.heap.size := (Array.getElem?_eq_some_iff.1 hX0).1
      have hgl : g < wr.heap.size := HSN.out.mem.bytes.lt
      have HG := hi (And.intro hgl (And.intro hxl hgw))
      have hzs : (wr.setCell ⟨w.heap.size, 0, none⟩ (.int .i64 1)).heap.size = wr.heap.size := by simp [World.setCell]
      have HZS := hi hzs
      clear hX0 hX1 hkk hgw hpw hxl hgl hzs
      have HBY := hi (fun (l : List Nat) (hl : l.length = newN size) W (hW : MemAt 60 W p g (newN size) l) => bytes1_out p g (newN size) l K W hW HK.out.1 HK.out.2)
      have HDO := hi (fun W (hW : MemAt 60 W p g (newN size) bs) (hy : BytesIn W bv ys) => does1_out p g (newN size) bs a s off wd v ys bv W HXF.out hW hy)
      rw [HBL.out] at HDO
      have hl2 : (wrB bs a s off wd v).length = newN size := (wrB_len (by rw [HBL.out]; omega)).trans HBL.out
      have HL2 := hi hl2
      have HB1 := hi (fun W hW => HBL.out ▸ HBY.out bs HBL.out W hW)
      have HB2 := hi (fun W hW => HL2.out ▸ HBY.out (wrB bs a s off wd v) HL2.out W hW)
      have hXE : (wr.setCell ⟨w.heap.size, 0, none⟩ (.int .i64 1)).heap[w.heap.size]? = some (.cells #[.int .i64 1, .int .i64 a, .int .i64 s, .int .i64 off, .int .i64 wd, .int .u64 (v : Int), bv] 33 (0, 0)) := HX1.out.trans rfl
      have HXE := hi hXE
      clear hl2 hXE HX1
      rw [HQ.out] at HB1 HB2
      have HLE := hi (keeps_no (bs := bs) (K := K) (v := v) (by rw [HBL.out]; exact HE.out))
      obtain ⟨m2, hm2⟩ : ∃ m2, accE (newN size) a s off wd = m2 := ⟨_, rfl⟩
      have hne : (m2 == 0) = false := by have := HE.out; rw [hm2] at this; simpa using this
      rw [hm2] at HDO
      clear hm2
      go_wp2_with (first
        | (go_at_call 19; ((with_reducible refine (HB1.out _ (HS1.out.later (bal _ _)).mem).mono ?_); rintro e w3 ⟨v1, rfl, hv1, hb3⟩; have HS3 := hi ((HS1.out.later (bal _ _)).later hb3); have HV1 := hi hv1; have hX3 := hi ((hb3.block w.heap.size (by rw [size_al, HZS.out]; have := HG.out; omega)).trans ((Below.heap_alloc _ _ _ (by rw [HZS.out]; exact HG.out.2.1)).trans HXE.out)); obtain ⟨d0, d1, d2, d3, d4, d5, d6⟩ := box7_cells hX3.out; have hO3 := (box2_new (wr.setCell ⟨w.heap.size, 0, none⟩ (.int .i64 1)) (.int .i64 K) (.int .i64 1) 29).below hb3; rw [HZS.out] at hO3; have HO3 := hi hO3; clear hb3 hv1 hO3 c0 c1 c2 c3 c4 c5 c6 hfr))
        | (go_at_call 14; ((with_reducible refine (HDO.out _ HS3.out.mem (HY.out.below HS3.out.below)).mono ?_); rintro e w4 ⟨rfl, hm4, hk4⟩; have HS4 := hi (HS3.out.wrote hk4 hm4); have hX4 := hi ((hk4.block w.heap.size (Array.getElem?_eq_some_iff.1 hX3.out).1 (fun (e : w.heap.size = g) => by have := HG.out.2.2; omega)).trans hX3.out); have HO4 := hi (HO3.out.kept hk4 (fun (e : wr.heap.size = g) => by have := HG.out.1; omega)); obtain ⟨o0, o1, _⟩ := HO4.out; have HK4 := hi hk4; clear hm4 hk4))
        | (go_at_call 19; ((with_reducible refine (HB2.out _ HS4.out.mem).mono ?_); rintro e w5 ⟨v2, rfl, hv2, hb5⟩; have HS5 := hi (HS4.out.later hb5); have hX5 := hi ((hb5.block w.heap.size (Array.getElem?_eq_some_iff.1 hX4.out).1).trans hX4.out); obtain ⟨f0, f1, f2, f3, f4, f5, f6⟩ := box7_cells hX5.out; have hcv1 := conv_bytes (bytes_later HV1.out (g := g) (by rw [size_al, HZS.out]; have := HG.out; omega) (HK4.out.trans (Kept.of hb5))); have hcv2 := conv_bytes (bytes_later hv2 (g := g) HS4.out.mem.bytes.lt (Kept.refl _ _)); rw [HLE.out] at hcv2; obtain ⟨Y, hY⟩ : ∃ Y, strB (bytesL bs K 1) = Y := ⟨_, rfl⟩; rw [hY] at hcv1 hcv2; clear hY; clear hb5 hv2)))
      go_ret
      exact ⟨by simp, HS5.out.below⟩

set_option maxHeartbeats 4000000 in
theorem memKeeps_in (size : Int) (sv : Value) (xs : List ActD) (d a s off wd : Int) (v : Nat) (ys : List Nat) (bv : Value) (K : Int) (w : World) (hacts : ActsAt w sv xs)
    (hx : ActD.Fair ⟨1, a, s, off, wd, v, ys⟩) (hy : BytesIn w bv ys) (hK0 : -9223372036854775808 ≤ K) (hK1 : K ≤ 9223372036854775807)
    (hm : bytesE (newN size) K 1 = 0) (hE : accE (newN size) a s off wd = 0) (hi1 : a + off ≤ K) (hi2 : K < a + off + wd) :
    Calls Try.prog 6 #[.int .i64 size, sv, .agg #[.int .i64 d, .int .i64 a, .int .i64 s, .int .i64 off, .int .i64 wd, .int .u64 (v : Int), bv], .int .i64 K] w fun e w' => e = .returned (.bool true) ∧ Below w.heap.size w w' := by
  have HS := hi (hacts.below (bal w (.cells #[.int .i64 d, .int .i64 a, .int .i64 s, .int .i64 off, .int .i64 wd, .int .u64 (v : Int), bv] 33)))
  have HXF := hi hx
  have HY := hi hy
  have HK := hi (And.intro hK0 hK1)
  have HQ := hi hm
  have HE := hi hE
  obtain ⟨hw1, hw2⟩ := acc_sums (newN_le size) hE
  clear hm hE
  obtain ⟨sa, scap, rfl, hsl, _, _⟩ := hacts
  clear hx hy hK0 hK1
  go_enter Try.func6, Try.ntmps6
  go_wp2_with (first
    | (go_at_call 8; ((with_reducible refine (awake_any _).mono ?_); rintro e w1 ⟨rfl, hb1⟩; have HK1 := hi hb1; clear hb1))
    | (go_at_call 9; ((with_reducible refine (lawNew_any size _).mono ?_); rintro e w2 ⟨p, g, q, h, rfl, hB⟩; have HM0 := hi (Since.base hB.mem HK1.out); clear hB)))
  have hnl := newN_le size
  go_loopw [12] (fun i wr => ∃ j : Nat, i = .int .i64 j ∧ Hi (j ≤ xs.length ∧ ∃ bs : List Nat, bs.length = newN size ∧ Since (w.alloc (.cells #[.int .i64 d, .int .i64 a, .int .i64 s, .int .i64 off, .int .i64 wd, .int .u64 (v : Int), bv] 33)) p g (newN size) bs wr)) (fun i _ => xs.length - (intOf i).toNat)
  case atStart => exact ⟨0, rfl, hi ⟨Nat.zero_le _, _, List.length_replicate, HM0.out⟩⟩
  case round =>
    obtain ⟨j, rfl, HJ⟩ := hrel
    have hj := HJ.out.1
    obtain ⟨bs, hbl, hsn⟩ := HJ.out.2
    have HSN := hi hsn
    have HBL := hi hbl
    clear hsn hbl
    by_cases hlt : j < xs.length
    · obtain ⟨x, bv, b, off, hmem, rfl, hfair, hy, c0, c1, c2, c3, c4, c5, c6⟩ := actsAt_read HS.out HSN.out.below hlt
      have HX := hi (And.intro hfair hy)
      clear hmem hfair hy
      go_wp2_with (go_at_call 14; ((with_reducible refine (does_out p g (newN size) bs x bv _ HX.out.1 HSN.out.mem HX.out.2).mono ?_); rintro e w3 ⟨rfl, hm3, hk3⟩))
      have HS3 := hi (HSN.out.wrote hk3 hm3)
      clear hm3 hk3
      go_roundw
      case rel => exact ⟨j + 1, by go_num, hi ⟨hlt, _, (doL_len (by rw [HBL.out]; omega)).trans HBL.out, HS3.out⟩⟩
      case measure => simp [intOf]; omega
    · have e : j = xs.length := by omega
      subst e
      have hX0 := box_below HSN.out.below
      obtain ⟨c0, c1, c2, c3, c4, c5, c6⟩ := box7_cells hX0
      have hfr := frozen_of_box hX0 0
      have hgw : w.heap.size < g := by have := HSN.out.g; rw [size_al] at this; omega
      have hpw : w.heap.size < p := by have := HSN.out.p; rw [size_al] at this; omega
      have hX1 := Joins.block_setCell (i := 0) hX0 (.int .i64 1)
      have hkk : Kept (· = w.heap.size) wr (wr.setCell ⟨w.heap.size, 0, none⟩ (.int .i64 1)) := kept_setCell _ _ _ _
      have HS1 : Hi (Since w p g (newN size) bs (wr.setCell ⟨w.heap.size, 0, none⟩ (.int .i64 1))) := hi ⟨HSN.out.mem.kept hkk (fun (e : p = w.heap.size) => by omega) (fun (e : g = w.heap.size) => by omega), by omega, by omega, (((bal w _).trans (HSN.out.below.mono (by rw [size_al]; omega))).trans (hkk.toBelow (by have := HSN.out.sz; rw [size_al] at this; omega) (fun k (e : k = w.heap.size) => by omega)))⟩
      have HX1 := hi hX1
      have hxl : w.heap.size < wr.heap.size := (Array.getElem?_eq_some_iff.1 hX0).1
      have hgl : g < wr.heap.size := HSN.out.mem.bytes.lt
      have HG := hi (And.intro hgl (And.intro hxl hgw))
      have hzs : (wr.setCell ⟨w.heap.size, 0, none⟩ (.int .i64 1)).heap.size = wr.heap.size := by simp [World.setCell]
      have HZS := hi hzs
      clear hX0 hX1 hkk hgw hpw hxl hgl hzs
      have HBY := hi (fun (l : List Nat) (hl : l.length = newN size) W (hW : MemAt 60 W p g (newN size) l) => bytes1_out p g (newN size) l K W hW HK.out.1 HK.out.2)
      have HDO := hi (fun W (hW : MemAt 60 W p g (newN size) bs) (hy : BytesIn W bv ys) => does1_out p g (newN size) bs a s off wd v ys bv W HXF.out hW hy)
      rw [HBL.out] at HDO
      have hl2 : (wrB bs a s off wd v).length = newN size := (wrB_len (by rw [HBL.out]; omega)).trans HBL.out
      have HL2 := hi hl2
      have HB1 := hi (fun W hW => HBL.out ▸ HBY.out bs HBL.out W hW)
      have HB2 := hi (fun W hW => HL2.out ▸ HBY.out (wrB bs a s off wd v) HL2.out W hW)
      have hXE : (wr.setCell ⟨w.heap.size, 0, none⟩ (.int .i64 1)).heap[w.heap.size]? = some (.cells #[.int .i64 1, .int .i64 a, .int .i64 s, .int .i64 off, .int .i64 wd, .int .u64 (v : Int), bv] 33 (0, 0)) := HX1.out.trans rfl
      have HXE := hi hXE
      clear hl2 hXE HX1
      rw [HQ.out] at HB1 HB2
      rw [HE.out] at HDO
      go_wp2_with (first
        | (go_at_call 19; ((with_reducible refine (HB1.out _ (HS1.out.later (bal _ _)).mem).mono ?_); rintro e w3 ⟨v1, rfl, hv1, hb3⟩; have HS3 := hi ((HS1.out.later (bal _ _)).later hb3); have HV1 := hi hv1; have hX3 := hi ((hb3.block w.heap.size (by rw [size_al, HZS.out]; have := HG.out; omega)).trans ((Below.heap_alloc _ _ _ (by rw [HZS.out]; exact HG.out.2.1)).trans HXE.out)); obtain ⟨d0, d1, d2, d3, d4, d5, d6⟩ := box7_cells hX3.out; have hO3 := (box2_new (wr.setCell ⟨w.heap.size, 0, none⟩ (.int .i64 1)) (.int .i64 K) (.int .i64 1) 29).below hb3; rw [HZS.out] at hO3; have HO3 := hi hO3; clear hb3 hv1 hO3 c0 c1 c2 c3 c4 c5 c6 hfr))
        | (go_at_call 14; ((with_reducible refine (HDO.out _ HS3.out.mem (HY.out.below HS3.out.below)).mono ?_); rintro e w4 ⟨rfl, hm4, hk4⟩; have HS4 := hi (HS3.out.wrote hk4 hm4); have hX4 := hi ((hk4.block w.heap.size (Array.getElem?_eq_some_iff.1 hX3.out).1 (fun (e : w.heap.size = g) => by have := HG.out.2.2; omega)).trans hX3.out); have HO4 := hi (HO3.out.kept hk4 (fun (e : wr.heap.size = g) => by have := HG.out.1; omega)); obtain ⟨o0, o1, _⟩ := HO4.out; have HK4 := hi hk4; clear hm4 hk4))
        | (go_at_call 19; ((with_reducible refine (HB2.out _ HS4.out.mem).mono ?_); rintro e w5 ⟨v2, rfl, hv2, hb5⟩; have HS5 := hi (HS4.out.later hb5); have hX5 := hi ((hb5.block w.heap.size (Array.getElem?_eq_some_iff.1 hX4.out).1).trans hX4.out); obtain ⟨f0, f1, f2, f3, f4, f5, f6⟩ := box7_cells hX5.out; have hcv1 := conv_bytes (bytes_later HV1.out (g := g) (by rw [size_al, HZS.out]; have := HG.out; omega) (HK4.out.trans (Kept.of hb5))); have hcv2 := conv_bytes (bytes_later hv2 (g := g) HS4.out.mem.bytes.lt (Kept.refl _ _)); clear hb5 hv2)))
      go_ret
      exact ⟨by simp, HS5.out.below⟩

set_option maxHeartbeats 4000000 in
theorem memKeeps_low (size : Int) (sv : Value) (xs : List ActD) (d a s off wd : Int) (v : Nat) (ys : List Nat) (bv : Value) (K : Int) (w : World) (hacts : ActsAt w sv xs)
    (hx : ActD.Fair ⟨1, a, s, off, wd, v, ys⟩) (hy : BytesIn w bv ys) (hK0 : -9223372036854775808 ≤ K) (hK1 : K ≤ 9223372036854775807)
    (hm : bytesE (newN size) K 1 = 0) (hE : accE (newN size) a s off wd = 0) (hi1 : K < a + off) :
    Calls Try.prog 6 #[.int .i64 size, sv, .agg #[.int .i64 d, .int .i64 a, .int .i64 s, .int .i64 off, .int .i64 wd, .int .u64 (v : Int), bv], .int .i64 K] w fun e w' => e = .returned (.bool true) ∧ Below w.heap.size w w' := by
  have HS := hi (hacts.below (bal w (.cells #[.int .i64 d, .int .i64 a, .int .i64 s, .int .i64 off, .int .i64 wd, .int .u64 (v : Int), bv] 33)))
  have HXF := hi hx
  have HY := hi hy
  have HK := hi (And.intro hK0 hK1)
  have HQ := hi hm
  have HE := hi hE
  obtain ⟨hw1, hw2⟩ := acc_sums (newN_le size) hE
  clear hm hE
  obtain ⟨sa, scap, rfl, hsl, _, _⟩ := hacts
  clear hx hy hK0 hK1
  go_enter Try.func6, Try.ntmps6
  go_wp2_with (first
    | (go_at_call 8; ((with_reducible refine (awake_any _).mono ?_); rintro e w1 ⟨rfl, hb1⟩; have HK1 := hi hb1; clear hb1))
    | (go_at_call 9; ((with_reducible refine (lawNew_any size _).mono ?_); rintro e w2 ⟨p, g, q, h, rfl, hB⟩; have HM0 := hi (Since.base hB.mem HK1.out); clear hB)))
  have hnl := newN_le size
  go_loopw [12] (fun i wr => ∃ j : Nat, i = .int .i64 j ∧ Hi (j ≤ xs.length ∧ ∃ bs : List Nat, bs.length = newN size ∧ Since (w.alloc (.cells #[.int .i64 d, .int .i64 a, .int .i64 s, .int .i64 off, .int .i64 wd, .int .u64 (v : Int), bv] 33)) p g (newN size) bs wr)) (fun i _ => xs.length - (intOf i).toNat)
  case atStart => exact ⟨0, rfl, hi ⟨Nat.zero_le _, _, List.length_replicate, HM0.out⟩⟩
  case round =>
    obtain ⟨j, rfl, HJ⟩ := hrel
    have hj := HJ.out.1
    obtain ⟨bs, hbl, hsn⟩ := HJ.out.2
    have HSN := hi hsn
    have HBL := hi hbl
    clear hsn hbl
    by_cases hlt : j < xs.length
    · obtain ⟨x, bv, b, off, hmem, rfl, hfair, hy, c0, c1, c2, c3, c4, c5, c6⟩ := actsAt_read HS.out HSN.out.below hlt
      have HX := hi (And.intro hfair hy)
      clear hmem hfair hy
      go_wp2_with (go_at_call 14; ((with_reducible refine (does_out p g (newN size) bs x bv _ HX.out.1 HSN.out.mem HX.out.2).mono ?_); rintro e w3 ⟨rfl, hm3, hk3⟩))
      have HS3 := hi (HSN.out.wrote hk3 hm3)
      clear hm3 hk3
      go_roundw
      case rel => exact ⟨j + 1, by go_num, hi ⟨hlt, _, (doL_len (by rw [HBL.out]; omega)).trans HBL.out, HS3.out⟩⟩
      case measure => simp [intOf]; omega
    · have e : j = xs.length := by omega
      subst e
      have hX0 := box_below HSN.out.below
      obtain ⟨c0, c1, c2, c3, c4, c5, c6⟩ := box7_cells hX0
      have hfr := frozen_of_box hX0 0
      have hgw : w.heap.size < g := by have := HSN.out.g; rw [size_al] at this; omega
      have hpw : w.heap.size < p := by have := HSN.out.p; rw [size_al] at this; omega
      have hX1 := Joins.block_setCell (i := 0) hX0 (.int .i64 1)
      have hkk : Kept (· = w.heap.size) wr (wr.setCell ⟨w.heap.size, 0, none⟩ (.int .i64 1)) := kept_setCell _ _ _ _
      have HS1 : Hi (Since w p g (newN size) bs (wr.setCell ⟨w.heap.size, 0, none⟩ (.int .i64 1))) := hi ⟨HSN.out.mem.kept hkk (fun (e : p = w.heap.size) => by omega) (fun (e : g = w.heap.size) => by omega), by omega, by omega, (((bal w _).trans (HSN.out.below.mono (by rw [size_al]; omega))).trans (hkk.toBelow (by have := HSN.out.sz; rw [size_al] at this; omega) (fun k (e : k = w.heap.size) => by omega)))⟩
      have HX1 := hi hX1
      have hxl : w.heap.size < wr.heap.size := (Array.getElem?_eq_some_iff.1 hX0).1
      have hgl : g < wr.heap.size := HSN.out.mem.bytes.lt
      have HG := hi (And.intro hgl (And.intro hxl hgw))
      have hzs : (wr.setCell ⟨w.heap.size, 0, none⟩ (.int .i64 1)).heap.size = wr.heap.size := by simp [World.setCell]
      have HZS := hi hzs
      clear hX0 hX1 hkk hgw hpw hxl hgl hzs
      have HBY := hi (fun (l : List Nat) (hl : l.length = newN size) W (hW : MemAt 60 W p g (newN size) l) => bytes1_out p g (newN size) l K W hW HK.out.1 HK.out.2)
      have HDO := hi (fun W (hW : MemAt 60 W p g (newN size) bs) (hy : BytesIn W bv ys) => does1_out p g (newN size) bs a s off wd v ys bv W HXF.out hW hy)
      rw [HBL.out] at HDO
      have hl2 : (wrB bs a s off wd v).length = newN size := (wrB_len (by rw [HBL.out]; omega)).trans HBL.out
      have HL2 := hi hl2
      have HB1 := hi (fun W hW => HBL.out ▸ HBY.out bs HBL.out W hW)
      have HB2 := hi (fun W hW => HL2.out ▸ HBY.out (wrB bs a s off wd v) HL2.out W hW)
      have hXE : (wr.setCell ⟨w.heap.size, 0, none⟩ (.int .i64 1)).heap[w.heap.size]? = some (.cells #[.int .i64 1, .int .i64 a, .int .i64 s, .int .i64 off, .int .i64 wd, .int .u64 (v : Int), bv] 33 (0, 0)) := HX1.out.trans rfl
      have HXE := hi hXE
      clear hl2 hXE HX1
      rw [HQ.out] at HB1 HB2
      have HLE := hi (keeps_away (bs := bs) (K := K) (v := v) (by rw [HBL.out]; omega) (by rw [HBL.out]; exact HE.out) (.inl hi1))
      rw [HE.out] at HDO
      go_wp2_with (first
        | (go_at_call 19; ((with_reducible refine (HB1.out _ (HS1.out.later (bal _ _)).mem).mono ?_); rintro e w3 ⟨v1, rfl, hv1, hb3⟩; have HS3 := hi ((HS1.out.later (bal _ _)).later hb3); have HV1 := hi hv1; have hX3 := hi ((hb3.block w.heap.size (by rw [size_al, HZS.out]; have := HG.out; omega)).trans ((Below.heap_alloc _ _ _ (by rw [HZS.out]; exact HG.out.2.1)).trans HXE.out)); obtain ⟨d0, d1, d2, d3, d4, d5, d6⟩ := box7_cells hX3.out; have hO3 := (box2_new (wr.setCell ⟨w.heap.size, 0, none⟩ (.int .i64 1)) (.int .i64 K) (.int .i64 1) 29).below hb3; rw [HZS.out] at hO3; have HO3 := hi hO3; clear hb3 hv1 hO3 c0 c1 c2 c3 c4 c5 c6 hfr))
        | (go_at_call 14; ((with_reducible refine (HDO.out _ HS3.out.mem (HY.out.below HS3.out.below)).mono ?_); rintro e w4 ⟨rfl, hm4, hk4⟩; have HS4 := hi (HS3.out.wrote hk4 hm4); have hX4 := hi ((hk4.block w.heap.size (Array.getElem?_eq_some_iff.1 hX3.out).1 (fun (e : w.heap.size = g) => by have := HG.out.2.2; omega)).trans hX3.out); have HO4 := hi (HO3.out.kept hk4 (fun (e : wr.heap.size = g) => by have := HG.out.1; omega)); obtain ⟨o0, o1, _⟩ := HO4.out; have HK4 := hi hk4; clear hm4 hk4))
        | (go_at_call 19; ((with_reducible refine (HB2.out _ HS4.out.mem).mono ?_); rintro e w5 ⟨v2, rfl, hv2, hb5⟩; have HS5 := hi (HS4.out.later hb5); have hX5 := hi ((hb5.block w.heap.size (Array.getElem?_eq_some_iff.1 hX4.out).1).trans hX4.out); obtain ⟨f0, f1, f2, f3, f4, f5, f6⟩ := box7_cells hX5.out; have hcv1 := conv_bytes (bytes_later HV1.out (g := g) (by rw [size_al, HZS.out]; have := HG.out; omega) (HK4.out.trans (Kept.of hb5))); have hcv2 := conv_bytes (bytes_later hv2 (g := g) HS4.out.mem.bytes.lt (Kept.refl _ _)); rw [HLE.out] at hcv2; obtain ⟨Y, hY⟩ : ∃ Y, strB (bytesL bs K 1) = Y := ⟨_, rfl⟩; rw [hY] at hcv1 hcv2; clear hY; clear hb5 hv2)))
      go_ret
      exact ⟨by simp, HS5.out.below⟩

set_option maxHeartbeats 4000000 in
theorem memKeeps_high (size : Int) (sv : Value) (xs : List ActD) (d a s off wd : Int) (v : Nat) (ys : List Nat) (bv : Value) (K : Int) (w : World) (hacts : ActsAt w sv xs)
    (hx : ActD.Fair ⟨1, a, s, off, wd, v, ys⟩) (hy : BytesIn w bv ys) (hK0 : -9223372036854775808 ≤ K) (hK1 : K ≤ 9223372036854775807)
    (hm : bytesE (newN size) K 1 = 0) (hE : accE (newN size) a s off wd = 0) (hi1 : a + off ≤ K) (hi2 : a + off + wd ≤ K) :
    Calls Try.prog 6 #[.int .i64 size, sv, .agg #[.int .i64 d, .int .i64 a, .int .i64 s, .int .i64 off, .int .i64 wd, .int .u64 (v : Int), bv], .int .i64 K] w fun e w' => e = .returned (.bool true) ∧ Below w.heap.size w w' := by
  have HS := hi (hacts.below (bal w (.cells #[.int .i64 d, .int .i64 a, .int .i64 s, .int .i64 off, .int .i64 wd, .int .u64 (v : Int), bv] 33)))
  have HXF := hi hx
  have HY := hi hy
  have HK := hi (And.intro hK0 hK1)
  have HQ := hi hm
  have HE := hi hE
  obtain ⟨hw1, hw2⟩ := acc_sums (newN_le size) hE
  clear hm hE
  obtain ⟨sa, scap, rfl, hsl, _, _⟩ := hacts
  clear hx hy hK0 hK1
  go_enter Try.func6, Try.ntmps6
  go_wp2_with (first
    | (go_at_call 8; ((with_reducible refine (awake_any _).mono ?_); rintro e w1 ⟨rfl, hb1⟩; have HK1 := hi hb1; clear hb1))
    | (go_at_call 9; ((with_reducible refine (lawNew_any size _).mono ?_); rintro e w2 ⟨p, g, q, h, rfl, hB⟩; have HM0 := hi (Since.base hB.mem HK1.out); clear hB)))
  have hnl := newN_le size
  go_loopw [12] (fun i wr => ∃ j : Nat, i = .int .i64 j ∧ Hi (j ≤ xs.length ∧ ∃ bs : List Nat, bs.length = newN size ∧ Since (w.alloc (.cells #[.int .i64 d, .int .i64 a, .int .i64 s, .int .i64 off, .int .i64 wd, .int .u64 (v : Int), bv] 33)) p g (newN size) bs wr)) (fun i _ => xs.length - (intOf i).toNat)
  case atStart => exact ⟨0, rfl, hi ⟨Nat.zero_le _, _, List.length_replicate, HM0.out⟩⟩
  case round =>
    obtain ⟨j, rfl, HJ⟩ := hrel
    have hj := HJ.out.1
    obtain ⟨bs, hbl, hsn⟩ := HJ.out.2
    have HSN := hi hsn
    have HBL := hi hbl
    clear hsn hbl
    by_cases hlt : j < xs.length
    · obtain ⟨x, bv, b, off, hmem, rfl, hfair, hy, c0, c1, c2, c3, c4, c5, c6⟩ := actsAt_read HS.out HSN.out.below hlt
      have HX := hi (And.intro hfair hy)
      clear hmem hfair hy
      go_wp2_with (go_at_call 14; ((with_reducible refine (does_out p g (newN size) bs x bv _ HX.out.1 HSN.out.mem HX.out.2).mono ?_); rintro e w3 ⟨rfl, hm3, hk3⟩))
      have HS3 := hi (HSN.out.wrote hk3 hm3)
      clear hm3 hk3
      go_roundw
      case rel => exact ⟨j + 1, by go_num, hi ⟨hlt, _, (doL_len (by rw [HBL.out]; omega)).trans HBL.out, HS3.out⟩⟩
      case measure => simp [intOf]; omega
    · have e : j = xs.length := by omega
      subst e
      have hX0 := box_below HSN.out.below
      obtain ⟨c0, c1, c2, c3, c4, c5, c6⟩ := box7_cells hX0
      have hfr := frozen_of_box hX0 0
      have hgw : w.heap.size < g := by have := HSN.out.g; rw [size_al] at this; omega
      have hpw : w.heap.size < p := by have := HSN.out.p; rw [size_al] at this; omega
      have hX1 := Joins.block_setCell (i := 0) hX0 (.int .i64 1)
      have hkk : Kept (· = w.heap.size) wr (wr.setCell ⟨w.heap.size, 0, none⟩ (.int .i64 1)) := kept_setCell _ _ _ _
      have HS1 : Hi (Since w p g (newN size) bs (wr.setCell ⟨w.heap.size, 0, none⟩ (.int .i64 1))) := hi ⟨HSN.out.mem.kept hkk (fun (e : p = w.heap.size) => by omega) (fun (e : g = w.heap.size) => by omega), by omega, by omega, (((bal w _).trans (HSN.out.below.mono (by rw [size_al]; omega))).trans (hkk.toBelow (by have := HSN.out.sz; rw [size_al] at this; omega) (fun k (e : k = w.heap.size) => by omega)))⟩
      have HX1 := hi hX1
      have hxl : w.heap.size < wr.heap.size := (Array.getElem?_eq_some_iff.1 hX0).1
      have hgl : g < wr.heap.size := HSN.out.mem.bytes.lt
      have HG := hi (And.intro hgl (And.intro hxl hgw))
      have hzs : (wr.setCell ⟨w.heap.size, 0, none⟩ (.int .i64 1)).heap.size = wr.heap.size := by simp [World.setCell]
      have HZS := hi hzs
      clear hX0 hX1 hkk hgw hpw hxl hgl hzs
      have HBY := hi (fun (l : List Nat) (hl : l.length = newN size) W (hW : MemAt 60 W p g (newN size) l) => bytes1_out p g (newN size) l K W hW HK.out.1 HK.out.2)
      have HDO := hi (fun W (hW : MemAt 60 W p g (newN size) bs) (hy : BytesIn W bv ys) => does1_out p g (newN size) bs a s off wd v ys bv W HXF.out hW hy)
      rw [HBL.out] at HDO
      have hl2 : (wrB bs a s off wd v).length = newN size := (wrB_len (by rw [HBL.out]; omega)).trans HBL.out
      have HL2 := hi hl2
      have HB1 := hi (fun W hW => HBL.out ▸ HBY.out bs HBL.out W hW)
      have HB2 := hi (fun W hW => HL2.out ▸ HBY.out (wrB bs a s off wd v) HL2.out W hW)
      have hXE : (wr.setCell ⟨w.heap.size, 0, none⟩ (.int .i64 1)).heap[w.heap.size]? = some (.cells #[.int .i64 1, .int .i64 a, .int .i64 s, .int .i64 off, .int .i64 wd, .int .u64 (v : Int), bv] 33 (0, 0)) := HX1.out.trans rfl
      have HXE := hi hXE
      clear hl2 hXE HX1
      rw [HQ.out] at HB1 HB2
      have HLE := hi (keeps_away (bs := bs) (K := K) (v := v) (by rw [HBL.out]; omega) (by rw [HBL.out]; exact HE.out) (.inr hi2))
      rw [HE.out] at HDO
      go_wp2_with (first
        | (go_at_call 19; ((with_reducible refine (HB1.out _ (HS1.out.later (bal _ _)).mem).mono ?_); rintro e w3 ⟨v1, rfl, hv1, hb3⟩; have HS3 := hi ((HS1.out.later (bal _ _)).later hb3); have HV1 := hi hv1; have hX3 := hi ((hb3.block w.heap.size (by rw [size_al, HZS.out]; have := HG.out; omega)).trans ((Below.heap_alloc _ _ _ (by rw [HZS.out]; exact HG.out.2.1)).trans HXE.out)); obtain ⟨d0, d1, d2, d3, d4, d5, d6⟩ := box7_cells hX3.out; have hO3 := (box2_new (wr.setCell ⟨w.heap.size, 0, none⟩ (.int .i64 1)) (.int .i64 K) (.int .i64 1) 29).below hb3; rw [HZS.out] at hO3; have HO3 := hi hO3; clear hb3 hv1 hO3 c0 c1 c2 c3 c4 c5 c6 hfr))
        | (go_at_call 14; ((with_reducible refine (HDO.out _ HS3.out.mem (HY.out.below HS3.out.below)).mono ?_); rintro e w4 ⟨rfl, hm4, hk4⟩; have HS4 := hi (HS3.out.wrote hk4 hm4); have hX4 := hi ((hk4.block w.heap.size (Array.getElem?_eq_some_iff.1 hX3.out).1 (fun (e : w.heap.size = g) => by have := HG.out.2.2; omega)).trans hX3.out); have HO4 := hi (HO3.out.kept hk4 (fun (e : wr.heap.size = g) => by have := HG.out.1; omega)); obtain ⟨o0, o1, _⟩ := HO4.out; have HK4 := hi hk4; clear hm4 hk4))
        | (go_at_call 19; ((with_reducible refine (HB2.out _ HS4.out.mem).mono ?_); rintro e w5 ⟨v2, rfl, hv2, hb5⟩; have HS5 := hi (HS4.out.later hb5); have hX5 := hi ((hb5.block w.heap.size (Array.getElem?_eq_some_iff.1 hX4.out).1).trans hX4.out); obtain ⟨f0, f1, f2, f3, f4, f5, f6⟩ := box7_cells hX5.out; have hcv1 := conv_bytes (bytes_later HV1.out (g := g) (by rw [size_al, HZS.out]; have := HG.out; omega) (HK4.out.trans (Kept.of hb5))); have hcv2 := conv_bytes (bytes_later hv2 (g := g) HS4.out.mem.bytes.lt (Kept.refl _ _)); rw [HLE.out] at hcv2; obtain ⟨Y, hY⟩ : ∃ Y, strB (bytesL bs K 1) = Y := ⟨_, rfl⟩; rw [hY] at hcv1 hcv2; clear hY; clear hb5 hv2)))
      go_ret
      exact ⟨by simp, HS5.out.below⟩

theorem memKeeps_walk (size : Int) (sv : Value) (xs : List ActD) (d a s off wd : Int) (v : Nat) (ys : List Nat) (bv : Value) (K : Int) (w : World) (hacts : ActsAt w sv xs)
    (hx : ActD.Fair ⟨1, a, s, off, wd, v, ys⟩) (hy : BytesIn w bv ys) (hK0 : -9223372036854775808 ≤ K) (hK1 : K ≤ 9223372036854775807) :
    Calls Try.prog 6 #[.int .i64 size, sv, .agg #[.int .i64 d, .int .i64 a, .int .i64 s, .int .i64 off, .int .i64 wd, .int .u64 (v : Int), bv], .int .i64 K] w fun e w' => e = .returned (.bool true) ∧ Below w.heap.size w w' := by
  rcases bytesE_two (newN size) K with hm | hm
  · by_cases hE : accE (newN size) a s off wd = 0
    · by_cases h1 : a + off ≤ K
      · by_cases h2 : K < a + off + wd
        · exact memKeeps_in size sv xs d a s off wd v ys bv K w hacts hx hy hK0 hK1 hm hE h1 h2
        · exact memKeeps_high size sv xs d a s off wd v ys bv K w hacts hx hy hK0 hK1 hm hE h1 (by omega)
      · exact memKeeps_low size sv xs d a s off wd v ys bv K w hacts hx hy hK0 hK1 hm hE (by omega)
    · exact memKeeps_no size sv xs d a s off wd v ys bv K w hacts hx hy hK0 hK1 hm hE
  · exact memKeeps_out size sv xs d a s off wd v ys bv K w hacts hx hy hK0 hK1 hm

end Go.Proofs.Ythndfkggahhleaa
