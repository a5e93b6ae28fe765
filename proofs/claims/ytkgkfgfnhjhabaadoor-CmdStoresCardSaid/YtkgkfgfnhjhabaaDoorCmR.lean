/-
  CmdKeeps: a command stored changes its own bytes alone; one that is refused none.
-/
import Derived.Test.YtkgkfgfnhjhabaaDoorCmP
import Derived.Test.YtkgkfgfnhjhabaaDoorMemN
namespace Go.Proofs.YtkgkfgfnhjhabaaDoor
open Go.ChangeShapes Go.WideShapes Go.ChangeAt Go.RowKit
set_option linter.unusedVariables false
set_option linter.unusedSimpArgs false

theorem bytes_later {w2 w3 W : World} {v : Value} {l : List Nat} (h : (v = .slice none 0 0 ∧ l = []) ∨ ∃ h, OwnB w3 w2.heap.size h v l) {g : Nat} (hg : g < w2.heap.size) (k : Kept (· = g) w3 W) : BytesIn W v l := by
  rcases h with ⟨rfl, rfl⟩ | ⟨h, ho⟩
  · exact ⟨none, 0, rfl, Nat.le_refl _, (fun x hx => by simp at hx), fun h => absurd rfl h⟩
  · refine ho.bytesIn.kept k ?_
    obtain ⟨cap, rfl, hb, _⟩ := ho
    intro b off cp e _ (e2 : b = g)
    simp only [Value.slice.injEq, Option.some.injEq, Addr.mk.injEq] at e
    omega
theorem bytes1_out (p g cap : Nat) (bs : List Nat) (K : Int) (w : World) (hM : MemAt 126 w p g cap bs) (h0 : -9223372036854775808 ≤ K) (h1 : K ≤ 9223372036854775807) :
    Calls Tryd.prog 29 #[.pointer (some ⟨p, 0, none⟩), .agg #[.int .i64 K, .int .i64 1]] w fun e w' => ∃ v, e = .returned (.tuple #[v, .int .i64 (bytesE bs.length K 1)]) ∧ ((v = .slice none 0 0 ∧ bytesL bs K 1 = []) ∨ ∃ h, OwnB w' w.heap.size h v (bytesL bs K 1)) ∧ Below w.heap.size w w' :=
  bytes_any p g cap bs K 1 w hM h0 h1 (by omega) (by omega)
theorem bytesE_two (n : Nat) (K : Int) : bytesE n K 1 = 0 ∨ bytesE n K 1 = 42 := by unfold bytesE; split <;> simp
theorem splice_away (bs cs : List Nat) (o k : Nat) (h : o + cs.length ≤ bs.length) (hk : k < o ∨ o + cs.length ≤ k) : (splice bs o cs)[k]? = bs[k]? := by
  have h1 : (bs.take o).length = o := by simp; omega
  simp only [splice]
  rcases hk with hk | hk
  · rw [List.getElem?_append_left (by omega), List.getElem?_take_of_lt hk]
  · rw [List.getElem?_append_right (by omega), h1, List.getElem?_append_right (by omega), List.getElem?_drop]
    congr 1
    omega
theorem sub1_ext {bs cs : List Nat} {k : Nat} (h : bs[k]? = cs[k]?) : sub bs k 1 = sub cs k 1 := by
  apply List.ext_getElem?
  intro i
  by_cases hi : i < 1
  · rw [sub_get hi, sub_get hi, show k + i = k by omega, h]
  · rw [List.getElem?_eq_none (by simp [sub]; omega), List.getElem?_eq_none (by simp [sub]; omega)]
theorem keeps_no {bs : List Nat} {a s off wd K : Int} {v : Nat} (h : accE bs.length a s off wd ≠ 0) : bytesL (wrB bs a s off wd v) K 1 = bytesL bs K 1 := by simp [wrB, h]
theorem keeps_away {bs : List Nat} {a s off wd K : Int} {v : Nat} (hl : bs.length ≤ 131072) (h : accE bs.length a s off wd = 0) (hk : K < a + off ∨ a + off + wd ≤ K) : bytesL (wrB bs a s off wd v) K 1 = bytesL bs K 1 := by
  have h2 := wrB_len (bs := bs) (a := a) (s := s) (off := off) (width := wd) (v := v) hl
  have e : wrB bs a s off wd v = splice bs (a.toNat + off.toNat) (le wd.toNat v) := by simp [wrB, h]
  simp only [bytesL, h2]
  split
  · rename_i hh
    obtain ⟨k, _, rfl, _, _⟩ := holdsB_out hh
    obtain ⟨A, S, o, n, rfl, rfl, rfl, rfl, hA, ho, _, _⟩ := accE_out hl h
    rw [e]
    refine sub1_ext (splice_away _ _ _ _ ?_ ?_)
    · rw [le_len]; simp only [Int.toNat_natCast]; omega
    · rw [le_len]; simp only [Int.toNat_natCast]; omega
  · rfl
theorem st_away {bs : List Nat} {A K : Int} {ws : Ws} (hl : bs.length ≤ 131072) (hk : K < A ∨ A + 32 ≤ K) : ∀ k, k ≤ 4 → bytesL (stB bs A ws k) K 1 = bytesL bs K 1
  | 0, _ => rfl
  | k + 1, h => by
    have ih := st_away (ws := ws) hl hk k (by omega)
    rw [stB, ← ih]
    by_cases e : accE (stB bs A ws k).length A 32 ((k : Int) * 8) 8 = 0
    · exact keeps_away (by rw [stB_len hl]; exact hl) e (by omega)
    · exact keeps_no e
theorem stL_len {bs : List Nat} {a s off : Int} {c : Cm} (hl : bs.length ≤ 131072) : (stL bs a s off c).length = bs.length := by
  unfold stL; split
  · exact stB_len hl 4
  · rfl
theorem stL_no {bs : List Nat} {a s off : Int} {c : Cm} (h : stE bs.length a s off (validC c) ≠ 0) : stL bs a s off c = bs := by
  unfold stE at h; unfold stL
  cases hv : validC c <;> simp_all
theorem stL_yes {bs : List Nat} {a s off : Int} {c : Cm} (h : stE bs.length a s off (validC c) = 0) : stL bs a s off c = stB bs (a + off) (wordsC c) 4 ∧ entOk bs.length a s off = true := by
  unfold stE at h; unfold stL
  cases hv : validC c <;> simp_all
theorem ent_sums {n : Nat} {a s off : Int} (h : entOk n a s off = true) : IntKind.i64.wrap (a + off) = a + off ∧ IntKind.i64.wrap (a + off + 32) = a + off + 32 := by
  simp only [entOk, partOk, Bool.and_eq_true, decide_eq_true_eq] at h
  have := fairB_out h.1.1
  rw [IntKind.wrap_i64, IntKind.wrap_i64]
  omega

set_option maxRecDepth 100000 in
set_option maxHeartbeats 8000000 in
theorem cmKeeps_out (size : Int) (sv : Value) (xs : List ActD) (a s off : Int) (c : Cm) (K F : Int) (SL : List Nat → List Nat) (w : World) (hacts : ActsAt w sv xs) (hK0 : -9223372036854775808 ≤ K) (hK1 : K ≤ 9223372036854775807) (hT : TabW w)
    (hST : ∀ (p g cap : Nat) (bs : List Nat) (W : World), bs.length = newN size → MemAt 126 W p g cap bs → Calls Tryd.prog 21 #[.pointer (some ⟨p, 0, none⟩), .agg #[.int .i64 a, .int .i64 s], .int .i64 off, c.v] W fun e w' => e = .returned (.int .i64 F) ∧ MemAt 126 w' p g cap (SL bs) ∧ Kept (· = g) W w')
    (hlen : ∀ bs : List Nat, bs.length = newN size → (SL bs).length = newN size)
    (hm : bytesE (newN size) K 1 = 42) :
    Calls Tryd.prog 9 #[.int .i64 size, sv, .agg #[.int .i64 a, .int .i64 s], .int .i64 off, c.v, .int .i64 K] w fun e w' => e = .returned (.bool true) ∧ Below w.heap.size w w' := by
  obtain ⟨c1, c2, c3, c4, c5, c6, c7, c8, c9⟩ := c
  dsimp only [Cm.v] at hST ⊢
  have HST := hi hST
  have HLN := hi hlen
  have HA := hi (fun W hW => awake_any W hW)
  have hb0 : Below w.heap.size w ((w.alloc (.cells #[.int .i64 a, .int .i64 s] 42)).alloc (.cells #[.int .i64 c1, .int .i64 c2, .int .i64 c3, .int .i64 c4, .int .i64 c5, .int .i64 c6, .int .i64 c7, .int .i64 c8, .bool c9] 24)) := bal_two w _ _
  have HS := hi (hacts.below hb0)
  have HT := hi (hT.below hb0)
  have HB0 := hi hb0
  have HC := hi (And.intro ((CB.new w 42 #[.int .i64 a, .int .i64 s]).alloc (.cells #[.int .i64 c1, .int .i64 c2, .int .i64 c3, .int .i64 c4, .int .i64 c5, .int .i64 c6, .int .i64 c7, .int .i64 c8, .bool c9] 24)) (cb_second (w := w) (o := .cells #[.int .i64 a, .int .i64 s] 42) (cs := #[.int .i64 c1, .int .i64 c2, .int .i64 c3, .int .i64 c4, .int .i64 c5, .int .i64 c6, .int .i64 c7, .int .i64 c8, .bool c9]) (t := 24)))
  have HK := hi (And.intro hK0 hK1)
  have HQ := hi hm
  have HF := hi (rfl : F = F)
  clear hm hST hlen hT hb0 hK0 hK1
  obtain ⟨sa, scap, rfl, hsl, _, _⟩ := hacts
  go_enter Tryd.func9, Tryd.ntmps9
  go_wp2_with (first
    | (go_at_call 14; ((with_reducible refine (HA.out _ HT.out).mono ?_); rintro e w1 ⟨rfl, hb1⟩; have HK1 := hi hb1; clear hb1))
    | (go_at_call 18; ((with_reducible refine (lawNew_any size _).mono ?_); rintro e w2 ⟨p, g, q, h, rfl, hB⟩; have HM0 := hi (Since.base hB.mem HK1.out); clear hB)))
  have hnl := newN_le size
  go_loopw [16] (fun i wr => ∃ j : Nat, i = .int .i64 j ∧ Hi (j ≤ xs.length ∧ ∃ bs : List Nat, bs.length = newN size ∧ Since ((w.alloc (.cells #[.int .i64 a, .int .i64 s] 42)).alloc (.cells #[.int .i64 c1, .int .i64 c2, .int .i64 c3, .int .i64 c4, .int .i64 c5, .int .i64 c6, .int .i64 c7, .int .i64 c8, .bool c9] 24)) p g (newN size) bs wr)) (fun i _ => xs.length - (intOf i).toNat)
  case atStart => exact ⟨0, rfl, hi ⟨Nat.zero_le _, _, List.length_replicate, HM0.out⟩⟩
  case round =>
    obtain ⟨j, rfl, HJ⟩ := hrel
    have hj := HJ.out.1
    obtain ⟨bs, hbl, hsn⟩ := HJ.out.2
    have HSN := hi hsn
    have HBL := hi hbl
    clear hsn hbl
    by_cases hlt : j < xs.length
    · obtain ⟨x, bv, b, off', hmem, rfl, hfair, hy, d0, d1, d2, d3, d4, d5, d6⟩ := actsAt_read HS.out HSN.out.below hlt
      have HX := hi (And.intro hfair hy)
      clear hmem hfair hy
      go_wp2_with (go_at_call 19; ((with_reducible refine (does_out p g (newN size) bs x bv _ HX.out.1 HSN.out.mem HX.out.2).mono ?_); rintro e w3 ⟨rfl, hm3, hk3⟩))
      have HS3 := hi (HSN.out.wrote hk3 hm3)
      clear hm3 hk3
      go_roundw
      case rel => exact ⟨j + 1, by go_num, hi ⟨hlt, _, (doL_len (by rw [HBL.out]; omega)).trans HBL.out, HS3.out⟩⟩
      case measure => simp [intOf]; omega
    · have e : j = xs.length := by omega
      subst e
      have HX := hi (And.intro (HC.out.1.below (HSN.out.below.mono (Nat.le_refl _))) (HC.out.2.below (HSN.out.below.mono (Nat.le_refl _))))
      have hgw : w.heap.size + 1 < g := by have := HSN.out.g; rw [size_al, size_al] at this; omega
      have hgl : g < wr.heap.size := HSN.out.mem.bytes.lt
      have hxl : w.heap.size + 1 < wr.heap.size := HX.out.2.lt
      have HG := hi (And.intro hgl (And.intro hxl hgw))
      clear hgl hxl hgw
      have hBY : ∀ (l : List Nat) (hl : l.length = newN size) W (hW : MemAt 126 W p g (newN size) l), _ := fun l hl W hW => bytes1_out p g (newN size) l K W hW HK.out.1 HK.out.2
      have HB1 := hi (fun W hW => HBL.out ▸ hBY bs HBL.out W hW)
      have HL2 := hi (HLN.out bs HBL.out)
      have HB2 := hi (fun W hW => HL2.out ▸ hBY (SL bs) HL2.out W hW)
      have HDO := hi (fun W hW => HST.out p g (newN size) bs W HBL.out hW)
      clear hBY
      rw [HQ.out] at HB1 HB2
      skip
      go_wp2_with (first
        | (go_at_call 29; ((with_reducible refine (HB1.out _ (HSN.out.later (bal _ _)).mem).mono ?_); rintro e w3 ⟨v1, rfl, hv1, hb3⟩; have HS3 := hi ((HSN.out.later (bal _ _)).later hb3); have HV1 := hi hv1; have HX3 := hi (And.intro ((HX.out.1.alloc _).below hb3) ((HX.out.2.alloc _).below hb3)); have HO3 := hi ((CB.new wr 42 #[.int .i64 K, .int .i64 1]).below hb3); obtain ⟨q0, q1⟩ := CB.two HX3.out.1; obtain ⟨p0, p1, p2, p3, p4, p5, p6, p7, p8⟩ := CB.nine HX3.out.2; clear hb3 hv1))
        | (go_at_call 21; ((with_reducible refine (HDO.out _ HS3.out.mem).mono ?_); rintro e w4 ⟨rfl, hm4, hk4⟩; have HS4 := hi (HS3.out.wrote hk4 hm4); have HX4 := hi (HX3.out.1.keptB hk4 (fun e => by have := HG.out.2.2; omega)); have HO4 := hi (HO3.out.keptB hk4 (fun e => by have := HG.out.1; omega)); clear q0 q1 p0 p1 p2 p3 p4 p5 p6 p7 p8; obtain ⟨o0, o1⟩ := CB.two HO4.out; have HK4 := hi hk4; clear hm4 hk4))
        | (go_at_call 29; ((with_reducible refine (HB2.out _ HS4.out.mem).mono ?_); rintro e w5 ⟨v2, rfl, hv2, hb5⟩; have HS5 := hi (HS4.out.later hb5); have HX5 := hi (HX4.out.below hb5); obtain ⟨q0, q1⟩ := CB.two HX5.out; have hcv1 := conv_bytes (bytes_later HV1.out (g := g) (by rw [size_al]; have := HG.out; omega) (HK4.out.trans (Kept.of hb5))); have hcv2 := conv_bytes (bytes_later hv2 (g := g) HS4.out.mem.bytes.lt (Kept.refl _ _)); clear hb5 hv2)))
      go_ret
      exact ⟨by simp, HB0.out.trans (HS5.out.below.mono HB0.out.size)⟩

set_option maxRecDepth 100000 in
set_option maxHeartbeats 8000000 in
theorem cmKeeps_no (size : Int) (sv : Value) (xs : List ActD) (a s off : Int) (c : Cm) (K F : Int) (SL : List Nat → List Nat) (w : World) (hacts : ActsAt w sv xs) (hK0 : -9223372036854775808 ≤ K) (hK1 : K ≤ 9223372036854775807) (hT : TabW w)
    (hST : ∀ (p g cap : Nat) (bs : List Nat) (W : World), bs.length = newN size → MemAt 126 W p g cap bs → Calls Tryd.prog 21 #[.pointer (some ⟨p, 0, none⟩), .agg #[.int .i64 a, .int .i64 s], .int .i64 off, c.v] W fun e w' => e = .returned (.int .i64 F) ∧ MemAt 126 w' p g cap (SL bs) ∧ Kept (· = g) W w')
    (hlen : ∀ bs : List Nat, bs.length = newN size → (SL bs).length = newN size)
    (hm : bytesE (newN size) K 1 = 0) (hF : F ≠ 0) (hL : ∀ bs : List Nat, bs.length = newN size → bytesL (SL bs) K 1 = bytesL bs K 1) :
    Calls Tryd.prog 9 #[.int .i64 size, sv, .agg #[.int .i64 a, .int .i64 s], .int .i64 off, c.v, .int .i64 K] w fun e w' => e = .returned (.bool true) ∧ Below w.heap.size w w' := by
  obtain ⟨c1, c2, c3, c4, c5, c6, c7, c8, c9⟩ := c
  dsimp only [Cm.v] at hST ⊢
  have HST := hi hST
  have HLN := hi hlen
  have HA := hi (fun W hW => awake_any W hW)
  have hb0 : Below w.heap.size w ((w.alloc (.cells #[.int .i64 a, .int .i64 s] 42)).alloc (.cells #[.int .i64 c1, .int .i64 c2, .int .i64 c3, .int .i64 c4, .int .i64 c5, .int .i64 c6, .int .i64 c7, .int .i64 c8, .bool c9] 24)) := bal_two w _ _
  have HS := hi (hacts.below hb0)
  have HT := hi (hT.below hb0)
  have HB0 := hi hb0
  have HC := hi (And.intro ((CB.new w 42 #[.int .i64 a, .int .i64 s]).alloc (.cells #[.int .i64 c1, .int .i64 c2, .int .i64 c3, .int .i64 c4, .int .i64 c5, .int .i64 c6, .int .i64 c7, .int .i64 c8, .bool c9] 24)) (cb_second (w := w) (o := .cells #[.int .i64 a, .int .i64 s] 42) (cs := #[.int .i64 c1, .int .i64 c2, .int .i64 c3, .int .i64 c4, .int .i64 c5, .int .i64 c6, .int .i64 c7, .int .i64 c8, .bool c9]) (t := 24)))
  have HK := hi (And.intro hK0 hK1)
  have HQ := hi hm
  have HLL := hi hL
  have hne : (F == 0) = false := by simpa using hF
  clear hL hF
  clear hm hST hlen hT hb0 hK0 hK1
  obtain ⟨sa, scap, rfl, hsl, _, _⟩ := hacts
  go_enter Tryd.func9, Tryd.ntmps9
  go_wp2_with (first
    | (go_at_call 14; ((with_reducible refine (HA.out _ HT.out).mono ?_); rintro e w1 ⟨rfl, hb1⟩; have HK1 := hi hb1; clear hb1))
    | (go_at_call 18; ((with_reducible refine (lawNew_any size _).mono ?_); rintro e w2 ⟨p, g, q, h, rfl, hB⟩; have HM0 := hi (Since.base hB.mem HK1.out); clear hB)))
  have hnl := newN_le size
  go_loopw [16] (fun i wr => ∃ j : Nat, i = .int .i64 j ∧ Hi (j ≤ xs.length ∧ ∃ bs : List Nat, bs.length = newN size ∧ Since ((w.alloc (.cells #[.int .i64 a, .int .i64 s] 42)).alloc (.cells #[.int .i64 c1, .int .i64 c2, .int .i64 c3, .int .i64 c4, .int .i64 c5, .int .i64 c6, .int .i64 c7, .int .i64 c8, .bool c9] 24)) p g (newN size) bs wr)) (fun i _ => xs.length - (intOf i).toNat)
  case atStart => exact ⟨0, rfl, hi ⟨Nat.zero_le _, _, List.length_replicate, HM0.out⟩⟩
  case round =>
    obtain ⟨j, rfl, HJ⟩ := hrel
    have hj := HJ.out.1
    obtain ⟨bs, hbl, hsn⟩ := HJ.out.2
    have HSN := hi hsn
    have HBL := hi hbl
    clear hsn hbl
    by_cases hlt : j < xs.length
    · obtain ⟨x, bv, b, off', hmem, rfl, hfair, hy, d0, d1, d2, d3, d4, d5, d6⟩ := actsAt_read HS.out HSN.out.below hlt
      have HX := hi (And.intro hfair hy)
      clear hmem hfair hy
      go_wp2_with (go_at_call 19; ((with_reducible refine (does_out p g (newN size) bs x bv _ HX.out.1 HSN.out.mem HX.out.2).mono ?_); rintro e w3 ⟨rfl, hm3, hk3⟩))
      have HS3 := hi (HSN.out.wrote hk3 hm3)
      clear hm3 hk3
      go_roundw
      case rel => exact ⟨j + 1, by go_num, hi ⟨hlt, _, (doL_len (by rw [HBL.out]; omega)).trans HBL.out, HS3.out⟩⟩
      case measure => simp [intOf]; omega
    · have e : j = xs.length := by omega
      subst e
      have HX := hi (And.intro (HC.out.1.below (HSN.out.below.mono (Nat.le_refl _))) (HC.out.2.below (HSN.out.below.mono (Nat.le_refl _))))
      have hgw : w.heap.size + 1 < g := by have := HSN.out.g; rw [size_al, size_al] at this; omega
      have hgl : g < wr.heap.size := HSN.out.mem.bytes.lt
      have hxl : w.heap.size + 1 < wr.heap.size := HX.out.2.lt
      have HG := hi (And.intro hgl (And.intro hxl hgw))
      clear hgl hxl hgw
      have hBY : ∀ (l : List Nat) (hl : l.length = newN size) W (hW : MemAt 126 W p g (newN size) l), _ := fun l hl W hW => bytes1_out p g (newN size) l K W hW HK.out.1 HK.out.2
      have HB1 := hi (fun W hW => HBL.out ▸ hBY bs HBL.out W hW)
      have HL2 := hi (HLN.out bs HBL.out)
      have HB2 := hi (fun W hW => HL2.out ▸ hBY (SL bs) HL2.out W hW)
      have HDO := hi (fun W hW => HST.out p g (newN size) bs W HBL.out hW)
      clear hBY
      rw [HQ.out] at HB1 HB2
      have HLE := hi (HLL.out bs HBL.out)
      go_wp2_with (first
        | (go_at_call 29; ((with_reducible refine (HB1.out _ (HSN.out.later (bal _ _)).mem).mono ?_); rintro e w3 ⟨v1, rfl, hv1, hb3⟩; have HS3 := hi ((HSN.out.later (bal _ _)).later hb3); have HV1 := hi hv1; have HX3 := hi (And.intro ((HX.out.1.alloc _).below hb3) ((HX.out.2.alloc _).below hb3)); have HO3 := hi ((CB.new wr 42 #[.int .i64 K, .int .i64 1]).below hb3); obtain ⟨q0, q1⟩ := CB.two HX3.out.1; obtain ⟨p0, p1, p2, p3, p4, p5, p6, p7, p8⟩ := CB.nine HX3.out.2; clear hb3 hv1))
        | (go_at_call 21; ((with_reducible refine (HDO.out _ HS3.out.mem).mono ?_); rintro e w4 ⟨rfl, hm4, hk4⟩; have HS4 := hi (HS3.out.wrote hk4 hm4); have HX4 := hi (HX3.out.1.keptB hk4 (fun e => by have := HG.out.2.2; omega)); have HO4 := hi (HO3.out.keptB hk4 (fun e => by have := HG.out.1; omega)); clear q0 q1 p0 p1 p2 p3 p4 p5 p6 p7 p8; obtain ⟨o0, o1⟩ := CB.two HO4.out; have HK4 := hi hk4; clear hm4 hk4))
        | (go_at_call 29; ((with_reducible refine (HB2.out _ HS4.out.mem).mono ?_); rintro e w5 ⟨v2, rfl, hv2, hb5⟩; have HS5 := hi (HS4.out.later hb5); have HX5 := hi (HX4.out.below hb5); obtain ⟨q0, q1⟩ := CB.two HX5.out; have hcv1 := conv_bytes (bytes_later HV1.out (g := g) (by rw [size_al]; have := HG.out; omega) (HK4.out.trans (Kept.of hb5))); have hcv2 := conv_bytes (bytes_later hv2 (g := g) HS4.out.mem.bytes.lt (Kept.refl _ _)); rw [HLE.out] at hcv2; obtain ⟨Y, hY⟩ : ∃ Y, strB (bytesL bs K 1) = Y := ⟨_, rfl⟩; rw [hY] at hcv1 hcv2; clear hY; clear hb5 hv2)))
      go_ret
      exact ⟨by simp, HB0.out.trans (HS5.out.below.mono HB0.out.size)⟩

set_option maxRecDepth 100000 in
set_option maxHeartbeats 8000000 in
theorem cmKeeps_in (size : Int) (sv : Value) (xs : List ActD) (a s off : Int) (c : Cm) (K F : Int) (SL : List Nat → List Nat) (w : World) (hacts : ActsAt w sv xs) (hK0 : -9223372036854775808 ≤ K) (hK1 : K ≤ 9223372036854775807) (hT : TabW w)
    (hST : ∀ (p g cap : Nat) (bs : List Nat) (W : World), bs.length = newN size → MemAt 126 W p g cap bs → Calls Tryd.prog 21 #[.pointer (some ⟨p, 0, none⟩), .agg #[.int .i64 a, .int .i64 s], .int .i64 off, c.v] W fun e w' => e = .returned (.int .i64 F) ∧ MemAt 126 w' p g cap (SL bs) ∧ Kept (· = g) W w')
    (hlen : ∀ bs : List Nat, bs.length = newN size → (SL bs).length = newN size)
    (hm : bytesE (newN size) K 1 = 0) (hF : F = 0) (hw1 : IntKind.i64.wrap (a + off) = a + off) (hw2 : IntKind.i64.wrap (a + off + 32) = a + off + 32) (hi1 : a + off ≤ K) (hi2 : K < a + off + 32) :
    Calls Tryd.prog 9 #[.int .i64 size, sv, .agg #[.int .i64 a, .int .i64 s], .int .i64 off, c.v, .int .i64 K] w fun e w' => e = .returned (.bool true) ∧ Below w.heap.size w w' := by
  obtain ⟨c1, c2, c3, c4, c5, c6, c7, c8, c9⟩ := c
  dsimp only [Cm.v] at hST ⊢
  have HST := hi hST
  have HLN := hi hlen
  have HA := hi (fun W hW => awake_any W hW)
  have hb0 : Below w.heap.size w ((w.alloc (.cells #[.int .i64 a, .int .i64 s] 42)).alloc (.cells #[.int .i64 c1, .int .i64 c2, .int .i64 c3, .int .i64 c4, .int .i64 c5, .int .i64 c6, .int .i64 c7, .int .i64 c8, .bool c9] 24)) := bal_two w _ _
  have HS := hi (hacts.below hb0)
  have HT := hi (hT.below hb0)
  have HB0 := hi hb0
  have HC := hi (And.intro ((CB.new w 42 #[.int .i64 a, .int .i64 s]).alloc (.cells #[.int .i64 c1, .int .i64 c2, .int .i64 c3, .int .i64 c4, .int .i64 c5, .int .i64 c6, .int .i64 c7, .int .i64 c8, .bool c9] 24)) (cb_second (w := w) (o := .cells #[.int .i64 a, .int .i64 s] 42) (cs := #[.int .i64 c1, .int .i64 c2, .int .i64 c3, .int .i64 c4, .int .i64 c5, .int .i64 c6, .int .i64 c7, .int .i64 c8, .bool c9]) (t := 24)))
  have HK := hi (And.intro hK0 hK1)
  have HQ := hi hm
  subst hF
  clear hm hST hlen hT hb0 hK0 hK1
  obtain ⟨sa, scap, rfl, hsl, _, _⟩ := hacts
  go_enter Tryd.func9, Tryd.ntmps9
  go_wp2_with (first
    | (go_at_call 14; ((with_reducible refine (HA.out _ HT.out).mono ?_); rintro e w1 ⟨rfl, hb1⟩; have HK1 := hi hb1; clear hb1))
    | (go_at_call 18; ((with_reducible refine (lawNew_any size _).mono ?_); rintro e w2 ⟨p, g, q, h, rfl, hB⟩; have HM0 := hi (Since.base hB.mem HK1.out); clear hB)))
  have hnl := newN_le size
  go_loopw [16] (fun i wr => ∃ j : Nat, i = .int .i64 j ∧ Hi (j ≤ xs.length ∧ ∃ bs : List Nat, bs.length = newN size ∧ Since ((w.alloc (.cells #[.int .i64 a, .int .i64 s] 42)).alloc (.cells #[.int .i64 c1, .int .i64 c2, .int .i64 c3, .int .i64 c4, .int .i64 c5, .int .i64 c6, .int .i64 c7, .int .i64 c8, .bool c9] 24)) p g (newN size) bs wr)) (fun i _ => xs.length - (intOf i).toNat)
  case atStart => exact ⟨0, rfl, hi ⟨Nat.zero_le _, _, List.length_replicate, HM0.out⟩⟩
  case round =>
    obtain ⟨j, rfl, HJ⟩ := hrel
    have hj := HJ.out.1
    obtain ⟨bs, hbl, hsn⟩ := HJ.out.2
    have HSN := hi hsn
    have HBL := hi hbl
    clear hsn hbl
    by_cases hlt : j < xs.length
    · obtain ⟨x, bv, b, off', hmem, rfl, hfair, hy, d0, d1, d2, d3, d4, d5, d6⟩ := actsAt_read HS.out HSN.out.below hlt
      have HX := hi (And.intro hfair hy)
      clear hmem hfair hy
      go_wp2_with (go_at_call 19; ((with_reducible refine (does_out p g (newN size) bs x bv _ HX.out.1 HSN.out.mem HX.out.2).mono ?_); rintro e w3 ⟨rfl, hm3, hk3⟩))
      have HS3 := hi (HSN.out.wrote hk3 hm3)
      clear hm3 hk3
      go_roundw
      case rel => exact ⟨j + 1, by go_num, hi ⟨hlt, _, (doL_len (by rw [HBL.out]; omega)).trans HBL.out, HS3.out⟩⟩
      case measure => simp [intOf]; omega
    · have e : j = xs.length := by omega
      subst e
      have HX := hi (And.intro (HC.out.1.below (HSN.out.below.mono (Nat.le_refl _))) (HC.out.2.below (HSN.out.below.mono (Nat.le_refl _))))
      have hgw : w.heap.size + 1 < g := by have := HSN.out.g; rw [size_al, size_al] at this; omega
      have hgl : g < wr.heap.size := HSN.out.mem.bytes.lt
      have hxl : w.heap.size + 1 < wr.heap.size := HX.out.2.lt
      have HG := hi (And.intro hgl (And.intro hxl hgw))
      clear hgl hxl hgw
      have hBY : ∀ (l : List Nat) (hl : l.length = newN size) W (hW : MemAt 126 W p g (newN size) l), _ := fun l hl W hW => bytes1_out p g (newN size) l K W hW HK.out.1 HK.out.2
      have HB1 := hi (fun W hW => HBL.out ▸ hBY bs HBL.out W hW)
      have HL2 := hi (HLN.out bs HBL.out)
      have HB2 := hi (fun W hW => HL2.out ▸ hBY (SL bs) HL2.out W hW)
      have HDO := hi (fun W hW => HST.out p g (newN size) bs W HBL.out hW)
      clear hBY
      rw [HQ.out] at HB1 HB2
      skip
      go_wp2_with (first
        | (go_at_call 29; ((with_reducible refine (HB1.out _ (HSN.out.later (bal _ _)).mem).mono ?_); rintro e w3 ⟨v1, rfl, hv1, hb3⟩; have HS3 := hi ((HSN.out.later (bal _ _)).later hb3); have HV1 := hi hv1; have HX3 := hi (And.intro ((HX.out.1.alloc _).below hb3) ((HX.out.2.alloc _).below hb3)); have HO3 := hi ((CB.new wr 42 #[.int .i64 K, .int .i64 1]).below hb3); obtain ⟨q0, q1⟩ := CB.two HX3.out.1; obtain ⟨p0, p1, p2, p3, p4, p5, p6, p7, p8⟩ := CB.nine HX3.out.2; clear hb3 hv1))
        | (go_at_call 21; ((with_reducible refine (HDO.out _ HS3.out.mem).mono ?_); rintro e w4 ⟨rfl, hm4, hk4⟩; have HS4 := hi (HS3.out.wrote hk4 hm4); have HX4 := hi (HX3.out.1.keptB hk4 (fun e => by have := HG.out.2.2; omega)); have HO4 := hi (HO3.out.keptB hk4 (fun e => by have := HG.out.1; omega)); clear q0 q1 p0 p1 p2 p3 p4 p5 p6 p7 p8; obtain ⟨o0, o1⟩ := CB.two HO4.out; have HK4 := hi hk4; clear hm4 hk4))
        | (go_at_call 29; ((with_reducible refine (HB2.out _ HS4.out.mem).mono ?_); rintro e w5 ⟨v2, rfl, hv2, hb5⟩; have HS5 := hi (HS4.out.later hb5); have HX5 := hi (HX4.out.below hb5); obtain ⟨q0, q1⟩ := CB.two HX5.out; have hcv1 := conv_bytes (bytes_later HV1.out (g := g) (by rw [size_al]; have := HG.out; omega) (HK4.out.trans (Kept.of hb5))); have hcv2 := conv_bytes (bytes_later hv2 (g := g) HS4.out.mem.bytes.lt (Kept.refl _ _)); clear hb5 hv2)))
      go_ret
      exact ⟨by simp, HB0.out.trans (HS5.out.below.mono HB0.out.size)⟩

set_option maxRecDepth 100000 in
set_option maxHeartbeats 8000000 in
theorem cmKeeps_low (size : Int) (sv : Value) (xs : List ActD) (a s off : Int) (c : Cm) (K F : Int) (SL : List Nat → List Nat) (w : World) (hacts : ActsAt w sv xs) (hK0 : -9223372036854775808 ≤ K) (hK1 : K ≤ 9223372036854775807) (hT : TabW w)
    (hST : ∀ (p g cap : Nat) (bs : List Nat) (W : World), bs.length = newN size → MemAt 126 W p g cap bs → Calls Tryd.prog 21 #[.pointer (some ⟨p, 0, none⟩), .agg #[.int .i64 a, .int .i64 s], .int .i64 off, c.v] W fun e w' => e = .returned (.int .i64 F) ∧ MemAt 126 w' p g cap (SL bs) ∧ Kept (· = g) W w')
    (hlen : ∀ bs : List Nat, bs.length = newN size → (SL bs).length = newN size)
    (hm : bytesE (newN size) K 1 = 0) (hF : F = 0) (hw1 : IntKind.i64.wrap (a + off) = a + off) (hw2 : IntKind.i64.wrap (a + off + 32) = a + off + 32) (hi1 : K < a + off) (hL : ∀ bs : List Nat, bs.length = newN size → bytesL (SL bs) K 1 = bytesL bs K 1) :
    Calls Tryd.prog 9 #[.int .i64 size, sv, .agg #[.int .i64 a, .int .i64 s], .int .i64 off, c.v, .int .i64 K] w fun e w' => e = .returned (.bool true) ∧ Below w.heap.size w w' := by
  obtain ⟨c1, c2, c3, c4, c5, c6, c7, c8, c9⟩ := c
  dsimp only [Cm.v] at hST ⊢
  have HST := hi hST
  have HLN := hi hlen
  have HA := hi (fun W hW => awake_any W hW)
  have hb0 : Below w.heap.size w ((w.alloc (.cells #[.int .i64 a, .int .i64 s] 42)).alloc (.cells #[.int .i64 c1, .int .i64 c2, .int .i64 c3, .int .i64 c4, .int .i64 c5, .int .i64 c6, .int .i64 c7, .int .i64 c8, .bool c9] 24)) := bal_two w _ _
  have HS := hi (hacts.below hb0)
  have HT := hi (hT.below hb0)
  have HB0 := hi hb0
  have HC := hi (And.intro ((CB.new w 42 #[.int .i64 a, .int .i64 s]).alloc (.cells #[.int .i64 c1, .int .i64 c2, .int .i64 c3, .int .i64 c4, .int .i64 c5, .int .i64 c6, .int .i64 c7, .int .i64 c8, .bool c9] 24)) (cb_second (w := w) (o := .cells #[.int .i64 a, .int .i64 s] 42) (cs := #[.int .i64 c1, .int .i64 c2, .int .i64 c3, .int .i64 c4, .int .i64 c5, .int .i64 c6, .int .i64 c7, .int .i64 c8, .bool c9]) (t := 24)))
  have HK := hi (And.intro hK0 hK1)
  have HQ := hi hm
  subst hF
  have HLL := hi hL
  clear hL
  clear hm hST hlen hT hb0 hK0 hK1
  obtain ⟨sa, scap, rfl, hsl, _, _⟩ := hacts
  go_enter Tryd.func9, Tryd.ntmps9
  go_wp2_with (first
    | (go_at_call 14; ((with_reducible refine (HA.out _ HT.out).mono ?_); rintro e w1 ⟨rfl, hb1⟩; have HK1 := hi hb1; clear hb1))
    | (go_at_call 18; ((with_reducible refine (lawNew_any size _).mono ?_); rintro e w2 ⟨p, g, q, h, rfl, hB⟩; have HM0 := hi (Since.base hB.mem HK1.out); clear hB)))
  have hnl := newN_le size
  go_loopw [16] (fun i wr => ∃ j : Nat, i = .int .i64 j ∧ Hi (j ≤ xs.length ∧ ∃ bs : List Nat, bs.length = newN size ∧ Since ((w.alloc (.cells #[.int .i64 a, .int .i64 s] 42)).alloc (.cells #[.int .i64 c1, .int .i64 c2, .int .i64 c3, .int .i64 c4, .int .i64 c5, .int .i64 c6, .int .i64 c7, .int .i64 c8, .bool c9] 24)) p g (newN size) bs wr)) (fun i _ => xs.length - (intOf i).toNat)
  case atStart => exact ⟨0, rfl, hi ⟨Nat.zero_le _, _, List.length_replicate, HM0.out⟩⟩
  case round =>
    obtain ⟨j, rfl, HJ⟩ := hrel
    have hj := HJ.out.1
    obtain ⟨bs, hbl, hsn⟩ := HJ.out.2
    have HSN := hi hsn
    have HBL := hi hbl
    clear hsn hbl
    by_cases hlt : j < xs.length
    · obtain ⟨x, bv, b, off', hmem, rfl, hfair, hy, d0, d1, d2, d3, d4, d5, d6⟩ := actsAt_read HS.out HSN.out.below hlt
      have HX := hi (And.intro hfair hy)
      clear hmem hfair hy
      go_wp2_with (go_at_call 19; ((with_reducible refine (does_out p g (newN size) bs x bv _ HX.out.1 HSN.out.mem HX.out.2).mono ?_); rintro e w3 ⟨rfl, hm3, hk3⟩))
      have HS3 := hi (HSN.out.wrote hk3 hm3)
      clear hm3 hk3
      go_roundw
      case rel => exact ⟨j + 1, by go_num, hi ⟨hlt, _, (doL_len (by rw [HBL.out]; omega)).trans HBL.out, HS3.out⟩⟩
      case measure => simp [intOf]; omega
    · have e : j = xs.length := by omega
      subst e
      have HX := hi (And.intro (HC.out.1.below (HSN.out.below.mono (Nat.le_refl _))) (HC.out.2.below (HSN.out.below.mono (Nat.le_refl _))))
      have hgw : w.heap.size + 1 < g := by have := HSN.out.g; rw [size_al, size_al] at this; omega
      have hgl : g < wr.heap.size := HSN.out.mem.bytes.lt
      have hxl : w.heap.size + 1 < wr.heap.size := HX.out.2.lt
      have HG := hi (And.intro hgl (And.intro hxl hgw))
      clear hgl hxl hgw
      have hBY : ∀ (l : List Nat) (hl : l.length = newN size) W (hW : MemAt 126 W p g (newN size) l), _ := fun l hl W hW => bytes1_out p g (newN size) l K W hW HK.out.1 HK.out.2
      have HB1 := hi (fun W hW => HBL.out ▸ hBY bs HBL.out W hW)
      have HL2 := hi (HLN.out bs HBL.out)
      have HB2 := hi (fun W hW => HL2.out ▸ hBY (SL bs) HL2.out W hW)
      have HDO := hi (fun W hW => HST.out p g (newN size) bs W HBL.out hW)
      clear hBY
      rw [HQ.out] at HB1 HB2
      have HLE := hi (HLL.out bs HBL.out)
      go_wp2_with (first
        | (go_at_call 29; ((with_reducible refine (HB1.out _ (HSN.out.later (bal _ _)).mem).mono ?_); rintro e w3 ⟨v1, rfl, hv1, hb3⟩; have HS3 := hi ((HSN.out.later (bal _ _)).later hb3); have HV1 := hi hv1; have HX3 := hi (And.intro ((HX.out.1.alloc _).below hb3) ((HX.out.2.alloc _).below hb3)); have HO3 := hi ((CB.new wr 42 #[.int .i64 K, .int .i64 1]).below hb3); obtain ⟨q0, q1⟩ := CB.two HX3.out.1; obtain ⟨p0, p1, p2, p3, p4, p5, p6, p7, p8⟩ := CB.nine HX3.out.2; clear hb3 hv1))
        | (go_at_call 21; ((with_reducible refine (HDO.out _ HS3.out.mem).mono ?_); rintro e w4 ⟨rfl, hm4, hk4⟩; have HS4 := hi (HS3.out.wrote hk4 hm4); have HX4 := hi (HX3.out.1.keptB hk4 (fun e => by have := HG.out.2.2; omega)); have HO4 := hi (HO3.out.keptB hk4 (fun e => by have := HG.out.1; omega)); clear q0 q1 p0 p1 p2 p3 p4 p5 p6 p7 p8; obtain ⟨o0, o1⟩ := CB.two HO4.out; have HK4 := hi hk4; clear hm4 hk4))
        | (go_at_call 29; ((with_reducible refine (HB2.out _ HS4.out.mem).mono ?_); rintro e w5 ⟨v2, rfl, hv2, hb5⟩; have HS5 := hi (HS4.out.later hb5); have HX5 := hi (HX4.out.below hb5); obtain ⟨q0, q1⟩ := CB.two HX5.out; have hcv1 := conv_bytes (bytes_later HV1.out (g := g) (by rw [size_al]; have := HG.out; omega) (HK4.out.trans (Kept.of hb5))); have hcv2 := conv_bytes (bytes_later hv2 (g := g) HS4.out.mem.bytes.lt (Kept.refl _ _)); rw [HLE.out] at hcv2; obtain ⟨Y, hY⟩ : ∃ Y, strB (bytesL bs K 1) = Y := ⟨_, rfl⟩; rw [hY] at hcv1 hcv2; clear hY; clear hb5 hv2)))
      go_ret
      exact ⟨by simp, HB0.out.trans (HS5.out.below.mono HB0.out.size)⟩

set_option maxRecDepth 100000 in
set_option maxHeartbeats 8000000 in
theorem cmKeeps_high (size : Int) (sv : Value) (xs : List ActD) (a s off : Int) (c : Cm) (K F : Int) (SL : List Nat → List Nat) (w : World) (hacts : ActsAt w sv xs) (hK0 : -9223372036854775808 ≤ K) (hK1 : K ≤ 9223372036854775807) (hT : TabW w)
    (hST : ∀ (p g cap : Nat) (bs : List Nat) (W : World), bs.length = newN size → MemAt 126 W p g cap bs → Calls Tryd.prog 21 #[.pointer (some ⟨p, 0, none⟩), .agg #[.int .i64 a, .int .i64 s], .int .i64 off, c.v] W fun e w' => e = .returned (.int .i64 F) ∧ MemAt 126 w' p g cap (SL bs) ∧ Kept (· = g) W w')
    (hlen : ∀ bs : List Nat, bs.length = newN size → (SL bs).length = newN size)
    (hm : bytesE (newN size) K 1 = 0) (hF : F = 0) (hw1 : IntKind.i64.wrap (a + off) = a + off) (hw2 : IntKind.i64.wrap (a + off + 32) = a + off + 32) (hi1 : a + off ≤ K) (hi2 : a + off + 32 ≤ K) (hL : ∀ bs : List Nat, bs.length = newN size → bytesL (SL bs) K 1 = bytesL bs K 1) :
    Calls Tryd.prog 9 #[.int .i64 size, sv, .agg #[.int .i64 a, .int .i64 s], .int .i64 off, c.v, .int .i64 K] w fun e w' => e = .returned (.bool true) ∧ Below w.heap.size w w' := by
  obtain ⟨c1, c2, c3, c4, c5, c6, c7, c8, c9⟩ := c
  dsimp only [Cm.v] at hST ⊢
  have HST := hi hST
  have HLN := hi hlen
  have HA := hi (fun W hW => awake_any W hW)
  have hb0 : Below w.heap.size w ((w.alloc (.cells #[.int .i64 a, .int .i64 s] 42)).alloc (.cells #[.int .i64 c1, .int .i64 c2, .int .i64 c3, .int .i64 c4, .int .i64 c5, .int .i64 c6, .int .i64 c7, .int .i64 c8, .bool c9] 24)) := bal_two w _ _
  have HS := hi (hacts.below hb0)
  have HT := hi (hT.below hb0)
  have HB0 := hi hb0
  have HC := hi (And.intro ((CB.new w 42 #[.int .i64 a, .int .i64 s]).alloc (.cells #[.int .i64 c1, .int .i64 c2, .int .i64 c3, .int .i64 c4, .int .i64 c5, .int .i64 c6, .int .i64 c7, .int .i64 c8, .bool c9] 24)) (cb_second (w := w) (o := .cells #[.int .i64 a, .int .i64 s] 42) (cs := #[.int .i64 c1, .int .i64 c2, .int .i64 c3, .int .i64 c4, .int .i64 c5, .int .i64 c6, .int .i64 c7, .int .i64 c8, .bool c9]) (t := 24)))
  have HK := hi (And.intro hK0 hK1)
  have HQ := hi hm
  subst hF
  have HLL := hi hL
  clear hL
  clear hm hST hlen hT hb0 hK0 hK1
  obtain ⟨sa, scap, rfl, hsl, _, _⟩ := hacts
  go_enter Tryd.func9, Tryd.ntmps9
  go_wp2_with (first
    | (go_at_call 14; ((with_reducible refine (HA.out _ HT.out).mono ?_); rintro e w1 ⟨rfl, hb1⟩; have HK1 := hi hb1; clear hb1))
    | (go_at_call 18; ((with_reducible refine (lawNew_any size _).mono ?_); rintro e w2 ⟨p, g, q, h, rfl, hB⟩; have HM0 := hi (Since.base hB.mem HK1.out); clear hB)))
  have hnl := newN_le size
  go_loopw [16] (fun i wr => ∃ j : Nat, i = .int .i64 j ∧ Hi (j ≤ xs.length ∧ ∃ bs : List Nat, bs.length = newN size ∧ Since ((w.alloc (.cells #[.int .i64 a, .int .i64 s] 42)).alloc (.cells #[.int .i64 c1, .int .i64 c2, .int .i64 c3, .int .i64 c4, .int .i64 c5, .int .i64 c6, .int .i64 c7, .int .i64 c8, .bool c9] 24)) p g (newN size) bs wr)) (fun i _ => xs.length - (intOf i).toNat)
  case atStart => exact ⟨0, rfl, hi ⟨Nat.zero_le _, _, List.length_replicate, HM0.out⟩⟩
  case round =>
    obtain ⟨j, rfl, HJ⟩ := hrel
    have hj := HJ.out.1
    obtain ⟨bs, hbl, hsn⟩ := HJ.out.2
    have HSN := hi hsn
    have HBL := hi hbl
    clear hsn hbl
    by_cases hlt : j < xs.length
    · obtain ⟨x, bv, b, off', hmem, rfl, hfair, hy, d0, d1, d2, d3, d4, d5, d6⟩ := actsAt_read HS.out HSN.out.below hlt
      have HX := hi (And.intro hfair hy)
      clear hmem hfair hy
      go_wp2_with (go_at_call 19; ((with_reducible refine (does_out p g (newN size) bs x bv _ HX.out.1 HSN.out.mem HX.out.2).mono ?_); rintro e w3 ⟨rfl, hm3, hk3⟩))
      have HS3 := hi (HSN.out.wrote hk3 hm3)
      clear hm3 hk3
      go_roundw
      case rel => exact ⟨j + 1, by go_num, hi ⟨hlt, _, (doL_len (by rw [HBL.out]; omega)).trans HBL.out, HS3.out⟩⟩
      case measure => simp [intOf]; omega
    · have e : j = xs.length := by omega
      subst e
      have HX := hi (And.intro (HC.out.1.below (HSN.out.below.mono (Nat.le_refl _))) (HC.out.2.below (HSN.out.below.mono (Nat.le_refl _))))
      have hgw : w.heap.size + 1 < g := by have := HSN.out.g; rw [size_al, size_al] at this; omega
      have hgl : g < wr.heap.size := HSN.out.mem.bytes.lt
      have hxl : w.heap.size + 1 < wr.heap.size := HX.out.2.lt
      have HG := hi (And.intro hgl (And.intro hxl hgw))
      clear hgl hxl hgw
      have hBY : ∀ (l : List Nat) (hl : l.length = newN size) W (hW : MemAt 126 W p g (newN size) l), _ := fun l hl W hW => bytes1_out p g (newN size) l K W hW HK.out.1 HK.out.2
      have HB1 := hi (fun W hW => HBL.out ▸ hBY bs HBL.out W hW)
      have HL2 := hi (HLN.out bs HBL.out)
      have HB2 := hi (fun W hW => HL2.out ▸ hBY (SL bs) HL2.out W hW)
      have HDO := hi (fun W hW => HST.out p g (newN size) bs W HBL.out hW)
      clear hBY
      rw [HQ.out] at HB1 HB2
      have HLE := hi (HLL.out bs HBL.out)
      go_wp2_with (first
        | (go_at_call 29; ((with_reducible refine (HB1.out _ (HSN.out.later (bal _ _)).mem).mono ?_); rintro e w3 ⟨v1, rfl, hv1, hb3⟩; have HS3 := hi ((HSN.out.later (bal _ _)).later hb3); have HV1 := hi hv1; have HX3 := hi (And.intro ((HX.out.1.alloc _).below hb3) ((HX.out.2.alloc _).below hb3)); have HO3 := hi ((CB.new wr 42 #[.int .i64 K, .int .i64 1]).below hb3); obtain ⟨q0, q1⟩ := CB.two HX3.out.1; obtain ⟨p0, p1, p2, p3, p4, p5, p6, p7, p8⟩ := CB.nine HX3.out.2; clear hb3 hv1))
        | (go_at_call 21; ((with_reducible refine (HDO.out _ HS3.out.mem).mono ?_); rintro e w4 ⟨rfl, hm4, hk4⟩; have HS4 := hi (HS3.out.wrote hk4 hm4); have HX4 := hi (HX3.out.1.keptB hk4 (fun e => by have := HG.out.2.2; omega)); have HO4 := hi (HO3.out.keptB hk4 (fun e => by have := HG.out.1; omega)); clear q0 q1 p0 p1 p2 p3 p4 p5 p6 p7 p8; obtain ⟨o0, o1⟩ := CB.two HO4.out; have HK4 := hi hk4; clear hm4 hk4))
        | (go_at_call 29; ((with_reducible refine (HB2.out _ HS4.out.mem).mono ?_); rintro e w5 ⟨v2, rfl, hv2, hb5⟩; have HS5 := hi (HS4.out.later hb5); have HX5 := hi (HX4.out.below hb5); obtain ⟨q0, q1⟩ := CB.two HX5.out; have hcv1 := conv_bytes (bytes_later HV1.out (g := g) (by rw [size_al]; have := HG.out; omega) (HK4.out.trans (Kept.of hb5))); have hcv2 := conv_bytes (bytes_later hv2 (g := g) HS4.out.mem.bytes.lt (Kept.refl _ _)); rw [HLE.out] at hcv2; obtain ⟨Y, hY⟩ : ∃ Y, strB (bytesL bs K 1) = Y := ⟨_, rfl⟩; rw [hY] at hcv1 hcv2; clear hY; clear hb5 hv2)))
      go_ret
      exact ⟨by simp, HB0.out.trans (HS5.out.below.mono HB0.out.size)⟩

theorem keeps_law (size : Int) (sv : Value) (xs : List ActD) (a s off : Int) (c : Cm) (K : Int) (w : World) (hacts : ActsAt w sv xs) (ha : i64B a) (hs : i64B s) (ho : i64B off) (hc : i64B c.addr) (hK0 : -9223372036854775808 ≤ K) (hK1 : K ≤ 9223372036854775807) (hT : TabW w) :
    Calls Tryd.prog 9 #[.int .i64 size, sv, .agg #[.int .i64 a, .int .i64 s], .int .i64 off, c.v, .int .i64 K] w fun e w' => e = .returned (.bool true) ∧ Below w.heap.size w w' := by
  have hnl := newN_le size
  have hST : ∀ (p g cap : Nat) (bs : List Nat) (W : World), bs.length = newN size → MemAt 126 W p g cap bs → Calls Tryd.prog 21 #[.pointer (some ⟨p, 0, none⟩), .agg #[.int .i64 a, .int .i64 s], .int .i64 off, c.v] W fun e w' => e = .returned (.int .i64 (stE (newN size) a s off (validC c))) ∧ MemAt 126 w' p g cap (stL bs a s off c) ∧ Kept (· = g) W w' :=
    fun p g cap bs W hl hM => hl ▸ store_any p g cap bs a s off c W hM ha hs ho hc
  have hlen : ∀ bs : List Nat, bs.length = newN size → (stL bs a s off c).length = newN size := fun bs hl => (stL_len (by omega)).trans hl
  rcases bytesE_two (newN size) K with hm | hm
  · by_cases hF : stE (newN size) a s off (validC c) = 0
    · have hen : entOk (newN size) a s off = true := by
        have := (stL_yes (bs := List.replicate (newN size) 0) (a := a) (s := s) (off := off) (c := c) (by rw [List.length_replicate]; exact hF)).2
        rwa [List.length_replicate] at this
      obtain ⟨hw1, hw2⟩ := ent_sums hen
      have hL : (K < a + off ∨ a + off + 32 ≤ K) → ∀ bs : List Nat, bs.length = newN size → bytesL (stL bs a s off c) K 1 = bytesL bs K 1 := fun hk bs hl => by
        rw [(stL_yes (by rw [hl]; exact hF)).1]
        exact st_away (by omega) hk 4 (by omega)
      by_cases h1 : K < a + off
      · exact cmKeeps_low size sv xs a s off c K _ _ w hacts hK0 hK1 hT hST hlen hm hF hw1 hw2 h1 (hL (.inl h1))
      · by_cases h2 : K < a + off + 32
        · exact cmKeeps_in size sv xs a s off c K _ _ w hacts hK0 hK1 hT hST hlen hm hF hw1 hw2 (by omega) h2
        · exact cmKeeps_high size sv xs a s off c K _ _ w hacts hK0 hK1 hT hST hlen hm hF hw1 hw2 (by omega) (by omega) (hL (.inr (by omega)))
    · exact cmKeeps_no size sv xs a s off c K _ _ w hacts hK0 hK1 hT hST hlen hm hF (fun bs hl => by rw [stL_no (by rw [hl]; exact hF)])
  · exact cmKeeps_out size sv xs a s off c K _ _ w hacts hK0 hK1 hT hST hlen hm

end Go.Proofs.YtkgkfgfnhjhabaaDoor
