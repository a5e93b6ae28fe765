/-
  CmdBack: what is encoded, printed, stored comes back.
-/
import Derived.Test.YtbjplahoalfmjaaDoorCmU
import Derived.Test.YtbjplahoalfmjaaDoorCmT
import Derived.Test.YtbjplahoalfmjaaDoorCmL
import Derived.BigQuiet
import Derived.Deep.QuietTactic
namespace Go.Proofs.YtbjplahoalfmjaaDoor
open Go.ChangeShapes Go.WideShapes Go.ChangeAt Go.RowKit
set_option linter.unusedVariables false
set_option linter.unusedSimpArgs false
attribute [local go_sem high] eql_w neq_w guard_w eql_cm neq_cm guard_cm

theorem dec_same {a b : Ws} (h : ∀ j, j < 4 → a j = b j) : decR a = decR b ∧ decOk a = decOk b := by
  have hs : sameW a b = true := by simp [sameW, h 0 (by decide), h 1 (by decide), h 2 (by decide), h 3 (by decide)]
  have hc := decC_same hs
  have hx : ∀ x : Ws, sameW x a = sameW x b := fun x => by simp [sameW, h 0 (by decide), h 1 (by decide), h 2 (by decide), h 3 (by decide)]
  have hk : decOk a = decOk b := by rw [decOk, decOk, hc, hx]
  exact ⟨by rw [decR, decR, hk, hc], hk⟩
theorem dec_back {c : Cm} (h : validC c = true) : decOk (wordsC c) = true ∧ decR (wordsC c) = c := by
  have hc := dec_words h
  have hk : decOk (wordsC c) = true := by rw [decOk, hc, h, sameW_refl]; rfl
  exact ⟨hk, by rw [decR, if_pos hk, hc]⟩
theorem dec_fwd {ws : Ws} (h : decOk ws = true) : validC (decR ws) = true ∧ sameW (wordsC (decR ws)) ws = true ∧ known (decR ws).op = true ∧ i64B (decR ws).addr := by
  have e : decR ws = decC ws := by rw [decR, if_pos h]
  rw [e]
  simp only [decOk, Bool.and_eq_true] at h
  refine ⟨h.1, h.2, ?_, ?_⟩
  · have := h.1
    simp only [validC, Bool.and_eq_true] at this
    exact this.1.1
  · rw [decC]; exact wrap64_b _
theorem text_small {c : Cm} (h : validC c = true) : (txB c).size ≤ 281474976710656 ∧ (txB c).data.toList = textC c := by
  have e : txB c = ⟨(textC c).toArray⟩ := by rw [txB, if_pos h]
  refine ⟨?_, by rw [e]⟩
  have h1 := text_len (n := numC c) (fieldsL c.op) (nameL c.op) (fun f hf => fits_i64 (fieldsL_lt c.op f hf) (validC_fits h f hf))
  have h2 := fieldsL_len c.op
  have h3 := nameL_len c.op
  rw [e, size_of, textC]
  omega
theorem ent_m {n m : Nat} (hn : n = 400) (hm : m ≤ 31) : entOk n 3 300 ((m : Int) * 8) = true := by
  have h1 : ((m : Int) * 8).tmod 8 = 0 := by rw [Int.tmod_eq_emod_of_nonneg (by omega)]; omega
  simp only [entOk, partOk, fairB, holdsB, h1, Bool.and_eq_true, decide_eq_true_eq]
  refine ⟨⟨by omega, by omega⟩, by omega, trivial⟩
theorem bk_store {c : Cm} (h : validC c = true) (hc : i64B c.addr) {m : Nat} (hm : m ≤ 31) {SB : List Nat} (hSB : stB (List.replicate 400 0) (3 + (m : Int) * 8) (wordsC c) 4 = SB) (p g : Nat) (W : World) (hM : MemAt 126 W p g 400 (List.replicate 400 0)) :
    Calls Tryd.prog 21 #[.pointer (some ⟨p, 0, none⟩), .agg #[.int .i64 3, .int .i64 300], .int .i64 ((m : Int) * 8), c.v] W fun e w' => e = .returned (.int .i64 0) ∧ MemAt 126 w' p g 400 SB ∧ Kept (· = g) W w' := by
  have hs := store_any p g 400 (List.replicate 400 0) 3 300 ((m : Int) * 8) c W hM ⟨by decide, by decide⟩ ⟨by decide, by decide⟩ ⟨by omega, by omega⟩ hc
  have he := ent_m (n := (List.replicate 400 0 : List Nat).length) List.length_replicate hm
  rw [stE, stL, h, he, Bool.true_and, if_pos rfl, if_pos rfl, if_pos rfl, hSB] at hs
  exact hs
theorem bk_load {c : Cm} (h : validC c = true) {m : Nat} (hm : m ≤ 31) {SB : List Nat} (hSB : stB (List.replicate 400 0) (3 + (m : Int) * 8) (wordsC c) 4 = SB) (p g : Nat) (W : World) (hM : MemAt 126 W p g 400 SB) :
    Calls Tryd.prog 24 #[.pointer (some ⟨p, 0, none⟩), .agg #[.int .i64 3, .int .i64 300], .int .i64 ((m : Int) * 8)] W fun e w' => e = .returned (.tuple #[c.v, .int .i64 0]) ∧ Below W.heap.size W w' := by
  have hl := load_any p g 400 SB 3 300 ((m : Int) * 8) W hM ⟨by decide, by decide⟩ ⟨by decide, by decide⟩ ⟨by omega, by omega⟩
  have hlen : SB.length = 400 := by rw [← hSB, stB_len (by rw [List.length_replicate]; decide), List.length_replicate]
  have he := ent_m hlen hm
  have hw : ∀ j, j < 4 → ldW SB (3 + (m : Int) * 8) j = wordsC c j := fun j hj => by
    have e : (3 + (m : Int) * 8) = ((3 + m * 8 : Nat) : Int) := by omega
    rw [← hSB, e]
    exact ld_st (by rw [List.length_replicate]; decide) (by rw [List.length_replicate]; omega) (words_lt h) hj
  obtain ⟨h1, h2⟩ := dec_same hw
  obtain ⟨h3, h4⟩ := dec_back h
  rw [ldV, ldE, if_pos he, if_pos he, h1, h2, h3, h4] at hl
  exact hl

/-- The two boxes. -/
structure KB (w : World) (c : Cm) (ws : Ws) (W : World) : Prop where
  c : CB W w.heap.size 24 c.cs
  f : CB W (w.heap.size + 1) 26 (Ws.cs ws)
  tab : TabW W
  err : ErrW W
  below : Below w.heap.size w W
theorem KB.later {w : World} {c : Cm} {ws : Ws} {W W' : World} (h : KB w c ws W) (k : Below W.heap.size W W') : KB w c ws W' := ⟨h.c.below k, h.f.below k, h.tab.below k, h.err.below k, h.below.trans (k.mono h.below.size)⟩

set_option maxRecDepth 100000 in
set_option maxHeartbeats 8000000 in
theorem back_law (c : Cm) (hc : i64B c.addr) (ws : Ws) (hws : ∀ j, ws j < 18446744073709551616) (n : Nat) (hn : n < 256) (w : World) (hT : TabW w) (hE : ErrW w) : Calls Tryd.prog 6 #[c.v, Wv ws, .int .u8 n] w fun e w' => e = .returned (.bool true) ∧ Below w.heap.size w w' := by
  have HA := hi (fun W hW => awake_any W hW)
  have HDE := hi (fun W => decode_any ws hws W)
  have HEC := hi (fun W => encode_any c hc W)
  have H0 : KB w c ws ((w.alloc (.cells c.cs 24)).alloc (.cells (Ws.cs ws) 26)) := ⟨(CB.new w _ _).alloc _, cb_second, hT.below (bal_two w _ _), hE.below (bal_two w _ _), bal_two w _ _⟩
  have HH := hi H0
  have hq0 : eqW 0 0 0 0 0 0 0 0 = true := by decide
  obtain ⟨m, hm⟩ : ∃ m, n / 8 = m := ⟨_, rfl⟩
  have hm31 : m ≤ 31 := by omega
  have hq8 : (n : Int).tdiv 8 = (m : Int) := by rw [Int.tdiv_eq_ediv_of_nonneg (by omega)]; omega
  have hm32 : (m : Int) ≤ 31 := by omega
  have HDF := hi (fun h => dec_fwd (ws := ws) h)
  have HDED := hi (fun h W => encode_any (decR ws) (dec_fwd (ws := ws) h).2.2.2 W)
  have HKN := hi (fun W => known_any (decR ws).op W)
  have HEW := hi (fun h : validC (decR ws) = true => show encW (decR ws) = wordsC (decR ws) by rw [encW, if_pos h])
  obtain ⟨D, hD⟩ : ∃ D, decR ws = D := ⟨_, rfl⟩
  obtain ⟨dk, hdk⟩ : ∃ dk, decOk ws = dk := ⟨_, rfl⟩
  rw [hD, hdk] at HDE
  rw [hD, hdk] at HDF
  rw [hdk] at HDED
  rw [hD] at HDED HKN HEW
  unfold Wv at HDE ⊢
  have HVC := hi (fun h : validC c = true => And.intro (dec_back h) (And.intro (text_small h) (And.intro (parOk_text h) (words_lt h))))
  have HST := hi (fun (h : validC c = true) SB hSB p g W hM => bk_store h hc hm31 (SB := SB) hSB p g W hM)
  have HLD := hi (fun (h : validC c = true) SB hSB p g W hM => bk_load h hm31 (SB := SB) hSB p g W hM)
  have HPR := hi (fun W hW => print_any c hc W hW)
  have HPA := hi (fun (h : (txB c).size ≤ 281474976710656) W hT hE => parse_any (txB c) h W hT hE)
  have hn4 : newN 400 = 400 := by decide
  have HNW := hi (fun W => lawNew_any 400 W)
  rw [hn4] at HNW
  have hcc : eqCm c c = true := by rw [eqCm_iff]; simp
  clear H0 hT hE hc hws hn4 hD hdk
  obtain ⟨vd, hvd⟩ : ∃ vd, validC c = vd := ⟨_, rfl⟩
  rw [hvd] at HEC HVC HST HLD HPR
  cases dk
  · cases vd
    · rw [show errN false = 160 from rfl] at HDE
      clear HDF HDED HKN HEW
      have he : encW c = wz := by rw [encW, if_neg (by rw [hvd]; decide)]
      rw [he, show errN false = 160 from rfl] at HEC
      clear he hvd HVC HST HLD HPR HPA HNW hcc hq8 hm32 hm31 hm
      obtain ⟨c1, c2, c3, c4, c5, c6, c7, c8, c9⟩ := c
      obtain ⟨d1, d2, d3, d4, d5, d6, d7, d8, d9⟩ := D
      unfold Wv at HEC
      dsimp only [Cm.v, Cm.cs] at HDE HEC HH ⊢
      go_enter Tryd.func6, Tryd.ntmps6
      go_wp2_with (first
      | (go_at_call 14; ((with_reducible refine (HA.out _ HH.out.tab).mono ?_); rintro e w1 ⟨rfl, hb1⟩; have H1 := HH.out.later hb1; obtain ⟨f0, f1, f2, f3⟩ := CB.four H1.f; have hzf : w.heap.size + 1 < w1.heap.size := H1.f.lt; have HK1 := hi H1; clear hb1 H1))
      | (go_at_call 12; ((with_reducible refine (HDE.out _).mono ?_); rintro e w2 ⟨rfl, hb2⟩; have H2 := HK1.out.later hb2; clear hb2 f0 f1 f2 f3; obtain ⟨p0, p1, p2, p3, p4, p5, p6, p7, p8⟩ := CB.nine H2.c; have hzc : w.heap.size < w2.heap.size := H2.c.lt; have HK4 := hi (H2.later (bal w2 (.cells (Cm.cs ⟨d1, d2, d3, d4, d5, d6, d7, d8, d9⟩) 24))); clear H2))
      | (go_at_call 10; ((with_reducible refine (HEC.out _).mono ?_); rintro e w5 ⟨rfl, hb5⟩; have HK5 := hi (HK4.out.later hb5); clear hb5; clear p0 p1 p2 p3 p4 p5 p6 p7 p8)))
      go_ret
      exact ⟨rfl, HK5.out.below.alloc HK5.out.below.size _⟩
    · rw [show errN false = 160 from rfl] at HDE
      clear HDF HDED HKN HEW
      obtain ⟨⟨hv1, hv2⟩, ⟨hv3, hv4⟩, ⟨hv5, hv6⟩, hv7⟩ := HVC.out rfl
      have he : encW c = wordsC c := by rw [encW, if_pos hvd]
      rw [he, show errN true = 0 from rfl] at HEC
      have HDC := hi (fun W => decode_any (wordsC c) hv7 W)
      rw [hv1, hv2, show errN true = 0 from rfl] at HDC
      have HPA := hi (HPA.out hv3)
      rw [hv4, hv5, hv6, show errN true = 0 from rfl] at HPA
      rw [show errN true = 0 from rfl] at HPR
      have HSS := hi (HST.out rfl _ rfl)
      have HLL := hi (HLD.out rfl _ rfl)
      obtain ⟨SB, hSB⟩ : ∃ SB, stB (List.replicate 400 0) (3 + (m : Int) * 8) (wordsC c) 4 = SB := ⟨_, rfl⟩
      rw [hSB] at HSS HLL
      obtain ⟨wc, hwc⟩ : ∃ wc, wordsC c = wc := ⟨_, rfl⟩
      rw [hwc] at HEC HDC
      obtain ⟨tx, htx⟩ : ∃ tx, txB c = tx := ⟨_, rfl⟩
      rw [htx] at HPR HPA
      clear he hvd hv1 hv2 hv3 hv4 hv5 hv6 hv7 HVC HST HLD hSB hwc htx hm hm31 hq0
      unfold Wv at HDC
      obtain ⟨c1, c2, c3, c4, c5, c6, c7, c8, c9⟩ := c
      obtain ⟨d1, d2, d3, d4, d5, d6, d7, d8, d9⟩ := D
      unfold Wv at HEC
      dsimp only [Cm.v, Cm.cs] at HDE HEC HH HDC HPR HPA HSS HLL ⊢
      go_enter Tryd.func6, Tryd.ntmps6
      go_wp2_with (first
      | (go_at_call 14; ((with_reducible refine (HA.out _ HH.out.tab).mono ?_); rintro e w1 ⟨rfl, hb1⟩; have H1 := HH.out.later hb1; obtain ⟨f0, f1, f2, f3⟩ := CB.four H1.f; have hzf : w.heap.size + 1 < w1.heap.size := H1.f.lt; have HK1 := hi H1; clear hb1 H1))
      | (go_at_call 12; ((with_reducible refine (HDE.out _).mono ?_); rintro e w2 ⟨rfl, hb2⟩; have H2 := HK1.out.later hb2; clear hb2 f0 f1 f2 f3; obtain ⟨p0, p1, p2, p3, p4, p5, p6, p7, p8⟩ := CB.nine H2.c; have hzc : w.heap.size < w2.heap.size := H2.c.lt; have HK4 := hi (H2.later (bal w2 (.cells (Cm.cs ⟨d1, d2, d3, d4, d5, d6, d7, d8, d9⟩) 24))); clear H2))
      | (go_at_call 10; ((with_reducible refine (HEC.out _).mono ?_); rintro e w5 ⟨rfl, hb5⟩; have HK5 := hi (HK4.out.later hb5); clear hb5; clear p0 p1 p2 p3 p4 p5 p6 p7 p8))
      | (go_at_call 12; ((with_reducible refine (HDC.out _).mono ?_); rintro e w6 ⟨rfl, hb6⟩; have H6 := (HK5.out.later (bal w5 _)).later hb6; obtain ⟨p0, p1, p2, p3, p4, p5, p6, p7, p8⟩ := CB.nine H6.c; have hz6 : w.heap.size < w6.heap.size := H6.c.lt; have HK6 := hi H6; clear hb6 H6))
      | (go_at_call 26; ((with_reducible refine (HPR.out _ (HK6.out.later (bal w6 _)).tab).mono ?_); rintro e w7 ⟨rfl, hb7⟩; have HK7 := hi ((HK6.out.later (bal w6 _)).later hb7); have HX7 := hi ((CB.new w6 24 (Cm.cs ⟨c1, c2, c3, c4, c5, c6, c7, c8, c9⟩)).below hb7); clear hb7; clear p0 p1 p2 p3 p4 p5 p6 p7 p8))
      | (go_at_call 28; ((with_reducible refine (HPA.out _ HK7.out.tab HK7.out.err).mono ?_); rintro e w8 ⟨rfl, hb8⟩; have HK8 := hi (HK7.out.later hb8); have HX8 := hi (HX7.out.below hb8); clear hb8))
      | (go_at_call 18; ((with_reducible refine (HNW.out _).mono ?_); rintro e w9 ⟨p, g, q, h, rfl, hB⟩; have HM9 := hi hB.mem; have H9 := (HK8.out.later (bal w8 _)).later hB.mem.below; have HX9 := hi ((HX8.out.alloc (.cells (Cm.cs ⟨c1, c2, c3, c4, c5, c6, c7, c8, c9⟩) 24)).below hB.mem.below); have HY9 := hi ((CB.new w8 24 (Cm.cs ⟨c1, c2, c3, c4, c5, c6, c7, c8, c9⟩)).below hB.mem.below); obtain ⟨p0, p1, p2, p3, p4, p5, p6, p7, p8⟩ := CB.nine H9.c; have hz9 : w.heap.size < w9.heap.size := H9.c.lt; have HG9 := hi (show w.heap.size < g ∧ w6.heap.size < g ∧ w8.heap.size < g ∧ g < w9.heap.size from by have h1 := hB.mem.g; have h2 := HK8.out.c.lt; have h3 := HX8.out.lt; have h4 := hB.mem.mem.bytes.lt; rw [size_al] at h1; exact ⟨by omega, by omega, by omega, h4⟩); have HK9 := hi H9; clear hB H9))
      | (go_at_call 21; ((with_reducible refine (HSS.out p g _ (HM9.out.later (bal w9 _)).mem).mono ?_); rintro e w10 ⟨rfl, hm10, hk10⟩; have HS10 := hi ((HM9.out.later (bal w9 _)).wrote hk10 hm10); have HC10 := hi ((HK9.out.c.alloc _).keptB hk10 (fun e => by have := HG9.out; omega)); have HX10 := hi ((HX9.out.alloc _).keptB hk10 (fun e => by have := HG9.out; omega)); have HY10 := hi ((HY9.out.alloc _).keptB hk10 (fun e => by have := HG9.out; omega)); have HW10 := hi ((CB.new w9 42 #[.int .i64 3, .int .i64 300]).keptB hk10 (fun e => by have := HG9.out; omega)); clear hk10 hm10; clear p0 p1 p2 p3 p4 p5 p6 p7 p8; obtain ⟨t0, t1⟩ := CB.two HW10.out))
      | (go_at_call 24; ((with_reducible refine (HLL.out p g _ HS10.out.mem).mono ?_); rintro e w11 ⟨rfl, hb11⟩; have HS11 := hi (HS10.out.later hb11); have hc11 := HC10.out.below hb11; have hx11 := HX10.out.below hb11; have hy11 := HY10.out.below hb11; obtain ⟨p0, p1, p2, p3, p4, p5, p6, p7, p8⟩ := CB.nine hc11; obtain ⟨x0, x1, x2, x3, x4, x5, x6, x7, x8⟩ := CB.nine hx11; obtain ⟨y0, y1, y2, y3, y4, y5, y6, y7, y8⟩ := CB.nine hy11; have hzc := hc11.lt; have hzx := hx11.lt; have hzy := hy11.lt; clear hb11 hc11 hx11 hy11 t0 t1)))
      go_ret
      exact ⟨by simp, ((HK8.out.below.alloc HK8.out.below.size _).trans (HS11.out.below.mono (by have := HK8.out.below.size; rw [size_al]; omega))).alloc (by have := HS11.out.below.size; have := HK8.out.below.size; rw [size_al] at *; omega) _⟩
  · cases vd
    · obtain ⟨hv1, hs1, hk1, hb1⟩ := HDF.out rfl
      have hew := HEW.out hv1
      have HED := hi (HDED.out rfl)
      rw [hv1, hew, show errN true = 0 from rfl] at HED
      rw [hk1] at HKN
      obtain ⟨wd, hwd⟩ : ∃ wd, wordsC D = wd := ⟨_, rfl⟩
      rw [hwd] at HED hs1
      have hqd : eqW (wd 0) (wd 1) (wd 2) (wd 3) (ws 0) (ws 1) (ws 2) (ws 3) = true := by rw [eqW_iff]; exact hs1
      rw [show errN true = 0 from rfl] at HDE
      clear HDF HDED HEW hv1 hs1 hk1 hb1 hew hwd
      unfold Wv at HED
      have he : encW c = wz := by rw [encW, if_neg (by rw [hvd]; decide)]
      rw [he, show errN false = 160 from rfl] at HEC
      clear he hvd HVC HST HLD HPR HPA HNW hcc hq8 hm32 hm31 hm
      obtain ⟨c1, c2, c3, c4, c5, c6, c7, c8, c9⟩ := c
      obtain ⟨d1, d2, d3, d4, d5, d6, d7, d8, d9⟩ := D
      unfold Wv at HEC
      dsimp only [Cm.v, Cm.cs] at HDE HEC HH HED ⊢
      go_enter Tryd.func6, Tryd.ntmps6
      go_wp2_with (first
      | (go_at_call 14; ((with_reducible refine (HA.out _ HH.out.tab).mono ?_); rintro e w1 ⟨rfl, hb1⟩; have H1 := HH.out.later hb1; obtain ⟨f0, f1, f2, f3⟩ := CB.four H1.f; have hzf : w.heap.size + 1 < w1.heap.size := H1.f.lt; have HK1 := hi H1; clear hb1 H1))
      | (go_at_call 12; ((with_reducible refine (HDE.out _).mono ?_); rintro e w2 ⟨rfl, hb2⟩; have HK2 := hi (HK1.out.later hb2); clear hb2 f0 f1 f2 f3))
      | (go_at_call 10; ((with_reducible refine (HED.out _).mono ?_); rintro e w3 ⟨rfl, hb3⟩; have H3 := (HK2.out.later (bal w2 _)).later hb3; have hd3 := (CB.new w2 24 (Cm.cs ⟨d1, d2, d3, d4, d5, d6, d7, d8, d9⟩)).below hb3; obtain ⟨e0, e1, e2, e3, e4, e5, e6, e7, e8⟩ := CB.nine hd3; obtain ⟨f0, f1, f2, f3⟩ := CB.four H3.f; have hz3 : w2.heap.size < w3.heap.size := hd3.lt; have hzf3 : w.heap.size + 1 < w3.heap.size := H3.f.lt; have HK3 := hi H3; clear hb3 H3 hd3))
      | (go_at_call 16; ((with_reducible refine (HKN.out _).mono ?_); rintro e w4 ⟨rfl, hb4⟩; have H4 := (HK3.out.later (bal w3 _)).later hb4; clear e0 e1 e2 e3 e4 e5 e6 e7 e8 f0 f1 f2 f3; obtain ⟨p0, p1, p2, p3, p4, p5, p6, p7, p8⟩ := CB.nine H4.c; have hzc : w.heap.size < w4.heap.size := H4.c.lt; have HK4 := hi H4; clear hb4 H4))
      | (go_at_call 10; ((with_reducible refine (HEC.out _).mono ?_); rintro e w5 ⟨rfl, hb5⟩; have HK5 := hi (HK4.out.later hb5); clear hb5; clear p0 p1 p2 p3 p4 p5 p6 p7 p8)))
      go_ret
      exact ⟨rfl, HK5.out.below.alloc HK5.out.below.size _⟩
    · obtain ⟨hv1, hs1, hk1, hb1⟩ := HDF.out rfl
      have hew := HEW.out hv1
      have HED := hi (HDED.out rfl)
      rw [hv1, hew, show errN true = 0 from rfl] at HED
      rw [hk1] at HKN
      obtain ⟨wd, hwd⟩ : ∃ wd, wordsC D = wd := ⟨_, rfl⟩
      rw [hwd] at HED hs1
      have hqd : eqW (wd 0) (wd 1) (wd 2) (wd 3) (ws 0) (ws 1) (ws 2) (ws 3) = true := by rw [eqW_iff]; exact hs1
      rw [show errN true = 0 from rfl] at HDE
      clear HDF HDED HEW hv1 hs1 hk1 hb1 hew hwd
      unfold Wv at HED
      obtain ⟨⟨hv1, hv2⟩, ⟨hv3, hv4⟩, ⟨hv5, hv6⟩, hv7⟩ := HVC.out rfl
      have he : encW c = wordsC c := by rw [encW, if_pos hvd]
      rw [he, show errN true = 0 from rfl] at HEC
      have HDC := hi (fun W => decode_any (wordsC c) hv7 W)
      rw [hv1, hv2, show errN true = 0 from rfl] at HDC
      have HPA := hi (HPA.out hv3)
      rw [hv4, hv5, hv6, show errN true = 0 from rfl] at HPA
      rw [show errN true = 0 from rfl] at HPR
      have HSS := hi (HST.out rfl _ rfl)
      have HLL := hi (HLD.out rfl _ rfl)
      obtain ⟨SB, hSB⟩ : ∃ SB, stB (List.replicate 400 0) (3 + (m : Int) * 8) (wordsC c) 4 = SB := ⟨_, rfl⟩
      rw [hSB] at HSS HLL
      obtain ⟨wc, hwc⟩ : ∃ wc, wordsC c = wc := ⟨_, rfl⟩
      rw [hwc] at HEC HDC
      obtain ⟨tx, htx⟩ : ∃ tx, txB c = tx := ⟨_, rfl⟩
      rw [htx] at HPR HPA
      clear he hvd hv1 hv2 hv3 hv4 hv5 hv6 hv7 HVC HST HLD hSB hwc htx hm hm31 hq0
      unfold Wv at HDC
      obtain ⟨c1, c2, c3, c4, c5, c6, c7, c8, c9⟩ := c
      obtain ⟨d1, d2, d3, d4, d5, d6, d7, d8, d9⟩ := D
      unfold Wv at HEC
      dsimp only [Cm.v, Cm.cs] at HDE HEC HH HED HDC HPR HPA HSS HLL ⊢
      go_enter Tryd.func6, Tryd.ntmps6
      go_wp2_with (first
      | (go_at_call 14; ((with_reducible refine (HA.out _ HH.out.tab).mono ?_); rintro e w1 ⟨rfl, hb1⟩; have H1 := HH.out.later hb1; obtain ⟨f0, f1, f2, f3⟩ := CB.four H1.f; have hzf : w.heap.size + 1 < w1.heap.size := H1.f.lt; have HK1 := hi H1; clear hb1 H1))
      | (go_at_call 12; ((with_reducible refine (HDE.out _).mono ?_); rintro e w2 ⟨rfl, hb2⟩; have HK2 := hi (HK1.out.later hb2); clear hb2 f0 f1 f2 f3))
      | (go_at_call 10; ((with_reducible refine (HED.out _).mono ?_); rintro e w3 ⟨rfl, hb3⟩; have H3 := (HK2.out.later (bal w2 _)).later hb3; have hd3 := (CB.new w2 24 (Cm.cs ⟨d1, d2, d3, d4, d5, d6, d7, d8, d9⟩)).below hb3; obtain ⟨e0, e1, e2, e3, e4, e5, e6, e7, e8⟩ := CB.nine hd3; obtain ⟨f0, f1, f2, f3⟩ := CB.four H3.f; have hz3 : w2.heap.size < w3.heap.size := hd3.lt; have hzf3 : w.heap.size + 1 < w3.heap.size := H3.f.lt; have HK3 := hi H3; clear hb3 H3 hd3))
      | (go_at_call 16; ((with_reducible refine (HKN.out _).mono ?_); rintro e w4 ⟨rfl, hb4⟩; have H4 := (HK3.out.later (bal w3 _)).later hb4; clear e0 e1 e2 e3 e4 e5 e6 e7 e8 f0 f1 f2 f3; obtain ⟨p0, p1, p2, p3, p4, p5, p6, p7, p8⟩ := CB.nine H4.c; have hzc : w.heap.size < w4.heap.size := H4.c.lt; have HK4 := hi H4; clear hb4 H4))
      | (go_at_call 10; ((with_reducible refine (HEC.out _).mono ?_); rintro e w5 ⟨rfl, hb5⟩; have HK5 := hi (HK4.out.later hb5); clear hb5; clear p0 p1 p2 p3 p4 p5 p6 p7 p8))
      | (go_at_call 12; ((with_reducible refine (HDC.out _).mono ?_); rintro e w6 ⟨rfl, hb6⟩; have H6 := (HK5.out.later (bal w5 _)).later hb6; obtain ⟨p0, p1, p2, p3, p4, p5, p6, p7, p8⟩ := CB.nine H6.c; have hz6 : w.heap.size < w6.heap.size := H6.c.lt; have HK6 := hi H6; clear hb6 H6))
      | (go_at_call 26; ((with_reducible refine (HPR.out _ (HK6.out.later (bal w6 _)).tab).mono ?_); rintro e w7 ⟨rfl, hb7⟩; have HK7 := hi ((HK6.out.later (bal w6 _)).later hb7); have HX7 := hi ((CB.new w6 24 (Cm.cs ⟨c1, c2, c3, c4, c5, c6, c7, c8, c9⟩)).below hb7); clear hb7; clear p0 p1 p2 p3 p4 p5 p6 p7 p8))
      | (go_at_call 28; ((with_reducible refine (HPA.out _ HK7.out.tab HK7.out.err).mono ?_); rintro e w8 ⟨rfl, hb8⟩; have HK8 := hi (HK7.out.later hb8); have HX8 := hi (HX7.out.below hb8); clear hb8))
      | (go_at_call 18; ((with_reducible refine (HNW.out _).mono ?_); rintro e w9 ⟨p, g, q, h, rfl, hB⟩; have HM9 := hi hB.mem; have H9 := (HK8.out.later (bal w8 _)).later hB.mem.below; have HX9 := hi ((HX8.out.alloc (.cells (Cm.cs ⟨c1, c2, c3, c4, c5, c6, c7, c8, c9⟩) 24)).below hB.mem.below); have HY9 := hi ((CB.new w8 24 (Cm.cs ⟨c1, c2, c3, c4, c5, c6, c7, c8, c9⟩)).below hB.mem.below); obtain ⟨p0, p1, p2, p3, p4, p5, p6, p7, p8⟩ := CB.nine H9.c; have hz9 : w.heap.size < w9.heap.size := H9.c.lt; have HG9 := hi (show w.heap.size < g ∧ w6.heap.size < g ∧ w8.heap.size < g ∧ g < w9.heap.size from by have h1 := hB.mem.g; have h2 := HK8.out.c.lt; have h3 := HX8.out.lt; have h4 := hB.mem.mem.bytes.lt; rw [size_al] at h1; exact ⟨by omega, by omega, by omega, h4⟩); have HK9 := hi H9; clear hB H9))
      | (go_at_call 21; ((with_reducible refine (HSS.out p g _ (HM9.out.later (bal w9 _)).mem).mono ?_); rintro e w10 ⟨rfl, hm10, hk10⟩; have HS10 := hi ((HM9.out.later (bal w9 _)).wrote hk10 hm10); have HC10 := hi ((HK9.out.c.alloc _).keptB hk10 (fun e => by have := HG9.out; omega)); have HX10 := hi ((HX9.out.alloc _).keptB hk10 (fun e => by have := HG9.out; omega)); have HY10 := hi ((HY9.out.alloc _).keptB hk10 (fun e => by have := HG9.out; omega)); have HW10 := hi ((CB.new w9 42 #[.int .i64 3, .int .i64 300]).keptB hk10 (fun e => by have := HG9.out; omega)); clear hk10 hm10; clear p0 p1 p2 p3 p4 p5 p6 p7 p8; obtain ⟨t0, t1⟩ := CB.two HW10.out))
      | (go_at_call 24; ((with_reducible refine (HLL.out p g _ HS10.out.mem).mono ?_); rintro e w11 ⟨rfl, hb11⟩; have HS11 := hi (HS10.out.later hb11); have hc11 := HC10.out.below hb11; have hx11 := HX10.out.below hb11; have hy11 := HY10.out.below hb11; obtain ⟨p0, p1, p2, p3, p4, p5, p6, p7, p8⟩ := CB.nine hc11; obtain ⟨x0, x1, x2, x3, x4, x5, x6, x7, x8⟩ := CB.nine hx11; obtain ⟨y0, y1, y2, y3, y4, y5, y6, y7, y8⟩ := CB.nine hy11; have hzc := hc11.lt; have hzx := hx11.lt; have hzy := hy11.lt; clear hb11 hc11 hx11 hy11 t0 t1)))
      go_ret
      exact ⟨by simp, ((HK8.out.below.alloc HK8.out.below.size _).trans (HS11.out.below.mono (by have := HK8.out.below.size; rw [size_al]; omega))).alloc (by have := HS11.out.below.size; have := HK8.out.below.size; rw [size_al] at *; omega) _⟩

end Go.Proofs.YtbjplahoalfmjaaDoor
