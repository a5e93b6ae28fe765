/-
  Package tables: Target, SetTarget, an event's entry, Route, SetRoute, at every call.
-/
import Derived.Test.YtjcjblmaceooaaaTbD
namespace Go.Proofs.Ytjcjblmaceooaaa
open Go.ChangeShapes Go.WideShapes Go.ChangeAt Go.RowKit
set_option linter.unusedVariables false
set_option linter.unusedSimpArgs false

theorem Kept.more {g : Nat} {w W W' : World} (h : Below w.heap.size w W) (k : Kept (· = g) W W') : Kept (· = g) w W' := (Kept.of h).trans k

set_option maxRecDepth 100000 in
set_option maxHeartbeats 4000000 in
theorem target_any (p g cap : Nat) (bs : List Nat) (a s c : Int) (w : World) (hM : MemAt 89 w p g cap bs) (ha : i64B a) (hs : i64B s) :
    Calls Try.prog 12 #[.pointer (some ⟨p, 0, none⟩), .agg #[.int .i64 a, .int .i64 s], .int .i64 c] w fun e w' => e = .returned (.tuple #[.int .i64 (tgN bs a s c), .bool (tgIs bs a s c), .int .i64 (tgE bs.length a s c)]) ∧ Below w.heap.size w w' := by
  have HN := hi (nth_any p g cap bs a s c (w.alloc (.cells #[.int .i64 a, .int .i64 s] 30)) (hM.below (bal w _)) ha hs)
  have HM := hi hM
  have HB0 := hi (bal w (.cells #[.int .i64 a, .int .i64 s] 30))
  unfold nthV at HN
  cases h1 : nthB bs.length a s c
  · have e1 : tgE bs.length a s c = 183 := by simp [tgE, h1]
    have e2 : tgIs bs a s c = false := by simp [tgIs, e1]
    have e3 : tgN bs a s c = 0 := by simp [tgN, e2]
    rw [e1, e2, e3]
    rw [h1] at HN
    clear e1 e2 e3 h1 hM ha hs
    have HN2 := hi (show Calls Try.prog 26 #[.pointer (some ⟨p, 0, none⟩), .agg #[.int .i64 a, .int .i64 s], .int .i64 c] (w.alloc (.cells #[.int .i64 a, .int .i64 s] 30)) fun e w' => e = .returned (.tuple #[.agg #[.int .i64 0, .int .i64 0], .bool false]) ∧ Below (w.alloc (.cells #[.int .i64 a, .int .i64 s] 30)).heap.size (w.alloc (.cells #[.int .i64 a, .int .i64 s] 30)) w' from HN.out)
    clear HN
    go_enter Try.func12, Try.ntmps12
    go_wp2_with (go_at_call 26; ((with_reducible refine HN2.out.mono ?_); rintro e w1 ⟨rfl, hb1⟩; have HB1 := hi (HB0.out.more hb1); clear hb1))
    exact bodyPost_ret (by simp [results, Try.results12, go_sem]) rfl ⟨rfl, HB1.out.alloc HB1.out.size _⟩
  · have h0 : tgE bs.length a s c = 0 := by simp [tgE, h1]
    obtain ⟨_, hP, hPl⟩ := tgE_zero h0
    have e2 : tgIs bs a s c = valB (w8 bs (tgP a c)) := by simp [tgIs, h0, valB]
    have hv := w8_lt (o := tgP a c) hM.bytes.2
    have e3 : tgN bs a s c = if valB (w8 bs (tgP a c)) = true then w8 bs (tgP a c) % 65536 else 0 := by rw [tgN, e2]
    rw [h0, e2, e3]
    rw [h1] at HN
    have HL := hi (fun W hW => load_any p g cap bs (tgP a c) (a + 8 * c) hP hPl W hW)
    obtain ⟨v, hvv⟩ : ∃ v, w8 bs (tgP a c) = v := ⟨_, rfl⟩
    rw [hvv] at HL hv ⊢
    have HV := hi (fun W => valid_any v hv W)
    have HI := hi (show ∀ W, Calls Try.prog 35 #[.int .i64 5, .int .u64 v] W fun e w' => e = .returned (.int .i64 ((v % 65536 : Nat) : Int)) ∧ Below W.heap.size W w' from fun W => by have := fin_any 5 v (by decide) hv W; rwa [show inN 5 v = v % 65536 by simp [inN, fF, fB]] at this)
    obtain ⟨x, hx⟩ : ∃ x, v % 65536 = x := ⟨_, rfl⟩
    rw [hx] at HI ⊢
    obtain ⟨vb, hvb⟩ : ∃ b, valB v = b := ⟨_, rfl⟩
    rw [hvb] at HV ⊢
    have HN2 := hi (show Calls Try.prog 26 #[.pointer (some ⟨p, 0, none⟩), .agg #[.int .i64 a, .int .i64 s], .int .i64 c] (w.alloc (.cells #[.int .i64 a, .int .i64 s] 30)) fun e w' => e = .returned (.tuple #[.agg #[.int .i64 (a + 8 * c), .int .i64 8], .bool true]) ∧ Below (w.alloc (.cells #[.int .i64 a, .int .i64 s] 30)).heap.size (w.alloc (.cells #[.int .i64 a, .int .i64 s] 30)) w' from HN.out)
    obtain ⟨y, hy⟩ : ∃ y, a + 8 * c = y := ⟨_, rfl⟩
    rw [hy] at HL HN2
    clear h0 e2 e3 h1 hM ha hs hP hPl hv hvv hx hvb HN hy
    cases vb
    · simp only [Bool.false_eq_true, if_false]
      go_enter Try.func12, Try.ntmps12
      go_wp2_with (first
        | (go_at_call 26; ((with_reducible refine HN2.out.mono ?_); rintro e w1 ⟨rfl, hb1⟩; have HB1 := hi (HB0.out.more hb1); clear hb1))
        | (go_at_call 32; ((with_reducible refine (HL.out _ (HM.out.below (HB1.out.alloc HB1.out.size _))).mono ?_); rintro e w2 ⟨rfl, hb2⟩; have HB2 := hi ((HB1.out.alloc HB1.out.size _).more hb2); clear hb2))
        | (go_at_call 34; ((with_reducible refine (HV.out _).mono ?_); rintro e w3 ⟨rfl, rfl⟩)))
      exact bodyPost_ret (by simp [results, Try.results12, go_sem]) rfl ⟨rfl, HB2.out⟩
    · simp only [if_true]
      go_enter Try.func12, Try.ntmps12
      go_wp2_with (first
        | (go_at_call 26; ((with_reducible refine HN2.out.mono ?_); rintro e w1 ⟨rfl, hb1⟩; have HB1 := hi (HB0.out.more hb1); clear hb1))
        | (go_at_call 32; ((with_reducible refine (HL.out _ (HM.out.below (HB1.out.alloc HB1.out.size _))).mono ?_); rintro e w2 ⟨rfl, hb2⟩; have HB2 := hi ((HB1.out.alloc HB1.out.size _).more hb2); clear hb2))
        | (go_at_call 34; ((with_reducible refine (HV.out _).mono ?_); rintro e w3 ⟨rfl, rfl⟩))
        | (go_at_call 35; ((with_reducible refine (HI.out _).mono ?_); rintro e w4 ⟨rfl, hb4⟩; have HB4 := hi (HB2.out.more hb4); clear hb4)))
      exact bodyPost_ret (by simp [results, Try.results12, go_sem]) rfl ⟨rfl, HB4.out⟩

set_option maxRecDepth 100000 in
set_option maxHeartbeats 4000000 in
theorem setT_any (p g cap : Nat) (bs : List Nat) (a s c t : Int) (b : Bool) (w : World) (hM : MemAt 89 w p g cap bs) (ha : i64B a) (hs : i64B s) :
    Calls Try.prog 13 #[.pointer (some ⟨p, 0, none⟩), .agg #[.int .i64 a, .int .i64 s], .int .i64 c, .int .i64 t, .bool b] w fun e w' => e = .returned (.int .i64 (stgE bs.length a s c t)) ∧ MemAt 89 w' p g cap (stgB bs a s c t b) ∧ Kept (· = g) w w' := by
  have HN := hi (nth_any p g cap bs a s c (w.alloc (.cells #[.int .i64 a, .int .i64 s] 30)) (hM.below (bal w _)) ha hs)
  have HM := hi hM
  have HB0 := hi (bal w (.cells #[.int .i64 a, .int .i64 s] 30))
  have HC0 := hi (CB.new w 30 #[.int .i64 a, .int .i64 s])
  have HU := hi (fun W => numbered_any c W)
  have HF := hi (show ∀ W, Calls Try.prog 36 #[.int .i64 5, .int .i64 t] W fun e w' => e = .returned (.bool (fitB 5 t)) ∧ Below W.heap.size W w' from fun W => fits_any 5 (by decide) t W)
  have hno : stgE bs.length a s c t ≠ 0 → stgB bs a s c t b = bs := fun h => by rw [stgB, if_neg h]
  have hgl : g < w.heap.size := hM.bytes.lt
  unfold nthV at HN
  cases h1 : nuB c
  · have e1 : stgE bs.length a s c t = 183 := by
      have : ¬ (0 ≤ c ∧ c < 131072) := by simpa [nuB] using h1
      rw [stgE, if_neg this]
    rw [hno (by rw [e1]; decide), e1]
    rw [h1] at HU
    clear e1 h1 hM ha hs hno HN HF
    go_enter Try.func13, Try.ntmps13
    go_wp2_with (go_at_call 24; ((with_reducible refine (HU.out _).mono ?_); rintro e w1 ⟨rfl, rfl⟩))
    go_ret
    exact ⟨rfl, HM.out.below HB0.out, Kept.of HB0.out⟩
  · rw [h1] at HU
    have hc : 0 ≤ c ∧ c < 131072 := by simpa [nuB] using h1
    cases h2 : fitB 5 t
    · have e1 : stgE bs.length a s c t = 1 := by
        have : ¬ (0 ≤ t ∧ t ≤ 65535) := by simpa [fitB, fM, fB] using h2
        rw [stgE, if_pos hc, if_neg this]
      rw [hno (by rw [e1]; decide), e1]
      rw [h2] at HF
      clear e1 h1 h2 hM ha hs hno HN hc
      go_enter Try.func13, Try.ntmps13
      go_wp2_with (first
        | (go_at_call 24; ((with_reducible refine (HU.out _).mono ?_); rintro e w1 ⟨rfl, rfl⟩))
        | (go_at_call 36; ((with_reducible refine (HF.out _).mono ?_); rintro e w1 ⟨rfl, hb1⟩; have HB1 := hi (HB0.out.more hb1); clear hb1)))
      go_ret
      exact ⟨rfl, HM.out.below HB1.out, Kept.of HB1.out⟩
    · rw [h2] at HF
      have ht : 0 ≤ t ∧ t ≤ 65535 := by simpa [fitB, fM, fB] using h2
      have e0 : stgE bs.length a s c t = tgE bs.length a s c := by rw [stgE, if_pos hc, if_pos ht]
      have HN3 := hi (fun W (hb : Below w.heap.size w W) => nth_any p g cap bs a s c W (hM.below hb) ha hs)
      unfold nthV at HN3
      cases h3 : nthB bs.length a s c
      · have e1 : stgE bs.length a s c t = 183 := by rw [e0]; simp [tgE, h3]
        rw [hno (by rw [e1]; decide), e1]
        rw [h3] at HN3
        have HN2 := hi (show ∀ W, Below w.heap.size w W → Calls Try.prog 26 #[.pointer (some ⟨p, 0, none⟩), .agg #[.int .i64 a, .int .i64 s], .int .i64 c] W fun e w' => e = .returned (.tuple #[.agg #[.int .i64 0, .int .i64 0], .bool false]) ∧ Below W.heap.size W w' from HN3.out)
        clear e1 e0 h1 h2 h3 hM ha hs hno HN hc ht HN3
        go_enter Try.func13, Try.ntmps13
        go_wp2_with (first
          | (go_at_call 24; ((with_reducible refine (HU.out _).mono ?_); rintro e w1 ⟨rfl, rfl⟩))
          | (go_at_call 36; ((with_reducible refine (HF.out _).mono ?_); rintro e w1 ⟨rfl, hb1⟩; have HB1 := hi (HB0.out.more hb1); obtain ⟨q0, q1⟩ := CB.two (HC0.out.below hb1); clear hb1))
          | (go_at_call 26; ((with_reducible refine (HN2.out _ HB1.out).mono ?_); rintro e w2 ⟨rfl, hb2⟩; have HB2 := hi (HB1.out.more hb2); clear hb2)))
        go_ret
        exact ⟨rfl, HM.out.below (HB2.out.alloc HB2.out.size _), Kept.of (HB2.out.alloc HB2.out.size _)⟩
      · have h0 : tgE bs.length a s c = 0 := by simp [tgE, h3]
        obtain ⟨_, hP, hPl⟩ := tgE_zero h0
        have e1 : stgE bs.length a s c t = 0 := by rw [e0, h0]
        have e2 : stgB bs a s c t b = s8 bs (tgP a c) (stgW t b) := by rw [stgB, if_pos e1]
        rw [e2, e1]
        rw [h3] at HN3
        have HN2 := hi (show ∀ W, Below w.heap.size w W → Calls Try.prog 26 #[.pointer (some ⟨p, 0, none⟩), .agg #[.int .i64 a, .int .i64 s], .int .i64 c] W fun e w' => e = .returned (.tuple #[.agg #[.int .i64 (a + 8 * c), .int .i64 8], .bool true]) ∧ Below W.heap.size W w' from HN3.out)
        have HS := hi (fun W hW => store_any p g cap bs (tgP a c) (stgW t b) (a + 8 * c) hP hPl (stgW_lt ht.1 ht.2) W hW)
        obtain ⟨T, rfl⟩ : ∃ T : Nat, t = T := ⟨t.toNat, by omega⟩
        have hof := of_any 5 T (by decide) (by simp [fF]; omega) (by omega)
        have HO := hi (show ∀ W, Calls Try.prog 29 #[.int .i64 5, .int .i64 T] W fun e w' => e = .returned (.int .u64 T) ∧ Below W.heap.size W w' from fun W => by have := hof W; rwa [show ofN 5 T = T by simp [ofN, fF]] at this)
        have hor := or_two T 0 (by omega)
        obtain ⟨y, hy⟩ : ∃ y, a + 8 * c = y := ⟨_, rfl⟩
        rw [hy] at HS HN2
        obtain ⟨bs', hbs'⟩ : ∃ l, s8 bs (tgP a c) (stgW (T : Int) b) = l := ⟨_, rfl⟩
        rw [hbs'] at HS ⊢
        clear e0 e1 e2 h0 h1 h2 h3 hM ha hs hno HN hc ht HN3 hP hPl hof hy hbs'
        cases b
        · have hS2 := hi (show ∀ W, MemAt 89 W p g cap bs → Calls Try.prog 28 #[.pointer (some ⟨p, 0, none⟩), .agg #[.int .i64 y, .int .i64 8], .int .u64 0] W fun e w' => e = .returned (.int .i64 0) ∧ MemAt 89 w' p g cap bs' ∧ Kept (· = g) W w' from HS.out)
          clear HS
          go_enter Try.func13, Try.ntmps13
          go_wp2_with (first
            | (go_at_call 24; ((with_reducible refine (HU.out _).mono ?_); rintro e w1 ⟨rfl, rfl⟩))
            | (go_at_call 36; ((with_reducible refine (HF.out _).mono ?_); rintro e w1 ⟨rfl, hb1⟩; have HB1 := hi (HB0.out.more hb1); obtain ⟨q0, q1⟩ := CB.two (HC0.out.below hb1); clear hb1))
            | (go_at_call 26; ((with_reducible refine (HN2.out _ HB1.out).mono ?_); rintro e w2 ⟨rfl, hb2⟩; have HB2 := hi (HB1.out.more hb2); clear hb2))
            | (go_at_call 28; ((with_reducible refine (hS2.out _ (HM.out.below (HB2.out.alloc HB2.out.size _))).mono ?_); rintro e w3 ⟨rfl, hm3, hk3⟩; have HE := hi (And.intro hm3 (Kept.more (HB2.out.alloc HB2.out.size _) hk3)); clear hm3 hk3)))
          go_ret
          exact ⟨rfl, HE.out⟩
        · have e4 : stgW (T : Int) true = 9223372036854775808 + T := by simp [stgW]
          rw [e4] at HS
          clear e4
          obtain ⟨u, hu⟩ : ∃ u, 9223372036854775808 + T = u := ⟨_, rfl⟩
          rw [hu] at HS hor
          clear hu
          go_enter Try.func13, Try.ntmps13
          go_wp2_with (first
            | (go_at_call 24; ((with_reducible refine (HU.out _).mono ?_); rintro e w1 ⟨rfl, rfl⟩))
            | (go_at_call 36; ((with_reducible refine (HF.out _).mono ?_); rintro e w1 ⟨rfl, hb1⟩; have HB1 := hi (HB0.out.more hb1); obtain ⟨q0, q1⟩ := CB.two (HC0.out.below hb1); clear hb1))
            | (go_at_call 26; ((with_reducible refine (HN2.out _ HB1.out).mono ?_); rintro e w2 ⟨rfl, hb2⟩; have HB2 := hi (HB1.out.more hb2); have HY := hi (CB.new w2 30 #[.int .i64 y, .int .i64 8]); clear hb2)))
          refine wp_region_noPanic ?_
          refine wp_region_last_drew (S := (fun V => V.cell? ⟨w2.heap.size, 0, none⟩ = some (.int .i64 y) ∧ V.cell? ⟨w2.heap.size, 1, none⟩ = some (.int .i64 8))) [] (by kernel_rfl) (CB.two HY.out.drew) (fun hHeld => ?_)
          (try simp only [Array.replicate_succ, Array.replicate_zero, List.push_toArray, List.nil_append, List.cons_append])
          refine wpAnyF_take (i := 0) (v := ?_) (by kernel_rfl) (by kernel_rfl) rfl (by kernel_rfl) (by kernel_rfl) (by kernel_rfl) (fun _ _ _ h => h) (Or.inl ⟨by rfl, ?_⟩) (by assumption) ?_
          rotate_left
          · intro w' hSw; (try dsimp only at hSw); clear hSw; go_simp; (try with_reducible rfl)
          (try simp only [Act.put, List.getElem_toArray, List.getElem_cons_zero, List.getElem_cons_succ, List.setIfInBounds_toArray, List.set_cons_zero, List.set_cons_succ])
          refine wpAnyF_take (i := 1) (v := ?_) (by kernel_rfl) (by kernel_rfl) rfl (by kernel_rfl) (by kernel_rfl) (by kernel_rfl) (fun _ _ _ h => h) (Or.inl ⟨by rfl, ?_⟩) (by assumption) ?_
          rotate_left
          · intro w' hSw; (try dsimp only at hSw); obtain ⟨y0, y1⟩ := hSw; go_simp; (try with_reducible rfl)
          (try simp only [Act.put, List.getElem_toArray, List.getElem_cons_zero, List.getElem_cons_succ, List.setIfInBounds_toArray, List.set_cons_zero, List.set_cons_succ])
          refine wpAnyF_take (i := 2) (v := ?_) (by kernel_rfl) (by kernel_rfl) rfl (by kernel_rfl) (by kernel_rfl) (by kernel_rfl) (fun _ _ _ h => h) (Or.inl ⟨by rfl, ?_⟩) (by assumption) ?_
          rotate_left
          · intro w' hSw; (try dsimp only at hSw); clear hSw; go_simp; (try with_reducible rfl)
          (try simp only [Act.put, List.getElem_toArray, List.getElem_cons_zero, List.getElem_cons_succ, List.setIfInBounds_toArray, List.set_cons_zero, List.set_cons_succ])
          refine wpAnyF_ready (rs := [3]) (by kernel_rfl) (by simp) ?_
          refine AllReadyF.cons rfl (fun KK hKK => ?_) AllReadyF.nil
          go_simp
          ((with_reducible refine (HO.out _).mono ?_); rintro e' w3 ⟨rfl, hbb⟩; have HY3 := hi (And.intro (HY.out.drew.below hbb) (((HB2.out.alloc HB2.out.size (.cells #[.int .i64 y, .int .i64 8] 30)).more (below_dr _)).more hbb)); clear hbb)
          (try go_simp)
          refine hKK.out _ _ (CB.two HY3.out.1) (fun hHeld => ?_)
          clear hKK KK
          (try simp only [Act.put, List.getElem_toArray, List.getElem_cons_zero, List.getElem_cons_succ, List.setIfInBounds_toArray, List.set_cons_zero, List.set_cons_succ])
          refine wpAnyF_take (i := 4) (v := ?_) (by kernel_rfl) (by kernel_rfl) rfl (by kernel_rfl) (by kernel_rfl) (by kernel_rfl) (fun _ _ _ h => h) (Or.inl ⟨by rfl, ?_⟩) (by assumption) ?_
          rotate_left
          · intro w' hSw; (try dsimp only at hSw); clear hSw; go_simp; (try with_reducible rfl)
          (try simp only [Act.put, List.getElem_toArray, List.getElem_cons_zero, List.getElem_cons_succ, List.setIfInBounds_toArray, List.set_cons_zero, List.set_cons_succ])
          refine wpAnyF_ready (rs := [5]) (by kernel_rfl) (by simp) ?_
          refine AllReadyF.cons rfl (fun KK hKK => ?_) AllReadyF.nil
          go_simp
          ((with_reducible refine (HS.out _ (HM.out.below HY3.out.2)).mono ?_); rintro e' w4 ⟨rfl, hm4, hk4⟩; have HE := hi (And.intro (HY3.out.1.keptB hk4 (fun e => by have := HB2.out.size; omega)) (And.intro hm4 (Kept.more HY3.out.2 hk4))); clear hm4 hk4)
          (try go_simp)
          refine hKK.out _ _ (CB.two HE.out.1) (fun hHeld => ?_)
          clear hKK KK
          (try simp only [Act.put, List.getElem_toArray, List.getElem_cons_zero, List.getElem_cons_succ, List.setIfInBounds_toArray, List.set_cons_zero, List.set_cons_succ])
          refine wpAnyF_take (i := 6) (v := ?_) (by kernel_rfl) (by kernel_rfl) rfl (by kernel_rfl) (by kernel_rfl) (by kernel_rfl) (fun _ _ _ h => h) (Or.inl ⟨by rfl, ?_⟩) (by assumption) ?_
          rotate_left
          · intro w' hSw; (try dsimp only at hSw); clear hSw; go_simp; (try with_reducible rfl)
          (try simp only [Act.put, List.getElem_toArray, List.getElem_cons_zero, List.getElem_cons_succ, List.setIfInBounds_toArray, List.set_cons_zero, List.set_cons_succ])
          refine wpAnyF_done (by kernel_rfl) ?_ _
          refine NoPanic.normal ?_
          go_wp2
          go_ret
          exact ⟨rfl, HE.out.2⟩

/-- What an event's entry answers. -/
def deV (n : Nat) (d : Dv) (ev : Int) : Value := if evE n d ev = 0 then .tuple #[.agg #[.int .i64 (d.at_ + 8 * ev), .int .i64 8], .int .i64 0] else .tuple #[.agg #[.int .i64 0, .int .i64 0], .int .i64 (evE n d ev)]
set_option maxRecDepth 100000 in
set_option maxHeartbeats 4000000 in
theorem dent_any (p g cap : Nat) (bs : List Nat) (d : Dv) (hF : d.Fair) (ev : Int) (w : World) (hM : MemAt 89 w p g cap bs) :
    Calls Try.prog 38 #[d.v, .pointer (some ⟨p, 0, none⟩), .int .i64 ev] w fun e w' => e = .returned (deV bs.length d ev) ∧ Below w.heap.size w w' := by
  have HM := hi hM
  have hlen := hM.len
  have HB0 := hi (bal_two w (.cells (Dv.cs d) 36) (.cells #[.int .i64 0, .int .i64 0] 30))
  have HC0 := hi (And.intro ((CB.new w 36 (Dv.cs d)).alloc (.cells #[.int .i64 0, .int .i64 0] 30)) (cb_second (w := w) (o := .cells (Dv.cs d) 36) (cs := #[.int .i64 0, .int .i64 0]) (t := 30)))
  have HE := hi (fun W => events_any d W)
  have HV := hi (show deV bs.length d ev = if evE bs.length d ev = 0 then .tuple #[.agg #[.int .i64 (d.at_ + 8 * ev), .int .i64 8], .int .i64 0] else .tuple #[.agg #[.int .i64 0, .int .i64 0], .int .i64 (evE bs.length d ev)] from rfl)
  have HEV := hi (show evE bs.length d ev = if d.ok = true ∧ 0 ≤ ev ∧ ev < evN d then (if holdsB bs.length (d.at_ + 8 * ev) 8 = true then 0 else 180) else 182 from rfl)
  obtain ⟨rv, hrv⟩ : ∃ v, deV bs.length d ev = v := ⟨_, rfl⟩
  obtain ⟨re, hre⟩ : ∃ v, evE bs.length d ev = v := ⟨_, rfl⟩
  have hnl := evN_le d
  obtain ⟨N, hN⟩ : ∃ N, evN d = N := ⟨_, rfl⟩
  rw [hrv] at HV ⊢
  rw [hre] at HV HEV
  rw [hN] at HE HEV hnl
  have hat := hF.a
  obtain ⟨o, b, a⟩ := d
  dsimp only at HC0 HE HV HEV HB0 hat ⊢
  clear hrv hre hN hF
  cases o
  · have e1 : re = 182 := by have := HEV.out; simpa using this
    have e2 : rv = .tuple #[.agg #[.int .i64 0, .int .i64 0], .int .i64 182] := by have := HV.out; rw [e1] at this; simpa using this
    subst e2
    clear HV HEV e1 hM hlen hat hnl HE
    obtain ⟨a0, a1, a2⟩ := CB.three HC0.out.1
    obtain ⟨q0, q1⟩ := CB.two HC0.out.2
    have qf := HC0.out.2.frozen
    go_enter Try.func38, Try.ntmps38
    go_wp2
    exact bodyPost_ret (results_wt rfl _ _ (w.heap.size + 1) _ _ _ rfl rfl HC0.out.2) rfl ⟨rfl, HB0.out⟩
  · by_cases h0 : 0 ≤ ev
    · by_cases h1 : ev < (N : Int)
      · have hw8 : IntKind.i64.wrap (8 * ev) = 8 * ev := by rw [IntKind.wrap_i64]; omega
        obtain ⟨x, hx⟩ : ∃ x, IntKind.i64.wrap (a + 8 * ev) = x := ⟨_, rfl⟩
        have hxb : i64B x := by rw [← hx]; have := IntKind.wrap_i64 (a + 8 * ev); constructor <;> omega
        have hxe : holdsB bs.length x 8 = holdsB bs.length (a + 8 * ev) 8 := by
          have := IntKind.wrap_i64 (a + 8 * ev)
          rw [hx] at this
          obtain ⟨ha1, ha2⟩ := hat
          simp only [holdsB, decide_eq_decide]; omega
        have hxv : holdsB bs.length (a + 8 * ev) 8 = true → x = a + 8 * ev := fun h => by
          have := IntKind.wrap_i64 (a + 8 * ev)
          rw [hx] at this
          simp only [holdsB, decide_eq_true_eq] at h
          omega
        have HH := hi (fun W (hW : MemAt 89 W p g cap bs) => holds_any p g cap bs x 8 W hW hxb.1 hxb.2 (by decide) (by decide))
        rw [hxe] at HH
        unfold win at HH
        obtain ⟨hb, hhb⟩ : ∃ v, holdsB bs.length (a + 8 * ev) 8 = v := ⟨_, rfl⟩
        rw [hhb] at HH HEV hxv
        have e1 : re = if hb = true then 0 else 180 := by have := HEV.out; simpa [h0, h1] using this
        clear HEV hhb hxe hxb hM hlen hat
        obtain ⟨a0, a1, a2⟩ := CB.three HC0.out.1
        have hd1 : decide (ev < (N : Int)) = true := by simpa using h1
        have hd2 : decide ((N : Int) ≤ ev) = false := by simpa using h1
        cases hb
        · have e2 : rv = .tuple #[.agg #[.int .i64 0, .int .i64 0], .int .i64 180] := by have := HV.out; rw [e1] at this; simpa using this
          subst e2
          clear HV e1 hxv h1 hnl
          go_enter Try.func38, Try.ntmps38
          go_wp2_with (first
            | (go_at_call 15; ((with_reducible refine (HE.out _).mono ?_); rintro e w1 ⟨rfl, hb1⟩; have HC1 := hi (And.intro (HC0.out.1.below hb1) (HC0.out.2.below hb1)); have HB1 := hi (HB0.out.more hb1); clear hb1 a0 a1 a2; obtain ⟨a0, a1, a2⟩ := CB.three HC1.out.1))
            | (go_at_call 25; ((with_reducible refine (HH.out _ (HM.out.below (HB1.out.alloc HB1.out.size _))).mono ?_); rintro e w2 ⟨rfl, hb2⟩; have HR := hi ((HC1.out.2.alloc _).below hb2); have HB2 := hi ((HB1.out.alloc HB1.out.size _).more hb2); clear hb2 a0 a1 a2; obtain ⟨q0, q1⟩ := CB.two HR.out; have qf := HR.out.frozen; have hz := HR.out.lt)))
          exact bodyPost_ret (results_wt rfl _ _ (w.heap.size + 1) _ _ _ rfl rfl (HR.out.set2 _ _)) rfl ⟨rfl, below_s2 HB2.out (by omega) _ _⟩
        · have hxw := hxv rfl
          have e2 : rv = .tuple #[.agg #[.int .i64 x, .int .i64 8], .int .i64 0] := by have := HV.out; rw [e1, ← hxw] at this; simpa using this
          clear hxw
          subst e2
          clear HV e1 hxv h1 hnl
          go_enter Try.func38, Try.ntmps38
          go_wp2_with (first
            | (go_at_call 15; ((with_reducible refine (HE.out _).mono ?_); rintro e w1 ⟨rfl, hb1⟩; have HC1 := hi (And.intro (HC0.out.1.below hb1) (HC0.out.2.below hb1)); have HB1 := hi (HB0.out.more hb1); clear hb1 a0 a1 a2; obtain ⟨a0, a1, a2⟩ := CB.three HC1.out.1))
            | (go_at_call 25; ((with_reducible refine (HH.out _ (HM.out.below (HB1.out.alloc HB1.out.size _))).mono ?_); rintro e w2 ⟨rfl, hb2⟩; have HR := hi ((HC1.out.2.alloc _).below hb2); have HY := hi ((CB.new w1 30 #[.int .i64 x, .int .i64 8]).below hb2); have HB2 := hi ((HB1.out.alloc HB1.out.size _).more hb2); clear hb2 a0 a1 a2; obtain ⟨q0, q1⟩ := CB.two HR.out; obtain ⟨y0, y1⟩ := CB.two HY.out; have qf := HR.out.frozen; have hz := HR.out.lt)))
          exact bodyPost_ret (results_wt rfl _ _ (w.heap.size + 1) _ _ _ rfl rfl (HR.out.set2 _ _)) rfl ⟨rfl, below_s2 HB2.out (by omega) _ _⟩
      · have e1 : re = 182 := by have := HEV.out; simpa [h1] using this
        have e2 : rv = .tuple #[.agg #[.int .i64 0, .int .i64 0], .int .i64 182] := by have := HV.out; rw [e1] at this; simpa using this
        subst e2
        have hd2 : decide ((N : Int) ≤ ev) = true := by simpa using h1
        clear HV HEV e1 hM hlen hat hnl h1
        obtain ⟨a0, a1, a2⟩ := CB.three HC0.out.1
        go_enter Try.func38, Try.ntmps38
        go_wp2_with (go_at_call 15; ((with_reducible refine (HE.out _).mono ?_); rintro e w1 ⟨rfl, hb1⟩; have HR := hi (HC0.out.2.below hb1); have HB1 := hi (HB0.out.more hb1); clear hb1 a0 a1 a2; obtain ⟨q0, q1⟩ := CB.two HR.out; have qf := HR.out.frozen; have hz := HR.out.lt))
        exact bodyPost_ret (results_wt rfl _ _ (w.heap.size + 1) _ _ _ rfl rfl (HR.out.set2 _ _)) rfl ⟨rfl, below_s2 HB1.out (by omega) _ _⟩
    · have e1 : re = 182 := by have := HEV.out; simpa [h0] using this
      have e2 : rv = .tuple #[.agg #[.int .i64 0, .int .i64 0], .int .i64 182] := by have := HV.out; rw [e1] at this; simpa using this
      subst e2
      have hd0 : ev < 0 := by omega
      clear HV HEV e1 hM hlen hat hnl HE h0
      obtain ⟨a0, a1, a2⟩ := CB.three HC0.out.1
      obtain ⟨q0, q1⟩ := CB.two HC0.out.2
      have qf := HC0.out.2.frozen
      go_enter Try.func38, Try.ntmps38
      go_wp2
      exact bodyPost_ret (results_wt rfl _ _ (w.heap.size + 1) _ _ _ rfl rfl HC0.out.2) rfl ⟨rfl, HB0.out⟩

end Go.Proofs.Ytjcjblmaceooaaa
