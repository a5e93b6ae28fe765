/-
  The document's Store and Load at every call.
-/
import Derived.Test.YtfnokpajendlmaaCmEi
import Derived.Test.YtfnokpajendlmaaCmEg
namespace Go.Proofs.Ytfnokpajendlmaa
open Go.ChangeShapes Go.WideShapes Go.ChangeAt Go.RowKit
set_option linter.unusedVariables false
set_option linter.unusedSimpArgs false

/-- What the document's Store keeps through its loop. -/
structure RsI (w : World) (p g cap B : Nat) (a s : Int) (ws : Ws) (bs : List Nat) (W : World) : Prop where
  mem : MemAt 60 W p g cap bs
  box : CB W w.heap.size 23 #[.int .i64 a, .int .i64 s]
  ws : CB W B 94 (Ws.cs ws)
  kept : Kept (· = g) w W
theorem RsI.write {w : World} {p g cap B : Nat} {a s : Int} {ws : Ws} {bs cs : List Nat} {W W' : World} (h : RsI w p g cap B a s ws bs W) (hg : g < w.heap.size) (hB : w.heap.size < B) (hm : MemAt 60 W' p g cap cs) (k : Kept (· = g) W W') : RsI w p g cap B a s ws cs W' :=
  ⟨hm, h.box.keptB k (by show ¬ _ = g; omega), h.ws.keptB k (by show ¬ _ = g; omega), h.kept.trans k⟩
theorem RsI.later {w : World} {p g cap B : Nat} {a s : Int} {ws : Ws} {bs : List Nat} {W W' : World} (h : RsI w p g cap B a s ws bs W) (k : Below W.heap.size W W') : RsI w p g cap B a s ws bs W' :=
  ⟨h.mem.below k, h.box.below k, h.ws.below k, h.kept.below k⟩

set_option maxRecDepth 100000 in
set_option maxHeartbeats 8000000 in
theorem rstore_any (p g cap : Nat) (bs : List Nat) (a s off : Int) (c : Cm) (w : World) (hM : MemAt 60 w p g cap bs) (ha : i64B a) (hs : i64B s) (ho : i64B off) (hF : c.Fair) :
    Calls Try.prog 39 #[.pointer (some ⟨p, 0, none⟩), win a s, .int .i64 off, c.v] w fun e w' => e = .returned (.int .i64 (stE bs.length a s off (validC c))) ∧ MemAt 60 w' p g cap (stL bs a s off c) ∧ Kept (· = g) w w' := by
  have HE := hi (fun W => renc_any c hF W)
  have HHL := hi (fun W (hb : Below w.heap.size w W) => rholds_any p g cap bs a s W (hM.below hb) ha.1 ha.2 hs.1 hs.2)
  have HM := hi hM
  have hgl : g < w.heap.size := hM.bytes.lt
  have hln := hM.len
  have HB2 := hi (show ∀ W, Below ((w.alloc (.cells #[.int .i64 a, .int .i64 s] 23)).alloc (.cells (Cm.cs c) 36)).heap.size ((w.alloc (.cells #[.int .i64 a, .int .i64 s] 23)).alloc (.cells (Cm.cs c) 36)) W → ∀ en : Ws, CB (W.alloc (.cells (Ws.cs en) 94)) w.heap.size 23 #[.int .i64 a, .int .i64 s] ∧ Below w.heap.size w (W.alloc (.cells (Ws.cs en) 94)) ∧ w.heap.size < W.heap.size from fun W hb en =>
    ⟨(((CB.new w _ _).alloc _).below hb).alloc _, ((bal_two w _ _).trans (hb.mono (by simp; omega))).alloc (by have := hb.size; simp at this; omega) _, by have := hb.size; simp at this; omega⟩)
  cases hv : validC c
  · have hL : stL bs a s off c = bs := by rw [stL, hv]; rfl
    rw [hL, show stE bs.length a s off false = 160 from rfl]
    rw [hv] at HE
    obtain ⟨en, hen⟩ : ∃ en, encW c = en := ⟨_, rfl⟩
    rw [hen] at HE
    clear hv hL hen hF hM ha hs ho HHL
    obtain ⟨c1, c2, c3, c4, c5, c6, c7, c8, c9⟩ := c
    unfold win
    dsimp only [Cm.v, Cm.cs] at HE HB2 ⊢
    go_enter Try.func39, Try.ntmps39
    go_wp2_with (go_at_call 57; ((with_reducible refine (HE.out _).mono ?_); rintro e w1 ⟨rfl, hb1⟩; have HB := hi (HB2.out _ hb1 en).2.1; clear hb1))
    go_ret
    exact ⟨rfl, HM.out.below HB.out, Kept.of HB.out⟩
  · have hwl := words_lt hv
    rw [hv, show encW c = wordsC c by rw [encW, if_pos hv]] at HE
    have HL := hi (show stL bs a s off c = if entOk bs.length a s off = true then stB bs (a + off) (wordsC c) 4 else bs by rw [stL, hv, Bool.true_and])
    have HSE := hi (show stE bs.length a s off true = if entOk bs.length a s off = true then 0 else 42 from rfl)
    have HEO := hi (ent_alt (n := bs.length) (a := a) (s := s) (off := off) hln)
    obtain ⟨ws, hws⟩ : ∃ ws, wordsC c = ws := ⟨_, rfl⟩
    rw [hws] at HE HL hwl
    have HRS := hi (fun (h : entOk bs.length a s off = true) k hk => rst_eq (ws := ws) hln h k hk)
    have HWB := hi hwl
    obtain ⟨sl, hsl⟩ : ∃ v, stL bs a s off c = v := ⟨_, rfl⟩
    obtain ⟨se, hse⟩ : ∃ v, stE bs.length a s off true = v := ⟨_, rfl⟩
    obtain ⟨eo, heo⟩ : ∃ v, entOk bs.length a s off = v := ⟨_, rfl⟩
    obtain ⟨hb, hhb⟩ : ∃ v, holdsB bs.length a s = v := ⟨_, rfl⟩
    rw [hsl, heo] at HL
    rw [hse, heo] at HSE
    rw [heo, hhb] at HEO
    rw [heo] at HRS
    rw [hhb] at HHL
    rw [hsl, hse]
    have HH0 := hi (show hb = true → 0 ≤ s ∧ s ≤ 131072 from fun h => by rw [← hhb] at h; simp only [holdsB, decide_eq_true_eq] at h; omega)
    have HAB := hi (And.intro ha (And.intro hs ho))
    clear hws hsl hse heo hhb hv hwl ha hs ho hF hM
    obtain ⟨c1, c2, c3, c4, c5, c6, c7, c8, c9⟩ := c
    unfold win at HHL ⊢
    dsimp only [Cm.v, Cm.cs] at HE HB2 ⊢
    cases hb
    · obtain rfl : eo = false := by have := HEO.out; simpa using this
      obtain rfl : sl = bs := by have := HL.out; simpa using this
      obtain rfl : se = 42 := by have := HSE.out; simpa using this
      clear HRS HEO HL HSE HH0
      go_enter Try.func39, Try.ntmps39
      go_wp2_with (first
        | (go_at_call 57; ((with_reducible refine (HE.out _).mono ?_); rintro e w1 ⟨rfl, hb1⟩; have H1 := hi (And.intro (HB2.out _ hb1 ws).1 (And.intro (HB2.out _ hb1 ws).2.1 (And.intro (HB2.out _ hb1 ws).2.2 (And.intro (CB.new w1 94 (Ws.cs ws)).lt (CB.new w1 94 (Ws.cs ws)))))); obtain ⟨q0, q1⟩ := CB.two H1.out.1; clear hb1))
        | (go_at_call 43; ((with_reducible refine (HHL.out _ H1.out.2.1).mono ?_); rintro e w2 ⟨rfl, hb2⟩; replace H1 := hi (And.intro (H1.out.1.below hb2) (And.intro (H1.out.2.1.trans (hb2.mono H1.out.2.1.size)) (And.intro H1.out.2.2.1 (And.intro (Nat.lt_of_lt_of_le H1.out.2.2.2.1 hb2.size) (H1.out.2.2.2.2.below hb2))))); have H2 := hi (And.intro H1.out.1 H1.out.2.1); clear hb2 q0 q1; obtain ⟨q0, q1⟩ := CB.two H2.out.1)))
      go_ret
      exact ⟨rfl, HM.out.below H2.out.2, Kept.of H2.out.2⟩
    · have hs2 := HH0.out rfl
      have hw32 : RowKit.wrap64 (s - 32) = s - 32 := by unfold RowKit.wrap64; omega
      by_cases h8 : off.tmod 8 = 0
      · have h8b : (off.tmod 8 != 0) = false := by simpa using h8
        by_cases h0 : off < 0
        · obtain rfl : eo = false := by have := HEO.out; rw [this]; simp; omega
          obtain rfl : sl = bs := by have := HL.out; simpa using this
          obtain rfl : se = 42 := by have := HSE.out; simpa using this
          clear HRS HEO HL HSE HH0 h8
          go_enter Try.func39, Try.ntmps39
          go_wp2_with (first
            | (go_at_call 57; ((with_reducible refine (HE.out _).mono ?_); rintro e w1 ⟨rfl, hb1⟩; have H1 := hi (And.intro (HB2.out _ hb1 ws).1 (And.intro (HB2.out _ hb1 ws).2.1 (And.intro (HB2.out _ hb1 ws).2.2 (And.intro (CB.new w1 94 (Ws.cs ws)).lt (CB.new w1 94 (Ws.cs ws)))))); obtain ⟨q0, q1⟩ := CB.two H1.out.1; clear hb1))
            | (go_at_call 43; ((with_reducible refine (HHL.out _ H1.out.2.1).mono ?_); rintro e w2 ⟨rfl, hb2⟩; replace H1 := hi (And.intro (H1.out.1.below hb2) (And.intro (H1.out.2.1.trans (hb2.mono H1.out.2.1.size)) (And.intro H1.out.2.2.1 (And.intro (Nat.lt_of_lt_of_le H1.out.2.2.2.1 hb2.size) (H1.out.2.2.2.2.below hb2))))); have H2 := hi (And.intro H1.out.1 H1.out.2.1); clear hb2 q0 q1; obtain ⟨q0, q1⟩ := CB.two H2.out.1)))
          go_ret
          exact ⟨rfl, HM.out.below H2.out.2, Kept.of H2.out.2⟩
        · have h8c : (off % 8 != 0) = false := by rw [Int.tmod_eq_emod_of_nonneg (by omega)] at h8; simpa using h8
          by_cases hg : s - 32 < off
          · obtain rfl : eo = false := by have := HEO.out; rw [this]; simp; omega
            obtain rfl : sl = bs := by have := HL.out; simpa using this
            obtain rfl : se = 42 := by have := HSE.out; simpa using this
            clear HRS HEO HL HSE HH0 h8
            go_enter Try.func39, Try.ntmps39
            go_wp2_with (first
              | (go_at_call 57; ((with_reducible refine (HE.out _).mono ?_); rintro e w1 ⟨rfl, hb1⟩; have H1 := hi (And.intro (HB2.out _ hb1 ws).1 (And.intro (HB2.out _ hb1 ws).2.1 (And.intro (HB2.out _ hb1 ws).2.2 (And.intro (CB.new w1 94 (Ws.cs ws)).lt (CB.new w1 94 (Ws.cs ws)))))); obtain ⟨q0, q1⟩ := CB.two H1.out.1; clear hb1))
              | (go_at_call 43; ((with_reducible refine (HHL.out _ H1.out.2.1).mono ?_); rintro e w2 ⟨rfl, hb2⟩; replace H1 := hi (And.intro (H1.out.1.below hb2) (And.intro (H1.out.2.1.trans (hb2.mono H1.out.2.1.size)) (And.intro H1.out.2.2.1 (And.intro (Nat.lt_of_lt_of_le H1.out.2.2.2.1 hb2.size) (H1.out.2.2.2.2.below hb2))))); have H2 := hi (And.intro H1.out.1 H1.out.2.1); clear hb2 q0 q1; obtain ⟨q0, q1⟩ := CB.two H2.out.1)))
            go_ret
            exact ⟨rfl, HM.out.below H2.out.2, Kept.of H2.out.2⟩
          · obtain rfl : eo = true := by have := HEO.out; rw [this]; simp [h8]; omega
            obtain rfl : sl = stB bs (a + off) ws 4 := by have := HL.out; simpa using this
            obtain rfl : se = 0 := by have := HSE.out; simpa using this
            have HR4 := hi (HRS.out rfl 4 (by omega))
            clear HRS HEO HL HSE HH0 h8
            go_enter Try.func39, Try.ntmps39
            go_wp2_with (first
              | (go_at_call 57; ((with_reducible refine (HE.out _).mono ?_); rintro e w1 ⟨rfl, hb1⟩; have H1 := hi (And.intro (HB2.out _ hb1 ws).1 (And.intro (HB2.out _ hb1 ws).2.1 (And.intro (HB2.out _ hb1 ws).2.2 (And.intro (CB.new w1 94 (Ws.cs ws)).lt (CB.new w1 94 (Ws.cs ws)))))); obtain ⟨q0, q1⟩ := CB.two H1.out.1; clear hb1))
              | (go_at_call 43; ((with_reducible refine (HHL.out _ H1.out.2.1).mono ?_); rintro e w2 ⟨rfl, hb2⟩; replace H1 := hi (And.intro (H1.out.1.below hb2) (And.intro (H1.out.2.1.trans (hb2.mono H1.out.2.1.size)) (And.intro H1.out.2.2.1 (And.intro (Nat.lt_of_lt_of_le H1.out.2.2.2.1 hb2.size) (H1.out.2.2.2.2.below hb2))))); have H2 := hi (And.intro H1.out.1 H1.out.2.1); clear hb2 q0 q1; obtain ⟨q0, q1⟩ := CB.two H2.out.1)))
            have HS0 := hi (show RsI w p g cap w1.heap.size a s ws (rstB bs a s off ws 0) w2 from ⟨HM.out.below H2.out.2, H2.out.1, H1.out.2.2.2.2, Kept.of H2.out.2⟩)
            have hw1 : w.heap.size < w1.heap.size := H1.out.2.2.1
            clear H1 H2
            go_loopw [11] (fun i wr => ∃ k : Nat, k ≤ 4 ∧ i = .int .i64 k ∧ Hi (RsI w p g cap w1.heap.size a s ws (rstB bs a s off ws k) wr)) (fun i _ => 4 - (intOf i).toNat)
            case atStart => exact ⟨0, by omega, rfl, HS0⟩
            case round =>
              obtain ⟨k, hk4, rfl, HJ⟩ := hrel
              by_cases hlt : k < 4
              · have x1 : (k : Int) < 4 := by omega
                have e1 : RowKit.wrap64 (8 * (k : Int)) = 8 * (k : Int) := by unfold RowKit.wrap64; omega
                have e2 : RowKit.wrap64 (off + 8 * (k : Int)) = off + 8 * (k : Int) := by unfold RowKit.wrap64; omega
                have HWR := hi (fun W (hm : MemAt 60 W p g cap (rstB bs a s off ws k)) => rwrite_any p g cap (rstB bs a s off ws k) a s (off + 8 * (k : Int)) 8 (ws k) W hm HAB.out.1.1 HAB.out.1.2 HAB.out.2.1.1 HAB.out.2.1.2 (HWB.out k))
                unfold win at HWR
                have e3 : IntKind.i64.wrap (off + IntKind.i64.wrap (8 * (k : Int))) = off + 8 * (k : Int) := by rw [IntKind.wrap_i64, IntKind.wrap_i64]; omega
                rw [← e3] at HWR
                clear e3
                go_wp2
                have HC3 := CB.two HJ.out.box
                refine wp_region_noPanic ?_
                refine wp_region_last_drew (S := (fun w' => w'.cell? ⟨w.heap.size, 0, none⟩ = some (.int .i64 a) ∧ w'.cell? ⟨w.heap.size, 1, none⟩ = some (.int .i64 s) ∧ w'.cell? ⟨w1.heap.size, k, none⟩ = some (.int .u64 (ws k)))) [] (by kernel_rfl) ⟨HC3.1, HC3.2, HJ.out.ws.ws hlt⟩ (fun hHeld => ?_)
                (try simp only [Array.replicate_succ, Array.replicate_zero, List.push_toArray, List.nil_append, List.cons_append])
                refine wpAnyF_take (i := 0) (v := ?_) (by kernel_rfl) (by kernel_rfl) rfl (by kernel_rfl) (by kernel_rfl) (by kernel_rfl) (fun _ _ _ h => h) (Or.inl ⟨by rfl, ?_⟩) (by assumption) ?_
                rotate_left
                · intro w' hSw; (try dsimp only at hSw); clear hSw; go_simp; (try with_reducible rfl)
                (try simp only [Act.put, List.getElem_toArray, List.getElem_cons_zero, List.getElem_cons_succ, List.setIfInBounds_toArray, List.set_cons_zero, List.set_cons_succ])
                refine wpAnyF_take (i := 1) (v := ?_) (by kernel_rfl) (by kernel_rfl) rfl (by kernel_rfl) (by kernel_rfl) (by kernel_rfl) (fun _ _ _ h => h) (Or.inl ⟨by rfl, ?_⟩) (by assumption) ?_
                rotate_left
                · intro w' hSw; (try dsimp only at hSw); obtain ⟨q0, q1, _q2⟩ := hSw; clear _q2; go_simp; (try with_reducible rfl)
                (try simp only [Act.put, List.getElem_toArray, List.getElem_cons_zero, List.getElem_cons_succ, List.setIfInBounds_toArray, List.set_cons_zero, List.set_cons_succ])
                refine wpAnyF_take (i := 2) (v := ?_) (by kernel_rfl) (by kernel_rfl) rfl (by kernel_rfl) (by kernel_rfl) (by kernel_rfl) (fun _ _ _ h => h) (Or.inl ⟨by rfl, ?_⟩) (by assumption) ?_
                rotate_left
                · intro w' hSw; (try dsimp only at hSw); clear hSw; go_simp; (try with_reducible rfl)
                (try simp only [Act.put, List.getElem_toArray, List.getElem_cons_zero, List.getElem_cons_succ, List.setIfInBounds_toArray, List.set_cons_zero, List.set_cons_succ])
                refine wpAnyF_take (i := 3) (v := ?_) (by kernel_rfl) (by kernel_rfl) rfl (by kernel_rfl) (by kernel_rfl) (by kernel_rfl) (fun _ _ _ h => h) (Or.inl ⟨by rfl, ?_⟩) (by assumption) ?_
                rotate_left
                · intro w' hSw; (try dsimp only at hSw); clear hSw; go_simp; (try with_reducible rfl)
                (try simp only [Act.put, List.getElem_toArray, List.getElem_cons_zero, List.getElem_cons_succ, List.setIfInBounds_toArray, List.set_cons_zero, List.set_cons_succ])
                refine wpAnyF_take (i := 4) (v := ?_) (by kernel_rfl) (by kernel_rfl) rfl (by kernel_rfl) (by kernel_rfl) (by kernel_rfl) (fun _ _ _ h => h) (Or.inl ⟨by rfl, ?_⟩) (by assumption) ?_
                rotate_left
                · intro w' hSw; (try dsimp only at hSw); clear hSw; go_simp; (try with_reducible rfl)
                (try simp only [Act.put, List.getElem_toArray, List.getElem_cons_zero, List.getElem_cons_succ, List.setIfInBounds_toArray, List.set_cons_zero, List.set_cons_succ])
                refine wpAnyF_take (i := 5) (v := ?_) (by kernel_rfl) (by kernel_rfl) rfl (by kernel_rfl) (by kernel_rfl) (by kernel_rfl) (fun _ _ _ h => h) (Or.inl ⟨by rfl, ?_⟩) (by assumption) ?_
                rotate_left
                · intro w' hSw; (try dsimp only at hSw); clear hSw; go_simp; (try with_reducible rfl)
                (try simp only [Act.put, List.getElem_toArray, List.getElem_cons_zero, List.getElem_cons_succ, List.setIfInBounds_toArray, List.set_cons_zero, List.set_cons_succ])
                refine wpAnyF_take (i := 6) (v := ?_) (by kernel_rfl) (by kernel_rfl) rfl (by kernel_rfl) (by kernel_rfl) (by kernel_rfl) (fun _ _ _ h => h) (Or.inl ⟨by rfl, ?_⟩) (by assumption) ?_
                rotate_left
                · intro w' hSw; (try dsimp only at hSw); clear hSw; go_simp; (try with_reducible rfl)
                (try simp only [Act.put, List.getElem_toArray, List.getElem_cons_zero, List.getElem_cons_succ, List.setIfInBounds_toArray, List.set_cons_zero, List.set_cons_succ])
                refine wpAnyF_take (i := 7) (v := ?_) (by kernel_rfl) (by kernel_rfl) rfl (by kernel_rfl) (by kernel_rfl) (by kernel_rfl) (fun _ _ _ h => h) (Or.inl ⟨by rfl, ?_⟩) (by assumption) ?_
                rotate_left
                · intro w' hSw; (try dsimp only at hSw); clear hSw; go_simp; (try with_reducible rfl)
                (try simp only [Act.put, List.getElem_toArray, List.getElem_cons_zero, List.getElem_cons_succ, List.setIfInBounds_toArray, List.set_cons_zero, List.set_cons_succ])
                refine wpAnyF_take (i := 8) (v := ?_) (by kernel_rfl) (by kernel_rfl) rfl (by kernel_rfl) (by kernel_rfl) (by kernel_rfl) (fun _ _ _ h => h) (Or.inl ⟨by rfl, ?_⟩) (by assumption) ?_
                rotate_left
                · intro w' hSw; (try dsimp only at hSw); obtain ⟨_q0, _q1, q2⟩ := hSw; clear _q0 _q1; go_simp; (try with_reducible rfl)
                (try simp only [Act.put, List.getElem_toArray, List.getElem_cons_zero, List.getElem_cons_succ, List.setIfInBounds_toArray, List.set_cons_zero, List.set_cons_succ])
                refine wpAnyF_ready (rs := [9]) (by kernel_rfl) (by simp) ?_
                refine AllReadyF.cons rfl (fun KK hKK => ?_) AllReadyF.nil
                go_simp
                ((with_reducible refine (HWR.out _ (HJ.out.later (below_drew' _)).mem).mono ?_); rintro e' w3 ⟨rfl, hm3, hk3⟩; have HJ2 := hi (show RsI w p g cap w1.heap.size a s ws (rstB bs a s off ws (k + 1)) w3 from (HJ.out.later (below_drew' _)).write hgl hw1 (by rw [rstB]; have e3 : IntKind.i64.wrap (off + IntKind.i64.wrap (8 * (k : Int))) = off + 8 * (k : Int) := (by rw [IntKind.wrap_i64, IntKind.wrap_i64]; omega); rw [e3] at hm3; exact hm3) hk3))
                (try go_simp)
                refine hKK.out _ _ ⟨(CB.two HJ2.out.box).1, (CB.two HJ2.out.box).2, HJ2.out.ws.ws hlt⟩ (fun hHeld => ?_)
                clear hKK KK
                (try simp only [Act.put, List.getElem_toArray, List.getElem_cons_zero, List.getElem_cons_succ, List.setIfInBounds_toArray, List.set_cons_zero, List.set_cons_succ])
                refine wpAnyF_done (by kernel_rfl) ?_ _
                refine NoPanic.normal ?_
                go_wp2
                go_roundw
                case rel => exact ⟨k + 1, by omega, by go_num, HJ2⟩
                case measure => simp [intOf]; omega
              · obtain rfl : k = 4 := by omega
                have x1 : ¬ ((4 : Nat) : Int) < 4 := by omega
                rw [HR4.out] at HJ
                go_wp2
                go_ret
                exact ⟨rfl, HJ.out.mem, HJ.out.kept⟩
      · have h8b : (off.tmod 8 != 0) = true := by simpa using h8
        obtain rfl : eo = false := by have := HEO.out; rw [this]; simp [h8]
        obtain rfl : sl = bs := by have := HL.out; simpa using this
        obtain rfl : se = 42 := by have := HSE.out; simpa using this
        clear HRS HEO HL HSE HH0 h8
        go_enter Try.func39, Try.ntmps39
        go_wp2_with (first
          | (go_at_call 57; ((with_reducible refine (HE.out _).mono ?_); rintro e w1 ⟨rfl, hb1⟩; have H1 := hi (And.intro (HB2.out _ hb1 ws).1 (And.intro (HB2.out _ hb1 ws).2.1 (And.intro (HB2.out _ hb1 ws).2.2 (And.intro (CB.new w1 94 (Ws.cs ws)).lt (CB.new w1 94 (Ws.cs ws)))))); obtain ⟨q0, q1⟩ := CB.two H1.out.1; clear hb1))
          | (go_at_call 43; ((with_reducible refine (HHL.out _ H1.out.2.1).mono ?_); rintro e w2 ⟨rfl, hb2⟩; replace H1 := hi (And.intro (H1.out.1.below hb2) (And.intro (H1.out.2.1.trans (hb2.mono H1.out.2.1.size)) (And.intro H1.out.2.2.1 (And.intro (Nat.lt_of_lt_of_le H1.out.2.2.2.1 hb2.size) (H1.out.2.2.2.2.below hb2))))); have H2 := hi (And.intro H1.out.1 H1.out.2.1); clear hb2 q0 q1; obtain ⟨q0, q1⟩ := CB.two H2.out.1)))
        go_ret
        exact ⟨rfl, HM.out.below H2.out.2, Kept.of H2.out.2⟩

end Go.Proofs.Ytfnokpajendlmaa
