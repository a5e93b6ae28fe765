/-
  Package tables: Route, SetRoute, at every call.
-/
import Derived.Test.YtjcjblmaceooaaaTbE
namespace Go.Proofs.Ytjcjblmaceooaaa
open Go.ChangeShapes Go.WideShapes Go.ChangeAt Go.RowKit
set_option linter.unusedVariables false
set_option linter.unusedSimpArgs false

theorem results_rtt {fn : Func} {c t : Tmp} (h : fn.results = #[.cell c 52, .tmp t]) (tmps : Array Value) (w : World) (b : Nat) (v0 v1 v2 v : Value) (hp : tmps.getD c undef = .pointer (some ⟨b, 0, none⟩)) (ht : tmps.getD t undef = v) (hb : CB w b 52 #[v0, v1, v2]) :
    (results fn tmps).run Try.prog w = .ok (.tuple #[.agg #[v0, v1, v2], v]) w := by
  have hp' : tmps[c]?.getD undef = .pointer (some ⟨b, 0, none⟩) := by simpa using hp
  have ht' : tmps[t]?.getD undef = v := by simpa using ht
  have c0 := hb.cell 0
  have c1 := hb.cell 1
  have c2 := hb.cell 2
  simp at c0 c1 c2
  simp [results, h, go_sem, hp', ht', c0, c1, c2]

theorem results_dvt {fn : Func} {c t : Tmp} (h : fn.results = #[.cell c 36, .tmp t]) (tmps : Array Value) (w : World) (b : Nat) (v0 v1 v2 v : Value) (hp : tmps.getD c undef = .pointer (some ⟨b, 0, none⟩)) (ht : tmps.getD t undef = v) (hb : CB w b 36 #[v0, v1, v2]) :
    (results fn tmps).run Try.prog w = .ok (.tuple #[.agg #[v0, v1, v2], v]) w := by
  have hp' : tmps[c]?.getD undef = .pointer (some ⟨b, 0, none⟩) := by simpa using hp
  have ht' : tmps[t]?.getD undef = v := by simpa using ht
  have c0 := hb.cell 0
  have c1 := hb.cell 1
  have c2 := hb.cell 2
  simp at c0 c1 c2
  simp [results, h, go_sem, hp', ht', c0, c1, c2]

set_option maxRecDepth 100000 in
set_option maxHeartbeats 4000000 in
theorem route_any (p g cap : Nat) (bs : List Nat) (d : Dv) (hF : d.Fair) (i : Int) (w : World) (hM : MemAt 89 w p g cap bs)  :
    Calls Try.prog 18 #[d.v, .pointer (some ⟨p, 0, none⟩), .int .i64 i] w fun e w' => e = .returned (.tuple #[(routR bs d i).v, .int .i64 (evE bs.length d i)]) ∧ Below w.heap.size w w' := by
  have HM := hi hM
  have HB0 := hi (bal_two w (.cells (Dv.cs d) 36) (.cells #[.int .i64 0, .int .i64 0, .bool false] 52))
  have HC0 := hi (And.intro ((CB.new w 36 (Dv.cs d)).alloc (.cells #[.int .i64 0, .int .i64 0, .bool false] 52)) (cb_second (w := w) (o := .cells (Dv.cs d) 36) (cs := #[.int .i64 0, .int .i64 0, .bool false]) (t := 52)))
  have HE := hi (fun W (hb : Below w.heap.size w W) => dent_any p g cap bs d hF i W (hM.below hb))
  have hbm := hM.bytes.2
  by_cases h0 : evE bs.length d i = 0
  · obtain ⟨_, _, _, hPq, hPl⟩ := evE_zero h0
    have HEV := HE.out
    unfold deV at HEV
    simp only [if_pos h0] at HEV
    rw [← hPq] at HEV
    obtain ⟨P, hPP⟩ : ∃ P, evP d i = P := ⟨_, rfl⟩
    rw [hPP] at hPl HEV
    have hv := w8_lt (o := P) hbm
    have HL := hi (fun W hW => load_any p g cap bs P P rfl hPl W hW)
    have hval : routR bs d i = routV (w8 bs P) := by rw [routR, if_pos h0, hPP]
    rw [hval]
    have HI := hi (fun W => routIn_any (w8 bs P) hv W)
    obtain ⟨v, hvv⟩ : ∃ v, w8 bs P = v := ⟨_, rfl⟩
    rw [hvv] at HL HI ⊢
    obtain ⟨x, hx⟩ : ∃ x, routV v = x := ⟨_, rfl⟩
    rw [hx] at HI ⊢
    rw [h0]
    have HE2 := hi (show ∀ W, Below w.heap.size w W → Calls Try.prog 38 #[d.v, .pointer (some ⟨p, 0, none⟩), .int .i64 i] W fun e w' => e = .returned (.tuple #[.agg #[.int .i64 (P : Int), .int .i64 8], .int .i64 0]) ∧ Below W.heap.size W w' from HEV)
    obtain ⟨x1, x2, x3⟩ := x
    obtain ⟨r1, r2, r3⟩ := d
    (try dsimp only at HC0 HB0 HE2 HI ⊢)
    clear h0 hval hvv hx hv hPl hPP HEV HE hM hbm
    obtain ⟨a0, a1, a2⟩ := CB.three HC0.out.1
    go_enter Try.func18, Try.ntmps18
    go_wp2_with (first
      | (go_at_call 38; ((with_reducible refine (HE2.out _ HB0.out).mono ?_); rintro e w1 ⟨rfl, hb1⟩; have HC1 := hi (HC0.out.2.below hb1); have HB1 := hi (HB0.out.more hb1); clear hb1 a0 a1 a2))
      | (go_at_call 32; ((with_reducible refine (HL.out _ (HM.out.below (HB1.out.alloc HB1.out.size _))).mono ?_); rintro e w2 ⟨rfl, hb2⟩; have HC2 := hi ((HC1.out.alloc _).below hb2); have HB2 := hi ((HB1.out.alloc HB1.out.size _).more hb2); clear hb2))
      | (go_at_call 41; ((with_reducible refine (HI.out _).mono ?_); rintro e w3 ⟨rfl, hb3⟩; have HR := hi (HC2.out.below hb3); have HB3 := hi (HB2.out.more hb3); clear hb3; obtain ⟨q0, q1, q2⟩ := CB.three HR.out; have qf := HR.out.frozen; have hz := HR.out.lt)))
    exact bodyPost_ret (results_rtt rfl _ _ (w.heap.size + 1) _ _ _ _ rfl rfl (HR.out.set3 _ _ _)) rfl ⟨rfl, below_s3 HB3.out (by omega) _ _ _⟩
  · have hval : routR bs d i = ⟨0, 0, false⟩ := by rw [routR, if_neg h0]
    rw [hval]
    obtain ⟨er, her⟩ : ∃ e, evE bs.length d i = e := ⟨_, rfl⟩
    have HEV := HE.out
    unfold deV at HEV
    simp only [if_neg h0] at HEV
    rw [her] at HEV
    rw [her] at h0 ⊢
    have hne : (er != 0) = true := by simpa using h0
    have HE2 := hi (show ∀ W, Below w.heap.size w W → Calls Try.prog 38 #[d.v, .pointer (some ⟨p, 0, none⟩), .int .i64 i] W fun e w' => e = .returned (.tuple #[.agg #[.int .i64 0, .int .i64 0], .int .i64 er]) ∧ Below W.heap.size W w' from HEV)
    obtain ⟨r1, r2, r3⟩ := d
    (try dsimp only at HC0 HB0 HE2 ⊢)
    clear h0 hval her HEV HE hM hbm
    obtain ⟨a0, a1, a2⟩ := CB.three HC0.out.1
    go_enter Try.func18, Try.ntmps18
    go_wp2_with (go_at_call 38; ((with_reducible refine (HE2.out _ HB0.out).mono ?_); rintro e w1 ⟨rfl, hb1⟩; have HR := hi (HC0.out.2.below hb1); have HR2 := hi (HR.out.alloc (.cells #[.int .i64 0, .int .i64 0] 30)); have HB1 := hi (HB0.out.more hb1); clear hb1 a0 a1 a2; obtain ⟨q0, q1, q2⟩ := CB.three HR.out; have qf := HR.out.frozen; have hz := HR.out.lt))
    exact bodyPost_ret (results_rtt rfl _ _ (w.heap.size + 1) _ _ _ _ rfl rfl ((HR.out.set3 _ _ _).alloc _)) rfl ⟨rfl, (below_s3 HB1.out (by omega) _ _ _).alloc (by simp; exact HB1.out.size) _⟩

set_option maxRecDepth 100000 in
set_option maxHeartbeats 4000000 in
theorem setR_any (p g cap : Nat) (bs : List Nat) (d : Dv) (hF : d.Fair) (i : Int) (r : Rt) (w : World) (hM : MemAt 89 w p g cap bs)  :
    Calls Try.prog 16 #[d.v, .pointer (some ⟨p, 0, none⟩), .int .i64 i, r.v] w fun e w' => e = .returned (.int .i64 (setE bs.length d i r)) ∧ MemAt 89 w' p g cap (setB bs d i r) ∧ Kept (· = g) w w' := by
  have HM := hi hM
  have HB0 := hi (bal_two w (.cells (Dv.cs d) 36) (.cells (Rt.cs r) 52))
  have HC0 := hi (And.intro ((CB.new w 36 (Dv.cs d)).alloc (.cells (Rt.cs r) 52)) (cb_second (w := w) (o := .cells (Dv.cs d) 36) (cs := (Rt.cs r)) (t := 52)))
  have HE := hi (fun W (hb : Below w.heap.size w W) => dent_any p g cap bs d hF i W (hM.below hb))
  have HW := hi (fun W => rword_any r W)
  have hno : setE bs.length d i r ≠ 0 → setB bs d i r = bs := fun h => by rw [setB, if_neg h]
  by_cases h0 : evE bs.length d i = 0
  · obtain ⟨_, _, _, hPq, hPl⟩ := evE_zero h0
    have HEV := HE.out
    unfold deV at HEV
    simp only [if_pos h0] at HEV
    rw [← hPq] at HEV
    obtain ⟨P, hPP⟩ : ∃ P, evP d i = P := ⟨_, rfl⟩
    rw [hPP] at hPl HEV
    have hse : setE bs.length d i r = r.err := by rw [setE, if_pos h0]
    by_cases h1 : r.err = 0
    · have hs : setB bs d i r = s8 bs P r.word := by rw [setB, if_pos (by rw [hse, h1]), hPP]
      rw [hs, hse, h1]
      rw [h1] at HW
      have HS := hi (fun W hW => store_any p g cap bs P r.word P rfl hPl r.word_lt W hW)
      obtain ⟨v, hvv⟩ : ∃ v, r.word = v := ⟨_, rfl⟩
      rw [hvv] at HS HW ⊢
      obtain ⟨bs', hbs'⟩ : ∃ l, s8 bs P v = l := ⟨_, rfl⟩
      rw [hbs'] at HS ⊢
      have HE2 := hi (show ∀ W, Below w.heap.size w W → Calls Try.prog 38 #[d.v, .pointer (some ⟨p, 0, none⟩), .int .i64 i] W fun e w' => e = .returned (.tuple #[.agg #[.int .i64 (P : Int), .int .i64 8], .int .i64 0]) ∧ Below W.heap.size W w' from HEV)
      obtain ⟨x1, x2, x3⟩ := r
      obtain ⟨r1, r2, r3⟩ := d
      (try dsimp only at HC0 HB0 HE2 HW ⊢)
      clear h0 h1 hse hs hvv hbs' hPl hPP HEV HE hM hno
      obtain ⟨a0, a1, a2⟩ := CB.three HC0.out.1
      go_enter Try.func16, Try.ntmps16
      go_wp2_with (first
        | (go_at_call 38; ((with_reducible refine (HE2.out _ HB0.out).mono ?_); rintro e w1 ⟨rfl, hb1⟩; have HC1 := hi (HC0.out.2.below hb1); have HB1 := hi (HB0.out.more hb1); have hz := HC1.out.lt; clear hb1 a0 a1 a2; obtain ⟨c0, c1, c2⟩ := CB.three HC1.out))
        | (go_at_call 39; ((with_reducible refine (HW.out _).mono ?_); rintro e w2 ⟨rfl, hb2⟩; have HB2 := hi ((HB1.out.alloc HB1.out.size _).more hb2); have HY := hi ((CB.new w1 30 #[.int .i64 (P : Int), .int .i64 8]).below hb2); clear hb2 c0 c1 c2; obtain ⟨y0, y1⟩ := CB.two HY.out))
        | (go_at_call 28; ((with_reducible refine (HS.out _ (HM.out.below HB2.out)).mono ?_); rintro e w3 ⟨rfl, hm3, hk3⟩; have HF := hi (And.intro hm3 (Kept.more HB2.out hk3)); clear hm3 hk3)))
      go_ret
      exact ⟨rfl, HF.out⟩
    · rw [hno (by rw [hse]; exact h1), hse]
      obtain ⟨v, hvv⟩ : ∃ v, r.word = v := ⟨_, rfl⟩
      obtain ⟨er, her⟩ : ∃ v, r.err = v := ⟨_, rfl⟩
      rw [hvv, her] at HW
      rw [her] at h1 ⊢
      have hne : (er != 0) = true := by simpa using h1
      have HE2 := hi (show ∀ W, Below w.heap.size w W → Calls Try.prog 38 #[d.v, .pointer (some ⟨p, 0, none⟩), .int .i64 i] W fun e w' => e = .returned (.tuple #[.agg #[.int .i64 (P : Int), .int .i64 8], .int .i64 0]) ∧ Below W.heap.size W w' from HEV)
      obtain ⟨x1, x2, x3⟩ := r
      obtain ⟨r1, r2, r3⟩ := d
      (try dsimp only at HC0 HB0 HE2 HW ⊢)
      clear h0 h1 hse hvv her hPl hPP HEV HE hM hno
      obtain ⟨a0, a1, a2⟩ := CB.three HC0.out.1
      go_enter Try.func16, Try.ntmps16
      go_wp2_with (first
        | (go_at_call 38; ((with_reducible refine (HE2.out _ HB0.out).mono ?_); rintro e w1 ⟨rfl, hb1⟩; have HC1 := hi (HC0.out.2.below hb1); have HB1 := hi (HB0.out.more hb1); have hz := HC1.out.lt; clear hb1 a0 a1 a2; obtain ⟨c0, c1, c2⟩ := CB.three HC1.out))
        | (go_at_call 39; ((with_reducible refine (HW.out _).mono ?_); rintro e w2 ⟨rfl, hb2⟩; have HB2 := hi ((HB1.out.alloc HB1.out.size _).more hb2); clear hb2 c0 c1 c2)))
      go_ret
      exact ⟨rfl, HM.out.below HB2.out, Kept.of HB2.out⟩
  · have hse : setE bs.length d i r = evE bs.length d i := by rw [setE, if_neg h0]
    rw [hno (by rw [hse]; exact h0), hse]
    obtain ⟨er, her⟩ : ∃ e, evE bs.length d i = e := ⟨_, rfl⟩
    have HEV := HE.out
    unfold deV at HEV
    simp only [if_neg h0] at HEV
    rw [her] at HEV
    rw [her] at h0 ⊢
    have hne : (er != 0) = true := by simpa using h0
    have HE2 := hi (show ∀ W, Below w.heap.size w W → Calls Try.prog 38 #[d.v, .pointer (some ⟨p, 0, none⟩), .int .i64 i] W fun e w' => e = .returned (.tuple #[.agg #[.int .i64 0, .int .i64 0], .int .i64 er]) ∧ Below W.heap.size W w' from HEV)
    obtain ⟨x1, x2, x3⟩ := r
    obtain ⟨r1, r2, r3⟩ := d
    (try dsimp only at HC0 HB0 HE2 ⊢)
    clear h0 hse her HEV HE hM hno HW
    obtain ⟨a0, a1, a2⟩ := CB.three HC0.out.1
    go_enter Try.func16, Try.ntmps16
    go_wp2_with (go_at_call 38; ((with_reducible refine (HE2.out _ HB0.out).mono ?_); rintro e w1 ⟨rfl, hb1⟩; have HB1 := hi (HB0.out.more hb1); clear hb1 a0 a1 a2))
    go_ret
    exact ⟨rfl, HM.out.below (HB1.out.alloc HB1.out.size _), Kept.of (HB1.out.alloc HB1.out.size _)⟩

end Go.Proofs.Ytjcjblmaceooaaa
