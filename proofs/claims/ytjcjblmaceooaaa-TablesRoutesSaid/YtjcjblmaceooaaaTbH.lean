/-
  Package tables: a device's entry, Get, Put, at every call.
-/
import Derived.Test.YtjcjblmaceooaaaTbG
namespace Go.Proofs.Ytjcjblmaceooaaa
open Go.ChangeShapes Go.WideShapes Go.ChangeAt Go.RowKit
set_option linter.unusedVariables false
set_option linter.unusedSimpArgs false

def tentV (bs : List Nat) (t : Tb) (id : Int) : Value := if entE bs t id = 0 then .tuple #[.agg #[.int .i64 (entP bs t id : Nat), .int .i64 8], .int .i64 0] else .tuple #[.agg #[.int .i64 0, .int .i64 0], .int .i64 (entE bs t id)]
set_option maxRecDepth 100000 in
set_option maxHeartbeats 4000000 in
theorem tent_any (p g cap : Nat) (bs : List Nat) (t : Tb) (hF : t.Fair) (id : Int) (w : World) (hM : MemAt 89 w p g cap bs) :
    Calls Try.prog 30 #[t.v, .pointer (some ⟨p, 0, none⟩), .int .i64 id] w fun e w' => e = .returned (tentV bs t id) ∧ Below w.heap.size w w' := by
  have H0 := hi (FdB.new w t)
  have HR := hi (fun W (hb : Below w.heap.size w W) => right_any p g cap bs t hF W (hM.below hb))
  have HFD := hi (fun (hp : t.page = 0 ∨ (8 ≤ t.page ∧ t.page ≤ 131072)) W (hb : Below w.heap.size w W) => find_any p g cap bs t hF id W (hM.below hb) hp)
  have HZ := hi (fun h => rightE_holds (n := bs.length) (t := t) h)
  have HE := hi (show entE bs t id = if rightE bs.length t = 0 then (if (findP bs t id).isSome = true then 0 else 180) else rightE bs.length t from rfl)
  have HV := hi (show tentV bs t id = if entE bs t id = 0 then .tuple #[.agg #[.int .i64 ((findP bs t id).getD 0 : Nat), .int .i64 8], .int .i64 0] else .tuple #[.agg #[.int .i64 0, .int .i64 0], .int .i64 (entE bs t id)] from rfl)
  obtain ⟨re, hre⟩ : ∃ e, rightE bs.length t = e := ⟨_, rfl⟩
  obtain ⟨o, ho⟩ : ∃ o, findP bs t id = o := ⟨_, rfl⟩
  obtain ⟨ee, hee⟩ : ∃ e, entE bs t id = e := ⟨_, rfl⟩
  obtain ⟨tv, htv⟩ : ∃ v, tentV bs t id = v := ⟨_, rfl⟩
  rw [hre] at HR HZ HE
  rw [ho] at HFD HE HV
  rw [hee] at HE HV
  rw [htv] at HV ⊢
  obtain ⟨a, s, pg⟩ := t
  dsimp only at HZ HFD H0 HR ⊢
  clear hre ho hee htv hF hM
  obtain ⟨a0, a1, a2⟩ := CB.three H0.out.t
  by_cases h0 : re = 0
  · subst h0
    have HFN := hi (HFD.out (HZ.out rfl).2)
    clear HFD HZ
    cases o with
    | none =>
      have e1 : ee = 180 := by have := HE.out; simpa using this
      have e2 : tv = .tuple #[.agg #[.int .i64 0, .int .i64 0], .int .i64 180] := by have := HV.out; rw [e1] at this; simpa using this
      subst e2
      unfold ptV at HFN
      dsimp only at HFN
      clear HE HV e1
      go_enter Try.func30, Try.ntmps30
      go_wp2_with (first
        | (go_at_call 23; ((with_reducible refine (HR.out _ H0.out.below).mono ?_); rintro e w1 ⟨rfl, hb1⟩; have H1 := hi (H0.out.later hb1); clear hb1 a0 a1 a2; obtain ⟨a0, a1, a2⟩ := CB.three H1.out.t))
        | (go_at_call 49; ((with_reducible refine (HFN.out _ H1.out.below).mono ?_); rintro e w2 ⟨rfl, hb2⟩; have H2 := hi (H1.out.later hb2); clear hb2 a0 a1 a2; obtain ⟨q0, q1⟩ := CB.two H2.out.r; have qf := H2.out.r.frozen; have hz := H2.out.r.lt)))
      exact bodyPost_ret (results_wt rfl _ _ (w.heap.size + 1) _ _ _ rfl rfl ((H2.out.r.set2 _ _).alloc _)) rfl ⟨rfl, (below_s2 H2.out.below (by omega) _ _).alloc (by simp; exact H2.out.below.size) _⟩
    | some P =>
      have e1 : ee = 0 := by have := HE.out; simpa using this
      have e2 : tv = .tuple #[.agg #[.int .i64 (P : Int), .int .i64 8], .int .i64 0] := by have := HV.out; rw [e1] at this; simpa using this
      subst e2
      unfold ptV at HFN
      dsimp only at HFN
      clear HE HV e1
      go_enter Try.func30, Try.ntmps30
      go_wp2_with (first
        | (go_at_call 23; ((with_reducible refine (HR.out _ H0.out.below).mono ?_); rintro e w1 ⟨rfl, hb1⟩; have H1 := hi (H0.out.later hb1); clear hb1 a0 a1 a2; obtain ⟨a0, a1, a2⟩ := CB.three H1.out.t))
        | (go_at_call 49; ((with_reducible refine (HFN.out _ H1.out.below).mono ?_); rintro e w2 ⟨rfl, hb2⟩; have H2 := hi (H1.out.later hb2); clear hb2 a0 a1 a2; obtain ⟨q0, q1⟩ := CB.two H2.out.r; have qf := H2.out.r.frozen; have hz := H2.out.r.lt)))
      exact bodyPost_ret (results_wt rfl _ _ (w.heap.size + 1) _ _ _ rfl rfl ((H2.out.r.set2 _ _).alloc _)) rfl ⟨rfl, (below_s2 H2.out.below (by omega) _ _).alloc (by simp; exact H2.out.below.size) _⟩
  · have e1 : ee = re := by have := HE.out; simpa [h0] using this
    subst e1
    have e2 : tv = .tuple #[.agg #[.int .i64 0, .int .i64 0], .int .i64 ee] := by have := HV.out; simpa [h0] using this
    subst e2
    have hne : (ee != 0) = true := by simpa using h0
    clear HE HV h0 HFD HZ
    go_enter Try.func30, Try.ntmps30
    go_wp2_with (go_at_call 23; ((with_reducible refine (HR.out _ H0.out.below).mono ?_); rintro e w1 ⟨rfl, hb1⟩; have H1 := hi (H0.out.later hb1); clear hb1 a0 a1 a2; obtain ⟨q0, q1⟩ := CB.two H1.out.r; have qf := H1.out.r.frozen; have hz := H1.out.r.lt))
    exact bodyPost_ret (results_wt rfl _ _ (w.heap.size + 1) _ _ _ rfl rfl (H1.out.r.set2 _ _)) rfl ⟨rfl, below_s2 H1.out.below (by omega) _ _⟩

set_option maxRecDepth 100000 in
set_option maxHeartbeats 4000000 in
theorem get_any (p g cap : Nat) (bs : List Nat) (t : Tb) (hF : t.Fair) (i : Int) (w : World) (hM : MemAt 89 w p g cap bs)  :
    Calls Try.prog 10 #[t.v, .pointer (some ⟨p, 0, none⟩), .int .i64 i] w fun e w' => e = .returned (.tuple #[(getV bs t i).v, .int .i64 (entE bs t i)]) ∧ Below w.heap.size w w' := by
  have HM := hi hM
  have HB0 := hi (bal_two w (.cells (Tb.cs t) 32) (.cells #[.bool false, .int .i64 0, .int .i64 0] 36))
  have HC0 := hi (And.intro ((CB.new w 32 (Tb.cs t)).alloc (.cells #[.bool false, .int .i64 0, .int .i64 0] 36)) (cb_second (w := w) (o := .cells (Tb.cs t) 32) (cs := #[.bool false, .int .i64 0, .int .i64 0]) (t := 36)))
  have HE := hi (fun W (hb : Below w.heap.size w W) => tent_any p g cap bs t hF i W (hM.below hb))
  have hbm := hM.bytes.2
  by_cases h0 : entE bs t i = 0
  · obtain ⟨_, _, hPl⟩ := entE_zero h0
    have HEV := HE.out
    unfold tentV at HEV
    simp only [if_pos h0] at HEV
    obtain ⟨P, hPP⟩ : ∃ P, entP bs t i = P := ⟨_, rfl⟩
    rw [hPP] at hPl HEV
    have hv := w8_lt (o := P) hbm
    have HL := hi (fun W hW => load_any p g cap bs P P rfl hPl W hW)
    have hval : getV bs t i = devV (w8 bs P) := by rw [getV, if_pos h0, hPP]
    rw [hval]
    have HI := hi (fun W => devIn_any (w8 bs P) hv W)
    obtain ⟨v, hvv⟩ : ∃ v, w8 bs P = v := ⟨_, rfl⟩
    rw [hvv] at HL HI ⊢
    obtain ⟨x, hx⟩ : ∃ x, devV v = x := ⟨_, rfl⟩
    rw [hx] at HI ⊢
    rw [h0]
    have HE2 := hi (show ∀ W, Below w.heap.size w W → Calls Try.prog 30 #[t.v, .pointer (some ⟨p, 0, none⟩), .int .i64 i] W fun e w' => e = .returned (.tuple #[.agg #[.int .i64 (P : Int), .int .i64 8], .int .i64 0]) ∧ Below W.heap.size W w' from HEV)
    obtain ⟨x1, x2, x3⟩ := x
    obtain ⟨r1, r2, r3⟩ := t
    (try dsimp only at HC0 HB0 HE2 HI ⊢)
    clear h0 hval hvv hx hv hPl hPP HEV HE hM hbm
    obtain ⟨a0, a1, a2⟩ := CB.three HC0.out.1
    go_enter Try.func10, Try.ntmps10
    go_wp2_with (first
      | (go_at_call 30; ((with_reducible refine (HE2.out _ HB0.out).mono ?_); rintro e w1 ⟨rfl, hb1⟩; have HC1 := hi (HC0.out.2.below hb1); have HB1 := hi (HB0.out.more hb1); clear hb1 a0 a1 a2))
      | (go_at_call 32; ((with_reducible refine (HL.out _ (HM.out.below (HB1.out.alloc HB1.out.size _))).mono ?_); rintro e w2 ⟨rfl, hb2⟩; have HC2 := hi ((HC1.out.alloc _).below hb2); have HB2 := hi ((HB1.out.alloc HB1.out.size _).more hb2); clear hb2))
      | (go_at_call 31; ((with_reducible refine (HI.out _).mono ?_); rintro e w3 ⟨rfl, hb3⟩; have HR := hi (HC2.out.below hb3); have HB3 := hi (HB2.out.more hb3); clear hb3; obtain ⟨q0, q1, q2⟩ := CB.three HR.out; have qf := HR.out.frozen; have hz := HR.out.lt)))
    exact bodyPost_ret (results_dvt rfl _ _ (w.heap.size + 1) _ _ _ _ rfl rfl (HR.out.set3 _ _ _)) rfl ⟨rfl, below_s3 HB3.out (by omega) _ _ _⟩
  · have hval : getV bs t i = ⟨false, 0, 0⟩ := by rw [getV, if_neg h0]
    rw [hval]
    obtain ⟨er, her⟩ : ∃ e, entE bs t i = e := ⟨_, rfl⟩
    have HEV := HE.out
    unfold tentV at HEV
    simp only [if_neg h0] at HEV
    rw [her] at HEV
    rw [her] at h0 ⊢
    have hne : (er != 0) = true := by simpa using h0
    have HE2 := hi (show ∀ W, Below w.heap.size w W → Calls Try.prog 30 #[t.v, .pointer (some ⟨p, 0, none⟩), .int .i64 i] W fun e w' => e = .returned (.tuple #[.agg #[.int .i64 0, .int .i64 0], .int .i64 er]) ∧ Below W.heap.size W w' from HEV)
    obtain ⟨r1, r2, r3⟩ := t
    (try dsimp only at HC0 HB0 HE2 ⊢)
    clear h0 hval her HEV HE hM hbm
    obtain ⟨a0, a1, a2⟩ := CB.three HC0.out.1
    go_enter Try.func10, Try.ntmps10
    go_wp2_with (go_at_call 30; ((with_reducible refine (HE2.out _ HB0.out).mono ?_); rintro e w1 ⟨rfl, hb1⟩; have HR := hi (HC0.out.2.below hb1); have HR2 := hi (HR.out.alloc (.cells #[.int .i64 0, .int .i64 0] 30)); have HB1 := hi (HB0.out.more hb1); clear hb1 a0 a1 a2; obtain ⟨q0, q1, q2⟩ := CB.three HR.out; have qf := HR.out.frozen; have hz := HR.out.lt))
    exact bodyPost_ret (results_dvt rfl _ _ (w.heap.size + 1) _ _ _ _ rfl rfl ((HR.out.set3 _ _ _).alloc _)) rfl ⟨rfl, (below_s3 HB1.out (by omega) _ _ _).alloc (by simp; exact HB1.out.size) _⟩

set_option maxRecDepth 100000 in
set_option maxHeartbeats 4000000 in
theorem put_any (p g cap : Nat) (bs : List Nat) (t : Tb) (hF : t.Fair) (i : Int) (d : Dv) (hD : d.Fair) (w : World) (hM : MemAt 89 w p g cap bs)  :
    Calls Try.prog 11 #[t.v, .pointer (some ⟨p, 0, none⟩), .int .i64 i, d.v] w fun e w' => e = .returned (.int .i64 (tputE bs t i d)) ∧ MemAt 89 w' p g cap (putB bs t i d) ∧ Kept (· = g) w w' := by
  have HM := hi hM
  have HB0 := hi (bal_two w (.cells (Tb.cs t) 32) (.cells (Dv.cs d) 36))
  have HC0 := hi (And.intro ((CB.new w 32 (Tb.cs t)).alloc (.cells (Dv.cs d) 36)) (cb_second (w := w) (o := .cells (Tb.cs t) 32) (cs := (Dv.cs d)) (t := 36)))
  have HE := hi (fun W (hb : Below w.heap.size w W) => tent_any p g cap bs t hF i W (hM.below hb))
  have HW := hi (fun W => word_any d hD W)
  have hno : tputE bs t i d ≠ 0 → putB bs t i d = bs := fun h => by rw [putB, if_neg h]
  by_cases h0 : entE bs t i = 0
  · obtain ⟨_, _, hPl⟩ := entE_zero h0
    have HEV := HE.out
    unfold tentV at HEV
    simp only [if_pos h0] at HEV
    obtain ⟨P, hPP⟩ : ∃ P, entP bs t i = P := ⟨_, rfl⟩
    rw [hPP] at hPl HEV
    have hse : tputE bs t i d = d.err := by rw [tputE, if_pos h0]
    by_cases h1 : d.err = 0
    · have hs : putB bs t i d = s8 bs P d.word := by rw [putB, if_pos (by rw [hse, h1]), hPP]
      rw [hs, hse, h1]
      rw [h1] at HW
      have HS := hi (fun W hW => store_any p g cap bs P d.word P rfl hPl d.word_lt W hW)
      obtain ⟨v, hvv⟩ : ∃ v, d.word = v := ⟨_, rfl⟩
      rw [hvv] at HS HW ⊢
      obtain ⟨bs', hbs'⟩ : ∃ l, s8 bs P v = l := ⟨_, rfl⟩
      rw [hbs'] at HS ⊢
      have HE2 := hi (show ∀ W, Below w.heap.size w W → Calls Try.prog 30 #[t.v, .pointer (some ⟨p, 0, none⟩), .int .i64 i] W fun e w' => e = .returned (.tuple #[.agg #[.int .i64 (P : Int), .int .i64 8], .int .i64 0]) ∧ Below W.heap.size W w' from HEV)
      obtain ⟨x1, x2, x3⟩ := d
      obtain ⟨r1, r2, r3⟩ := t
      (try dsimp only at HC0 HB0 HE2 HW ⊢)
      clear h0 h1 hse hs hvv hbs' hPl hPP HEV HE hM hno
      obtain ⟨a0, a1, a2⟩ := CB.three HC0.out.1
      go_enter Try.func11, Try.ntmps11
      go_wp2_with (first
        | (go_at_call 30; ((with_reducible refine (HE2.out _ HB0.out).mono ?_); rintro e w1 ⟨rfl, hb1⟩; have HC1 := hi (HC0.out.2.below hb1); have HB1 := hi (HB0.out.more hb1); have hz := HC1.out.lt; clear hb1 a0 a1 a2; obtain ⟨c0, c1, c2⟩ := CB.three HC1.out))
        | (go_at_call 33; ((with_reducible refine (HW.out _).mono ?_); rintro e w2 ⟨rfl, hb2⟩; have HB2 := hi ((HB1.out.alloc HB1.out.size _).more hb2); have HY := hi ((CB.new w1 30 #[.int .i64 (P : Int), .int .i64 8]).below hb2); clear hb2 c0 c1 c2; obtain ⟨y0, y1⟩ := CB.two HY.out))
        | (go_at_call 28; ((with_reducible refine (HS.out _ (HM.out.below HB2.out)).mono ?_); rintro e w3 ⟨rfl, hm3, hk3⟩; have HF := hi (And.intro hm3 (Kept.more HB2.out hk3)); clear hm3 hk3)))
      go_ret
      exact ⟨rfl, HF.out⟩
    · rw [hno (by rw [hse]; exact h1), hse]
      obtain ⟨v, hvv⟩ : ∃ v, d.word = v := ⟨_, rfl⟩
      obtain ⟨er, her⟩ : ∃ v, d.err = v := ⟨_, rfl⟩
      rw [hvv, her] at HW
      rw [her] at h1 ⊢
      have hne : (er != 0) = true := by simpa using h1
      have HE2 := hi (show ∀ W, Below w.heap.size w W → Calls Try.prog 30 #[t.v, .pointer (some ⟨p, 0, none⟩), .int .i64 i] W fun e w' => e = .returned (.tuple #[.agg #[.int .i64 (P : Int), .int .i64 8], .int .i64 0]) ∧ Below W.heap.size W w' from HEV)
      obtain ⟨x1, x2, x3⟩ := d
      obtain ⟨r1, r2, r3⟩ := t
      (try dsimp only at HC0 HB0 HE2 HW ⊢)
      clear h0 h1 hse hvv her hPl hPP HEV HE hM hno
      obtain ⟨a0, a1, a2⟩ := CB.three HC0.out.1
      go_enter Try.func11, Try.ntmps11
      go_wp2_with (first
        | (go_at_call 30; ((with_reducible refine (HE2.out _ HB0.out).mono ?_); rintro e w1 ⟨rfl, hb1⟩; have HC1 := hi (HC0.out.2.below hb1); have HB1 := hi (HB0.out.more hb1); have hz := HC1.out.lt; clear hb1 a0 a1 a2; obtain ⟨c0, c1, c2⟩ := CB.three HC1.out))
        | (go_at_call 33; ((with_reducible refine (HW.out _).mono ?_); rintro e w2 ⟨rfl, hb2⟩; have HB2 := hi ((HB1.out.alloc HB1.out.size _).more hb2); clear hb2 c0 c1 c2)))
      go_ret
      exact ⟨rfl, HM.out.below HB2.out, Kept.of HB2.out⟩
  · have hse : tputE bs t i d = entE bs t i := by rw [tputE, if_neg h0]
    rw [hno (by rw [hse]; exact h0), hse]
    obtain ⟨er, her⟩ : ∃ e, entE bs t i = e := ⟨_, rfl⟩
    have HEV := HE.out
    unfold tentV at HEV
    simp only [if_neg h0] at HEV
    rw [her] at HEV
    rw [her] at h0 ⊢
    have hne : (er != 0) = true := by simpa using h0
    have HE2 := hi (show ∀ W, Below w.heap.size w W → Calls Try.prog 30 #[t.v, .pointer (some ⟨p, 0, none⟩), .int .i64 i] W fun e w' => e = .returned (.tuple #[.agg #[.int .i64 0, .int .i64 0], .int .i64 er]) ∧ Below W.heap.size W w' from HEV)
    obtain ⟨x1, x2, x3⟩ := d
    obtain ⟨r1, r2, r3⟩ := t
    (try dsimp only at HC0 HB0 HE2 ⊢)
    clear h0 hse her HEV HE hM hno HW
    obtain ⟨a0, a1, a2⟩ := CB.three HC0.out.1
    go_enter Try.func11, Try.ntmps11
    go_wp2_with (go_at_call 30; ((with_reducible refine (HE2.out _ HB0.out).mono ?_); rintro e w1 ⟨rfl, hb1⟩; have HB1 := hi (HB0.out.more hb1); clear hb1 a0 a1 a2))
    go_ret
    exact ⟨rfl, HM.out.below (HB1.out.alloc HB1.out.size _), Kept.of (HB1.out.alloc HB1.out.size _)⟩

end Go.Proofs.Ytjcjblmaceooaaa
