/-
  The document's Lead, Put, SetRoute, SetTarget: they end, and the memory keeps its size.
-/
import Derived.Test.YtjcjblmaceooaaaTbP
namespace Go.Proofs.Ytjcjblmaceooaaa
open Go.ChangeShapes Go.WideShapes Go.ChangeAt Go.RowKit
set_option linter.unusedVariables false
set_option linter.unusedSimpArgs false

/-- What a put leaves. -/
abbrev PutsW (q h c n P : Nat) (w : World) : Prop := ∀ (x : Int), 0 ≤ x → x < 18446744073709551616 → ∀ W, Below w.heap.size w W → Calls Try.prog 62 #[.pointer (some ⟨q, 0, none⟩), .int .i64 (P : Int), .int .u64 x] W fun e w' => (∃ r, e = .returned r) ∧ (∃ cs : List Nat, cs.length = n ∧ MemAt 72 w' q h c cs) ∧ Kept (· = h) W w'
theorem putsW {q h c P : Nat} {bs : List Nat} {w : World} (hM : MemAt 72 w q h c bs) (hP : P + 8 ≤ bs.length) : PutsW q h c bs.length P w := fun x h0 h1 W hb => rput_w q h c bs P P x rfl h0 h1 hP W (hM.below hb)

set_option maxRecDepth 100000 in
set_option maxHeartbeats 8000000 in
theorem rsetT_any (q h c : Nat) (bs : List Nat) (a s k t : Int) (b : Bool) (w : World) (hM : MemAt 72 w q h c bs) (ha : i64B a) (hs : i64B s) :
    Calls Try.prog 55 #[.pointer (some ⟨q, 0, none⟩), .agg #[.int .i64 a, .int .i64 s], .int .i64 k, .int .i64 t, .bool b] w (RefW q h c bs.length w) := by
  have H0 := Hi.mk (And.intro (CB.new w 30 #[.int .i64 a, .int .i64 s]) (bal w (.cells #[.int .i64 a, .int .i64 s] 30)))
  have HEN := Hi.mk (fun W (hb : Below w.heap.size w W) => rentry_pl q h c bs a s k W (hM.below hb) ha hs)
  have HNO := Hi.mk (fun (W : World) (k : Below w.heap.size w W) (x : Int) => RefW.no hM k x)
  have HPW := Hi.mk (fun (P : Nat) (hP : P + 8 ≤ bs.length) => putsW hM hP)
  have HPL := Hi.mk (fun (P : Nat) (hP : nthP bs.length a s k = some P) => (nthP_some hP).2.2)
  obtain ⟨n, hn⟩ : ∃ n, bs.length = n := ⟨_, rfl⟩
  rw [hn] at HEN HNO HPW HPL ⊢
  obtain ⟨o, ho⟩ : ∃ o, nthP n a s k = o := ⟨_, rfl⟩
  rw [ho] at HEN HPL
  clear hn ho hM ha hs
  by_cases h0 : k < 0
  · skip
    go_enter Try.func55, Try.ntmps55
    go_wp2
    go_ret
    exact HNO.out _ H0.out.2 _
  by_cases h1 : 131072 ≤ k
  · have h0' : 0 ≤ k := by omega
    clear h0
    go_enter Try.func55, Try.ntmps55
    go_wp2
    go_ret
    exact HNO.out _ H0.out.2 _
  have h0' : 0 ≤ k := by omega
  have h1' : k < 131072 := by omega
  clear h0 h1
  by_cases h2 : t < 0
  · skip
    go_enter Try.func55, Try.ntmps55
    go_wp2
    go_ret
    exact HNO.out _ H0.out.2 _
  by_cases h3 : 65535 < t
  · have h2' : 0 ≤ t := by omega
    clear h2
    go_enter Try.func55, Try.ntmps55
    go_wp2
    go_ret
    exact HNO.out _ H0.out.2 _
  have h2' : 0 ≤ t := by omega
  have h3' : t ≤ 65535 := by omega
  clear h2 h3
  obtain ⟨c0, c1⟩ := CB.two H0.out.1
  cases o with
  | none =>
    unfold plV at HEN
    dsimp only at HEN
    go_enter Try.func55, Try.ntmps55
    go_wp2_with (go_at_call 61; ((with_reducible refine (HEN.out _ H0.out.2).mono ?_); rintro e w1 ⟨rfl, hb1⟩; have H1 := Hi.mk (H0.out.2.more hb1); clear hb1))
    go_ret
    exact HNO.out _ H1.out _
  | some P =>
    unfold plV at HEN
    dsimp only at HEN
    have HPU := Hi.mk (HPW.out P (HPL.out P rfl))
    cases b
    · skip
      go_enter Try.func55, Try.ntmps55
      go_wp2_with (first
        | (go_at_call 61; ((with_reducible refine (HEN.out _ H0.out.2).mono ?_); rintro e w1 ⟨rfl, hb1⟩; have H1 := Hi.mk (H0.out.2.more hb1); clear hb1))
        | (go_at_call 62; ((with_reducible refine (HPU.out _ (by omega) (by omega) _ H1.out).mono ?_); rintro e wp ⟨⟨r, rfl⟩, ⟨cs, hcl, hmp⟩, hkp⟩; have HP := Hi.mk (And.intro hcl (And.intro hmp hkp)); clear hcl hmp hkp)))
      go_ret
      exact RefW.yes H1.out HP.out.1 HP.out.2.1 HP.out.2.2 _
    · skip
      go_enter Try.func55, Try.ntmps55
      go_wp2_with (first
        | (go_at_call 61; ((with_reducible refine (HEN.out _ H0.out.2).mono ?_); rintro e w1 ⟨rfl, hb1⟩; have H1 := Hi.mk (H0.out.2.more hb1); clear hb1))
        | (go_at_call 62; ((with_reducible refine (HPU.out _ (by omega) (by omega) _ H1.out).mono ?_); rintro e wp ⟨⟨r, rfl⟩, ⟨cs, hcl, hmp⟩, hkp⟩; have HP := Hi.mk (And.intro hcl (And.intro hmp hkp)); clear hcl hmp hkp)))
      go_ret
      exact RefW.yes H1.out HP.out.1 HP.out.2.1 HP.out.2.2 _

set_option maxRecDepth 100000 in
set_option maxHeartbeats 8000000 in
theorem rsetR_any (q h c : Nat) (bs : List Nat) (d : Dv) (hF : d.Fair) (ev : Int) (r : Rt) (w : World) (hM : MemAt 72 w q h c bs) :
    Calls Try.prog 54 #[d.v, .pointer (some ⟨q, 0, none⟩), .int .i64 ev, r.v] w (RefW q h c bs.length w) := by
  have H0 := Hi.mk (And.intro ((CB.new w 107 (Dv.cs d)).alloc (.cells (Rt.cs r) 52)) (And.intro (cb_second (w := w) (o := .cells (Dv.cs d) 107) (cs := Rt.cs r) (t := 52)) (bal_two w (.cells (Dv.cs d) 107) (.cells (Rt.cs r) 52))))
  have HPC := Hi.mk (fun W (hb : Below w.heap.size w W) => rdplace_any q h c bs d hF ev W (hM.below hb))
  have HNO := Hi.mk (fun (W : World) (k : Below w.heap.size w W) (x : Int) => RefW.no hM k x)
  have HPW := Hi.mk (fun (P : Nat) (hP : P + 8 ≤ bs.length) => putsW hM hP)
  have HPL := Hi.mk (fun (h : evE bs.length d ev = 0) => (evE_zero h).2.2.2)
  have HV := Hi.mk (show evV bs.length d ev = if evE bs.length d ev = 0 then .tuple #[.int .i64 (d.at_ + 8 * ev), .int .i64 0] else .tuple #[.int .i64 0, .int .i64 (evE bs.length d ev)] from rfl)
  obtain ⟨n, hn⟩ : ∃ n, bs.length = n := ⟨_, rfl⟩
  rw [hn] at HPC HNO HPW HPL HV ⊢
  obtain ⟨ee, hee⟩ : ∃ e, evE n d ev = e := ⟨_, rfl⟩
  rw [hee] at HPL HV
  obtain ⟨vv, hvv⟩ : ∃ v, evV n d ev = v := ⟨_, rfl⟩
  rw [hvv] at HPC HV
  obtain ⟨P, hP⟩ : ∃ P, evP d ev = P := ⟨_, rfl⟩
  rw [hP] at HPL
  obtain ⟨o, b, a⟩ := d
  obtain ⟨rn, rc, ro⟩ := r
  (try dsimp only at H0 HPL HV HPC ⊢)
  clear hn hee hvv hP hM hF
  obtain ⟨d0, d1, d2⟩ := CB.three H0.out.1
  by_cases he : ee = 0
  · subst he
    obtain ⟨hPe, hPl⟩ := HPL.out rfl
    have hv : vv = .tuple #[.int .i64 (P : Int), .int .i64 0] := by have := HV.out; rw [← hPe] at this; simpa using this
    subst hv
    have HPU := Hi.mk (HPW.out P hPl)
    clear hPe hPl HV HPL HPW
    cases ro
    · skip
      go_enter Try.func54, Try.ntmps54
      go_wp2_with (first
        | (go_at_call 64; ((with_reducible refine (HPC.out _ H0.out.2.2).mono ?_); rintro e w1 ⟨rfl, hb1⟩; have H1 := Hi.mk (And.intro (H0.out.2.1.below hb1) (H0.out.2.2.more hb1)); clear hb1 d0 d1 d2; obtain ⟨r0, r1, r2⟩ := CB.three H1.out.1))
        | (go_at_call 62; ((with_reducible refine (HPU.out _ (by omega) (by omega) _ H1.out.2).mono ?_); rintro e wp ⟨⟨r, rfl⟩, ⟨cs, hcl, hmp⟩, hkp⟩; have HP := Hi.mk (And.intro hcl (And.intro hmp hkp)); clear hcl hmp hkp)))
      go_ret
      exact RefW.yes H1.out.2 HP.out.1 HP.out.2.1 HP.out.2.2 _
    · by_cases h0 : rn < 0
      · skip
        go_enter Try.func54, Try.ntmps54
        go_wp2_with (go_at_call 64; ((with_reducible refine (HPC.out _ H0.out.2.2).mono ?_); rintro e w1 ⟨rfl, hb1⟩; have H1 := Hi.mk (And.intro (H0.out.2.1.below hb1) (H0.out.2.2.more hb1)); clear hb1 d0 d1 d2; obtain ⟨r0, r1, r2⟩ := CB.three H1.out.1))
        go_ret
        exact HNO.out _ H1.out.2 _
      by_cases h1 : 4294967296 ≤ rn
      · have h0' : 0 ≤ rn := by omega
        clear h0
        go_enter Try.func54, Try.ntmps54
        go_wp2_with (go_at_call 64; ((with_reducible refine (HPC.out _ H0.out.2.2).mono ?_); rintro e w1 ⟨rfl, hb1⟩; have H1 := Hi.mk (And.intro (H0.out.2.1.below hb1) (H0.out.2.2.more hb1)); clear hb1 d0 d1 d2; obtain ⟨r0, r1, r2⟩ := CB.three H1.out.1))
        go_ret
        exact HNO.out _ H1.out.2 _
      have h0' : 0 ≤ rn := by omega
      have h1' : rn < 4294967296 := by omega
      clear h0 h1
      by_cases h2 : rc < 0
      · skip
        go_enter Try.func54, Try.ntmps54
        go_wp2_with (go_at_call 64; ((with_reducible refine (HPC.out _ H0.out.2.2).mono ?_); rintro e w1 ⟨rfl, hb1⟩; have H1 := Hi.mk (And.intro (H0.out.2.1.below hb1) (H0.out.2.2.more hb1)); clear hb1 d0 d1 d2; obtain ⟨r0, r1, r2⟩ := CB.three H1.out.1))
        go_ret
        exact HNO.out _ H1.out.2 _
      by_cases h3 : 65535 < rc
      · have h2' : 0 ≤ rc := by omega
        clear h2
        go_enter Try.func54, Try.ntmps54
        go_wp2_with (go_at_call 64; ((with_reducible refine (HPC.out _ H0.out.2.2).mono ?_); rintro e w1 ⟨rfl, hb1⟩; have H1 := Hi.mk (And.intro (H0.out.2.1.below hb1) (H0.out.2.2.more hb1)); clear hb1 d0 d1 d2; obtain ⟨r0, r1, r2⟩ := CB.three H1.out.1))
        go_ret
        exact HNO.out _ H1.out.2 _
      have h2' : 0 ≤ rc := by omega
      have h3' : rc ≤ 65535 := by omega
      clear h2 h3
      go_enter Try.func54, Try.ntmps54
      go_wp2_with (first
        | (go_at_call 64; ((with_reducible refine (HPC.out _ H0.out.2.2).mono ?_); rintro e w1 ⟨rfl, hb1⟩; have H1 := Hi.mk (And.intro (H0.out.2.1.below hb1) (H0.out.2.2.more hb1)); clear hb1 d0 d1 d2; obtain ⟨r0, r1, r2⟩ := CB.three H1.out.1))
        | (go_at_call 62; ((with_reducible refine (HPU.out _ (by omega) (by omega) _ H1.out.2).mono ?_); rintro e wp ⟨⟨r, rfl⟩, ⟨cs, hcl, hmp⟩, hkp⟩; have HP := Hi.mk (And.intro hcl (And.intro hmp hkp)); clear hcl hmp hkp)))
      go_ret
      exact RefW.yes H1.out.2 HP.out.1 HP.out.2.1 HP.out.2.2 _
  · have hv : vv = .tuple #[.int .i64 0, .int .i64 ee] := by have := HV.out; rw [if_neg he] at this; exact this
    subst hv
    have hne : (ee != 0) = true := by simpa using he
    clear he HV HPL HPW
    go_enter Try.func54, Try.ntmps54
    go_wp2_with (go_at_call 64; ((with_reducible refine (HPC.out _ H0.out.2.2).mono ?_); rintro e w1 ⟨rfl, hb1⟩; have H1 := Hi.mk (And.intro (H0.out.2.1.below hb1) (H0.out.2.2.more hb1)); clear hb1 d0 d1 d2))
    go_ret
    exact HNO.out _ H1.out.2 _

set_option maxRecDepth 100000 in
set_option maxHeartbeats 8000000 in
theorem rputD_any (q h c : Nat) (bs : List Nat) (t : Tb) (hF : t.Fair) (id : Int) (d : Dv) (w : World) (hM : MemAt 72 w q h c bs) :
    Calls Try.prog 52 #[t.v, .pointer (some ⟨q, 0, none⟩), .int .i64 id, d.v] w (RefW q h c bs.length w) := by
  have H0 := Hi.mk (And.intro ((CB.new w 103 (Tb.cs t)).alloc (.cells (Dv.cs d) 107)) (And.intro (cb_second (w := w) (o := .cells (Tb.cs t) 103) (cs := Dv.cs d) (t := 107)) (bal_two w (.cells (Tb.cs t) 103) (.cells (Dv.cs d) 107))))
  have HRT := Hi.mk (fun W (hb : Below w.heap.size w W) => rright_any q h c bs t hF W (hM.below hb))
  have HNO := Hi.mk (fun (W : World) (k : Below w.heap.size w W) (x : Int) => RefW.no hM k x)
  have HPW := Hi.mk (fun (P : Nat) (hP : P + 8 ≤ bs.length) => putsW hM hP)
  have HPL := Hi.mk (fun (P : Nat) (hP : findP bs t id = some P) => findP_le hP)
  have HPC := Hi.mk (fun (hz : rrightE bs.length t = 0) W (hb : Below w.heap.size w W) => rplace_any q h c bs t hF id W (hM.below hb) (rrightE_zero hz))
  obtain ⟨re, hre⟩ : ∃ e, rrightE bs.length t = e := ⟨_, rfl⟩
  rw [hre] at HRT HPC
  obtain ⟨o, ho⟩ : ∃ o, findP bs t id = o := ⟨_, rfl⟩
  rw [ho] at HPC HPL
  obtain ⟨n, hn⟩ : ∃ n, bs.length = n := ⟨_, rfl⟩
  rw [hn] at HNO HPW HPL ⊢
  obtain ⟨ta, ts, tp⟩ := t
  obtain ⟨ok, b, a⟩ := d
  (try dsimp only at H0 HPC HRT ⊢)
  clear hn hre ho hM hF
  obtain ⟨t0, t1, t2⟩ := CB.three H0.out.1
  by_cases he : re = 0
  · subst he
    replace HPC := Hi.mk (HPC.out rfl)
    cases o with
    | none =>
      unfold plV at HPC
      dsimp only at HPC
      go_enter Try.func52, Try.ntmps52
      go_wp2_with (first
        | (go_at_call 59; ((with_reducible refine (HRT.out _ H0.out.2.2).mono ?_); rintro e w1 ⟨rfl, hb1⟩; have H1 := Hi.mk (And.intro (H0.out.1.below hb1) (And.intro (H0.out.2.1.below hb1) (H0.out.2.2.more hb1))); clear hb1 t0 t1 t2; obtain ⟨t0, t1, t2⟩ := CB.three H1.out.1))
        | (go_at_call 63; ((with_reducible refine (HPC.out _ H1.out.2.2).mono ?_); rintro e w2 ⟨rfl, hb2⟩; have H2 := Hi.mk (And.intro (H1.out.2.1.below hb2) (H1.out.2.2.more hb2)); clear hb2 t0 t1 t2; obtain ⟨d0, d1, d2⟩ := CB.three H2.out.1)))
      go_ret
      exact HNO.out _ H2.out.2 _
    | some P =>
      unfold plV at HPC
      dsimp only at HPC
      have HPU := Hi.mk (HPW.out P (HPL.out P rfl))
      clear HPL HPW
      cases ok
      · skip
        go_enter Try.func52, Try.ntmps52
        go_wp2_with (first
          | (go_at_call 59; ((with_reducible refine (HRT.out _ H0.out.2.2).mono ?_); rintro e w1 ⟨rfl, hb1⟩; have H1 := Hi.mk (And.intro (H0.out.1.below hb1) (And.intro (H0.out.2.1.below hb1) (H0.out.2.2.more hb1))); clear hb1 t0 t1 t2; obtain ⟨t0, t1, t2⟩ := CB.three H1.out.1))
          | (go_at_call 63; ((with_reducible refine (HPC.out _ H1.out.2.2).mono ?_); rintro e w2 ⟨rfl, hb2⟩; have H2 := Hi.mk (And.intro (H1.out.2.1.below hb2) (H1.out.2.2.more hb2)); clear hb2 t0 t1 t2; obtain ⟨d0, d1, d2⟩ := CB.three H2.out.1))
          | (go_at_call 62; ((with_reducible refine (HPU.out _ (by omega) (by omega) _ H2.out.2).mono ?_); rintro e wp ⟨⟨r, rfl⟩, ⟨cs, hcl, hmp⟩, hkp⟩; have HP := Hi.mk (And.intro hcl (And.intro hmp hkp)); clear hcl hmp hkp)))
        go_ret
        exact RefW.yes H2.out.2 HP.out.1 HP.out.2.1 HP.out.2.2 _
      · by_cases h0 : b < 0
        · skip
          go_enter Try.func52, Try.ntmps52
          go_wp2_with (first
            | (go_at_call 59; ((with_reducible refine (HRT.out _ H0.out.2.2).mono ?_); rintro e w1 ⟨rfl, hb1⟩; have H1 := Hi.mk (And.intro (H0.out.1.below hb1) (And.intro (H0.out.2.1.below hb1) (H0.out.2.2.more hb1))); clear hb1 t0 t1 t2; obtain ⟨t0, t1, t2⟩ := CB.three H1.out.1))
            | (go_at_call 63; ((with_reducible refine (HPC.out _ H1.out.2.2).mono ?_); rintro e w2 ⟨rfl, hb2⟩; have H2 := Hi.mk (And.intro (H1.out.2.1.below hb2) (H1.out.2.2.more hb2)); clear hb2 t0 t1 t2; obtain ⟨d0, d1, d2⟩ := CB.three H2.out.1)))
          go_ret
          exact HNO.out _ H2.out.2 _
        by_cases h1 : 31 < b
        · have h0' : 0 ≤ b := by omega
          clear h0
          go_enter Try.func52, Try.ntmps52
          go_wp2_with (first
            | (go_at_call 59; ((with_reducible refine (HRT.out _ H0.out.2.2).mono ?_); rintro e w1 ⟨rfl, hb1⟩; have H1 := Hi.mk (And.intro (H0.out.1.below hb1) (And.intro (H0.out.2.1.below hb1) (H0.out.2.2.more hb1))); clear hb1 t0 t1 t2; obtain ⟨t0, t1, t2⟩ := CB.three H1.out.1))
            | (go_at_call 63; ((with_reducible refine (HPC.out _ H1.out.2.2).mono ?_); rintro e w2 ⟨rfl, hb2⟩; have H2 := Hi.mk (And.intro (H1.out.2.1.below hb2) (H1.out.2.2.more hb2)); clear hb2 t0 t1 t2; obtain ⟨d0, d1, d2⟩ := CB.three H2.out.1)))
          go_ret
          exact HNO.out _ H2.out.2 _
        have h0' : 0 ≤ b := by omega
        have h1' : b ≤ 31 := by omega
        clear h0 h1
        by_cases h2 : a < 0
        · skip
          go_enter Try.func52, Try.ntmps52
          go_wp2_with (first
            | (go_at_call 59; ((with_reducible refine (HRT.out _ H0.out.2.2).mono ?_); rintro e w1 ⟨rfl, hb1⟩; have H1 := Hi.mk (And.intro (H0.out.1.below hb1) (And.intro (H0.out.2.1.below hb1) (H0.out.2.2.more hb1))); clear hb1 t0 t1 t2; obtain ⟨t0, t1, t2⟩ := CB.three H1.out.1))
            | (go_at_call 63; ((with_reducible refine (HPC.out _ H1.out.2.2).mono ?_); rintro e w2 ⟨rfl, hb2⟩; have H2 := Hi.mk (And.intro (H1.out.2.1.below hb2) (H1.out.2.2.more hb2)); clear hb2 t0 t1 t2; obtain ⟨d0, d1, d2⟩ := CB.three H2.out.1)))
          go_ret
          exact HNO.out _ H2.out.2 _
        have h2' : 0 ≤ a := by omega
        clear h2
        by_cases h3 : a % 256 = 0
        · have h3' : (a % 256 != 0) = false := by simpa using h3
          clear h3
          by_cases h4 : 281474976710400 < a
          · skip
            go_enter Try.func52, Try.ntmps52
            go_wp2_with (first
              | (go_at_call 59; ((with_reducible refine (HRT.out _ H0.out.2.2).mono ?_); rintro e w1 ⟨rfl, hb1⟩; have H1 := Hi.mk (And.intro (H0.out.1.below hb1) (And.intro (H0.out.2.1.below hb1) (H0.out.2.2.more hb1))); clear hb1 t0 t1 t2; obtain ⟨t0, t1, t2⟩ := CB.three H1.out.1))
              | (go_at_call 63; ((with_reducible refine (HPC.out _ H1.out.2.2).mono ?_); rintro e w2 ⟨rfl, hb2⟩; have H2 := Hi.mk (And.intro (H1.out.2.1.below hb2) (H1.out.2.2.more hb2)); clear hb2 t0 t1 t2; obtain ⟨d0, d1, d2⟩ := CB.three H2.out.1)))
            go_ret
            exact HNO.out _ H2.out.2 _
          · have h4' : a ≤ 281474976710400 := by omega
            clear h4
            go_enter Try.func52, Try.ntmps52
            go_wp2_with (first
              | (go_at_call 59; ((with_reducible refine (HRT.out _ H0.out.2.2).mono ?_); rintro e w1 ⟨rfl, hb1⟩; have H1 := Hi.mk (And.intro (H0.out.1.below hb1) (And.intro (H0.out.2.1.below hb1) (H0.out.2.2.more hb1))); clear hb1 t0 t1 t2; obtain ⟨t0, t1, t2⟩ := CB.three H1.out.1))
              | (go_at_call 63; ((with_reducible refine (HPC.out _ H1.out.2.2).mono ?_); rintro e w2 ⟨rfl, hb2⟩; have H2 := Hi.mk (And.intro (H1.out.2.1.below hb2) (H1.out.2.2.more hb2)); clear hb2 t0 t1 t2; obtain ⟨d0, d1, d2⟩ := CB.three H2.out.1))
              | (go_at_call 62; ((with_reducible refine (HPU.out _ (by omega) (by omega) _ H2.out.2).mono ?_); rintro e wp ⟨⟨r, rfl⟩, ⟨cs, hcl, hmp⟩, hkp⟩; have HP := Hi.mk (And.intro hcl (And.intro hmp hkp)); clear hcl hmp hkp)))
            go_ret
            exact RefW.yes H2.out.2 HP.out.1 HP.out.2.1 HP.out.2.2 _
        · have h3' : (a % 256 != 0) = true := by simpa using h3
          clear h3
          go_enter Try.func52, Try.ntmps52
          go_wp2_with (first
            | (go_at_call 59; ((with_reducible refine (HRT.out _ H0.out.2.2).mono ?_); rintro e w1 ⟨rfl, hb1⟩; have H1 := Hi.mk (And.intro (H0.out.1.below hb1) (And.intro (H0.out.2.1.below hb1) (H0.out.2.2.more hb1))); clear hb1 t0 t1 t2; obtain ⟨t0, t1, t2⟩ := CB.three H1.out.1))
            | (go_at_call 63; ((with_reducible refine (HPC.out _ H1.out.2.2).mono ?_); rintro e w2 ⟨rfl, hb2⟩; have H2 := Hi.mk (And.intro (H1.out.2.1.below hb2) (H1.out.2.2.more hb2)); clear hb2 t0 t1 t2; obtain ⟨d0, d1, d2⟩ := CB.three H2.out.1)))
          go_ret
          exact HNO.out _ H2.out.2 _
  · have hne : (re != 0) = true := by simpa using he
    clear he HPC HPL HPW
    go_enter Try.func52, Try.ntmps52
    go_wp2_with (go_at_call 59; ((with_reducible refine (HRT.out _ H0.out.2.2).mono ?_); rintro e w1 ⟨rfl, hb1⟩; have H1 := Hi.mk (And.intro (H0.out.1.below hb1) (And.intro (H0.out.2.1.below hb1) (H0.out.2.2.more hb1))); clear hb1 t0 t1 t2; obtain ⟨t0, t1, t2⟩ := CB.three H1.out.1))
    go_ret
    exact HNO.out _ H1.out.2.2 _

set_option maxRecDepth 100000 in
set_option maxHeartbeats 8000000 in
theorem rlead_any (q h c : Nat) (bs : List Nat) (t : Tb) (hF : t.Fair) (id at_ : Int) (hA : i64B at_) (w : World) (hM : MemAt 72 w q h c bs) :
    Calls Try.prog 51 #[t.v, .pointer (some ⟨q, 0, none⟩), .int .i64 id, .int .i64 at_] w (RefW q h c bs.length w) := by
  have H0 := Hi.mk (And.intro (CB.new w 103 (Tb.cs t)) (bal w (.cells (Tb.cs t) 103)))
  have HRT := Hi.mk (fun W (hb : Below w.heap.size w W) => rright_any q h c bs t hF W (hM.below hb))
  have HNO := Hi.mk (fun (W : World) (k : Below w.heap.size w W) (x : Int) => RefW.no hM k x)
  have HPW := Hi.mk (fun (P : Nat) (hP : P + 8 ≤ bs.length) => putsW hM hP)
  have HH := Hi.mk (fun W (hb : Below w.heap.size w W) => rholds_any q h c bs at_ t.page W (hM.below hb) hA.1 hA.2 hF.p.1 hF.p.2)
  have hlen := hM.len
  have HHB := Hi.mk (show holdsB bs.length at_ t.page = true → 0 ≤ at_ ∧ at_ ≤ 131072 from fun h => by simp only [holdsB, decide_eq_true_eq] at h; omega)
  have HZ := Hi.mk (fun (hz : rrightE bs.length t = 0) => rrightE_zero hz)
  have HEN := Hi.mk (fun W (hb : Below w.heap.size w W) => rentry_pl q h c bs t.at_ t.size (id.tdiv (perN t)) W (hM.below hb) hF.a hF.s)
  have HPL := Hi.mk (fun (P : Nat) (hP : nthP bs.length t.at_ t.size (id.tdiv (perN t)) = some P) => (nthP_some hP).2.2)
  have hpw := Hi.mk (show IntKind.i64.wrap (t.page.tdiv 8) = perN t from (tdiv_i64 hF.p 8 (by decide)).1)
  have HPN := Hi.mk (fun (h1 : 8 ≤ t.page) (h2 : t.page ≤ 131072) => perN_pos h1 h2)
  obtain ⟨re, hre⟩ : ∃ e, rrightE bs.length t = e := ⟨_, rfl⟩
  rw [hre] at HRT HZ
  obtain ⟨per, hpe⟩ : ∃ x, perN t = x := ⟨_, rfl⟩
  rw [hpe] at HEN HPL hpw HPN
  obtain ⟨x, hx⟩ : ∃ x, id.tdiv per = x := ⟨_, rfl⟩
  rw [hx] at HEN HPL
  obtain ⟨o, ho⟩ : ∃ o, nthP bs.length t.at_ t.size x = o := ⟨_, rfl⟩
  rw [ho] at HEN HPL
  unfold win at HH
  obtain ⟨hb, hhb⟩ : ∃ v, holdsB bs.length at_ t.page = v := ⟨_, rfl⟩
  rw [hhb] at HH HHB
  obtain ⟨n, hn⟩ : ∃ n, bs.length = n := ⟨_, rfl⟩
  rw [hn] at HNO HPW HPL ⊢
  obtain ⟨a, s, pg⟩ := t
  (try dsimp only at H0 HRT HH HZ HEN hpw HPN ⊢)
  have HX := Hi.mk hx
  clear hn hre ho hM hF hhb hA hlen hpe hx
  obtain ⟨c0, c1, c2⟩ := CB.three H0.out.1
  by_cases he : re = 0
  · subst he
    have hz := HZ.out rfl
    by_cases hp : pg = 0
    · subst hp
      clear hz
      go_enter Try.func51, Try.ntmps51
      go_wp2_with (go_at_call 59; ((with_reducible refine (HRT.out _ H0.out.2).mono ?_); rintro e w1 ⟨rfl, hb1⟩; have H1 := Hi.mk (And.intro (H0.out.1.below hb1) (H0.out.2.more hb1)); clear hb1 c0 c1 c2; obtain ⟨c0, c1, c2⟩ := CB.three H1.out.1))
      go_ret
      exact HNO.out _ H1.out.2 _
    have g0 : (pg == 0) = false := by simpa using hp
    obtain ⟨hper1, hper2⟩ := HPN.out (by omega) (by omega)
    clear hz hp
    by_cases h0 : id < 0
    · skip
      go_enter Try.func51, Try.ntmps51
      go_wp2_with (go_at_call 59; ((with_reducible refine (HRT.out _ H0.out.2).mono ?_); rintro e w1 ⟨rfl, hb1⟩; have H1 := Hi.mk (And.intro (H0.out.1.below hb1) (H0.out.2.more hb1)); clear hb1 c0 c1 c2; obtain ⟨c0, c1, c2⟩ := CB.three H1.out.1))
      go_ret
      exact HNO.out _ H1.out.2 _
    by_cases h1 : 131072 ≤ id
    · have h0' : 0 ≤ id := by omega
      clear h0
      go_enter Try.func51, Try.ntmps51
      go_wp2_with (go_at_call 59; ((with_reducible refine (HRT.out _ H0.out.2).mono ?_); rintro e w1 ⟨rfl, hb1⟩; have H1 := Hi.mk (And.intro (H0.out.1.below hb1) (H0.out.2.more hb1)); clear hb1 c0 c1 c2; obtain ⟨c0, c1, c2⟩ := CB.three H1.out.1))
      go_ret
      exact HNO.out _ H1.out.2 _
    have h0' : 0 ≤ id := by omega
    have h1' : id < 131072 := by omega
    clear h0 h1
    have hpw := hpw.out
    have g1 : (per == 0) = false := by simp; omega
    have g2 : per ≠ 0 := by omega
    have hxw : IntKind.i64.wrap (id.tdiv per) = x := by rw [← HX.out]; exact (tdiv_i64 ⟨by omega, by omega⟩ per (by omega)).1
    clear hper1 hper2
    cases hb
    · skip
      go_enter Try.func51, Try.ntmps51
      go_wp2_with (first
        | (go_at_call 59; ((with_reducible refine (HRT.out _ H0.out.2).mono ?_); rintro e w1 ⟨rfl, hb1⟩; have H1 := Hi.mk (And.intro (H0.out.1.below hb1) (H0.out.2.more hb1)); clear hb1 c0 c1 c2; obtain ⟨c0, c1, c2⟩ := CB.three H1.out.1))
        | (go_at_call 60; ((with_reducible refine (HH.out _ H1.out.2).mono ?_); rintro e w2 ⟨rfl, hb2⟩; have H2 := Hi.mk (And.intro (H1.out.1.below hb2) (H1.out.2.more hb2)); clear hb2 c0 c1 c2)))
      go_ret
      exact HNO.out _ H2.out.2 _
    · obtain ⟨ht0, ht1⟩ := HHB.out rfl
      cases o with
      | none =>
        unfold plV at HEN
        dsimp only at HEN
        have HNT := HEN
        go_enter Try.func51, Try.ntmps51
        go_wp2_with (first
          | (go_at_call 59; ((with_reducible refine (HRT.out _ H0.out.2).mono ?_); rintro e w1 ⟨rfl, hb1⟩; have H1 := Hi.mk (And.intro (H0.out.1.below hb1) (H0.out.2.more hb1)); clear hb1 c0 c1 c2; obtain ⟨c0, c1, c2⟩ := CB.three H1.out.1))
          | (go_at_call 60; ((with_reducible refine (HH.out _ H1.out.2).mono ?_); rintro e w2 ⟨rfl, hb2⟩; have H2 := Hi.mk (And.intro (H1.out.1.below hb2) (H1.out.2.more hb2)); clear hb2 c0 c1 c2)))
        refine wp_region_noPanic ?_
        refine wp_region_last_drew (S := (fun V => V.cell? ⟨w.heap.size, 0, none⟩ = some (.int .i64 a) ∧ V.cell? ⟨w.heap.size, 1, none⟩ = some (.int .i64 s) ∧ V.cell? ⟨w.heap.size, 2, none⟩ = some (.int .i64 pg))) [] (by kernel_rfl) (CB.three H2.out.1.drew) (fun hHeld => ?_)
        (try simp only [Array.replicate_succ, Array.replicate_zero, List.push_toArray, List.nil_append, List.cons_append])
        refine wpAnyF_take (i := 0) (v := ?_) (by kernel_rfl) (by kernel_rfl) rfl (by kernel_rfl) (by kernel_rfl) (by kernel_rfl) (fun _ _ _ h => h) (Or.inl ⟨by rfl, ?_⟩) (by assumption) ?_
        rotate_left
        · intro w' hSw; (try dsimp only at hSw); clear hSw; go_simp; (try with_reducible rfl)
        (try simp only [Act.put, List.getElem_toArray, List.getElem_cons_zero, List.getElem_cons_succ, List.setIfInBounds_toArray, List.set_cons_zero, List.set_cons_succ])
        refine wpAnyF_take (i := 1) (v := ?_) (by kernel_rfl) (by kernel_rfl) rfl (by kernel_rfl) (by kernel_rfl) (by kernel_rfl) (fun _ _ _ h => h) (Or.inl ⟨by rfl, ?_⟩) (by assumption) ?_
        rotate_left
        · intro w' hSw; (try dsimp only at hSw); clear hSw; go_simp; (try with_reducible rfl)
        (try simp only [Act.put, List.getElem_toArray, List.getElem_cons_zero, List.getElem_cons_succ, List.setIfInBounds_toArray, List.set_cons_zero, List.set_cons_succ])
        refine wpAnyF_take (i := 2) (v := ?_) (by kernel_rfl) (by kernel_rfl) rfl (by kernel_rfl) (by kernel_rfl) (by kernel_rfl) (fun _ _ _ h => h) (Or.inl ⟨by rfl, ?_⟩) (by assumption) ?_
        rotate_left
        · intro w' hSw; (try dsimp only at hSw); have hq := hSw; clear hSw; obtain ⟨c0, c1, c2⟩ := hq; go_simp; (try with_reducible rfl)
        (try simp only [Act.put, List.getElem_toArray, List.getElem_cons_zero, List.getElem_cons_succ, List.setIfInBounds_toArray, List.set_cons_zero, List.set_cons_succ])
        refine wpAnyF_take (i := 3) (v := ?_) (by kernel_rfl) (by kernel_rfl) rfl (by kernel_rfl) (by kernel_rfl) (by kernel_rfl) (fun _ _ _ h => h) (Or.inl ⟨by rfl, ?_⟩) (by assumption) ?_
        rotate_left
        · intro w' hSw; (try dsimp only at hSw); clear hSw; go_simp; (try with_reducible rfl)
        (try simp only [Act.put, List.getElem_toArray, List.getElem_cons_zero, List.getElem_cons_succ, List.setIfInBounds_toArray, List.set_cons_zero, List.set_cons_succ])
        refine wpAnyF_take (i := 4) (v := ?_) (by kernel_rfl) (by kernel_rfl) rfl (by kernel_rfl) (by kernel_rfl) (by kernel_rfl) (fun _ _ _ h => h) (Or.inl ⟨by rfl, ?_⟩) (by assumption) ?_
        rotate_left
        · intro w' hSw; (try dsimp only at hSw); clear hSw; go_simp; (try with_reducible rfl)
        (try simp only [Act.put, List.getElem_toArray, List.getElem_cons_zero, List.getElem_cons_succ, List.setIfInBounds_toArray, List.set_cons_zero, List.set_cons_succ])
        refine wpAnyF_take (i := 5) (v := ?_) (by kernel_rfl) (by kernel_rfl) rfl (by kernel_rfl) (by kernel_rfl) (by kernel_rfl) (fun _ _ _ h => h) (Or.inl ⟨by rfl, ?_⟩) (by assumption) ?_
        rotate_left
        · intro w' hSw; (try dsimp only at hSw); have hq := hSw; clear hSw; obtain ⟨c0, c1, c2⟩ := hq; go_simp; (try with_reducible rfl)
        (try simp only [Act.put, List.getElem_toArray, List.getElem_cons_zero, List.getElem_cons_succ, List.setIfInBounds_toArray, List.set_cons_zero, List.set_cons_succ])
        refine wpAnyF_take (i := 6) (v := ?_) (by kernel_rfl) (by kernel_rfl) rfl (by kernel_rfl) (by kernel_rfl) (by kernel_rfl) (fun _ _ _ h => h) (Or.inl ⟨by rfl, ?_⟩) (by assumption) ?_
        rotate_left
        · intro w' hSw; (try dsimp only at hSw); clear hSw; go_simp; (try with_reducible rfl)
        (try simp only [Act.put, List.getElem_toArray, List.getElem_cons_zero, List.getElem_cons_succ, List.setIfInBounds_toArray, List.set_cons_zero, List.set_cons_succ])
        refine wpAnyF_take (i := 7) (v := ?_) (by kernel_rfl) (by kernel_rfl) rfl (by kernel_rfl) (by kernel_rfl) (by kernel_rfl) (fun _ _ _ h => h) (Or.inl ⟨by rfl, ?_⟩) (by assumption) ?_
        rotate_left
        · intro w' hSw; (try dsimp only at hSw); clear hSw; go_simp; (try with_reducible rfl)
        (try simp only [Act.put, List.getElem_toArray, List.getElem_cons_zero, List.getElem_cons_succ, List.setIfInBounds_toArray, List.set_cons_zero, List.set_cons_succ])
        refine wpAnyF_ready (rs := [8]) (by kernel_rfl) (by simp) ?_
        refine AllReadyF.cons rfl (fun KK hKK => ?_) AllReadyF.nil
        go_simp
        ((with_reducible refine (HNT.out _ (H2.out.2.more (below_dr _))).mono ?_); rintro e' w5 ⟨rfl, hbb⟩; have HL := Hi.mk (And.intro (H2.out.1.drew.below hbb) ((H2.out.2.more (below_dr _)).more hbb)); clear hbb)
        (try go_simp)
        refine hKK.out _ _ (CB.three HL.out.1) (fun hHeld => ?_)
        clear hKK KK
        (try simp only [Act.put, List.getElem_toArray, List.getElem_cons_zero, List.getElem_cons_succ, List.setIfInBounds_toArray, List.set_cons_zero, List.set_cons_succ])
        refine wpAnyF_take (i := 9) (v := ?_) (by kernel_rfl) (by kernel_rfl) rfl (by kernel_rfl) (by kernel_rfl) (by kernel_rfl) (fun _ _ _ h => h) (Or.inl ⟨by rfl, ?_⟩) (by assumption) ?_
        rotate_left
        · intro w' hSw; (try dsimp only at hSw); clear hSw; go_simp; (try with_reducible rfl)
        (try simp only [Act.put, List.getElem_toArray, List.getElem_cons_zero, List.getElem_cons_succ, List.setIfInBounds_toArray, List.set_cons_zero, List.set_cons_succ])
        refine wpAnyF_take (i := 10) (v := ?_) (by kernel_rfl) (by kernel_rfl) rfl (by kernel_rfl) (by kernel_rfl) (by kernel_rfl) (fun _ _ _ h => h) (Or.inl ⟨by rfl, ?_⟩) (by assumption) ?_
        rotate_left
        · intro w' hSw; (try dsimp only at hSw); clear hSw; go_simp; (try with_reducible rfl)
        (try simp only [Act.put, List.getElem_toArray, List.getElem_cons_zero, List.getElem_cons_succ, List.setIfInBounds_toArray, List.set_cons_zero, List.set_cons_succ])
        refine wpAnyF_take (i := 11) (v := ?_) (by kernel_rfl) (by kernel_rfl) rfl (by kernel_rfl) (by kernel_rfl) (by kernel_rfl) (fun _ _ _ h => h) (Or.inl ⟨by rfl, ?_⟩) (by assumption) ?_
        rotate_left
        · intro w' hSw; (try dsimp only at hSw); clear hSw; go_simp; (try with_reducible rfl)
        (try simp only [Act.put, List.getElem_toArray, List.getElem_cons_zero, List.getElem_cons_succ, List.setIfInBounds_toArray, List.set_cons_zero, List.set_cons_succ])
        refine wpAnyF_take (i := 12) (v := ?_) (by kernel_rfl) (by kernel_rfl) rfl (by kernel_rfl) (by kernel_rfl) (by kernel_rfl) (fun _ _ _ h => h) (Or.inl ⟨by rfl, ?_⟩) (by assumption) ?_
        rotate_left
        · intro w' hSw; (try dsimp only at hSw); clear hSw; go_simp; (try with_reducible rfl)
        (try simp only [Act.put, List.getElem_toArray, List.getElem_cons_zero, List.getElem_cons_succ, List.setIfInBounds_toArray, List.set_cons_zero, List.set_cons_succ])
        refine wpAnyF_take (i := 13) (v := ?_) (by kernel_rfl) (by kernel_rfl) rfl (by kernel_rfl) (by kernel_rfl) (by kernel_rfl) (fun _ _ _ h => h) (Or.inl ⟨by rfl, ?_⟩) (by assumption) ?_
        rotate_left
        · intro w' hSw; (try dsimp only at hSw); clear hSw; go_simp; (try with_reducible rfl)
        (try simp only [Act.put, List.getElem_toArray, List.getElem_cons_zero, List.getElem_cons_succ, List.setIfInBounds_toArray, List.set_cons_zero, List.set_cons_succ])
        refine wpAnyF_done (by kernel_rfl) ?_ _
        refine NoPanic.normal ?_
        go_wp2
        go_ret
        exact HNO.out _ HL.out.2 _
      | some P =>
        unfold plV at HEN
        dsimp only at HEN
        have HNT := HEN
        have HPU := Hi.mk (HPW.out P (HPL.out P rfl))
        go_enter Try.func51, Try.ntmps51
        go_wp2_with (first
          | (go_at_call 59; ((with_reducible refine (HRT.out _ H0.out.2).mono ?_); rintro e w1 ⟨rfl, hb1⟩; have H1 := Hi.mk (And.intro (H0.out.1.below hb1) (H0.out.2.more hb1)); clear hb1 c0 c1 c2; obtain ⟨c0, c1, c2⟩ := CB.three H1.out.1))
          | (go_at_call 60; ((with_reducible refine (HH.out _ H1.out.2).mono ?_); rintro e w2 ⟨rfl, hb2⟩; have H2 := Hi.mk (And.intro (H1.out.1.below hb2) (H1.out.2.more hb2)); clear hb2 c0 c1 c2)))
        refine wp_region_noPanic ?_
        refine wp_region_last_drew (S := (fun V => V.cell? ⟨w.heap.size, 0, none⟩ = some (.int .i64 a) ∧ V.cell? ⟨w.heap.size, 1, none⟩ = some (.int .i64 s) ∧ V.cell? ⟨w.heap.size, 2, none⟩ = some (.int .i64 pg))) [] (by kernel_rfl) (CB.three H2.out.1.drew) (fun hHeld => ?_)
        (try simp only [Array.replicate_succ, Array.replicate_zero, List.push_toArray, List.nil_append, List.cons_append])
        refine wpAnyF_take (i := 0) (v := ?_) (by kernel_rfl) (by kernel_rfl) rfl (by kernel_rfl) (by kernel_rfl) (by kernel_rfl) (fun _ _ _ h => h) (Or.inl ⟨by rfl, ?_⟩) (by assumption) ?_
        rotate_left
        · intro w' hSw; (try dsimp only at hSw); clear hSw; go_simp; (try with_reducible rfl)
        (try simp only [Act.put, List.getElem_toArray, List.getElem_cons_zero, List.getElem_cons_succ, List.setIfInBounds_toArray, List.set_cons_zero, List.set_cons_succ])
        refine wpAnyF_take (i := 1) (v := ?_) (by kernel_rfl) (by kernel_rfl) rfl (by kernel_rfl) (by kernel_rfl) (by kernel_rfl) (fun _ _ _ h => h) (Or.inl ⟨by rfl, ?_⟩) (by assumption) ?_
        rotate_left
        · intro w' hSw; (try dsimp only at hSw); clear hSw; go_simp; (try with_reducible rfl)
        (try simp only [Act.put, List.getElem_toArray, List.getElem_cons_zero, List.getElem_cons_succ, List.setIfInBounds_toArray, List.set_cons_zero, List.set_cons_succ])
        refine wpAnyF_take (i := 2) (v := ?_) (by kernel_rfl) (by kernel_rfl) rfl (by kernel_rfl) (by kernel_rfl) (by kernel_rfl) (fun _ _ _ h => h) (Or.inl ⟨by rfl, ?_⟩) (by assumption) ?_
        rotate_left
        · intro w' hSw; (try dsimp only at hSw); have hq := hSw; clear hSw; obtain ⟨c0, c1, c2⟩ := hq; go_simp; (try with_reducible rfl)
        (try simp only [Act.put, List.getElem_toArray, List.getElem_cons_zero, List.getElem_cons_succ, List.setIfInBounds_toArray, List.set_cons_zero, List.set_cons_succ])
        refine wpAnyF_take (i := 3) (v := ?_) (by kernel_rfl) (by kernel_rfl) rfl (by kernel_rfl) (by kernel_rfl) (by kernel_rfl) (fun _ _ _ h => h) (Or.inl ⟨by rfl, ?_⟩) (by assumption) ?_
        rotate_left
        · intro w' hSw; (try dsimp only at hSw); clear hSw; go_simp; (try with_reducible rfl)
        (try simp only [Act.put, List.getElem_toArray, List.getElem_cons_zero, List.getElem_cons_succ, List.setIfInBounds_toArray, List.set_cons_zero, List.set_cons_succ])
        refine wpAnyF_take (i := 4) (v := ?_) (by kernel_rfl) (by kernel_rfl) rfl (by kernel_rfl) (by kernel_rfl) (by kernel_rfl) (fun _ _ _ h => h) (Or.inl ⟨by rfl, ?_⟩) (by assumption) ?_
        rotate_left
        · intro w' hSw; (try dsimp only at hSw); clear hSw; go_simp; (try with_reducible rfl)
        (try simp only [Act.put, List.getElem_toArray, List.getElem_cons_zero, List.getElem_cons_succ, List.setIfInBounds_toArray, List.set_cons_zero, List.set_cons_succ])
        refine wpAnyF_take (i := 5) (v := ?_) (by kernel_rfl) (by kernel_rfl) rfl (by kernel_rfl) (by kernel_rfl) (by kernel_rfl) (fun _ _ _ h => h) (Or.inl ⟨by rfl, ?_⟩) (by assumption) ?_
        rotate_left
        · intro w' hSw; (try dsimp only at hSw); have hq := hSw; clear hSw; obtain ⟨c0, c1, c2⟩ := hq; go_simp; (try with_reducible rfl)
        (try simp only [Act.put, List.getElem_toArray, List.getElem_cons_zero, List.getElem_cons_succ, List.setIfInBounds_toArray, List.set_cons_zero, List.set_cons_succ])
        refine wpAnyF_take (i := 6) (v := ?_) (by kernel_rfl) (by kernel_rfl) rfl (by kernel_rfl) (by kernel_rfl) (by kernel_rfl) (fun _ _ _ h => h) (Or.inl ⟨by rfl, ?_⟩) (by assumption) ?_
        rotate_left
        · intro w' hSw; (try dsimp only at hSw); clear hSw; go_simp; (try with_reducible rfl)
        (try simp only [Act.put, List.getElem_toArray, List.getElem_cons_zero, List.getElem_cons_succ, List.setIfInBounds_toArray, List.set_cons_zero, List.set_cons_succ])
        refine wpAnyF_take (i := 7) (v := ?_) (by kernel_rfl) (by kernel_rfl) rfl (by kernel_rfl) (by kernel_rfl) (by kernel_rfl) (fun _ _ _ h => h) (Or.inl ⟨by rfl, ?_⟩) (by assumption) ?_
        rotate_left
        · intro w' hSw; (try dsimp only at hSw); clear hSw; go_simp; (try with_reducible rfl)
        (try simp only [Act.put, List.getElem_toArray, List.getElem_cons_zero, List.getElem_cons_succ, List.setIfInBounds_toArray, List.set_cons_zero, List.set_cons_succ])
        refine wpAnyF_ready (rs := [8]) (by kernel_rfl) (by simp) ?_
        refine AllReadyF.cons rfl (fun KK hKK => ?_) AllReadyF.nil
        go_simp
        ((with_reducible refine (HNT.out _ (H2.out.2.more (below_dr _))).mono ?_); rintro e' w5 ⟨rfl, hbb⟩; have HL := Hi.mk (And.intro (H2.out.1.drew.below hbb) ((H2.out.2.more (below_dr _)).more hbb)); clear hbb)
        (try go_simp)
        refine hKK.out _ _ (CB.three HL.out.1) (fun hHeld => ?_)
        clear hKK KK
        (try simp only [Act.put, List.getElem_toArray, List.getElem_cons_zero, List.getElem_cons_succ, List.setIfInBounds_toArray, List.set_cons_zero, List.set_cons_succ])
        refine wpAnyF_take (i := 9) (v := ?_) (by kernel_rfl) (by kernel_rfl) rfl (by kernel_rfl) (by kernel_rfl) (by kernel_rfl) (fun _ _ _ h => h) (Or.inl ⟨by rfl, ?_⟩) (by assumption) ?_
        rotate_left
        · intro w' hSw; (try dsimp only at hSw); clear hSw; go_simp; (try with_reducible rfl)
        (try simp only [Act.put, List.getElem_toArray, List.getElem_cons_zero, List.getElem_cons_succ, List.setIfInBounds_toArray, List.set_cons_zero, List.set_cons_succ])
        refine wpAnyF_take (i := 10) (v := ?_) (by kernel_rfl) (by kernel_rfl) rfl (by kernel_rfl) (by kernel_rfl) (by kernel_rfl) (fun _ _ _ h => h) (Or.inl ⟨by rfl, ?_⟩) (by assumption) ?_
        rotate_left
        · intro w' hSw; (try dsimp only at hSw); clear hSw; go_simp; (try with_reducible rfl)
        (try simp only [Act.put, List.getElem_toArray, List.getElem_cons_zero, List.getElem_cons_succ, List.setIfInBounds_toArray, List.set_cons_zero, List.set_cons_succ])
        refine wpAnyF_take (i := 11) (v := ?_) (by kernel_rfl) (by kernel_rfl) rfl (by kernel_rfl) (by kernel_rfl) (by kernel_rfl) (fun _ _ _ h => h) (Or.inl ⟨by rfl, ?_⟩) (by assumption) ?_
        rotate_left
        · intro w' hSw; (try dsimp only at hSw); clear hSw; go_simp; (try with_reducible rfl)
        (try simp only [Act.put, List.getElem_toArray, List.getElem_cons_zero, List.getElem_cons_succ, List.setIfInBounds_toArray, List.set_cons_zero, List.set_cons_succ])
        refine wpAnyF_take (i := 12) (v := ?_) (by kernel_rfl) (by kernel_rfl) rfl (by kernel_rfl) (by kernel_rfl) (by kernel_rfl) (fun _ _ _ h => h) (Or.inl ⟨by rfl, ?_⟩) (by assumption) ?_
        rotate_left
        · intro w' hSw; (try dsimp only at hSw); clear hSw; go_simp; (try with_reducible rfl)
        (try simp only [Act.put, List.getElem_toArray, List.getElem_cons_zero, List.getElem_cons_succ, List.setIfInBounds_toArray, List.set_cons_zero, List.set_cons_succ])
        refine wpAnyF_take (i := 13) (v := ?_) (by kernel_rfl) (by kernel_rfl) rfl (by kernel_rfl) (by kernel_rfl) (by kernel_rfl) (fun _ _ _ h => h) (Or.inl ⟨by rfl, ?_⟩) (by assumption) ?_
        rotate_left
        · intro w' hSw; (try dsimp only at hSw); clear hSw; go_simp; (try with_reducible rfl)
        (try simp only [Act.put, List.getElem_toArray, List.getElem_cons_zero, List.getElem_cons_succ, List.setIfInBounds_toArray, List.set_cons_zero, List.set_cons_succ])
        refine wpAnyF_done (by kernel_rfl) ?_ _
        refine NoPanic.normal ?_
        go_wp2_with (go_at_call 62; ((with_reducible refine (HPU.out _ (by omega) (by omega) _ HL.out.2).mono ?_); rintro e wp ⟨⟨r, rfl⟩, ⟨cs, hcl, hmp⟩, hkp⟩; have HP := Hi.mk (And.intro hcl (And.intro hmp hkp)); clear hcl hmp hkp))
        go_ret
        exact RefW.yes HL.out.2 HP.out.1 HP.out.2.1 HP.out.2.2 _
  · have hne : (re != 0) = true := by simpa using he
    clear he
    go_enter Try.func51, Try.ntmps51
    go_wp2_with (go_at_call 59; ((with_reducible refine (HRT.out _ H0.out.2).mono ?_); rintro e w1 ⟨rfl, hb1⟩; have H1 := Hi.mk (And.intro (H0.out.1.below hb1) (H0.out.2.more hb1)); clear hb1 c0 c1 c2; obtain ⟨c0, c1, c2⟩ := CB.three H1.out.1))
    go_ret
    exact HNO.out _ H1.out.2 _

end Go.Proofs.Ytjcjblmaceooaaa
