/-
  The document's tables: Events, where an entry stands; table, told.
-/
import Derived.Test.YtjcjblmaceooaaaTbN
namespace Go.Proofs.Ytjcjblmaceooaaa
open Go.ChangeShapes Go.WideShapes Go.ChangeAt Go.RowKit
set_option linter.unusedVariables false
set_option linter.unusedSimpArgs false

theorem rentry_pl (q h c : Nat) (bs : List Nat) (a s k : Int) (w : World) (hM : MemAt 72 w q h c bs) (ha : i64B a) (hs : i64B s) :
    Calls Try.prog 61 #[.pointer (some ⟨q, 0, none⟩), .agg #[.int .i64 a, .int .i64 s], .int .i64 k] w fun e w' => e = .returned (plV (nthP bs.length a s k)) ∧ Below w.heap.size w w' := by
  have h := rentry_any q h c bs a s k w hM ha hs
  rwa [renV_pl] at h

set_option maxRecDepth 100000 in
set_option maxHeartbeats 4000000 in
theorem revents_any (d : Dv) (w : World) : Calls Try.prog 68 #[d.v] w fun e w' => e = .returned (.int .i64 (evN d)) ∧ Below w.heap.size w w' := by
  have H0 := Hi.mk (And.intro (CB.new w 107 (Dv.cs d)) (bal w (.cells (Dv.cs d) 107)))
  have HE := Hi.mk (show evN d = 2 ^ ((min (max d.bits 0) 31).toNat + 1) from rfl)
  obtain ⟨en, hen⟩ : ∃ n, evN d = n := ⟨_, rfl⟩
  rw [hen] at HE ⊢
  obtain ⟨o, b, a⟩ := d
  dsimp only at H0 HE ⊢
  clear hen
  obtain ⟨c0, c1, c2⟩ := CB.three H0.out.1
  go_enter Try.func68, Try.ntmps68
  go_wp2
  go_loop [3, 4] (fun u i => ∃ (k N : Nat), i = .int .i64 (k : Int) ∧ u = .int .i64 (N : Int) ∧ Hi (k ≤ 31 ∧ N = 2 ^ (k + 1) ∧ (0 < k → (k : Int) ≤ b))) (fun _ i => 31 - (intOf i).toNat)
  case atStart => exact ⟨0, 2, rfl, rfl, Hi.mk ⟨by omega, rfl, fun h => by omega⟩⟩
  case round =>
    obtain ⟨k, N, rfl, rfl, HK⟩ := hrel
    have hk := HK.out.1
    have hNl : N ≤ 4294967296 := by rw [HK.out.2.1]; exact Nat.pow_le_pow_right (n := 2) (by decide) (show k + 1 ≤ 32 by omega)
    by_cases h1 : (k : Int) < b
    · by_cases h2 : k < 31
      · have h3 : (k : Int) < 31 := by omega
        go_wp2
        go_round
        case rel => exact ⟨k + 1, 2 * N, by go_num, by go_num, Hi.mk ⟨by omega, by rw [HK.out.2.1, Nat.pow_succ (n := 2) (m := k + 1), Nat.mul_comm], fun _ => by omega⟩⟩
        case measure => simp [intOf]; omega
      · have h3 : (31 : Int) ≤ (k : Int) := by omega
        have HF := Hi.mk (show en = N by rw [HE.out, HK.out.2.1]; congr 2; omega)
        clear h2 hk
        go_wp2
        go_ret
        exact ⟨by rw [HF.out]; rfl, H0.out.2⟩
    · have h3 : b ≤ (k : Int) := by omega
      have HF := Hi.mk (show en = N by rw [HE.out, HK.out.2.1]; congr 2; have := HK.out.2.2; omega)
      clear h1 hk
      go_wp2
      go_ret
      exact ⟨by rw [HF.out]; rfl, H0.out.2⟩

/-- What an event's place answers. -/
def evV (n : Nat) (d : Dv) (ev : Int) : Value := if evE n d ev = 0 then .tuple #[.int .i64 (d.at_ + 8 * ev), .int .i64 0] else .tuple #[.int .i64 0, .int .i64 (evE n d ev)]
theorem evV_no {n : Nat} {d : Dv} {ev e : Int} (h : evE n d ev = e) (h0 : e ≠ 0) : evV n d ev = .tuple #[.int .i64 0, .int .i64 e] := by rw [evV, if_neg (by rw [h]; exact h0), h]
theorem evE_182 {n : Nat} {d : Dv} {ev : Int} (h : ¬ (d.ok = true ∧ 0 ≤ ev ∧ ev < evN d)) : evE n d ev = 182 := by rw [evE, if_neg h]
set_option maxRecDepth 100000 in
set_option maxHeartbeats 4000000 in
theorem rdplace_any (q h c : Nat) (bs : List Nat) (d : Dv) (hF : d.Fair) (ev : Int) (w : World) (hM : MemAt 72 w q h c bs) :
    Calls Try.prog 64 #[d.v, .pointer (some ⟨q, 0, none⟩), .int .i64 ev] w fun e w' => e = .returned (evV bs.length d ev) ∧ Below w.heap.size w w' := by
  have H0 := Hi.mk (And.intro (CB.new w 107 (Dv.cs d)) (bal w (.cells (Dv.cs d) 107)))
  have HM := Hi.mk hM
  have hlen := hM.len
  have HE := Hi.mk (fun W => revents_any d W)
  have hnl := evN_le d
  have H182 := Hi.mk (fun h => evV_no (n := bs.length) (evE_182 (n := bs.length) (d := d) (ev := ev) h) (by decide))
  have HEV := Hi.mk (fun (h : d.ok = true ∧ 0 ≤ ev ∧ ev < evN d) => show evE bs.length d ev = (if holdsB bs.length (d.at_ + 8 * ev) 8 = true then 0 else 180) by rw [evE, if_pos h])
  have HV := Hi.mk (show evE bs.length d ev = 0 → evV bs.length d ev = .tuple #[.int .i64 (d.at_ + 8 * ev), .int .i64 0] from fun h => by rw [evV, if_pos h])
  have HV2 := Hi.mk (show evE bs.length d ev = 180 → evV bs.length d ev = .tuple #[.int .i64 0, .int .i64 180] from fun h => evV_no h (by decide))
  have hat := hF.a
  obtain ⟨rv, hrv0⟩ : ∃ v, evV bs.length d ev = v := ⟨_, rfl⟩
  obtain ⟨ee, hee⟩ : ∃ v, evE bs.length d ev = v := ⟨_, rfl⟩
  obtain ⟨N, hN⟩ : ∃ N, evN d = N := ⟨_, rfl⟩
  rw [hN] at HE hnl H182 HEV
  rw [hrv0] at H182 HV HV2 ⊢
  rw [hee] at HEV HV HV2
  obtain ⟨o, b, a⟩ := d
  (try dsimp only at H0 HE HEV HV H182 hat ⊢)
  obtain ⟨m, hm⟩ : ∃ m, bs.length = m := ⟨_, rfl⟩
  have HMM := Hi.mk hm
  rw [hm] at hlen HEV
  clear hN hM hF hrv0 hee hm
  obtain ⟨c0, c1, c2⟩ := CB.three H0.out.1
  cases o
  · have hrv := H182.out (by simp)
    subst hrv
    clear hnl hlen hat HEV HV HV2 H182
    go_enter Try.func64, Try.ntmps64
    go_wp2
    go_ret2
    exact ⟨rfl, H0.out.2⟩
  · by_cases h0 : ev < 0
    · have hrv := H182.out (by omega)
      subst hrv
      clear hnl hlen hat HEV HV HV2 H182
      go_enter Try.func64, Try.ntmps64
      go_wp2
      go_ret2
      exact ⟨rfl, H0.out.2⟩
    · by_cases h1 : ev < (N : Int)
      · have h0' : 0 ≤ ev := by omega
        have h2 : ev < 4294967296 := by omega
        have hev := HEV.out ⟨rfl, h0', h1⟩
        obtain ⟨x, hx⟩ : ∃ x, IntKind.i64.wrap (a + 8 * ev) = x := ⟨_, rfl⟩
        have hw8 : IntKind.i64.wrap (8 * ev) = 8 * ev := by rw [IntKind.wrap_i64]; omega
        have hd2 : decide ((N : Int) ≤ ev) = false := by simpa using h1
        have hwx := IntKind.wrap_i64 (a + 8 * ev)
        rw [hx] at hwx
        obtain ⟨ha1, ha2⟩ := hat
        by_cases h3 : x < 0
        · have hh : holdsB m (a + 8 * ev) 8 = false := by simp only [holdsB, decide_eq_false_iff_not]; omega
          have hrv := HV2.out (by rw [hev, hh]; rfl)
          subst hrv
          clear hnl hlen HEV HV HV2 H182 hh hev hwx ha1 ha2 h0 h1
          go_enter Try.func64, Try.ntmps64
          go_wp2_with (go_at_call 68; ((with_reducible refine (HE.out _).mono ?_); rintro e w1 ⟨rfl, hb1⟩; have H1 := Hi.mk (H0.out.2.more hb1); clear c0 c1 c2; have c2 := (CB.three (H0.out.1.below hb1)).2.2; have hc9 := (HM.out.below H1.out).cell; rw [HMM.out] at hc9; clear hb1))
          go_ret2
          exact ⟨rfl, H1.out⟩
        · have h3' : 0 ≤ x := by omega
          have hbx : x ≤ 9223372036854775807 := by omega
          by_cases h4 : (m : Int) - 8 < x
          · have hh : holdsB m (a + 8 * ev) 8 = false := by simp only [holdsB, decide_eq_false_iff_not]; omega
            have hrv := HV2.out (by rw [hev, hh]; rfl)
            subst hrv
            clear hnl HEV HV HV2 H182 hh hev hwx ha1 ha2 h0 h1 h3
            go_enter Try.func64, Try.ntmps64
            go_wp2_with (go_at_call 68; ((with_reducible refine (HE.out _).mono ?_); rintro e w1 ⟨rfl, hb1⟩; have H1 := Hi.mk (H0.out.2.more hb1); clear c0 c1 c2; have c2 := (CB.three (H0.out.1.below hb1)).2.2; have hc9 := (HM.out.below H1.out).cell; rw [HMM.out] at hc9; clear hb1))
            go_ret2
            exact ⟨rfl, H1.out⟩
          · have h5 : x ≤ (m : Int) - 8 := by omega
            have hh : holdsB m (a + 8 * ev) 8 = true := by simp only [holdsB, decide_eq_true_eq]; omega
            have hxe : a + 8 * ev = x := by omega
            have hrv := HV.out (by rw [hev, hh]; rfl)
            rw [hxe] at hrv
            clear hxe
            subst hrv
            clear hnl HEV HV HV2 H182 hh hev hwx ha1 ha2 h0 h1 h3 h4
            go_enter Try.func64, Try.ntmps64
            go_wp2_with (go_at_call 68; ((with_reducible refine (HE.out _).mono ?_); rintro e w1 ⟨rfl, hb1⟩; have H1 := Hi.mk (H0.out.2.more hb1); clear c0 c1 c2; have c2 := (CB.three (H0.out.1.below hb1)).2.2; have hc9 := (HM.out.below H1.out).cell; rw [HMM.out] at hc9; clear hb1))
            go_ret2
            exact ⟨rfl, H1.out⟩
      · have hd2 : decide ((N : Int) ≤ ev) = true := by simpa using h1
        have hrv := H182.out (by omega)
        subst hrv
        clear hnl hlen hat HEV HV HV2 H182 h1
        go_enter Try.func64, Try.ntmps64
        go_wp2_with (go_at_call 68; ((with_reducible refine (HE.out _).mono ?_); rintro e w1 ⟨rfl, hb1⟩; have H1 := Hi.mk (H0.out.2.more hb1); clear hb1))
        go_ret2
        exact ⟨rfl, H1.out⟩

theorem results_tb {fn : Func} {c : Tmp} (h : fn.results = #[.cell c 103]) (tmps : Array Value) (w : World) (b : Nat) (v0 v1 v2 : Value) (hp : tmps.getD c undef = .pointer (some ⟨b, 0, none⟩)) (hb : CB w b 103 #[v0, v1, v2]) :
    (results fn tmps).run Try.prog w = .ok (.agg #[v0, v1, v2]) w := by
  have hp' : tmps[c]?.getD undef = .pointer (some ⟨b, 0, none⟩) := by simpa using hp
  have c0 := hb.cell 0
  have c1 := hb.cell 1
  have c2 := hb.cell 2
  simp at c0 c1 c2
  simp [results, h, go_sem, hp', c0, c1, c2]
theorem results_rd {fn : Func} {c : Tmp} (h : fn.results = #[.cell c 107]) (tmps : Array Value) (w : World) (b : Nat) (v0 v1 v2 : Value) (hp : tmps.getD c undef = .pointer (some ⟨b, 0, none⟩)) (hb : CB w b 107 #[v0, v1, v2]) :
    (results fn tmps).run Try.prog w = .ok (.agg #[v0, v1, v2]) w := by
  have hp' : tmps[c]?.getD undef = .pointer (some ⟨b, 0, none⟩) := by simpa using hp
  have c0 := hb.cell 0
  have c1 := hb.cell 1
  have c2 := hb.cell 2
  simp at c0 c1 c2
  simp [results, h, go_sem, hp', c0, c1, c2]
theorem table_any (t : Tb) (w : World) : Calls Try.prog 50 #[t.v] w fun e w' => e = .returned t.v ∧ Below w.heap.size w w' := by
  have H0 := Hi.mk (And.intro (CB.new w 32 (Tb.cs t)) (bal_two w (.cells (Tb.cs t) 32) (.cells (Tb.cs t) 103)))
  have HR := Hi.mk (cb_second (w := w) (o := .cells (Tb.cs t) 32) (cs := Tb.cs t) (t := 103))
  have qf := (cb_second (w := w) (o := .cells (Tb.cs t) 32) (cs := #[.int .i64 0, .int .i64 0, .int .i64 0]) (t := 103)).frozen
  obtain ⟨a, s, p⟩ := t
  (try dsimp only at H0 HR qf ⊢)
  go_enter Try.func50, Try.ntmps50
  go_wp2
  exact bodyPost_ret (results_tb rfl _ _ (w.heap.size + 1) _ _ _ rfl HR.out) rfl ⟨rfl, H0.out.2⟩
theorem told_any (d : Dv) (w : World) : Calls Try.prog 53 #[d.v] w fun e w' => e = .returned d.v ∧ Below w.heap.size w w' := by
  have H0 := Hi.mk (And.intro (CB.new w 36 (Dv.cs d)) (bal_two w (.cells (Dv.cs d) 36) (.cells (Dv.cs d) 107)))
  have HR := Hi.mk (cb_second (w := w) (o := .cells (Dv.cs d) 36) (cs := Dv.cs d) (t := 107))
  have qf := (cb_second (w := w) (o := .cells (Dv.cs d) 36) (cs := #[.bool false, .int .i64 0, .int .i64 0]) (t := 107)).frozen
  obtain ⟨a, s, p⟩ := d
  (try dsimp only at H0 HR qf ⊢)
  go_enter Try.func53, Try.ntmps53
  go_wp2
  exact bodyPost_ret (results_rd rfl _ _ (w.heap.size + 1) _ _ _ rfl HR.out) rfl ⟨rfl, H0.out.2⟩

end Go.Proofs.Ytjcjblmaceooaaa
