/-
  Package tables: where an entry stands, what it holds, at every call.
-/
import Derived.Test.YtjcjblmaceooaaaTbB
namespace Go.Proofs.Ytjcjblmaceooaaa
open Go.ChangeShapes Go.WideShapes Go.ChangeAt Go.RowKit
set_option linter.unusedVariables false
set_option linter.unusedSimpArgs false

theorem below_set {n : Nat} {w W : World} (h : Below n w W) {b o : Nat} (hb : n ≤ b) (v : Value) : Below n w (W.setCell ⟨b, o, none⟩ v) := h.setCell (p := ⟨b, o, none⟩) hb v
theorem bal_two (w : World) (o o' : Obj) : Below w.heap.size w ((w.alloc o).alloc o') := (bal w o).alloc (by simp) o'
theorem cb_second {w : World} {o : Obj} {cs : Array Value} {t : TypeId} : CB ((w.alloc o).alloc (.cells cs t)) (w.heap.size + 1) t cs := by
  have h := CB.new (w.alloc o) t cs
  rwa [size_al] at h
theorem results_wt {fn : Func} {c t : Tmp} (h : fn.results = #[.cell c 30, .tmp t]) (tmps : Array Value) (w : World) (b : Nat) (v0 v1 v : Value) (hp : tmps.getD c undef = .pointer (some ⟨b, 0, none⟩)) (ht : tmps.getD t undef = v) (hb : CB w b 30 #[v0, v1]) :
    (results fn tmps).run Try.prog w = .ok (.tuple #[.agg #[v0, v1], v]) w := by
  have hp' : tmps[c]?.getD undef = .pointer (some ⟨b, 0, none⟩) := by simpa using hp
  have ht' : tmps[t]?.getD undef = v := by simpa using ht
  have c0 := hb.cell 0
  have c1 := hb.cell 1
  simp at c0 c1
  simp [results, h, go_sem, hp', ht', c0, c1]
theorem CB.two {W : World} {b : Nat} {t : TypeId} {v0 v1 : Value} (h : CB W b t #[v0, v1]) : W.cell? ⟨b, 0, none⟩ = some v0 ∧ W.cell? ⟨b, 1, none⟩ = some v1 := ⟨h.cell 0, h.cell 1⟩
theorem CB.three {W : World} {b : Nat} {t : TypeId} {v0 v1 v2 : Value} (h : CB W b t #[v0, v1, v2]) : W.cell? ⟨b, 0, none⟩ = some v0 ∧ W.cell? ⟨b, 1, none⟩ = some v1 ∧ W.cell? ⟨b, 2, none⟩ = some v2 := ⟨h.cell 0, h.cell 1, h.cell 2⟩
abbrev set2 (W : World) (b : Nat) (v0 v1 : Value) : World := (W.setCell ⟨b, 0, none⟩ v0).setCell ⟨b, 1, none⟩ v1
theorem CB.set2 {W : World} {b : Nat} {t : TypeId} {a0 a1 : Value} (h : CB W b t #[a0, a1]) (v0 v1 : Value) : CB (set2 W b v0 v1) b t #[v0, v1] := (h.set 0 v0).set 1 v1
theorem below_s2 {n : Nat} {w W : World} (h : Below n w W) {b : Nat} (hb : n ≤ b) (v0 v1 : Value) : Below n w (set2 W b v0 v1) := below_set (below_set h hb _) hb _
theorem CB.keptB {W W' : World} {B : Nat} {t : TypeId} {cs : Array Value} {bs : Nat → Prop} (h : CB W B t cs) (k : Kept bs W W') (hn : ¬ bs B) : CB W' B t cs := (k.block B h.lt hn).trans h

/-- What nth answers. -/
def nthV (n : Nat) (a s k : Int) : Value := if nthB n a s k = true then .tuple #[.agg #[.int .i64 (a + 8 * k), .int .i64 8], .bool true] else .tuple #[.agg #[.int .i64 0, .int .i64 0], .bool false]

set_option maxRecDepth 100000 in
set_option maxHeartbeats 4000000 in
theorem nth_any (p g cap : Nat) (bs : List Nat) (a s k : Int) (w : World) (hM : MemAt 89 w p g cap bs) (ha : i64B a) (hs : i64B s) :
    Calls Try.prog 26 #[.pointer (some ⟨p, 0, none⟩), .agg #[.int .i64 a, .int .i64 s], .int .i64 k] w fun e w' => e = .returned (nthV bs.length a s k) ∧ Below w.heap.size w w' := by
  have HN := hi (fun W => numbered_any k W)
  have HM := hi hM
  have HH := hi (fun W (hb : MemAt 89 W p g cap bs) => holds_any p g cap bs a s W hb ha.1 ha.2 hs.1 hs.2)
  have hlen := hM.len
  have HC := hi (And.intro ((CB.new w 30 #[.int .i64 a, .int .i64 s]).alloc (.cells #[.int .i64 0, .int .i64 0] 30)) (cb_second (w := w) (o := .cells #[.int .i64 a, .int .i64 s] 30) (cs := #[.int .i64 0, .int .i64 0]) (t := 30)))
  have HB0 := hi (bal_two w (.cells #[.int .i64 a, .int .i64 s] 30) (.cells #[.int .i64 0, .int .i64 0] 30))
  cases h1 : nuB k
  · have hv : nthV bs.length a s k = .tuple #[.agg #[.int .i64 0, .int .i64 0], .bool false] := by
      have : nthB bs.length a s k = false := by rw [nthB, show decide (0 ≤ k ∧ k < 131072) = false from h1]; rfl
      rw [nthV, this]; rfl
    rw [hv]
    rw [h1] at HN
    clear hv h1 hM ha hs hlen HH
    have qf := HC.out.2.frozen
    obtain ⟨q0, q1⟩ := CB.two HC.out.2
    go_enter Try.func26, Try.ntmps26
    go_wp2_with (go_at_call 24; ((with_reducible refine (HN.out _).mono ?_); rintro e w1 ⟨rfl, rfl⟩))
    exact bodyPost_ret (results_wt rfl _ _ (w.heap.size + 1) _ _ _ rfl rfl HC.out.2) rfl ⟨rfl, HB0.out⟩
  · rw [h1] at HN
    have hk : 0 ≤ k ∧ k < 131072 := by simpa [nuB] using h1
    cases h2 : holdsB bs.length a s
    · have hv : nthV bs.length a s k = .tuple #[.agg #[.int .i64 0, .int .i64 0], .bool false] := by
        have : nthB bs.length a s k = false := by rw [nthB, h2]; simp
        rw [nthV, this]; rfl
      rw [hv]
      rw [h2] at HH
      unfold win at HH
      clear hv h1 h2 hM ha hs hlen hk
      obtain ⟨q0, q1⟩ := CB.two HC.out.1
      go_enter Try.func26, Try.ntmps26
      go_wp2_with (first
        | (go_at_call 24; ((with_reducible refine (HN.out _).mono ?_); rintro e w1 ⟨rfl, rfl⟩))
        | (go_at_call 25; ((with_reducible refine (HH.out _ (HM.out.below HB0.out)).mono ?_); rintro e w1 ⟨rfl, hb1⟩; have HR := hi (HC.out.2.below hb1); have HB := hi (HB0.out.more hb1); clear q0 q1 hb1; obtain ⟨q0, q1⟩ := CB.two HR.out; have qf := HR.out.frozen)))
      exact bodyPost_ret (results_wt rfl _ _ (w.heap.size + 1) _ _ _ rfl rfl (HR.out.set2 _ _)) rfl ⟨rfl, below_s2 HB.out (by omega) _ _⟩
    · rw [h2] at HH
      unfold win at HH
      obtain ⟨A, S, rfl, rfl, hA⟩ := holdsB_out h2
      have hw8 : IntKind.i64.wrap (8 * k) = 8 * k := by rw [IntKind.wrap_i64]; omega
      have HP := hi (fun W => part_any (A : Int) (S : Int) (8 * k) 8 W (by decide) (by omega))
      have hpo : partOk (A : Int) (S : Int) (8 * k) 8 = nthB bs.length A S k := by
        have h3 : fairB (A : Int) (S : Int) = true := by simp [fairB]; omega
        rw [partOk, h3, nthB, h2, show decide (0 ≤ k ∧ k < 131072) = true from h1]
        simp only [Bool.true_and]
        rw [decide_eq_decide]; omega
      obtain ⟨pv, hpv⟩ : ∃ v, nthB bs.length (A : Int) (S : Int) k = v := ⟨_, rfl⟩
      unfold partV at HP
      rw [hpo, hpv] at HP
      have hv : nthV bs.length A S k = if pv = true then .tuple #[.agg #[.int .i64 (A + 8 * k), .int .i64 8], .bool true] else .tuple #[.agg #[.int .i64 0, .int .i64 0], .bool false] := by rw [nthV, hpv]
      rw [hv]
      obtain ⟨n, hn⟩ : ∃ n, bs.length = n := ⟨_, rfl⟩
      unfold win at HP
      obtain ⟨hk0, hk1⟩ := hk
      have hA2 : A ≤ 131072 := by omega
      have hS2 : S ≤ 131072 := by omega
      clear hv h1 h2 hM ha hs hlen hpo hpv hA hn
      obtain ⟨q0, q1⟩ := CB.two HC.out.1
      cases pv
      · simp only [Bool.false_eq_true, if_false] at HP ⊢
        go_enter Try.func26, Try.ntmps26
        go_wp2_with (first
          | (go_at_call 24; ((with_reducible refine (HN.out _).mono ?_); rintro e w1 ⟨rfl, rfl⟩))
          | (go_at_call 25; ((with_reducible refine (HH.out _ (HM.out.below HB0.out)).mono ?_); rintro e w1 ⟨rfl, hb1⟩; have HC1 := hi (And.intro (HC.out.1.below hb1) (HC.out.2.below hb1)); have HB := hi (HB0.out.more hb1); clear q0 q1 hb1; obtain ⟨q0, q1⟩ := CB.two HC1.out.1))
          | (go_at_call 46; ((with_reducible refine (HP.out _).mono ?_); rintro e w2 ⟨rfl, hb2⟩; have HR := hi (HC1.out.2.below hb2); have HB2 := hi (HB.out.more hb2); have hz := HR.out.lt; clear q0 q1 hb2; obtain ⟨q0, q1⟩ := CB.two HR.out; have qf := HR.out.frozen)))
        exact bodyPost_ret (results_wt rfl _ _ (w.heap.size + 1) _ _ _ rfl rfl ((HR.out.set2 _ _).alloc _)) rfl ⟨rfl, (below_s2 HB2.out (by omega) _ _).alloc (by simp; exact HB2.out.size) _⟩
      · simp only [if_true] at HP ⊢
        go_enter Try.func26, Try.ntmps26
        go_wp2_with (first
          | (go_at_call 24; ((with_reducible refine (HN.out _).mono ?_); rintro e w1 ⟨rfl, rfl⟩))
          | (go_at_call 25; ((with_reducible refine (HH.out _ (HM.out.below HB0.out)).mono ?_); rintro e w1 ⟨rfl, hb1⟩; have HC1 := hi (And.intro (HC.out.1.below hb1) (HC.out.2.below hb1)); have HB := hi (HB0.out.more hb1); clear q0 q1 hb1; obtain ⟨q0, q1⟩ := CB.two HC1.out.1))
          | (go_at_call 46; ((with_reducible refine (HP.out _).mono ?_); rintro e w2 ⟨rfl, hb2⟩; have HR := hi (HC1.out.2.below hb2); have HB2 := hi (HB.out.more hb2); have hz := HR.out.lt; clear q0 q1 hb2; obtain ⟨q0, q1⟩ := CB.two HR.out; have qf := HR.out.frozen)))
        exact bodyPost_ret (results_wt rfl _ _ (w.heap.size + 1) _ _ _ rfl rfl ((HR.out.set2 _ _).alloc _)) rfl ⟨rfl, (below_s2 HB2.out (by omega) _ _).alloc (by simp; exact HB2.out.size) _⟩

theorem acc8 {n P : Nat} (h : P + 8 ≤ n) (hn : n ≤ 131072) : accE n (P : Int) 8 0 8 = 0 := by
  have h1 : holdsB n (P : Int) 8 = true := by simp only [holdsB, decide_eq_true_eq]; omega
  rw [accE, if_pos h1]
  exact mayE0 (by decide) (by decide) ⟨by decide, by simp [wrap64]⟩
set_option maxHeartbeats 2000000 in
theorem load_any (p g cap : Nat) (bs : List Nat) (P : Nat) (a : Int) (hPa : (P : Int) = a) (hP : P + 8 ≤ bs.length) (w : World) (hM : MemAt 89 w p g cap bs) :
    Calls Try.prog 32 #[.pointer (some ⟨p, 0, none⟩), .agg #[.int .i64 a, .int .i64 8]] w fun e w' => e = .returned (.int .u64 (w8 bs P)) ∧ Below w.heap.size w w' := by
  have hlen := hM.len
  have HR := hi (read_any p g cap bs P 8 0 8 (w.alloc (.cells #[.int .i64 P, .int .i64 8] 30)) (hM.below (bal w _)) (by omega) (by omega) (by decide) (by decide))
  have e : rdE bs P 8 0 8 = w8 bs P := by rw [rdE, if_pos (acc8 hP hlen)]; rfl
  rw [acc8 hP hlen, e] at HR
  subst hPa
  clear hM hP hlen e
  unfold win tupU at HR
  go_enter Try.func32, Try.ntmps32
  go_wp2_with (go_at_call 22; ((with_reducible refine HR.out.mono ?_); rintro e w1 ⟨rfl, hb1⟩))
  go_ret
  exact ⟨rfl, (bal w _).more hb1⟩
set_option maxHeartbeats 2000000 in
theorem store_any (p g cap : Nat) (bs : List Nat) (P v : Nat) (a : Int) (hPa : (P : Int) = a) (hP : P + 8 ≤ bs.length) (hv : v < 18446744073709551616) (w : World) (hM : MemAt 89 w p g cap bs) :
    Calls Try.prog 28 #[.pointer (some ⟨p, 0, none⟩), .agg #[.int .i64 a, .int .i64 8], .int .u64 v] w fun e w' => e = .returned (.int .i64 0) ∧ MemAt 89 w' p g cap (s8 bs P v) ∧ Kept (· = g) w w' := by
  have hlen := hM.len
  have HR := hi (write_any p g cap bs P 8 0 8 v (w.alloc (.cells #[.int .i64 P, .int .i64 8] 30)) (hM.below (bal w _)) (by omega) (by omega) (by decide) (by decide) hv)
  have e : wrB bs P 8 0 8 v = s8 bs P v := by rw [wrB, if_pos (acc8 hP hlen)]; rfl
  rw [acc8 hP hlen, e] at HR
  subst hPa
  clear hM hP hlen e hv
  unfold win at HR
  go_enter Try.func28, Try.ntmps28
  go_wp2_with (go_at_call 47; ((with_reducible refine HR.out.mono ?_); rintro e w1 ⟨rfl, hm1, hk1⟩))
  go_ret
  exact ⟨rfl, hm1, (Kept.of (bal w _)).trans hk1⟩

theorem results_dv {fn : Func} {c : Tmp} (h : fn.results = #[.cell c 36]) (tmps : Array Value) (w : World) (b : Nat) (v0 v1 v2 : Value) (hp : tmps.getD c undef = .pointer (some ⟨b, 0, none⟩)) (hb : CB w b 36 #[v0, v1, v2]) :
    (results fn tmps).run Try.prog w = .ok (.agg #[v0, v1, v2]) w := by
  have hp' : tmps[c]?.getD undef = .pointer (some ⟨b, 0, none⟩) := by simpa using hp
  have c0 := hb.cell 0
  have c1 := hb.cell 1
  have c2 := hb.cell 2
  simp at c0 c1 c2
  simp [results, h, go_sem, hp', c0, c1, c2]
theorem results_rt {fn : Func} {c : Tmp} (h : fn.results = #[.cell c 52]) (tmps : Array Value) (w : World) (b : Nat) (v0 v1 v2 : Value) (hp : tmps.getD c undef = .pointer (some ⟨b, 0, none⟩)) (hb : CB w b 52 #[v0, v1, v2]) :
    (results fn tmps).run Try.prog w = .ok (.agg #[v0, v1, v2]) w := by
  have hp' : tmps[c]?.getD undef = .pointer (some ⟨b, 0, none⟩) := by simpa using hp
  have c0 := hb.cell 0
  have c1 := hb.cell 1
  have c2 := hb.cell 2
  simp at c0 c1 c2
  simp [results, h, go_sem, hp', c0, c1, c2]
abbrev set3 (W : World) (b : Nat) (v0 v1 v2 : Value) : World := ((W.setCell ⟨b, 0, none⟩ v0).setCell ⟨b, 1, none⟩ v1).setCell ⟨b, 2, none⟩ v2
theorem CB.set3 {W : World} {b : Nat} {t : TypeId} {a0 a1 a2 : Value} (h : CB W b t #[a0, a1, a2]) (v0 v1 v2 : Value) : CB (set3 W b v0 v1 v2) b t #[v0, v1, v2] := ((h.set 0 v0).set 1 v1).set 2 v2
theorem below_s3 {n : Nat} {w W : World} (h : Below n w W) {b : Nat} (hb : n ≤ b) (v0 v1 v2 : Value) : Below n w (set3 W b v0 v1 v2) := below_set (below_set (below_set h hb _) hb _) hb _

set_option maxHeartbeats 4000000 in
theorem devIn_any (v : Nat) (hv : v < 18446744073709551616) (w : World) : Calls Try.prog 31 #[.int .u64 v] w fun e w' => e = .returned (devV v).v ∧ Below w.heap.size w w' := by
  have HC := hi (And.intro (CB.new w 36 #[.bool false, .int .i64 0, .int .i64 0]) (bal w (.cells #[.bool false, .int .i64 0, .int .i64 0] 36)))
  by_cases h : 9223372036854775808 ≤ v
  · have HV := hi (fun W => valid_yes v hv h W)
    have HB := hi (fun W => fin_any 1 v (by decide) hv W)
    have HA := hi (fun W => fin_any 2 v (by decide) hv W)
    have e1 : inN 1 v = v % 32 := by simp [inN, fF, fB]
    have e2 : inN 2 v = v / 256 % 1099511627776 := by simp [inN, fF, fB]
    rw [e1] at HB
    rw [e2] at HA
    rw [devV, if_pos h]
    obtain ⟨x, hx⟩ : ∃ x, v % 32 = x := ⟨_, rfl⟩
    obtain ⟨y, hy⟩ : ∃ y, v / 256 % 1099511627776 = y := ⟨_, rfl⟩
    rw [hx] at HB ⊢
    rw [hy] at HA ⊢
    have hyl : y < 1099511627776 := by omega
    have hw : IntKind.i64.wrap (256 * (y : Int)) = 256 * (y : Int) := by rw [IntKind.wrap_i64]; omega
    rw [show ((256 * y : Nat) : Int) = 256 * (y : Int) by omega]
    clear e1 e2 hx hy h hv
    have HB2 := hi (show ∀ W, Calls Try.prog 35 #[.int .i64 1, .int .u64 v] W fun e w' => e = .returned (.int .i64 x) ∧ Below W.heap.size W w' from HB.out)
    have HA2 := hi (show ∀ W, Calls Try.prog 35 #[.int .i64 2, .int .u64 v] W fun e w' => e = .returned (.int .i64 y) ∧ Below W.heap.size W w' from HA.out)
    go_enter Try.func31, Try.ntmps31
    go_wp2_with (first
      | (go_at_call 34; ((with_reducible refine (HV.out _).mono ?_); rintro e w1 ⟨rfl, rfl⟩))
      | (go_at_call 35; ((with_reducible refine (HB2.out _).mono ?_); rintro e w1 ⟨rfl, hb1⟩; have H1 := hi (And.intro (HC.out.1.below hb1) (HC.out.2.more hb1)); clear hb1))
      | (go_at_call 35; ((with_reducible refine (HA2.out _).mono ?_); rintro e w2 ⟨rfl, hb2⟩; have H2 := hi (And.intro (H1.out.1.below hb2) (H1.out.2.more hb2)); clear hb2; obtain ⟨q0, q1, q2⟩ := CB.three H2.out.1; have qf := H2.out.1.frozen)))
    exact bodyPost_ret (results_dv rfl _ _ w.heap.size _ _ _ rfl (H2.out.1.set3 _ _ _)) rfl ⟨rfl, below_s3 H2.out.2 (Nat.le_refl _) _ _ _⟩
  · have HV := hi (fun W => valid_no v hv h W)
    rw [devV, if_neg h]
    clear h hv
    obtain ⟨q0, q1, q2⟩ := CB.three HC.out.1
    have qf := HC.out.1.frozen
    go_enter Try.func31, Try.ntmps31
    go_wp2_with (go_at_call 34; ((with_reducible refine (HV.out _).mono ?_); rintro e w1 ⟨rfl, rfl⟩))
    exact bodyPost_ret (results_dv rfl _ _ w.heap.size _ _ _ rfl HC.out.1) rfl ⟨rfl, HC.out.2⟩

set_option maxHeartbeats 4000000 in
theorem routIn_any (v : Nat) (hv : v < 18446744073709551616) (w : World) : Calls Try.prog 41 #[.int .u64 v] w fun e w' => e = .returned (routV v).v ∧ Below w.heap.size w w' := by
  have HC := hi (And.intro (CB.new w 52 #[.int .i64 0, .int .i64 0, .bool false]) (bal w (.cells #[.int .i64 0, .int .i64 0, .bool false] 52)))
  by_cases h : 9223372036854775808 ≤ v
  · have HV := hi (fun W => valid_yes v hv h W)
    have HB := hi (fun W => fin_any 3 v (by decide) hv W)
    have HA := hi (fun W => fin_any 4 v (by decide) hv W)
    have e1 : inN 3 v = v % 4294967296 := by simp [inN, fF, fB]
    have e2 : inN 4 v = v / 4294967296 % 65536 := by simp [inN, fF, fB]
    rw [e1] at HB
    rw [e2] at HA
    rw [routV, if_pos h]
    obtain ⟨x, hx⟩ : ∃ x, v % 4294967296 = x := ⟨_, rfl⟩
    obtain ⟨y, hy⟩ : ∃ y, v / 4294967296 % 65536 = y := ⟨_, rfl⟩
    rw [hx] at HB ⊢
    rw [hy] at HA ⊢
    clear e1 e2 hx hy h hv
    have HB2 := hi (show ∀ W, Calls Try.prog 35 #[.int .i64 3, .int .u64 v] W fun e w' => e = .returned (.int .i64 x) ∧ Below W.heap.size W w' from HB.out)
    have HA2 := hi (show ∀ W, Calls Try.prog 35 #[.int .i64 4, .int .u64 v] W fun e w' => e = .returned (.int .i64 y) ∧ Below W.heap.size W w' from HA.out)
    go_enter Try.func41, Try.ntmps41
    go_wp2_with (first
      | (go_at_call 34; ((with_reducible refine (HV.out _).mono ?_); rintro e w1 ⟨rfl, rfl⟩))
      | (go_at_call 35; ((with_reducible refine (HB2.out _).mono ?_); rintro e w1 ⟨rfl, hb1⟩; have H1 := hi (And.intro (HC.out.1.below hb1) (HC.out.2.more hb1)); clear hb1))
      | (go_at_call 35; ((with_reducible refine (HA2.out _).mono ?_); rintro e w2 ⟨rfl, hb2⟩; have H2 := hi (And.intro (H1.out.1.below hb2) (H1.out.2.more hb2)); clear hb2; obtain ⟨q0, q1, q2⟩ := CB.three H2.out.1; have qf := H2.out.1.frozen)))
    exact bodyPost_ret (results_rt rfl _ _ w.heap.size _ _ _ rfl (H2.out.1.set3 _ _ _)) rfl ⟨rfl, below_s3 H2.out.2 (Nat.le_refl _) _ _ _⟩
  · have HV := hi (fun W => valid_no v hv h W)
    rw [routV, if_neg h]
    clear h hv
    obtain ⟨q0, q1, q2⟩ := CB.three HC.out.1
    have qf := HC.out.1.frozen
    go_enter Try.func41, Try.ntmps41
    go_wp2_with (go_at_call 34; ((with_reducible refine (HV.out _).mono ?_); rintro e w1 ⟨rfl, rfl⟩))
    exact bodyPost_ret (results_rt rfl _ _ w.heap.size _ _ _ rfl HC.out.1) rfl ⟨rfl, HC.out.2⟩

end Go.Proofs.Ytjcjblmaceooaaa
