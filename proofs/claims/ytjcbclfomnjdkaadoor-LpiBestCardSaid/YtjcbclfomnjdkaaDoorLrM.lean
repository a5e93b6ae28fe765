/-
  LpiKnown, at every world with the library's table.
-/
import Derived.Test.YtjcbclfomnjdkaaDoorLrL
namespace Go.Proofs.YtjcbclfomnjdkaaDoor
open Go.ChangeShapes Go.WideShapes Go.ChangeAt Go.RowKit Go.Shelf
set_option linter.unusedVariables false
set_option linter.unusedSimpArgs false

structure KnF (t : Tw) (kk v : Nat) : Prop where
  acc : accE t.bs.length 0 200 (kk : Int) 1 = 0
  own : ownB t.x ((8192 + kk : Nat) : Int) = true
  inv : inV (invV (wrB t.bs 0 200 (kk : Int) 1 v) t.x ((8192 + kk : Nat) : Int)) ((8192 + kk : Nat) : Int) = decide (v % 2 = 1)
  prv : prV (invV (wrB t.bs 0 200 (kk : Int) 1 v) t.x ((8192 + kk : Nat) : Int)) ((8192 + kk : Nat) : Int) = ((v / 8 * 8 : Nat) : Int)
theorem known_plain {t : Tw} (ok : t.Ok 200) (hm : Made t) {kk v : Nat} (hk : kk < t.x.n) (hv : v < 256) : KnF t kk v := by
  obtain ⟨n0, n1, h0, h1, a, b⟩ := hm
  have hn : t.x.n = n0 := a.n
  have hpa : t.x.pa = 0 := a.pa
  have hl := ok.len
  have ho : ownB t.x ((8192 + kk : Nat) : Int) = true := by rw [ownB_at]; simpa using hk
  have hA : (0 : Nat) + 200 ≤ t.bs.length := by omega
  have e1 : wrB t.bs 0 200 (kk : Int) 1 v = t.bs.set kk v := by
    have h := wr1 (bs := t.bs) (A := 0) (S := 200) (o := kk) (v := v) hA (by omega) (by omega) hv
    rw [Nat.zero_add] at h
    exact h
  have e2 : invV (t.bs.set kk v) t.x ((8192 + kk : Nat) : Int) = { t.x with cfg := t.x.cfg.set kk v } := by
    unfold invV
    rw [if_pos ho, kOf_at]
    unfold invS
    have hlt : kk < t.bs.length := by omega
    have e3 : (t.bs.set kk v)[t.x.pa + kk]?.getD 0 = v := by rw [hpa, Nat.zero_add]; simp [hlt]
    rw [e3]
  have hc : kk < t.x.cfg.length := by rw [ok.x.cl]; exact hk
  have e4 : cfgK { t.x with cfg := t.x.cfg.set kk v } kk = v := by simp [cfgK, hc]
  have ho2 : ownB { t.x with cfg := t.x.cfg.set kk v } ((8192 + kk : Nat) : Int) = true := ho
  have hacc := acc1 (n := t.bs.length) (A := 0) (S := 200) (o := kk) hA (by omega) (by omega)
  refine ⟨hacc, ho, ?_, ?_⟩
  · rw [e1, e2, inV, ho2, kOf_at, e4, Bool.true_and]
  · rw [e1, e2, prV, if_pos ho2, kOf_at, e4]; rfl

set_option maxRecDepth 100000 in
set_option maxHeartbeats 8000000 in
theorem known_any (a b k v : Nat) (ha : a < 256) (hb : b < 256) (hk : k < 256) (hv : v < 256) (sv : Value) (ys : List Nat) (hyl : ys.length ≤ 9223372036854775807) (sa : Option Addr) (sb off cap : Nat) (xs : List Ac) (hF : ∀ x ∈ xs, x.Fair) (w : World) (hT : TabW w) (hy : BytesIn w sv ys) (hX : RowC w sa sb off 5 (xs.map acC)) :
    Calls Tryd.prog 7 #[.int .u8 a, .int .u8 b, sv, .slice sa xs.length cap, .int .u8 k, .int .u8 v] w fun e w' => e = .returned (.bool true) ∧ Below w.heap.size w w' := by
  have HA := hi (awake_any w hT)
  have HPL := hi (fun W (hk : Below w.heap.size w W) => played_any a b ha hb sv ys hyl sa sb off cap xs hF W (hT.below hk) (hy.below hk) (hX.below hk))
  have HPL2 := hi (show ∀ (t : Tw) (kk : Nat), t.Ok 200 → Made t → kk < t.x.n → KnF t kk v from fun t kk h1 h2 h3 => known_plain h1 h2 h3 hv)
  clear hT hy hX hF hyl
  have hcv : IntKind.u64.wrap (v : Int) = (v : Int) := by rw [IntKind.wrap_u64]; omega
  have HMD := hi (show decide (v % 2 = 1) = ((v : Int) % 2 == 1) from by rw [Bool.eq_iff_iff, beq_iff_eq, decide_eq_true_iff]; omega)
  have hv64 : v < 18446744073709551616 := by omega
  go_enter Tryd.func7, Tryd.ntmps7
  go_wp2_with (first
    | (go_at_call 8; ((with_reducible refine HA.out.mono ?_); rintro e w1 ⟨rfl, hb1⟩; have H1 := hi hb1; clear hb1))
    | (go_at_call 27; ((with_reducible refine (HPL.out _ H1.out).mono ?_); rintro e w2 ⟨p, q, l0, l1, d0, d1, t, rfl, hp2⟩; have H2 := hi hp2; have HP2 := hi (And.intro (hp2.h.box (.cells (prC (pt p) (pt q) (pt l0) (pt l1) (pt d0) (pt d1) true) 32)) (CB.new w2 32 (prC (pt p) (pt q) (pt l0) (pt l1) (pt d0) (pt d1) true))); clear hp2; obtain ⟨r0, r1, r2, r3, r4, r5, r6⟩ := CB.seven HP2.out.2))
    | (go_at_call 23; (have okx : t.x.Ok t.bs.length := (by rw [H2.out.ok.len]; exact H2.out.ok.x); (with_reducible refine (many_pr HP2.out.1).mono ?_); rintro e w3 ⟨rfl, hb3⟩; have H3 := hi (And.intro (HP2.out.1.later hb3) (HP2.out.2.below hb3)); clear hb3; have hn1 := okx.n1; have hn5 := okx.n5; obtain ⟨kk, hkk⟩ : ∃ m, k % t.x.n = m := ⟨_, rfl⟩; have hkl : kk < t.x.n := (by rw [← hkk]; exact Nat.mod_lt _ (by omega)); obtain ⟨z, hz⟩ : ∃ z : Int, ((8192 + kk : Nat) : Int) = z := ⟨_, rfl⟩; have hzB : (k : Int) % (t.x.n : Int) = (kk : Int) := (by rw [← hkk]; exact (Int.natCast_emod _ _).symm); have hzA : wrap64 (8192 + (k : Int) % (t.x.n : Int)) = z := (by rw [hzB, ← hz]; simp only [wrap64]; omega); have HKZ := hi (show (t.x.n : Int) ≤ 1 → wrap64 8192 = z from fun h1 => by rw [← hz]; simp only [wrap64]; omega); have hwz : IntKind.i64.wrap (z - 8192) = (kk : Int) := (by rw [IntKind.wrap_i64]; omega); obtain ⟨k1, k2, k3, k4⟩ := HPL2.out t kk H2.out.ok H2.out.made hkl; rw [hz] at k2 k3 k4; have k5 : errL t.x z = 0 := (by rw [errL, if_pos k2]); have hl2 : (wrB t.bs 0 200 (kk : Int) 1 v).length = t.bs.length := wrB_len okx.L1; have hm2 : ∀ b ∈ wrB t.bs 0 200 (kk : Int) 1 v, b < 256 := wrB_mem H2.out.ok.mem _ _ _ _ _; obtain ⟨bs2, hb2⟩ : ∃ l, wrB t.bs 0 200 (kk : Int) 1 v = l := ⟨_, rfl⟩; have HWR := hi (fun (V : World) (N : Nat → Prop) (p0 q0 a0 a1 c0 c1 : Nat) (wb : World) (hV : PrX wb N p0 q0 a0 a1 c0 c1 t t V) => write_pr hV (kk : Int) v hv64); rw [hb2] at k3 k4 hl2 hm2 HWR; rw [k1] at HWR; have HOK := hi (show t.x.Ok bs2.length from by rw [hl2]; exact okx); have HOK3 := hi (show (invV bs2 t.x z).Ok bs2.length from invV_ok hm2 HOK.out z); have HOKX := hi okx; have K5 := hi k5; have K34 := hi (And.intro k3 k4); clear k1 k2 k3 k4 k5 hl2 hm2 hb2 okx hn1 hn5 hkk hkl hz hzB))
    | (go_at_call 31; ((with_reducible refine (setup_pr H3.out.1 HOKX.out z).mono ?_); rintro e w4 ⟨rfl, hb4⟩; have H4 := hi (And.intro (H3.out.1.later hb4) (H3.out.2.below hb4)); clear hb4 r0 r1 r2 r3 r4 r5 r6; obtain ⟨r0, r1, r2, r3, r4, r5, r6⟩ := CB.seven H4.out.2))
    | (rw [HKZ.out (by assumption)]; go_at_call 31; ((with_reducible refine (setup_pr H3.out.1 HOKX.out z).mono ?_); rintro e w4 ⟨rfl, hb4⟩; have H4 := hi (And.intro (H3.out.1.later hb4) (H3.out.2.below hb4)); clear hb4 r0 r1 r2 r3 r4 r5 r6; obtain ⟨r0, r1, r2, r3, r4, r5, r6⟩ := CB.seven H4.out.2))
    | (go_at_call 32; ((with_reducible refine (HWR.out _ _ _ _ _ _ _ _ _ H4.out.1).mono ?_); rintro e w5 ⟨rfl, hp5, hk5⟩; have H5 := hi (And.intro hp5 (hk5.cb H4.out.2 (.inr rfl))); clear hp5 hk5 r0 r1 r2 r3 r4 r5 r6; obtain ⟨r0, r1, r2, r3, r4, r5, r6⟩ := CB.seven H5.out.2))
    | (go_at_call 31; ((with_reducible refine (setup_pr H5.out.1 HOK.out z).mono ?_); rintro e w6 ⟨rfl, hb6⟩; have H6 := hi (And.intro (H5.out.1.later hb6) (H5.out.2.below hb6)); clear hb6 r0 r1 r2 r3 r4 r5 r6; obtain ⟨r0, r1, r2, r3, r4, r5, r6⟩ := CB.seven H6.out.2))
    | (go_at_call 33; (have hIV := inv_pr H6.out.1 HOK.out z; rw [show errL (Tw.mk bs2 t.x t.y).x z = 0 from K5.out] at hIV; (with_reducible refine hIV.mono ?_); clear hIV; rintro e w7 ⟨rfl, hp7, hk7⟩; have H7 := hi hp7; clear hp7 hk7 r0 r1 r2 r3 r4 r5 r6))
    | (go_at_call 31; (have hSU := setup_pr H7.out HOK3.out z; rw [show inV (Tw.mk bs2 (invV bs2 t.x z) t.y).x z = decide (v % 2 = 1) from K34.out.1, show prV (Tw.mk bs2 (invV bs2 t.x z) t.y).x z = ((v / 8 * 8 : Nat) : Int) from K34.out.2] at hSU; (with_reducible refine hSU.mono ?_); clear hSU; rintro e w8 ⟨rfl, hb8⟩; have H8 := hi (H7.out.later hb8); clear hb8)))
  all_goals first
    | (exact absurd (show decide (v % 2 = 1) = ((v : Int) % 2 == 1) from HMD.out) (by assumption))
    | (go_ret; exact ⟨rfl, H1.out.more H8.out.below⟩)

end Go.Proofs.YtjcbclfomnjdkaaDoor
