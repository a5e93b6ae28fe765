import Derived.Test.YtieedhdmpabfkaaGreatMg10
import Derived.Test.YtieedhdmpabfkaaGreatMg04
import Derived.Test.YtieedhdmpabfkaaGreatMg01
import Derived.Test.YtieedhdmpabfkaaGreatMg02
import Derived.Test.YtieedhdmpabfkaaGreatMg08
set_option linter.unusedSimpArgs false
namespace Go.Proofs.YtieedhdmpabfkaaGreat
open Go.ChangeShapes Go.WideShapes Go.ChangeAt Go.RowKit Go.Shelf
set_option linter.unusedVariables false
def Pl.zero : Pl := ⟨0, 0, 0⟩
def meets (x : Rr) (off wd : Int) : Bool := decide (off < x.to) && decide (x.fr < off + wd)
def placeV (x : Rr) (off wd : Int) : Pl := ⟨x.r, x.f + (off - x.fr) / x.p * x.o, wd / x.p * x.o⟩
def goV (off wd : Int) : List Rr → Pl × Int
 | [] => (Pl.zero, 0)
 | x :: xs => if meets x off wd then (if wd = x.wd then (placeV x off wd, 0) else (Pl.zero, 40)) else goV off wd xs
def findV (rows : List Rr) (size off wd : Int) : Pl × Int :=
 if wd ≠ 4 ∧ wd ≠ 8 then (Pl.zero, 40) else if off.tmod wd ≠ 0 then (Pl.zero, 41) else if off < 0 ∨ size - wd < off then (Pl.zero, 42) else goV off wd rows
def rowOk2 (x : Rr) : Bool := decide (0 ≤ x.fr) && (decide (x.fr < x.to) && (decide (x.to ≤ 200000) && (decide (0 ≤ x.o) && (decide (x.o ≤ 32) && (decide (0 ≤ x.f) && (decide (x.f ≤ 64) && ((x.wd == 4 && (x.p == 1 && decide (x.fr % 4 = 0))) || (x.wd == 8 && ((x.p == 8 || x.p == 1) && decide (x.fr % 8 = 0))))))))))
def nthR (xs : List Rr) (k : Nat) : Rr := xs[k]?.getD default
theorem nthR_at {xs : List Rr} {k : Nat} (h : k < xs.length) : xs[k]? = some (nthR xs k) := by simp [nthR, List.getElem?_eq_getElem h]
theorem drop_nth {xs : List Rr} {k : Nat} (h : k < xs.length) : xs.drop k = nthR xs k :: xs.drop (k + 1) := by
 rw [List.drop_eq_getElem_cons h]
 simp [nthR, h]
theorem nth_ok2 {xs : List Rr} (h : xs.all rowOk2 = true) {k : Nat} (hk : k < xs.length) : rowOk2 (nthR xs k) = true := List.all_eq_true.1 h _ (List.mem_of_getElem? (nthR_at hk))
def NoByte (x : Rr) (off : Int) (d : Nat) : Prop := ∀ e : Nat, e < d → ¬ (x.fr ≤ off + e ∧ off + (e : Int) < x.to)
theorem NoByte.zero (x : Rr) (off : Int) : NoByte x off 0 := fun e h => by omega
theorem NoByte.succ {x : Rr} {off : Int} {d : Nat} (h : NoByte x off d) (hn : ¬ (x.fr ≤ off + d ∧ off + (d : Int) < x.to)) : NoByte x off (d + 1) := fun e he => by
 by_cases y : e = d
 ·subst y; exact hn
 ·exact h e (by omega)
theorem NoByte.meets {x : Rr} {off : Int} {d : Nat} (h : NoByte x off d) (hx : x.fr < x.to) (hd : 0 < d) : meets x off d = false := by
 simp only [Go.Proofs.YtieedhdmpabfkaaGreat.meets, Bool.and_eq_false_iff, decide_eq_false_iff_not]
 by_cases h1 : off < x.to
 ·right
  intro h2
  have h3 := h (max off x.fr - off).toNat (by omega)
  omega
 ·exact .inl h1
theorem meets_at {x : Rr} {off : Int} {d w : Nat} (h1 : x.fr ≤ off + d) (h2 : off + (d : Int) < x.to) (h3 : d < w) : meets x off w = true := by
 simp only [Go.Proofs.YtieedhdmpabfkaaGreat.meets, Bool.and_eq_true, decide_eq_true_eq]
 omega
theorem goV_no {x : Rr} {off wd : Int} {xs : List Rr} (h : meets x off wd = false) : goV off wd (x :: xs) = goV off wd xs := by rw [goV, h]; rfl
theorem goV_yes {x : Rr} {off wd : Int} {xs : List Rr} (h : meets x off wd = true) (hw : wd = x.wd) : goV off wd (x :: xs) = (placeV x off wd, 0) := by rw [goV, if_pos h, if_pos hw]
theorem goV_bad {x : Rr} {off wd : Int} {xs : List Rr} (h : meets x off wd = true) (hw : wd ≠ x.wd) : goV off wd (x :: xs) = (Pl.zero, 40) := by rw [goV, if_pos h, if_neg hw]
structure RrC (W : World) (g o : Nat) (x : Rr) : Prop where
 c0 : W.cell? ⟨g, o, none⟩ = some (.int .i64 x.fr)
 c1 : W.cell? ⟨g, o + 1, none⟩ = some (.int .i64 x.to)
 c2 : W.cell? ⟨g, o + 2, none⟩ = some (.int .i64 x.wd)
 c3 : W.cell? ⟨g, o + 3, none⟩ = some (.int .i64 x.r)
 c4 : W.cell? ⟨g, o + 4, none⟩ = some (.int .i64 x.f)
 c5 : W.cell? ⟨g, o + 5, none⟩ = some (.int .i64 x.o)
 c6 : W.cell? ⟨g, o + 6, none⟩ = some (.int .i64 x.p)
theorem Row.rrc {W : World} {g : Nat} {t : TypeId} {xs : List Rr} (h : Row W g t (flR xs)) {k : Nat} {x : Rr} (hk : xs[k]? = some x) : RrC W g (k * 7) x := by
 have hl : k < xs.length := (List.getElem?_eq_some_iff.1 hk).1
 have K : ∀ c u, c < 7 → x.cs[c]? = some u → W.cell? ⟨g, k * 7 + c, none⟩ = some u := fun c u hc hu => by
  rw [h.cell (by rw [flR_len]; omega), flat_get rr_len xs k c x hc hk, hu]
 exact ⟨K 0 _ (by decide) rfl, K 1 _ (by decide) rfl, K 2 _ (by decide) rfl, K 3 _ (by decide) rfl, K 4 _ (by decide) rfl, K 5 _ (by decide) rfl, K 6 _ (by decide) rfl⟩
theorem CB.rrc {W : World} {B : Nat} {t : TypeId} {x : Rr} (h : CB W B t x.ca) : RrC W B 0 x := ⟨h.cell 0, h.cell 1, h.cell 2, h.cell 3, h.cell 4, h.cell 5, h.cell 6⟩
theorem results_pl {fn : Func} {c t : Tmp} (h : fn.results = #[.cell c 70, .tmp t]) (tmps : Array Value) (w : World) (b : Nat) (x : Pl) (v : Value) (hp : tmps.getD c undef = .pointer (some ⟨b, 0, none⟩)) (ht : tmps.getD t undef = v)
  (hb : CB w b 70 x.cs) : (results fn tmps).run Tryz.prog w = .ok (.tuple #[x.v, v]) w := by
 have hp' : tmps[c]?.getD undef = .pointer (some ⟨b, 0, none⟩) := by simpa using hp
 have ht' : tmps[t]?.getD undef = v := by simpa using ht
 have c0 := hb.cell 0
 have c1 := hb.cell 1
 have c2 := hb.cell 2
 simp at c0 c1 c2
 simp [results, h, go_sem, hp', ht', c0, c1, c2]
theorem CB.put3 {W : World} {B : Nat} {t : TypeId} {a0 a1 a2 : Value} (h : CB W B t #[a0, a1, a2]) (v0 v1 v2 : Value) : CB (((W.setCell ⟨B, 0, none⟩ v0).setCell ⟨B, 1, none⟩ v1).setCell ⟨B, 2, none⟩ v2) B t #[v0, v1, v2] := by
 have := ((h.set 0 v0).set 1 v1).set 2 v2
 simpa only [List.setIfInBounds_toArray, List.set_cons_zero, List.set_cons_succ] using this
theorem CB.set3m {W : World} {B : Nat} {t : TypeId} {a0 a1 a2 : Value} (h : CB W B t #[a0, a1, a2]) (v1 : Value) : CB (W.setCell ⟨B, 1, none⟩ v1) B t #[a0, v1, a2] := by
 have := h.set 1 v1
 simpa only [List.setIfInBounds_toArray, List.set_cons_zero, List.set_cons_succ] using this
theorem below_put3 {n : Nat} {w W : World} (h : Below n w W) {B : Nat} (hb : n ≤ B) (v0 v1 v2 : Value) : Below n w (((W.setCell ⟨B, 0, none⟩ v0).setCell ⟨B, 1, none⟩ v1).setCell ⟨B, 2, none⟩ v2) := below_set (below_set (below_set h hb _) hb _) hb _
structure FA (w : World) (g : Nat) (xs : List Rr) (W : World) : Prop where
 z : CB W w.heap.size 70 #[.int .i64 0, .int .i64 0, .int .i64 0]
 row : Row W g 184 (flR xs)
 below : Below w.heap.size w W
theorem FA.later {w W W' : World} {g : Nat} {xs : List Rr} (h : FA w g xs W) (k : Below W.heap.size W W') : FA w g xs W' := ⟨h.z.below k, h.row.below k, h.below.trans (k.mono h.below.size)⟩
structure FZ (w W : World) : Prop where
 z : CB W w.heap.size 70 #[.int .i64 0, .int .i64 0, .int .i64 0]
 below : Below w.heap.size w W
theorem FZ.later {w W W' : World} (h : FZ w W) (k : Below W.heap.size W W') : FZ w W' := ⟨h.z.below k, h.below.trans (k.mono h.below.size)⟩
theorem FZ.drew {w W : World} (h : FZ w W) : FZ w W.drew := ⟨h.z, Below.drewN (m := 1) h.below⟩
theorem FZ.set1 {w W : World} (h : FZ w W) {N o : Nat} (hN : w.heap.size < N) (v : Value) : FZ w (W.setCell ⟨N, o, none⟩ v) := ⟨h.z.other _ _ _ (by omega), below_set h.below (by omega) _⟩
theorem FZ.put3 {w W : World} (h : FZ w W) {N : Nat} (hN : w.heap.size < N) (v0 v1 v2 : Value) : FZ w (((W.setCell ⟨N, 0, none⟩ v0).setCell ⟨N, 1, none⟩ v1).setCell ⟨N, 2, none⟩ v2) := ((h.set1 hN v0).set1 hN v1).set1 hN v2
theorem CB.other3 {W : World} {B : Nat} {t : TypeId} {cs : Array Value} (h : CB W B t cs) {N : Nat} (hn : B ≠ N) (v0 v1 v2 : Value) : CB (((W.setCell ⟨N, 0, none⟩ v0).setCell ⟨N, 1, none⟩ v1).setCell ⟨N, 2, none⟩ v2) B t cs := ((h.other N _ _ hn).other N _ _ hn).other N _ _ hn
theorem FA.fz {w W : World} {g : Nat} {xs : List Rr} (h : FA w g xs W) : FZ w W := ⟨h.z, h.below⟩
def Finds (w : World) (r : Pl × Int) (e : Ending) (w' : World) : Prop := e = .returned (.tuple #[r.1.v, .int .i64 r.2]) ∧ Below w.heap.size w w'
end Go.Proofs.YtieedhdmpabfkaaGreat
namespace Go.Proofs.YtieedhdmpabfkaaGreat
open Go.ChangeShapes Go.WideShapes Go.ChangeAt Go.RowKit Go.Shelf
set_option linter.unusedVariables false
attribute [local go_sem] Oper.semAt_some
set_option maxRecDepth 100000 in
set_option maxHeartbeats 16000000 in
theorem find4_any (g cap : Nat) (xs : List Rr) (sz off : Int) (w : World) (h : Row w g 184 (flR xs)) (hall : xs.all rowOk2 = true) (hn : xs.length ≤ 100) (hs0 : 8 ≤ sz) (hs1 : sz ≤ 200000) (ho : Int64 off) :
  Calls Tryz.prog 92 #[.slice (some ⟨g, 0, none⟩) xs.length cap, .int .i64 sz, .int .i64 off, .int .i64 4] w (Finds w (findV xs sz off 4)) := by
 obtain ⟨h1, h2⟩ := ho
 unfold findV
 rw [if_neg (by decide)]
 by_cases hm : off.tmod 4 = 0
 ·rw [if_neg (by simpa using hm)]
  have hq : (off.tmod 4 != 0) = false := by simpa using hm
  by_cases hneg : off < 0
  ·rw [if_pos (.inl hneg)]
   go_enter Tryz.func92, Tryz.ntmps92
   go_wp2
   exact bodyPost_ret (results_pl rfl _ _ w.heap.size Pl.zero (.int .i64 42) rfl rfl (CB.new w _ _)) rfl ⟨rfl, bal w _⟩
  ·by_cases hbig : sz - 4 < off
   ·rw [if_pos (.inr hbig)]
    go_enter Tryz.func92, Tryz.ntmps92
    go_wp2
    exact bodyPost_ret (results_pl rfl _ _ w.heap.size Pl.zero (.int .i64 42) rfl rfl (CB.new w _ _)) rfl ⟨rfl, bal w _⟩
   ·rw [if_neg (by omega)]
    have hm4 : off % 4 = 0 := by rw [Int.tmod_eq_emod_of_nonneg (by omega)] at hm; exact hm
    have H0 := hi (show FA w g xs (w.alloc (.cells #[.int .i64 0, .int .i64 0, .int .i64 0] 70)) from ⟨CB.new w _ _, h.below (bal w _), bal w _⟩)
    have hw4 : IntKind.i64.wrap (off + 4) = off + 4 := by rw [IntKind.wrap_i64]; omega
    have hneg0 : 0 ≤ off := by omega
    have hoff : off ≤ 200000 := by omega
    clear hm h
    go_enter Tryz.func92, Tryz.ntmps92
    go_wp2
    go_loopw [10] (fun i wr => ∃ k : Nat, k ≤ xs.length ∧ i = .int .i64 k ∧ Hi (FA w g xs wr ∧ goV off 4 xs = goV off 4 (xs.drop k))) (fun i _ => xs.length - (intOf i).toNat)
    case atStart => exact ⟨0, Nat.zero_le _, rfl, hi ⟨H0.out, rfl⟩⟩
    case round =>
     obtain ⟨k, hk, rfl, HX⟩ := hrel
     clear H0
     by_cases hlt : k < xs.length
     ·have hok := nth_ok2 hall hlt
      have HG := hi (HX.out.2.trans (by rw [drop_nth hlt]))
      have HRC := hi (HX.out.1.row.rrc (nthR_at (xs := xs) (k := k) hlt))
      obtain ⟨x, hx⟩ : ∃ x, nthR xs k = x := ⟨_, rfl⟩
      rw [hx] at hok HRC HG
      obtain ⟨d0, d1, d2, d3, d4, d5, d6⟩ := HRC.out
      clear hx
      obtain ⟨fr, to, wd, rr, ff, oo, pp⟩ := x
      dsimp only at d0 d1 d2 d3 d4 d5 d6
      simp only [rowOk2, Bool.and_eq_true, Bool.or_eq_true, decide_eq_true_eq, beq_iff_eq] at hok
      have HNB := hi (CB.new wr 184 (Rr.ca ⟨fr, to, wd, rr, ff, oo, pp⟩))
      have HX2 := hi (HX.out.1.later (bal wr (.cells (Rr.ca ⟨fr, to, wd, rr, ff, oo, pp⟩) 184)))
      have hk9 : (k : Int) < xs.length := by omega
      go_wp2
      obtain ⟨wq, hwq⟩ : ∃ wq, wr.alloc (.cells #[.int .i64 fr, .int .i64 to, .int .i64 wd, .int .i64 rr, .int .i64 ff, .int .i64 oo, .int .i64 pp] 184) = wq := ⟨_, rfl⟩
      have hnb : wr.heap.size < wq.heap.size := by rw [← hwq]; simp
      rw [hwq] at HNB HX2 ⊢
      obtain ⟨R, hR⟩ : ∃ R, wr.heap.size = R := ⟨_, rfl⟩
      rw [hR] at HNB hnb ⊢
      clear hwq d0 d1 d2 d3 d4 d5 d6 HRC HX hR
      obtain ⟨hfr0, hft, hto, ho0, ho8, hf0, hf64, hok⟩ := hok
      have HOK := hi hok
      clear hok
      go_loopw [12] (fun i wr2 => ∃ d : Nat, d ≤ 4 ∧ i = .int .i64 (off + (d : Int)) ∧ wr2 = wq ∧ Hi (NoByte ⟨fr, to, wd, rr, ff, oo, pp⟩ off d)) (fun i _ => (off + 4 - intOf i).toNat)
      case atStart => exact ⟨0, by omega, by simp, rfl, hi (NoByte.zero _ _)⟩
      case round =>
       obtain ⟨d, hd, rfl, rfl, HN⟩ := hrel
       obtain ⟨d0, d1, d2, d3, d4, d5, d6⟩ := CB.rrc (x := ⟨fr, to, wd, rr, ff, oo, pp⟩) HNB.out
       dsimp only at d0 d1 d2 d3 d4 d5 d6
       by_cases hdl : d < 4
       ·obtain ⟨a, ha⟩ : ∃ a, off + (d : Int) = a := ⟨_, rfl⟩
        have hwd : IntKind.i64.wrap (a + 1) = off + ((d + 1 : Nat) : Int) := by rw [IntKind.wrap_i64]; omega
        have ha4 : a < off + 4 := by omega
        rw [ha]
        by_cases hlo : a < fr
        ·have HN2 := hi (HN.out.succ (by show ¬ (fr ≤ off + (d : Int) ∧ off + (d : Int) < to); omega))
         go_wp2
         go_roundw
         case rel => exact ⟨d + 1, by omega, by first | rfl | simp, trivial, HN2⟩
         case measure => simp only [intOf]; omega
        ·by_cases hhi : to ≤ a
         ·have HN2 := hi (HN.out.succ (by show ¬ (fr ≤ off + (d : Int) ∧ off + (d : Int) < to); omega))
          go_wp2
          go_roundw
          case rel => exact ⟨d + 1, by omega, by first | rfl | simp, trivial, HN2⟩
          case measure => simp only [intOf]; omega
         ·have hmt : meets ⟨fr, to, wd, rr, ff, oo, pp⟩ off 4 = true := meets_at (x := ⟨fr, to, wd, rr, ff, oo, pp⟩) (d := d) (w := 4) (by show fr ≤ off + (d : Int); omega) (by show off + (d : Int) < to; omega) hdl
          have z0 := HX2.out.z.cell 0
          have z1 := HX2.out.z.cell 1
          have z2 := HX2.out.z.cell 2
          have zf := HX2.out.z.frozen
          by_cases hww : wd = 4
          ·subst hww
           rcases HOK.out with ⟨hw, rfl, hal⟩ | ⟨hw, rfl | rfl, hal⟩
           ·clear hw
            have hge : fr ≤ off := by omega
            have HV := hi (goV_yes (xs := xs.drop (k + 1)) (show meets ⟨fr, to, 4, rr, ff, oo, 1⟩ off 4 = true from hmt) rfl)
            obtain ⟨df, hdf⟩ : ∃ df, off - fr = df := ⟨_, rfl⟩
            have hdf0 : 0 ≤ df ∧ df ≤ 200000 := by omega
            have hqd : df.tdiv 1 = df := by simp
            have hD0 : 0 ≤ df ∧ df ≤ 200000 := by omega
            have hm0 : 0 ≤ df * oo := Int.mul_nonneg hD0.1 ho0
            have hml : df * oo ≤ df * 32 := Int.mul_le_mul_of_nonneg_left ho8 hD0.1
            have HPV := hi (show placeV ⟨fr, to, 4, rr, ff, oo, 1⟩ off 4 = ⟨rr, ff + df * oo, 4 * oo⟩ by simp only [placeV, hdf]; simp)
            obtain ⟨T, hT⟩ : ∃ T, df * oo = T := ⟨_, rfl⟩
            have hw2 : IntKind.i64.wrap df = df := by rw [IntKind.wrap_i64]; omega
            have hwD : IntKind.i64.wrap df = df := by rw [IntKind.wrap_i64]; omega
            have hwT : IntKind.i64.wrap (df * oo) = df * oo := by rw [IntKind.wrap_i64]; omega
            rw [hT] at HPV hm0 hml hwT
            have hw5 : IntKind.i64.wrap (ff + T) = ff + T := by rw [IntKind.wrap_i64]; omega
            have hw1 : IntKind.i64.wrap (4 * oo) = 4 * oo := by rw [IntKind.wrap_i64]; omega
            obtain ⟨c4, hc4⟩ : ∃ c4, 4 * oo = c4 := ⟨_, rfl⟩
            rw [hc4] at hw1 HPV
            have hq4 : (4 : Int).tdiv 1 = 4 := by decide
            have HNB4 := hi (show CB wr R 184 #[.int .i64 fr, .int .i64 to, .int .i64 4, .int .i64 rr, .int .i64 ff, .int .i64 oo, .int .i64 1] from HNB.out)
            clear hml hD0 hdf0 hwd ha4
            go_wp2
            have HFD := hi HX2.out.fz.drew
            have hS17 : (fun W' => CB W' R 184 #[.int .i64 fr, .int .i64 to, .int .i64 4, .int .i64 rr, .int .i64 ff, .int .i64 oo, .int .i64 1]) wr.drew := HNB4.out.drew
            obtain ⟨wd, hwd'⟩ : ∃ wd, wr.drew = wd := ⟨_, rfl⟩
            rw [hwd'] at HFD
            refine wp_region_noPanic ?_
            refine wp_region_last_drew (S := (fun W' => CB W' R 184 #[.int .i64 fr, .int .i64 to, .int .i64 4, .int .i64 rr, .int .i64 ff, .int .i64 oo, .int .i64 1])) [13] (by kernel_rfl) hS17 (fun hHeld => ?_)
            rw [hwd'] at hHeld ⊢
            clear hwd' hS17
            (try simp only [r1, r2, r3, r4, r5])
            refine tk 0 (v := ?_) rfl (Or.inl ⟨by rfl, ?_⟩) ?_
            rotate_left
            ·intro w' hSw; (try dsimp only at hSw); obtain ⟨d0, d1, d2, d3, d4, d5, d6⟩ := CB.rrc (x := ⟨fr, to, 4, rr, ff, oo, 1⟩) hSw; dsimp only at d0 d1 d2 d3 d4 d5 d6; go_simp; (try with_reducible rfl)
            (try simp only [Act.put, n1, n2, n4, n5, n6])
            refine tk 1 (v := ?_) rfl (Or.inl ⟨by rfl, ?_⟩) ?_
            rotate_left
            ·intro w' hSw; (try dsimp only at hSw); obtain ⟨d0, d1, d2, d3, d4, d5, d6⟩ := CB.rrc (x := ⟨fr, to, 4, rr, ff, oo, 1⟩) hSw; dsimp only at d0 d1 d2 d3 d4 d5 d6; go_simp; (try with_reducible rfl)
            (try simp only [Act.put, n1, n2, n3, n4, n5, n6])
            refine tk 2 (v := ?_) rfl (Or.inl ⟨by rfl, ?_⟩) ?_
            rotate_left
            ·intro w' hSw; (try dsimp only at hSw); obtain ⟨d0, d1, d2, d3, d4, d5, d6⟩ := CB.rrc (x := ⟨fr, to, 4, rr, ff, oo, 1⟩) hSw; dsimp only at d0 d1 d2 d3 d4 d5 d6; go_simp; (try with_reducible rfl)
            (try simp only [Act.put, n1, n2, n3, n4, n5, n6])
            refine tk 3 (v := ?_) rfl (Or.inl ⟨by rfl, ?_⟩) ?_
            rotate_left
            ·intro w' hSw; (try dsimp only at hSw); obtain ⟨d0, d1, d2, d3, d4, d5, d6⟩ := CB.rrc (x := ⟨fr, to, 4, rr, ff, oo, 1⟩) hSw; dsimp only at d0 d1 d2 d3 d4 d5 d6; go_simp; (try with_reducible rfl)
            (try simp only [Act.put, n1, n2, n3, n4, n5, n6])
            refine tk 4 (v := ?_) rfl (Or.inl ⟨by rfl, ?_⟩) ?_
            rotate_left
            ·intro w' hSw; (try dsimp only at hSw); obtain ⟨d0, d1, d2, d3, d4, d5, d6⟩ := CB.rrc (x := ⟨fr, to, 4, rr, ff, oo, 1⟩) hSw; dsimp only at d0 d1 d2 d3 d4 d5 d6; go_simp; (try with_reducible rfl)
            (try simp only [Act.put, n1, n2, n3, n4, n5, n6])
            refine tk 5 (v := ?_) rfl (Or.inl ⟨by rfl, ?_⟩) ?_
            rotate_left
            ·intro w' hSw; (try dsimp only at hSw); obtain ⟨d0, d1, d2, d3, d4, d5, d6⟩ := CB.rrc (x := ⟨fr, to, 4, rr, ff, oo, 1⟩) hSw; dsimp only at d0 d1 d2 d3 d4 d5 d6; go_simp; (try with_reducible rfl)
            (try simp only [Act.put, n1, n2, n3, n4, n5, n6])
            refine tk 6 (v := ?_) rfl (Or.inl ⟨by rfl, ?_⟩) ?_
            rotate_left
            ·intro w' hSw; (try dsimp only at hSw); obtain ⟨d0, d1, d2, d3, d4, d5, d6⟩ := CB.rrc (x := ⟨fr, to, 4, rr, ff, oo, 1⟩) hSw; dsimp only at d0 d1 d2 d3 d4 d5 d6; go_simp; (try with_reducible rfl)
            (try simp only [Act.put, n1, n2, n3, n4, n5, n6])
            refine tk 7 (v := ?_) rfl (Or.inl ⟨by rfl, ?_⟩) ?_
            rotate_left
            ·intro w' hSw; (try dsimp only at hSw); obtain ⟨d0, d1, d2, d3, d4, d5, d6⟩ := CB.rrc (x := ⟨fr, to, 4, rr, ff, oo, 1⟩) hSw; dsimp only at d0 d1 d2 d3 d4 d5 d6; go_simp; (try with_reducible rfl)
            (try simp only [Act.put, n1, n2, n3, n4, n5, n6])
            refine tk 8 (v := ?_) rfl (Or.inl ⟨by rfl, ?_⟩) ?_
            rotate_left
            ·intro w' hSw; (try dsimp only at hSw); obtain ⟨d0, d1, d2, d3, d4, d5, d6⟩ := CB.rrc (x := ⟨fr, to, 4, rr, ff, oo, 1⟩) hSw; dsimp only at d0 d1 d2 d3 d4 d5 d6; go_simp; (try with_reducible rfl)
            (try simp only [Act.put, n1, n2, n3, n4, n5, n6])
            refine tk 9 (v := ?_) rfl (Or.inl ⟨by rfl, ?_⟩) ?_
            rotate_left
            ·intro w' hSw; (try dsimp only at hSw); obtain ⟨d0, d1, d2, d3, d4, d5, d6⟩ := CB.rrc (x := ⟨fr, to, 4, rr, ff, oo, 1⟩) hSw; dsimp only at d0 d1 d2 d3 d4 d5 d6; go_simp; (try with_reducible rfl)
            (try simp only [Act.put, n1, n2, n3, n4, n5, n6])
            refine tk 10 (v := ?_) rfl (Or.inl ⟨by rfl, ?_⟩) ?_
            rotate_left
            ·intro w' hSw; (try dsimp only at hSw); obtain ⟨d0, d1, d2, d3, d4, d5, d6⟩ := CB.rrc (x := ⟨fr, to, 4, rr, ff, oo, 1⟩) hSw; dsimp only at d0 d1 d2 d3 d4 d5 d6; go_simp; (try with_reducible rfl)
            (try simp only [Act.put, n1, n2, n3, n4, n5, n6])
            refine tk 11 (v := ?_) rfl (Or.inl ⟨by rfl, ?_⟩) ?_
            rotate_left
            ·intro w' hSw; (try dsimp only at hSw); obtain ⟨d0, d1, d2, d3, d4, d5, d6⟩ := CB.rrc (x := ⟨fr, to, 4, rr, ff, oo, 1⟩) hSw; dsimp only at d0 d1 d2 d3 d4 d5 d6; go_simp; (try with_reducible rfl)
            (try simp only [Act.put, n1, n2, n3, n4, n5, n6])
            refine wpAnyF_ready (rs := [12]) (by kernel_rfl) (by simp) ?_
            refine AllReadyF.cons rfl (fun KK hKK => ?_) AllReadyF.nil
            go_simp
            have HF1 := hi (HFD.out.later (bal wd (.cells #[.int .i64 0, .int .i64 0, .int .i64 0] 70)))
            have HR1 := hi (CB.below hHeld (bal wd (.cells #[.int .i64 0, .int .i64 0, .int .i64 0] 70)))
            have HZ1 := hi (CB.new wd 70 #[.int .i64 0, .int .i64 0, .int .i64 0])
            obtain ⟨V1, hV1⟩ : ∃ V1, wd.alloc (.cells #[.int .i64 0, .int .i64 0, .int .i64 0] 70) = V1 := ⟨_, rfl⟩
            rw [hV1] at HF1 HR1 HZ1 ⊢
            obtain ⟨N, hN⟩ : ∃ N, wd.heap.size = N := ⟨_, rfl⟩
            have hN1 : w.heap.size < N ∧ R < N := by have h9 := HFD.out.z.lt; have h8 := CB.lt hHeld; omega
            rw [hN] at HZ1 ⊢
            clear hV1 hN
            refine hKK.out _ _ HR1.out (fun hHeld => ?_)
            clear hKK KK
            (try simp only [Act.put, n1, n2, n3, n4, n5, n6])
            refine wpAnyF_ready (rs := [13]) (by kernel_rfl) (by simp) ?_
            refine AllReadyF.last (by kernel_rfl) rfl (fun KK hKK => ?_) AllReadyF.nil
            have y0 := HZ1.out.cell 0
            have y1 := HZ1.out.cell 1
            have y2 := HZ1.out.cell 2
            have yf := HZ1.out.frozen
            go_simp
            refine hKK.out _ _ ?_
            clear hKK KK
            (try simp only [Act.put, n1, n2, n3, n4, n5, n6])
            refine wpAnyF_done (by kernel_rfl) ?_ _
            refine NoPanic.normal ?_
            have hw1' : IntKind.i64.wrap (IntKind.i64.wrap 4 * oo) = c4 := by rw [show IntKind.i64.wrap 4 = 4 from by decide, hc4]; exact hw1
            have HN2 := hi (CB.put3 HZ1.out (.int .i64 rr) (.int .i64 ff) (.int .i64 c4))
            have HF3 := hi (show FZ w (((V1.setCell ⟨N, 0, none⟩ (.int .i64 rr)).setCell ⟨N, 1, none⟩ (.int .i64 ff)).setCell ⟨N, 2, none⟩ (.int .i64 c4)) from HF1.out.put3 hN1.1 _ _ _)
            have HR3 := hi (HR1.out.other3 (show R ≠ N by omega) (.int .i64 rr) (.int .i64 ff) (.int .i64 c4))
            rw [hw1']
            obtain ⟨V2, hV2⟩ : ∃ V2, ((V1.setCell ⟨N, 0, none⟩ (.int .i64 rr)).setCell ⟨N, 1, none⟩ (.int .i64 ff)).setCell ⟨N, 2, none⟩ (.int .i64 c4) = V2 := ⟨_, rfl⟩
            rw [hV2] at HN2 HF3 HR3 ⊢
            clear hV2 hHeld hw1' hc4
            go_wp2
            have HS18 := hi (And.intro HN2.out.drew HR3.out.drew)
            refine wp_region_noPanic ?_
            refine wp_region_last_drew (S := (fun W' => CB W' N 70 #[.int .i64 rr, .int .i64 ff, .int .i64 c4] ∧ CB W' R 184 #[.int .i64 fr, .int .i64 to, .int .i64 4, .int .i64 rr, .int .i64 ff, .int .i64 oo, .int .i64 1])) [14] (by kernel_rfl) HS18.out (fun hHeld => ?_)
            (try simp only [r1, r2, r3, r4, r5])
            refine tk 0 (v := ?_) rfl (Or.inl ⟨by rfl, ?_⟩) ?_
            rotate_left
            ·intro w' hSw; (try dsimp only at hSw); obtain ⟨hs1, hs2⟩ := hSw; have y0 := hs1.cell 0; have y1 := hs1.cell 1; have y2 := hs1.cell 2; obtain ⟨d0, d1, d2, d3, d4, d5, d6⟩ := CB.rrc (x := ⟨fr, to, 4, rr, ff, oo, 1⟩) hs2; dsimp only at d0 d1 d2 d3 d4 d5 d6; go_simp; (try with_reducible rfl)
            (try simp only [Act.put, n1, n2, n4, n5, n6])
            refine tk 1 (v := ?_) rfl (Or.inl ⟨by rfl, ?_⟩) ?_
            rotate_left
            ·intro w' hSw; (try dsimp only at hSw); obtain ⟨hs1, hs2⟩ := hSw; have y0 := hs1.cell 0; have y1 := hs1.cell 1; have y2 := hs1.cell 2; obtain ⟨d0, d1, d2, d3, d4, d5, d6⟩ := CB.rrc (x := ⟨fr, to, 4, rr, ff, oo, 1⟩) hs2; dsimp only at d0 d1 d2 d3 d4 d5 d6; go_simp; (try with_reducible rfl)
            (try simp only [Act.put, n1, n2, n3, n4, n5, n6])
            refine tk 2 (v := ?_) rfl (Or.inl ⟨by rfl, ?_⟩) ?_
            rotate_left
            ·intro w' hSw; (try dsimp only at hSw); obtain ⟨hs1, hs2⟩ := hSw; have y0 := hs1.cell 0; have y1 := hs1.cell 1; have y2 := hs1.cell 2; obtain ⟨d0, d1, d2, d3, d4, d5, d6⟩ := CB.rrc (x := ⟨fr, to, 4, rr, ff, oo, 1⟩) hs2; dsimp only at d0 d1 d2 d3 d4 d5 d6; go_simp; (try with_reducible rfl)
            (try simp only [Act.put, n1, n2, n3, n4, n5, n6])
            refine tk 3 (v := ?_) rfl (Or.inl ⟨by rfl, ?_⟩) ?_
            rotate_left
            ·intro w' hSw; (try dsimp only at hSw); obtain ⟨hs1, hs2⟩ := hSw; have y0 := hs1.cell 0; have y1 := hs1.cell 1; have y2 := hs1.cell 2; obtain ⟨d0, d1, d2, d3, d4, d5, d6⟩ := CB.rrc (x := ⟨fr, to, 4, rr, ff, oo, 1⟩) hs2; dsimp only at d0 d1 d2 d3 d4 d5 d6; go_simp; (try with_reducible rfl)
            (try simp only [Act.put, n1, n2, n3, n4, n5, n6])
            refine tk 4 (v := ?_) rfl (Or.inl ⟨by rfl, ?_⟩) ?_
            rotate_left
            ·intro w' hSw; (try dsimp only at hSw); obtain ⟨hs1, hs2⟩ := hSw; have y0 := hs1.cell 0; have y1 := hs1.cell 1; have y2 := hs1.cell 2; obtain ⟨d0, d1, d2, d3, d4, d5, d6⟩ := CB.rrc (x := ⟨fr, to, 4, rr, ff, oo, 1⟩) hs2; dsimp only at d0 d1 d2 d3 d4 d5 d6; go_simp; (try with_reducible rfl)
            (try simp only [Act.put, n1, n2, n3, n4, n5, n6])
            refine tk 5 (v := ?_) rfl (Or.inl ⟨by rfl, ?_⟩) ?_
            rotate_left
            ·intro w' hSw; (try dsimp only at hSw); obtain ⟨hs1, hs2⟩ := hSw; have y0 := hs1.cell 0; have y1 := hs1.cell 1; have y2 := hs1.cell 2; obtain ⟨d0, d1, d2, d3, d4, d5, d6⟩ := CB.rrc (x := ⟨fr, to, 4, rr, ff, oo, 1⟩) hs2; dsimp only at d0 d1 d2 d3 d4 d5 d6; go_simp; (try with_reducible rfl)
            (try simp only [Act.put, n1, n2, n3, n4, n5, n6])
            refine tk 6 (v := ?_) rfl (Or.inl ⟨by rfl, ?_⟩) ?_
            rotate_left
            ·intro w' hSw; (try dsimp only at hSw); obtain ⟨hs1, hs2⟩ := hSw; have y0 := hs1.cell 0; have y1 := hs1.cell 1; have y2 := hs1.cell 2; obtain ⟨d0, d1, d2, d3, d4, d5, d6⟩ := CB.rrc (x := ⟨fr, to, 4, rr, ff, oo, 1⟩) hs2; dsimp only at d0 d1 d2 d3 d4 d5 d6; go_simp; (try with_reducible rfl)
            (try simp only [Act.put, n1, n2, n3, n4, n5, n6])
            refine tk 7 (v := ?_) rfl (Or.inl ⟨by rfl, ?_⟩) ?_
            rotate_left
            ·intro w' hSw; (try dsimp only at hSw); obtain ⟨hs1, hs2⟩ := hSw; have y0 := hs1.cell 0; have y1 := hs1.cell 1; have y2 := hs1.cell 2; obtain ⟨d0, d1, d2, d3, d4, d5, d6⟩ := CB.rrc (x := ⟨fr, to, 4, rr, ff, oo, 1⟩) hs2; dsimp only at d0 d1 d2 d3 d4 d5 d6; go_simp; (try with_reducible rfl)
            (try simp only [Act.put, n1, n2, n3, n4, n5, n6])
            refine tk 8 (v := ?_) rfl (Or.inl ⟨by rfl, ?_⟩) ?_
            rotate_left
            ·intro w' hSw; (try dsimp only at hSw); obtain ⟨hs1, hs2⟩ := hSw; have y0 := hs1.cell 0; have y1 := hs1.cell 1; have y2 := hs1.cell 2; obtain ⟨d0, d1, d2, d3, d4, d5, d6⟩ := CB.rrc (x := ⟨fr, to, 4, rr, ff, oo, 1⟩) hs2; dsimp only at d0 d1 d2 d3 d4 d5 d6; go_simp; (try with_reducible rfl)
            (try simp only [Act.put, n1, n2, n3, n4, n5, n6])
            refine tk 9 (v := ?_) rfl (Or.inl ⟨by rfl, ?_⟩) ?_
            rotate_left
            ·intro w' hSw; (try dsimp only at hSw); obtain ⟨hs1, hs2⟩ := hSw; have y0 := hs1.cell 0; have y1 := hs1.cell 1; have y2 := hs1.cell 2; obtain ⟨d0, d1, d2, d3, d4, d5, d6⟩ := CB.rrc (x := ⟨fr, to, 4, rr, ff, oo, 1⟩) hs2; dsimp only at d0 d1 d2 d3 d4 d5 d6; go_simp; (try with_reducible rfl)
            (try simp only [Act.put, n1, n2, n3, n4, n5, n6])
            refine tk 10 (v := ?_) rfl (Or.inl ⟨by rfl, ?_⟩) ?_
            rotate_left
            ·intro w' hSw; (try dsimp only at hSw); obtain ⟨hs1, hs2⟩ := hSw; have y0 := hs1.cell 0; have y1 := hs1.cell 1; have y2 := hs1.cell 2; obtain ⟨d0, d1, d2, d3, d4, d5, d6⟩ := CB.rrc (x := ⟨fr, to, 4, rr, ff, oo, 1⟩) hs2; dsimp only at d0 d1 d2 d3 d4 d5 d6; go_simp; (try with_reducible rfl)
            (try simp only [Act.put, n1, n2, n3, n4, n5, n6])
            refine tk 11 (v := ?_) rfl (Or.inl ⟨by rfl, ?_⟩) ?_
            rotate_left
            ·intro w' hSw; (try dsimp only at hSw); obtain ⟨hs1, hs2⟩ := hSw; have y0 := hs1.cell 0; have y1 := hs1.cell 1; have y2 := hs1.cell 2; obtain ⟨d0, d1, d2, d3, d4, d5, d6⟩ := CB.rrc (x := ⟨fr, to, 4, rr, ff, oo, 1⟩) hs2; dsimp only at d0 d1 d2 d3 d4 d5 d6; go_simp; (try with_reducible rfl)
            (try simp only [Act.put, n1, n2, n3, n4, n5, n6])
            refine tk 12 (v := ?_) rfl (Or.inl ⟨by rfl, ?_⟩) ?_
            rotate_left
            ·intro w' hSw; (try dsimp only at hSw); obtain ⟨hs1, hs2⟩ := hSw; have y0 := hs1.cell 0; have y1 := hs1.cell 1; have y2 := hs1.cell 2; obtain ⟨d0, d1, d2, d3, d4, d5, d6⟩ := CB.rrc (x := ⟨fr, to, 4, rr, ff, oo, 1⟩) hs2; dsimp only at d0 d1 d2 d3 d4 d5 d6; go_simp; (try with_reducible rfl)
            (try simp only [Act.put, n1, n2, n3, n4, n5, n6])
            refine tk 13 (v := ?_) rfl (Or.inl ⟨by rfl, ?_⟩) ?_
            rotate_left
            ·intro w' hSw; (try dsimp only at hSw); obtain ⟨hs1, hs2⟩ := hSw; have y0 := hs1.cell 0; have y1 := hs1.cell 1; have y2 := hs1.cell 2; obtain ⟨d0, d1, d2, d3, d4, d5, d6⟩ := CB.rrc (x := ⟨fr, to, 4, rr, ff, oo, 1⟩) hs2; dsimp only at d0 d1 d2 d3 d4 d5 d6; go_simp; (try with_reducible rfl)
            (try simp only [Act.put, n1, n2, n3, n4, n5, n6])
            refine wpAnyF_ready (rs := [14]) (by kernel_rfl) (by simp) ?_
            refine AllReadyF.last (by kernel_rfl) rfl (fun KK hKK => ?_) AllReadyF.nil
            have y1 := HN2.out.cell 1
            have yf := HN2.out.frozen 1
            have y1' : V2.drew.cell? ⟨N, 1, none⟩ = some (.int .i64 ff) := y1
            have yf' : V2.drew.frozen? ⟨N, 1, none⟩ = false := yf
            go_simp
            refine hKK.out _ _ ?_
            clear hKK KK
            (try simp only [Act.put, n1, n2, n3, n4, n5, n6])
            refine wpAnyF_done (by kernel_rfl) ?_ _
            refine NoPanic.normal ?_
            have HN4 := hi (show CB (V2.setCell ⟨N, 1, none⟩ (.int .i64 (ff + T))).drew N 70 #[.int .i64 rr, .int .i64 (ff + T), .int .i64 c4] from (HN2.out.set3m (.int .i64 (ff + T))).drew)
            have HF2 := hi ((HF3.out.set1 (o := 1) hN1.1 (.int .i64 (ff + T))).drew)
            obtain ⟨V4, hV4⟩ : ∃ V4, (V2.setCell ⟨N, 1, none⟩ (.int .i64 (ff + T))).drew = V4 := ⟨_, rfl⟩
            rw [hV4] at HN4 HF2 ⊢
            clear hV4 hHeld HS18
            have y0 := HN4.out.cell 0
            have y1 := HN4.out.cell 1
            have y2 := HN4.out.cell 2
            have z0 := HF2.out.z.cell 0
            have z1 := HF2.out.z.cell 1
            have z2 := HF2.out.z.cell 2
            have zf := HF2.out.z.frozen
            go_wp2
            exact bodyPost_ret (results_pl rfl _ _ w.heap.size ⟨rr, ff + T, c4⟩ (.int .i64 0) rfl rfl (CB.put3 HF2.out.z _ _ _)) rfl ⟨by rw [HG.out, HV.out, HPV.out], below_put3 HF2.out.below (Nat.le_refl _) _ _ _⟩
           ·exact absurd hw (by decide)
           ·exact absurd hw (by decide)
          ·have HV := hi (HG.out.trans (goV_bad hmt (fun e => hww e.symm)))
           have hne : ((4 : Int) != wd) = true := by simp; omega
           go_wp2
           exact bodyPost_ret (results_pl rfl _ _ w.heap.size Pl.zero (.int .i64 40) rfl rfl (CB.put3 HX2.out.z _ _ _)) rfl ⟨by rw [HV.out], below_put3 HX2.out.below (Nat.le_refl _) _ _ _⟩
       ·obtain rfl : d = 4 := by omega
        have HV := hi (HG.out.trans (goV_no (HN.out.meets hft (by decide))))
        go_wp2
        go_roundw
        case rel => exact ⟨k + 1, by omega, by go_num, hi ⟨HX2.out, HV.out⟩⟩
        case measure => simp only [intOf]; omega
     ·obtain rfl : k = xs.length := by omega
      have HV := hi (show goV off 4 xs = (Pl.zero, 0) by rw [HX.out.2, List.drop_length]; rfl)
      have z0 := HX.out.1.z.cell 0
      have z1 := HX.out.1.z.cell 1
      have z2 := HX.out.1.z.cell 2
      have zf := HX.out.1.z.frozen
      go_wp2
      exact bodyPost_ret (results_pl rfl _ _ w.heap.size Pl.zero (.int .i64 0) rfl rfl (CB.put3 HX.out.1.z _ _ _)) rfl ⟨by rw [HV.out], below_put3 HX.out.1.below (Nat.le_refl _) _ _ _⟩
 ·rw [if_pos hm]
  have hq : (off.tmod 4 != 0) = true := by simpa using hm
  go_enter Tryz.func92, Tryz.ntmps92
  go_wp2
  exact bodyPost_ret (results_pl rfl _ _ w.heap.size Pl.zero (.int .i64 41) rfl rfl (CB.new w _ _)) rfl ⟨rfl, bal w _⟩
set_option maxRecDepth 100000 in
set_option maxHeartbeats 16000000 in
theorem find8_any (g cap : Nat) (xs : List Rr) (sz off : Int) (w : World) (h : Row w g 184 (flR xs)) (hall : xs.all rowOk2 = true) (hn : xs.length ≤ 100) (hs0 : 8 ≤ sz) (hs1 : sz ≤ 200000) (ho : Int64 off) :
  Calls Tryz.prog 92 #[.slice (some ⟨g, 0, none⟩) xs.length cap, .int .i64 sz, .int .i64 off, .int .i64 8] w (Finds w (findV xs sz off 8)) := by
 obtain ⟨h1, h2⟩ := ho
 unfold findV
 rw [if_neg (by decide)]
 by_cases hm : off.tmod 8 = 0
 ·rw [if_neg (by simpa using hm)]
  have hq : (off.tmod 8 != 0) = false := by simpa using hm
  by_cases hneg : off < 0
  ·rw [if_pos (.inl hneg)]
   go_enter Tryz.func92, Tryz.ntmps92
   go_wp2
   exact bodyPost_ret (results_pl rfl _ _ w.heap.size Pl.zero (.int .i64 42) rfl rfl (CB.new w _ _)) rfl ⟨rfl, bal w _⟩
  ·by_cases hbig : sz - 8 < off
   ·rw [if_pos (.inr hbig)]
    go_enter Tryz.func92, Tryz.ntmps92
    go_wp2
    exact bodyPost_ret (results_pl rfl _ _ w.heap.size Pl.zero (.int .i64 42) rfl rfl (CB.new w _ _)) rfl ⟨rfl, bal w _⟩
   ·rw [if_neg (by omega)]
    have hm4 : off % 8 = 0 := by rw [Int.tmod_eq_emod_of_nonneg (by omega)] at hm; exact hm
    have H0 := hi (show FA w g xs (w.alloc (.cells #[.int .i64 0, .int .i64 0, .int .i64 0] 70)) from ⟨CB.new w _ _, h.below (bal w _), bal w _⟩)
    have hw4 : IntKind.i64.wrap (off + 8) = off + 8 := by rw [IntKind.wrap_i64]; omega
    have hneg0 : 0 ≤ off := by omega
    have hoff : off ≤ 200000 := by omega
    clear hm h
    go_enter Tryz.func92, Tryz.ntmps92
    go_wp2
    go_loopw [10] (fun i wr => ∃ k : Nat, k ≤ xs.length ∧ i = .int .i64 k ∧ Hi (FA w g xs wr ∧ goV off 8 xs = goV off 8 (xs.drop k))) (fun i _ => xs.length - (intOf i).toNat)
    case atStart => exact ⟨0, Nat.zero_le _, rfl, hi ⟨H0.out, rfl⟩⟩
    case round =>
     obtain ⟨k, hk, rfl, HX⟩ := hrel
     clear H0
     by_cases hlt : k < xs.length
     ·have hok := nth_ok2 hall hlt
      have HG := hi (HX.out.2.trans (by rw [drop_nth hlt]))
      have HRC := hi (HX.out.1.row.rrc (nthR_at (xs := xs) (k := k) hlt))
      obtain ⟨x, hx⟩ : ∃ x, nthR xs k = x := ⟨_, rfl⟩
      rw [hx] at hok HRC HG
      obtain ⟨d0, d1, d2, d3, d4, d5, d6⟩ := HRC.out
      clear hx
      obtain ⟨fr, to, wd, rr, ff, oo, pp⟩ := x
      dsimp only at d0 d1 d2 d3 d4 d5 d6
      simp only [rowOk2, Bool.and_eq_true, Bool.or_eq_true, decide_eq_true_eq, beq_iff_eq] at hok
      have HNB := hi (CB.new wr 184 (Rr.ca ⟨fr, to, wd, rr, ff, oo, pp⟩))
      have HX2 := hi (HX.out.1.later (bal wr (.cells (Rr.ca ⟨fr, to, wd, rr, ff, oo, pp⟩) 184)))
      have hk9 : (k : Int) < xs.length := by omega
      go_wp2
      obtain ⟨wq, hwq⟩ : ∃ wq, wr.alloc (.cells #[.int .i64 fr, .int .i64 to, .int .i64 wd, .int .i64 rr, .int .i64 ff, .int .i64 oo, .int .i64 pp] 184) = wq := ⟨_, rfl⟩
      have hnb : wr.heap.size < wq.heap.size := by rw [← hwq]; simp
      rw [hwq] at HNB HX2 ⊢
      obtain ⟨R, hR⟩ : ∃ R, wr.heap.size = R := ⟨_, rfl⟩
      rw [hR] at HNB hnb ⊢
      clear hwq d0 d1 d2 d3 d4 d5 d6 HRC HX hR
      obtain ⟨hfr0, hft, hto, ho0, ho8, hf0, hf64, hok⟩ := hok
      have HOK := hi hok
      clear hok
      go_loopw [12] (fun i wr2 => ∃ d : Nat, d ≤ 8 ∧ i = .int .i64 (off + (d : Int)) ∧ wr2 = wq ∧ Hi (NoByte ⟨fr, to, wd, rr, ff, oo, pp⟩ off d)) (fun i _ => (off + 8 - intOf i).toNat)
      case atStart => exact ⟨0, by omega, by simp, rfl, hi (NoByte.zero _ _)⟩
      case round =>
       obtain ⟨d, hd, rfl, rfl, HN⟩ := hrel
       obtain ⟨d0, d1, d2, d3, d4, d5, d6⟩ := CB.rrc (x := ⟨fr, to, wd, rr, ff, oo, pp⟩) HNB.out
       dsimp only at d0 d1 d2 d3 d4 d5 d6
       by_cases hdl : d < 8
       ·obtain ⟨a, ha⟩ : ∃ a, off + (d : Int) = a := ⟨_, rfl⟩
        have hwd : IntKind.i64.wrap (a + 1) = off + ((d + 1 : Nat) : Int) := by rw [IntKind.wrap_i64]; omega
        have ha4 : a < off + 8 := by omega
        rw [ha]
        by_cases hlo : a < fr
        ·have HN2 := hi (HN.out.succ (by show ¬ (fr ≤ off + (d : Int) ∧ off + (d : Int) < to); omega))
         go_wp2
         go_roundw
         case rel => exact ⟨d + 1, by omega, by first | rfl | simp, trivial, HN2⟩
         case measure => simp only [intOf]; omega
        ·by_cases hhi : to ≤ a
         ·have HN2 := hi (HN.out.succ (by show ¬ (fr ≤ off + (d : Int) ∧ off + (d : Int) < to); omega))
          go_wp2
          go_roundw
          case rel => exact ⟨d + 1, by omega, by first | rfl | simp, trivial, HN2⟩
          case measure => simp only [intOf]; omega
         ·have hmt : meets ⟨fr, to, wd, rr, ff, oo, pp⟩ off 8 = true := meets_at (x := ⟨fr, to, wd, rr, ff, oo, pp⟩) (d := d) (w := 8) (by show fr ≤ off + (d : Int); omega) (by show off + (d : Int) < to; omega) hdl
          have z0 := HX2.out.z.cell 0
          have z1 := HX2.out.z.cell 1
          have z2 := HX2.out.z.cell 2
          have zf := HX2.out.z.frozen
          by_cases hww : wd = 8
          ·subst hww
           rcases HOK.out with ⟨hw, rfl, hal⟩ | ⟨hw, rfl | rfl, hal⟩
           ·exact absurd hw (by decide)
           ·clear hw
            have hge : fr ≤ off := by omega
            have HV := hi (goV_yes (xs := xs.drop (k + 1)) (show meets ⟨fr, to, 8, rr, ff, oo, 8⟩ off 8 = true from hmt) rfl)
            obtain ⟨df, hdf⟩ : ∃ df, off - fr = df := ⟨_, rfl⟩
            have hdf0 : 0 ≤ df ∧ df ≤ 200000 := by omega
            obtain ⟨D, hD⟩ : ∃ D, df / 8 = D := ⟨_, rfl⟩
            have hqd : df.tdiv 8 = D := by rw [Int.tdiv_eq_ediv_of_nonneg hdf0.1, hD]
            have hD0 : 0 ≤ D ∧ D ≤ 200000 := by omega
            have hm0 : 0 ≤ D * oo := Int.mul_nonneg hD0.1 ho0
            have hml : D * oo ≤ D * 32 := Int.mul_le_mul_of_nonneg_left ho8 hD0.1
            have HPV := hi (show placeV ⟨fr, to, 8, rr, ff, oo, 8⟩ off 8 = ⟨rr, ff + D * oo, 1 * oo⟩ by simp only [placeV, hdf]; rw [hD]; rfl)
            obtain ⟨T, hT⟩ : ∃ T, D * oo = T := ⟨_, rfl⟩
            have hw2 : IntKind.i64.wrap df = df := by rw [IntKind.wrap_i64]; omega
            have hwD : IntKind.i64.wrap D = D := by rw [IntKind.wrap_i64]; omega
            have hwT : IntKind.i64.wrap (D * oo) = D * oo := by rw [IntKind.wrap_i64]; omega
            rw [hT] at HPV hm0 hml hwT
            have hw5 : IntKind.i64.wrap (ff + T) = ff + T := by rw [IntKind.wrap_i64]; omega
            have hw1 : IntKind.i64.wrap (1 * oo) = 1 * oo := by rw [IntKind.wrap_i64]; omega
            obtain ⟨c4, hc4⟩ : ∃ c4, 1 * oo = c4 := ⟨_, rfl⟩
            rw [hc4] at hw1 HPV
            have hq4 : (8 : Int).tdiv 8 = 1 := by decide
            have HNB4 := hi (show CB wr R 184 #[.int .i64 fr, .int .i64 to, .int .i64 8, .int .i64 rr, .int .i64 ff, .int .i64 oo, .int .i64 8] from HNB.out)
            clear hml hD0 hdf0 hwd ha4
            go_wp2
            have HFD := hi HX2.out.fz.drew
            have hS17 : (fun W' => CB W' R 184 #[.int .i64 fr, .int .i64 to, .int .i64 8, .int .i64 rr, .int .i64 ff, .int .i64 oo, .int .i64 8]) wr.drew := HNB4.out.drew
            obtain ⟨wd, hwd'⟩ : ∃ wd, wr.drew = wd := ⟨_, rfl⟩
            rw [hwd'] at HFD
            refine wp_region_noPanic ?_
            refine wp_region_last_drew (S := (fun W' => CB W' R 184 #[.int .i64 fr, .int .i64 to, .int .i64 8, .int .i64 rr, .int .i64 ff, .int .i64 oo, .int .i64 8])) [13] (by kernel_rfl) hS17 (fun hHeld => ?_)
            rw [hwd'] at hHeld ⊢
            clear hwd' hS17
            (try simp only [r1, r2, r3, r4, r5])
            refine tk 0 (v := ?_) rfl (Or.inl ⟨by rfl, ?_⟩) ?_
            rotate_left
            ·intro w' hSw; (try dsimp only at hSw); obtain ⟨d0, d1, d2, d3, d4, d5, d6⟩ := CB.rrc (x := ⟨fr, to, 8, rr, ff, oo, 8⟩) hSw; dsimp only at d0 d1 d2 d3 d4 d5 d6; go_simp; (try with_reducible rfl)
            (try simp only [Act.put, n1, n2, n4, n5, n6])
            refine tk 1 (v := ?_) rfl (Or.inl ⟨by rfl, ?_⟩) ?_
            rotate_left
            ·intro w' hSw; (try dsimp only at hSw); obtain ⟨d0, d1, d2, d3, d4, d5, d6⟩ := CB.rrc (x := ⟨fr, to, 8, rr, ff, oo, 8⟩) hSw; dsimp only at d0 d1 d2 d3 d4 d5 d6; go_simp; (try with_reducible rfl)
            (try simp only [Act.put, n1, n2, n3, n4, n5, n6])
            refine tk 2 (v := ?_) rfl (Or.inl ⟨by rfl, ?_⟩) ?_
            rotate_left
            ·intro w' hSw; (try dsimp only at hSw); obtain ⟨d0, d1, d2, d3, d4, d5, d6⟩ := CB.rrc (x := ⟨fr, to, 8, rr, ff, oo, 8⟩) hSw; dsimp only at d0 d1 d2 d3 d4 d5 d6; go_simp; (try with_reducible rfl)
            (try simp only [Act.put, n1, n2, n3, n4, n5, n6])
            refine tk 3 (v := ?_) rfl (Or.inl ⟨by rfl, ?_⟩) ?_
            rotate_left
            ·intro w' hSw; (try dsimp only at hSw); obtain ⟨d0, d1, d2, d3, d4, d5, d6⟩ := CB.rrc (x := ⟨fr, to, 8, rr, ff, oo, 8⟩) hSw; dsimp only at d0 d1 d2 d3 d4 d5 d6; go_simp; (try with_reducible rfl)
            (try simp only [Act.put, n1, n2, n3, n4, n5, n6])
            refine tk 4 (v := ?_) rfl (Or.inl ⟨by rfl, ?_⟩) ?_
            rotate_left
            ·intro w' hSw; (try dsimp only at hSw); obtain ⟨d0, d1, d2, d3, d4, d5, d6⟩ := CB.rrc (x := ⟨fr, to, 8, rr, ff, oo, 8⟩) hSw; dsimp only at d0 d1 d2 d3 d4 d5 d6; go_simp; (try with_reducible rfl)
            (try simp only [Act.put, n1, n2, n3, n4, n5, n6])
            refine tk 5 (v := ?_) rfl (Or.inl ⟨by rfl, ?_⟩) ?_
            rotate_left
            ·intro w' hSw; (try dsimp only at hSw); obtain ⟨d0, d1, d2, d3, d4, d5, d6⟩ := CB.rrc (x := ⟨fr, to, 8, rr, ff, oo, 8⟩) hSw; dsimp only at d0 d1 d2 d3 d4 d5 d6; go_simp; (try with_reducible rfl)
            (try simp only [Act.put, n1, n2, n3, n4, n5, n6])
            refine tk 6 (v := ?_) rfl (Or.inl ⟨by rfl, ?_⟩) ?_
            rotate_left
            ·intro w' hSw; (try dsimp only at hSw); obtain ⟨d0, d1, d2, d3, d4, d5, d6⟩ := CB.rrc (x := ⟨fr, to, 8, rr, ff, oo, 8⟩) hSw; dsimp only at d0 d1 d2 d3 d4 d5 d6; go_simp; (try with_reducible rfl)
            (try simp only [Act.put, n1, n2, n3, n4, n5, n6])
            refine tk 7 (v := ?_) rfl (Or.inl ⟨by rfl, ?_⟩) ?_
            rotate_left
            ·intro w' hSw; (try dsimp only at hSw); obtain ⟨d0, d1, d2, d3, d4, d5, d6⟩ := CB.rrc (x := ⟨fr, to, 8, rr, ff, oo, 8⟩) hSw; dsimp only at d0 d1 d2 d3 d4 d5 d6; go_simp; (try with_reducible rfl)
            (try simp only [Act.put, n1, n2, n3, n4, n5, n6])
            refine tk 8 (v := ?_) rfl (Or.inl ⟨by rfl, ?_⟩) ?_
            rotate_left
            ·intro w' hSw; (try dsimp only at hSw); obtain ⟨d0, d1, d2, d3, d4, d5, d6⟩ := CB.rrc (x := ⟨fr, to, 8, rr, ff, oo, 8⟩) hSw; dsimp only at d0 d1 d2 d3 d4 d5 d6; go_simp; (try with_reducible rfl)
            (try simp only [Act.put, n1, n2, n3, n4, n5, n6])
            refine tk 9 (v := ?_) rfl (Or.inl ⟨by rfl, ?_⟩) ?_
            rotate_left
            ·intro w' hSw; (try dsimp only at hSw); obtain ⟨d0, d1, d2, d3, d4, d5, d6⟩ := CB.rrc (x := ⟨fr, to, 8, rr, ff, oo, 8⟩) hSw; dsimp only at d0 d1 d2 d3 d4 d5 d6; go_simp; (try with_reducible rfl)
            (try simp only [Act.put, n1, n2, n3, n4, n5, n6])
            refine tk 10 (v := ?_) rfl (Or.inl ⟨by rfl, ?_⟩) ?_
            rotate_left
            ·intro w' hSw; (try dsimp only at hSw); obtain ⟨d0, d1, d2, d3, d4, d5, d6⟩ := CB.rrc (x := ⟨fr, to, 8, rr, ff, oo, 8⟩) hSw; dsimp only at d0 d1 d2 d3 d4 d5 d6; go_simp; (try with_reducible rfl)
            (try simp only [Act.put, n1, n2, n3, n4, n5, n6])
            refine tk 11 (v := ?_) rfl (Or.inl ⟨by rfl, ?_⟩) ?_
            rotate_left
            ·intro w' hSw; (try dsimp only at hSw); obtain ⟨d0, d1, d2, d3, d4, d5, d6⟩ := CB.rrc (x := ⟨fr, to, 8, rr, ff, oo, 8⟩) hSw; dsimp only at d0 d1 d2 d3 d4 d5 d6; go_simp; (try with_reducible rfl)
            (try simp only [Act.put, n1, n2, n3, n4, n5, n6])
            refine wpAnyF_ready (rs := [12]) (by kernel_rfl) (by simp) ?_
            refine AllReadyF.cons rfl (fun KK hKK => ?_) AllReadyF.nil
            go_simp
            have HF1 := hi (HFD.out.later (bal wd (.cells #[.int .i64 0, .int .i64 0, .int .i64 0] 70)))
            have HR1 := hi (CB.below hHeld (bal wd (.cells #[.int .i64 0, .int .i64 0, .int .i64 0] 70)))
            have HZ1 := hi (CB.new wd 70 #[.int .i64 0, .int .i64 0, .int .i64 0])
            obtain ⟨V1, hV1⟩ : ∃ V1, wd.alloc (.cells #[.int .i64 0, .int .i64 0, .int .i64 0] 70) = V1 := ⟨_, rfl⟩
            rw [hV1] at HF1 HR1 HZ1 ⊢
            obtain ⟨N, hN⟩ : ∃ N, wd.heap.size = N := ⟨_, rfl⟩
            have hN1 : w.heap.size < N ∧ R < N := by have h9 := HFD.out.z.lt; have h8 := CB.lt hHeld; omega
            rw [hN] at HZ1 ⊢
            clear hV1 hN
            refine hKK.out _ _ HR1.out (fun hHeld => ?_)
            clear hKK KK
            (try simp only [Act.put, n1, n2, n3, n4, n5, n6])
            refine wpAnyF_ready (rs := [13]) (by kernel_rfl) (by simp) ?_
            refine AllReadyF.last (by kernel_rfl) rfl (fun KK hKK => ?_) AllReadyF.nil
            have y0 := HZ1.out.cell 0
            have y1 := HZ1.out.cell 1
            have y2 := HZ1.out.cell 2
            have yf := HZ1.out.frozen
            go_simp
            refine hKK.out _ _ ?_
            clear hKK KK
            (try simp only [Act.put, n1, n2, n3, n4, n5, n6])
            refine wpAnyF_done (by kernel_rfl) ?_ _
            refine NoPanic.normal ?_
            have hw1' : IntKind.i64.wrap (IntKind.i64.wrap 1 * oo) = c4 := by rw [show IntKind.i64.wrap 1 = 1 from by decide, hc4]; exact hw1
            have HN2 := hi (CB.put3 HZ1.out (.int .i64 rr) (.int .i64 ff) (.int .i64 c4))
            have HF3 := hi (show FZ w (((V1.setCell ⟨N, 0, none⟩ (.int .i64 rr)).setCell ⟨N, 1, none⟩ (.int .i64 ff)).setCell ⟨N, 2, none⟩ (.int .i64 c4)) from HF1.out.put3 hN1.1 _ _ _)
            have HR3 := hi (HR1.out.other3 (show R ≠ N by omega) (.int .i64 rr) (.int .i64 ff) (.int .i64 c4))
            rw [hw1']
            obtain ⟨V2, hV2⟩ : ∃ V2, ((V1.setCell ⟨N, 0, none⟩ (.int .i64 rr)).setCell ⟨N, 1, none⟩ (.int .i64 ff)).setCell ⟨N, 2, none⟩ (.int .i64 c4) = V2 := ⟨_, rfl⟩
            rw [hV2] at HN2 HF3 HR3 ⊢
            clear hV2 hHeld hw1' hc4
            go_wp2
            have HS18 := hi (And.intro HN2.out.drew HR3.out.drew)
            refine wp_region_noPanic ?_
            refine wp_region_last_drew (S := (fun W' => CB W' N 70 #[.int .i64 rr, .int .i64 ff, .int .i64 c4] ∧ CB W' R 184 #[.int .i64 fr, .int .i64 to, .int .i64 8, .int .i64 rr, .int .i64 ff, .int .i64 oo, .int .i64 8])) [14] (by kernel_rfl) HS18.out (fun hHeld => ?_)
            (try simp only [r1, r2, r3, r4, r5])
            refine tk 0 (v := ?_) rfl (Or.inl ⟨by rfl, ?_⟩) ?_
            rotate_left
            ·intro w' hSw; (try dsimp only at hSw); obtain ⟨hs1, hs2⟩ := hSw; have y0 := hs1.cell 0; have y1 := hs1.cell 1; have y2 := hs1.cell 2; obtain ⟨d0, d1, d2, d3, d4, d5, d6⟩ := CB.rrc (x := ⟨fr, to, 8, rr, ff, oo, 8⟩) hs2; dsimp only at d0 d1 d2 d3 d4 d5 d6; go_simp; (try with_reducible rfl)
            (try simp only [Act.put, n1, n2, n4, n5, n6])
            refine tk 1 (v := ?_) rfl (Or.inl ⟨by rfl, ?_⟩) ?_
            rotate_left
            ·intro w' hSw; (try dsimp only at hSw); obtain ⟨hs1, hs2⟩ := hSw; have y0 := hs1.cell 0; have y1 := hs1.cell 1; have y2 := hs1.cell 2; obtain ⟨d0, d1, d2, d3, d4, d5, d6⟩ := CB.rrc (x := ⟨fr, to, 8, rr, ff, oo, 8⟩) hs2; dsimp only at d0 d1 d2 d3 d4 d5 d6; go_simp; (try with_reducible rfl)
            (try simp only [Act.put, n1, n2, n3, n4, n5, n6])
            refine tk 2 (v := ?_) rfl (Or.inl ⟨by rfl, ?_⟩) ?_
            rotate_left
            ·intro w' hSw; (try dsimp only at hSw); obtain ⟨hs1, hs2⟩ := hSw; have y0 := hs1.cell 0; have y1 := hs1.cell 1; have y2 := hs1.cell 2; obtain ⟨d0, d1, d2, d3, d4, d5, d6⟩ := CB.rrc (x := ⟨fr, to, 8, rr, ff, oo, 8⟩) hs2; dsimp only at d0 d1 d2 d3 d4 d5 d6; go_simp; (try with_reducible rfl)
            (try simp only [Act.put, n1, n2, n3, n4, n5, n6])
            refine tk 3 (v := ?_) rfl (Or.inl ⟨by rfl, ?_⟩) ?_
            rotate_left
            ·intro w' hSw; (try dsimp only at hSw); obtain ⟨hs1, hs2⟩ := hSw; have y0 := hs1.cell 0; have y1 := hs1.cell 1; have y2 := hs1.cell 2; obtain ⟨d0, d1, d2, d3, d4, d5, d6⟩ := CB.rrc (x := ⟨fr, to, 8, rr, ff, oo, 8⟩) hs2; dsimp only at d0 d1 d2 d3 d4 d5 d6; go_simp; (try with_reducible rfl)
            (try simp only [Act.put, n1, n2, n3, n4, n5, n6])
            refine tk 4 (v := ?_) rfl (Or.inl ⟨by rfl, ?_⟩) ?_
            rotate_left
            ·intro w' hSw; (try dsimp only at hSw); obtain ⟨hs1, hs2⟩ := hSw; have y0 := hs1.cell 0; have y1 := hs1.cell 1; have y2 := hs1.cell 2; obtain ⟨d0, d1, d2, d3, d4, d5, d6⟩ := CB.rrc (x := ⟨fr, to, 8, rr, ff, oo, 8⟩) hs2; dsimp only at d0 d1 d2 d3 d4 d5 d6; go_simp; (try with_reducible rfl)
            (try simp only [Act.put, n1, n2, n3, n4, n5, n6])
            refine tk 5 (v := ?_) rfl (Or.inl ⟨by rfl, ?_⟩) ?_
            rotate_left
            ·intro w' hSw; (try dsimp only at hSw); obtain ⟨hs1, hs2⟩ := hSw; have y0 := hs1.cell 0; have y1 := hs1.cell 1; have y2 := hs1.cell 2; obtain ⟨d0, d1, d2, d3, d4, d5, d6⟩ := CB.rrc (x := ⟨fr, to, 8, rr, ff, oo, 8⟩) hs2; dsimp only at d0 d1 d2 d3 d4 d5 d6; go_simp; (try with_reducible rfl)
            (try simp only [Act.put, n1, n2, n3, n4, n5, n6])
            refine tk 6 (v := ?_) rfl (Or.inl ⟨by rfl, ?_⟩) ?_
            rotate_left
            ·intro w' hSw; (try dsimp only at hSw); obtain ⟨hs1, hs2⟩ := hSw; have y0 := hs1.cell 0; have y1 := hs1.cell 1; have y2 := hs1.cell 2; obtain ⟨d0, d1, d2, d3, d4, d5, d6⟩ := CB.rrc (x := ⟨fr, to, 8, rr, ff, oo, 8⟩) hs2; dsimp only at d0 d1 d2 d3 d4 d5 d6; go_simp; (try with_reducible rfl)
            (try simp only [Act.put, n1, n2, n3, n4, n5, n6])
            refine tk 7 (v := ?_) rfl (Or.inl ⟨by rfl, ?_⟩) ?_
            rotate_left
            ·intro w' hSw; (try dsimp only at hSw); obtain ⟨hs1, hs2⟩ := hSw; have y0 := hs1.cell 0; have y1 := hs1.cell 1; have y2 := hs1.cell 2; obtain ⟨d0, d1, d2, d3, d4, d5, d6⟩ := CB.rrc (x := ⟨fr, to, 8, rr, ff, oo, 8⟩) hs2; dsimp only at d0 d1 d2 d3 d4 d5 d6; go_simp; (try with_reducible rfl)
            (try simp only [Act.put, n1, n2, n3, n4, n5, n6])
            refine tk 8 (v := ?_) rfl (Or.inl ⟨by rfl, ?_⟩) ?_
            rotate_left
            ·intro w' hSw; (try dsimp only at hSw); obtain ⟨hs1, hs2⟩ := hSw; have y0 := hs1.cell 0; have y1 := hs1.cell 1; have y2 := hs1.cell 2; obtain ⟨d0, d1, d2, d3, d4, d5, d6⟩ := CB.rrc (x := ⟨fr, to, 8, rr, ff, oo, 8⟩) hs2; dsimp only at d0 d1 d2 d3 d4 d5 d6; go_simp; (try with_reducible rfl)
            (try simp only [Act.put, n1, n2, n3, n4, n5, n6])
            refine tk 9 (v := ?_) rfl (Or.inl ⟨by rfl, ?_⟩) ?_
            rotate_left
            ·intro w' hSw; (try dsimp only at hSw); obtain ⟨hs1, hs2⟩ := hSw; have y0 := hs1.cell 0; have y1 := hs1.cell 1; have y2 := hs1.cell 2; obtain ⟨d0, d1, d2, d3, d4, d5, d6⟩ := CB.rrc (x := ⟨fr, to, 8, rr, ff, oo, 8⟩) hs2; dsimp only at d0 d1 d2 d3 d4 d5 d6; go_simp; (try with_reducible rfl)
            (try simp only [Act.put, n1, n2, n3, n4, n5, n6])
            refine tk 10 (v := ?_) rfl (Or.inl ⟨by rfl, ?_⟩) ?_
            rotate_left
            ·intro w' hSw; (try dsimp only at hSw); obtain ⟨hs1, hs2⟩ := hSw; have y0 := hs1.cell 0; have y1 := hs1.cell 1; have y2 := hs1.cell 2; obtain ⟨d0, d1, d2, d3, d4, d5, d6⟩ := CB.rrc (x := ⟨fr, to, 8, rr, ff, oo, 8⟩) hs2; dsimp only at d0 d1 d2 d3 d4 d5 d6; go_simp; (try with_reducible rfl)
            (try simp only [Act.put, n1, n2, n3, n4, n5, n6])
            refine tk 11 (v := ?_) rfl (Or.inl ⟨by rfl, ?_⟩) ?_
            rotate_left
            ·intro w' hSw; (try dsimp only at hSw); obtain ⟨hs1, hs2⟩ := hSw; have y0 := hs1.cell 0; have y1 := hs1.cell 1; have y2 := hs1.cell 2; obtain ⟨d0, d1, d2, d3, d4, d5, d6⟩ := CB.rrc (x := ⟨fr, to, 8, rr, ff, oo, 8⟩) hs2; dsimp only at d0 d1 d2 d3 d4 d5 d6; go_simp; (try with_reducible rfl)
            (try simp only [Act.put, n1, n2, n3, n4, n5, n6])
            refine tk 12 (v := ?_) rfl (Or.inl ⟨by rfl, ?_⟩) ?_
            rotate_left
            ·intro w' hSw; (try dsimp only at hSw); obtain ⟨hs1, hs2⟩ := hSw; have y0 := hs1.cell 0; have y1 := hs1.cell 1; have y2 := hs1.cell 2; obtain ⟨d0, d1, d2, d3, d4, d5, d6⟩ := CB.rrc (x := ⟨fr, to, 8, rr, ff, oo, 8⟩) hs2; dsimp only at d0 d1 d2 d3 d4 d5 d6; go_simp; (try with_reducible rfl)
            (try simp only [Act.put, n1, n2, n3, n4, n5, n6])
            refine tk 13 (v := ?_) rfl (Or.inl ⟨by rfl, ?_⟩) ?_
            rotate_left
            ·intro w' hSw; (try dsimp only at hSw); obtain ⟨hs1, hs2⟩ := hSw; have y0 := hs1.cell 0; have y1 := hs1.cell 1; have y2 := hs1.cell 2; obtain ⟨d0, d1, d2, d3, d4, d5, d6⟩ := CB.rrc (x := ⟨fr, to, 8, rr, ff, oo, 8⟩) hs2; dsimp only at d0 d1 d2 d3 d4 d5 d6; go_simp; (try with_reducible rfl)
            (try simp only [Act.put, n1, n2, n3, n4, n5, n6])
            refine wpAnyF_ready (rs := [14]) (by kernel_rfl) (by simp) ?_
            refine AllReadyF.last (by kernel_rfl) rfl (fun KK hKK => ?_) AllReadyF.nil
            have y1 := HN2.out.cell 1
            have yf := HN2.out.frozen 1
            have y1' : V2.drew.cell? ⟨N, 1, none⟩ = some (.int .i64 ff) := y1
            have yf' : V2.drew.frozen? ⟨N, 1, none⟩ = false := yf
            go_simp
            refine hKK.out _ _ ?_
            clear hKK KK
            (try simp only [Act.put, n1, n2, n3, n4, n5, n6])
            refine wpAnyF_done (by kernel_rfl) ?_ _
            refine NoPanic.normal ?_
            have HN4 := hi (show CB (V2.setCell ⟨N, 1, none⟩ (.int .i64 (ff + T))).drew N 70 #[.int .i64 rr, .int .i64 (ff + T), .int .i64 c4] from (HN2.out.set3m (.int .i64 (ff + T))).drew)
            have HF2 := hi ((HF3.out.set1 (o := 1) hN1.1 (.int .i64 (ff + T))).drew)
            obtain ⟨V4, hV4⟩ : ∃ V4, (V2.setCell ⟨N, 1, none⟩ (.int .i64 (ff + T))).drew = V4 := ⟨_, rfl⟩
            rw [hV4] at HN4 HF2 ⊢
            clear hV4 hHeld HS18
            have y0 := HN4.out.cell 0
            have y1 := HN4.out.cell 1
            have y2 := HN4.out.cell 2
            have z0 := HF2.out.z.cell 0
            have z1 := HF2.out.z.cell 1
            have z2 := HF2.out.z.cell 2
            have zf := HF2.out.z.frozen
            go_wp2
            exact bodyPost_ret (results_pl rfl _ _ w.heap.size ⟨rr, ff + T, c4⟩ (.int .i64 0) rfl rfl (CB.put3 HF2.out.z _ _ _)) rfl ⟨by rw [HG.out, HV.out, HPV.out], below_put3 HF2.out.below (Nat.le_refl _) _ _ _⟩
           ·clear hw
            have hge : fr ≤ off := by omega
            have HV := hi (goV_yes (xs := xs.drop (k + 1)) (show meets ⟨fr, to, 8, rr, ff, oo, 1⟩ off 8 = true from hmt) rfl)
            obtain ⟨df, hdf⟩ : ∃ df, off - fr = df := ⟨_, rfl⟩
            have hdf0 : 0 ≤ df ∧ df ≤ 200000 := by omega
            have hqd : df.tdiv 1 = df := by simp
            have hD0 : 0 ≤ df ∧ df ≤ 200000 := by omega
            have hm0 : 0 ≤ df * oo := Int.mul_nonneg hD0.1 ho0
            have hml : df * oo ≤ df * 32 := Int.mul_le_mul_of_nonneg_left ho8 hD0.1
            have HPV := hi (show placeV ⟨fr, to, 8, rr, ff, oo, 1⟩ off 8 = ⟨rr, ff + df * oo, 8 * oo⟩ by simp only [placeV, hdf]; simp)
            obtain ⟨T, hT⟩ : ∃ T, df * oo = T := ⟨_, rfl⟩
            have hw2 : IntKind.i64.wrap df = df := by rw [IntKind.wrap_i64]; omega
            have hwD : IntKind.i64.wrap df = df := by rw [IntKind.wrap_i64]; omega
            have hwT : IntKind.i64.wrap (df * oo) = df * oo := by rw [IntKind.wrap_i64]; omega
            rw [hT] at HPV hm0 hml hwT
            have hw5 : IntKind.i64.wrap (ff + T) = ff + T := by rw [IntKind.wrap_i64]; omega
            have hw1 : IntKind.i64.wrap (8 * oo) = 8 * oo := by rw [IntKind.wrap_i64]; omega
            obtain ⟨c4, hc4⟩ : ∃ c4, 8 * oo = c4 := ⟨_, rfl⟩
            rw [hc4] at hw1 HPV
            have hq4 : (8 : Int).tdiv 1 = 8 := by decide
            have HNB4 := hi (show CB wr R 184 #[.int .i64 fr, .int .i64 to, .int .i64 8, .int .i64 rr, .int .i64 ff, .int .i64 oo, .int .i64 1] from HNB.out)
            clear hml hD0 hdf0 hwd ha4
            go_wp2
            have HFD := hi HX2.out.fz.drew
            have hS17 : (fun W' => CB W' R 184 #[.int .i64 fr, .int .i64 to, .int .i64 8, .int .i64 rr, .int .i64 ff, .int .i64 oo, .int .i64 1]) wr.drew := HNB4.out.drew
            obtain ⟨wd, hwd'⟩ : ∃ wd, wr.drew = wd := ⟨_, rfl⟩
            rw [hwd'] at HFD
            refine wp_region_noPanic ?_
            refine wp_region_last_drew (S := (fun W' => CB W' R 184 #[.int .i64 fr, .int .i64 to, .int .i64 8, .int .i64 rr, .int .i64 ff, .int .i64 oo, .int .i64 1])) [13] (by kernel_rfl) hS17 (fun hHeld => ?_)
            rw [hwd'] at hHeld ⊢
            clear hwd' hS17
            (try simp only [r1, r2, r3, r4, r5])
            refine tk 0 (v := ?_) rfl (Or.inl ⟨by rfl, ?_⟩) ?_
            rotate_left
            ·intro w' hSw; (try dsimp only at hSw); obtain ⟨d0, d1, d2, d3, d4, d5, d6⟩ := CB.rrc (x := ⟨fr, to, 8, rr, ff, oo, 1⟩) hSw; dsimp only at d0 d1 d2 d3 d4 d5 d6; go_simp; (try with_reducible rfl)
            (try simp only [Act.put, n1, n2, n4, n5, n6])
            refine tk 1 (v := ?_) rfl (Or.inl ⟨by rfl, ?_⟩) ?_
            rotate_left
            ·intro w' hSw; (try dsimp only at hSw); obtain ⟨d0, d1, d2, d3, d4, d5, d6⟩ := CB.rrc (x := ⟨fr, to, 8, rr, ff, oo, 1⟩) hSw; dsimp only at d0 d1 d2 d3 d4 d5 d6; go_simp; (try with_reducible rfl)
            (try simp only [Act.put, n1, n2, n3, n4, n5, n6])
            refine tk 2 (v := ?_) rfl (Or.inl ⟨by rfl, ?_⟩) ?_
            rotate_left
            ·intro w' hSw; (try dsimp only at hSw); obtain ⟨d0, d1, d2, d3, d4, d5, d6⟩ := CB.rrc (x := ⟨fr, to, 8, rr, ff, oo, 1⟩) hSw; dsimp only at d0 d1 d2 d3 d4 d5 d6; go_simp; (try with_reducible rfl)
            (try simp only [Act.put, n1, n2, n3, n4, n5, n6])
            refine tk 3 (v := ?_) rfl (Or.inl ⟨by rfl, ?_⟩) ?_
            rotate_left
            ·intro w' hSw; (try dsimp only at hSw); obtain ⟨d0, d1, d2, d3, d4, d5, d6⟩ := CB.rrc (x := ⟨fr, to, 8, rr, ff, oo, 1⟩) hSw; dsimp only at d0 d1 d2 d3 d4 d5 d6; go_simp; (try with_reducible rfl)
            (try simp only [Act.put, n1, n2, n3, n4, n5, n6])
            refine tk 4 (v := ?_) rfl (Or.inl ⟨by rfl, ?_⟩) ?_
            rotate_left
            ·intro w' hSw; (try dsimp only at hSw); obtain ⟨d0, d1, d2, d3, d4, d5, d6⟩ := CB.rrc (x := ⟨fr, to, 8, rr, ff, oo, 1⟩) hSw; dsimp only at d0 d1 d2 d3 d4 d5 d6; go_simp; (try with_reducible rfl)
            (try simp only [Act.put, n1, n2, n3, n4, n5, n6])
            refine tk 5 (v := ?_) rfl (Or.inl ⟨by rfl, ?_⟩) ?_
            rotate_left
            ·intro w' hSw; (try dsimp only at hSw); obtain ⟨d0, d1, d2, d3, d4, d5, d6⟩ := CB.rrc (x := ⟨fr, to, 8, rr, ff, oo, 1⟩) hSw; dsimp only at d0 d1 d2 d3 d4 d5 d6; go_simp; (try with_reducible rfl)
            (try simp only [Act.put, n1, n2, n3, n4, n5, n6])
            refine tk 6 (v := ?_) rfl (Or.inl ⟨by rfl, ?_⟩) ?_
            rotate_left
            ·intro w' hSw; (try dsimp only at hSw); obtain ⟨d0, d1, d2, d3, d4, d5, d6⟩ := CB.rrc (x := ⟨fr, to, 8, rr, ff, oo, 1⟩) hSw; dsimp only at d0 d1 d2 d3 d4 d5 d6; go_simp; (try with_reducible rfl)
            (try simp only [Act.put, n1, n2, n3, n4, n5, n6])
            refine tk 7 (v := ?_) rfl (Or.inl ⟨by rfl, ?_⟩) ?_
            rotate_left
            ·intro w' hSw; (try dsimp only at hSw); obtain ⟨d0, d1, d2, d3, d4, d5, d6⟩ := CB.rrc (x := ⟨fr, to, 8, rr, ff, oo, 1⟩) hSw; dsimp only at d0 d1 d2 d3 d4 d5 d6; go_simp; (try with_reducible rfl)
            (try simp only [Act.put, n1, n2, n3, n4, n5, n6])
            refine tk 8 (v := ?_) rfl (Or.inl ⟨by rfl, ?_⟩) ?_
            rotate_left
            ·intro w' hSw; (try dsimp only at hSw); obtain ⟨d0, d1, d2, d3, d4, d5, d6⟩ := CB.rrc (x := ⟨fr, to, 8, rr, ff, oo, 1⟩) hSw; dsimp only at d0 d1 d2 d3 d4 d5 d6; go_simp; (try with_reducible rfl)
            (try simp only [Act.put, n1, n2, n3, n4, n5, n6])
            refine tk 9 (v := ?_) rfl (Or.inl ⟨by rfl, ?_⟩) ?_
            rotate_left
            ·intro w' hSw; (try dsimp only at hSw); obtain ⟨d0, d1, d2, d3, d4, d5, d6⟩ := CB.rrc (x := ⟨fr, to, 8, rr, ff, oo, 1⟩) hSw; dsimp only at d0 d1 d2 d3 d4 d5 d6; go_simp; (try with_reducible rfl)
            (try simp only [Act.put, n1, n2, n3, n4, n5, n6])
            refine tk 10 (v := ?_) rfl (Or.inl ⟨by rfl, ?_⟩) ?_
            rotate_left
            ·intro w' hSw; (try dsimp only at hSw); obtain ⟨d0, d1, d2, d3, d4, d5, d6⟩ := CB.rrc (x := ⟨fr, to, 8, rr, ff, oo, 1⟩) hSw; dsimp only at d0 d1 d2 d3 d4 d5 d6; go_simp; (try with_reducible rfl)
            (try simp only [Act.put, n1, n2, n3, n4, n5, n6])
            refine tk 11 (v := ?_) rfl (Or.inl ⟨by rfl, ?_⟩) ?_
            rotate_left
            ·intro w' hSw; (try dsimp only at hSw); obtain ⟨d0, d1, d2, d3, d4, d5, d6⟩ := CB.rrc (x := ⟨fr, to, 8, rr, ff, oo, 1⟩) hSw; dsimp only at d0 d1 d2 d3 d4 d5 d6; go_simp; (try with_reducible rfl)
            (try simp only [Act.put, n1, n2, n3, n4, n5, n6])
            refine wpAnyF_ready (rs := [12]) (by kernel_rfl) (by simp) ?_
            refine AllReadyF.cons rfl (fun KK hKK => ?_) AllReadyF.nil
            go_simp
            have HF1 := hi (HFD.out.later (bal wd (.cells #[.int .i64 0, .int .i64 0, .int .i64 0] 70)))
            have HR1 := hi (CB.below hHeld (bal wd (.cells #[.int .i64 0, .int .i64 0, .int .i64 0] 70)))
            have HZ1 := hi (CB.new wd 70 #[.int .i64 0, .int .i64 0, .int .i64 0])
            obtain ⟨V1, hV1⟩ : ∃ V1, wd.alloc (.cells #[.int .i64 0, .int .i64 0, .int .i64 0] 70) = V1 := ⟨_, rfl⟩
            rw [hV1] at HF1 HR1 HZ1 ⊢
            obtain ⟨N, hN⟩ : ∃ N, wd.heap.size = N := ⟨_, rfl⟩
            have hN1 : w.heap.size < N ∧ R < N := by have h9 := HFD.out.z.lt; have h8 := CB.lt hHeld; omega
            rw [hN] at HZ1 ⊢
            clear hV1 hN
            refine hKK.out _ _ HR1.out (fun hHeld => ?_)
            clear hKK KK
            (try simp only [Act.put, n1, n2, n3, n4, n5, n6])
            refine wpAnyF_ready (rs := [13]) (by kernel_rfl) (by simp) ?_
            refine AllReadyF.last (by kernel_rfl) rfl (fun KK hKK => ?_) AllReadyF.nil
            have y0 := HZ1.out.cell 0
            have y1 := HZ1.out.cell 1
            have y2 := HZ1.out.cell 2
            have yf := HZ1.out.frozen
            go_simp
            refine hKK.out _ _ ?_
            clear hKK KK
            (try simp only [Act.put, n1, n2, n3, n4, n5, n6])
            refine wpAnyF_done (by kernel_rfl) ?_ _
            refine NoPanic.normal ?_
            have hw1' : IntKind.i64.wrap (IntKind.i64.wrap 8 * oo) = c4 := by rw [show IntKind.i64.wrap 8 = 8 from by decide, hc4]; exact hw1
            have HN2 := hi (CB.put3 HZ1.out (.int .i64 rr) (.int .i64 ff) (.int .i64 c4))
            have HF3 := hi (show FZ w (((V1.setCell ⟨N, 0, none⟩ (.int .i64 rr)).setCell ⟨N, 1, none⟩ (.int .i64 ff)).setCell ⟨N, 2, none⟩ (.int .i64 c4)) from HF1.out.put3 hN1.1 _ _ _)
            have HR3 := hi (HR1.out.other3 (show R ≠ N by omega) (.int .i64 rr) (.int .i64 ff) (.int .i64 c4))
            rw [hw1']
            obtain ⟨V2, hV2⟩ : ∃ V2, ((V1.setCell ⟨N, 0, none⟩ (.int .i64 rr)).setCell ⟨N, 1, none⟩ (.int .i64 ff)).setCell ⟨N, 2, none⟩ (.int .i64 c4) = V2 := ⟨_, rfl⟩
            rw [hV2] at HN2 HF3 HR3 ⊢
            clear hV2 hHeld hw1' hc4
            go_wp2
            have HS18 := hi (And.intro HN2.out.drew HR3.out.drew)
            refine wp_region_noPanic ?_
            refine wp_region_last_drew (S := (fun W' => CB W' N 70 #[.int .i64 rr, .int .i64 ff, .int .i64 c4] ∧ CB W' R 184 #[.int .i64 fr, .int .i64 to, .int .i64 8, .int .i64 rr, .int .i64 ff, .int .i64 oo, .int .i64 1])) [14] (by kernel_rfl) HS18.out (fun hHeld => ?_)
            (try simp only [r1, r2, r3, r4, r5])
            refine tk 0 (v := ?_) rfl (Or.inl ⟨by rfl, ?_⟩) ?_
            rotate_left
            ·intro w' hSw; (try dsimp only at hSw); obtain ⟨hs1, hs2⟩ := hSw; have y0 := hs1.cell 0; have y1 := hs1.cell 1; have y2 := hs1.cell 2; obtain ⟨d0, d1, d2, d3, d4, d5, d6⟩ := CB.rrc (x := ⟨fr, to, 8, rr, ff, oo, 1⟩) hs2; dsimp only at d0 d1 d2 d3 d4 d5 d6; go_simp; (try with_reducible rfl)
            (try simp only [Act.put, n1, n2, n4, n5, n6])
            refine tk 1 (v := ?_) rfl (Or.inl ⟨by rfl, ?_⟩) ?_
            rotate_left
            ·intro w' hSw; (try dsimp only at hSw); obtain ⟨hs1, hs2⟩ := hSw; have y0 := hs1.cell 0; have y1 := hs1.cell 1; have y2 := hs1.cell 2; obtain ⟨d0, d1, d2, d3, d4, d5, d6⟩ := CB.rrc (x := ⟨fr, to, 8, rr, ff, oo, 1⟩) hs2; dsimp only at d0 d1 d2 d3 d4 d5 d6; go_simp; (try with_reducible rfl)
            (try simp only [Act.put, n1, n2, n3, n4, n5, n6])
            refine tk 2 (v := ?_) rfl (Or.inl ⟨by rfl, ?_⟩) ?_
            rotate_left
            ·intro w' hSw; (try dsimp only at hSw); obtain ⟨hs1, hs2⟩ := hSw; have y0 := hs1.cell 0; have y1 := hs1.cell 1; have y2 := hs1.cell 2; obtain ⟨d0, d1, d2, d3, d4, d5, d6⟩ := CB.rrc (x := ⟨fr, to, 8, rr, ff, oo, 1⟩) hs2; dsimp only at d0 d1 d2 d3 d4 d5 d6; go_simp; (try with_reducible rfl)
            (try simp only [Act.put, n1, n2, n3, n4, n5, n6])
            refine tk 3 (v := ?_) rfl (Or.inl ⟨by rfl, ?_⟩) ?_
            rotate_left
            ·intro w' hSw; (try dsimp only at hSw); obtain ⟨hs1, hs2⟩ := hSw; have y0 := hs1.cell 0; have y1 := hs1.cell 1; have y2 := hs1.cell 2; obtain ⟨d0, d1, d2, d3, d4, d5, d6⟩ := CB.rrc (x := ⟨fr, to, 8, rr, ff, oo, 1⟩) hs2; dsimp only at d0 d1 d2 d3 d4 d5 d6; go_simp; (try with_reducible rfl)
            (try simp only [Act.put, n1, n2, n3, n4, n5, n6])
            refine tk 4 (v := ?_) rfl (Or.inl ⟨by rfl, ?_⟩) ?_
            rotate_left
            ·intro w' hSw; (try dsimp only at hSw); obtain ⟨hs1, hs2⟩ := hSw; have y0 := hs1.cell 0; have y1 := hs1.cell 1; have y2 := hs1.cell 2; obtain ⟨d0, d1, d2, d3, d4, d5, d6⟩ := CB.rrc (x := ⟨fr, to, 8, rr, ff, oo, 1⟩) hs2; dsimp only at d0 d1 d2 d3 d4 d5 d6; go_simp; (try with_reducible rfl)
            (try simp only [Act.put, n1, n2, n3, n4, n5, n6])
            refine tk 5 (v := ?_) rfl (Or.inl ⟨by rfl, ?_⟩) ?_
            rotate_left
            ·intro w' hSw; (try dsimp only at hSw); obtain ⟨hs1, hs2⟩ := hSw; have y0 := hs1.cell 0; have y1 := hs1.cell 1; have y2 := hs1.cell 2; obtain ⟨d0, d1, d2, d3, d4, d5, d6⟩ := CB.rrc (x := ⟨fr, to, 8, rr, ff, oo, 1⟩) hs2; dsimp only at d0 d1 d2 d3 d4 d5 d6; go_simp; (try with_reducible rfl)
            (try simp only [Act.put, n1, n2, n3, n4, n5, n6])
            refine tk 6 (v := ?_) rfl (Or.inl ⟨by rfl, ?_⟩) ?_
            rotate_left
            ·intro w' hSw; (try dsimp only at hSw); obtain ⟨hs1, hs2⟩ := hSw; have y0 := hs1.cell 0; have y1 := hs1.cell 1; have y2 := hs1.cell 2; obtain ⟨d0, d1, d2, d3, d4, d5, d6⟩ := CB.rrc (x := ⟨fr, to, 8, rr, ff, oo, 1⟩) hs2; dsimp only at d0 d1 d2 d3 d4 d5 d6; go_simp; (try with_reducible rfl)
            (try simp only [Act.put, n1, n2, n3, n4, n5, n6])
            refine tk 7 (v := ?_) rfl (Or.inl ⟨by rfl, ?_⟩) ?_
            rotate_left
            ·intro w' hSw; (try dsimp only at hSw); obtain ⟨hs1, hs2⟩ := hSw; have y0 := hs1.cell 0; have y1 := hs1.cell 1; have y2 := hs1.cell 2; obtain ⟨d0, d1, d2, d3, d4, d5, d6⟩ := CB.rrc (x := ⟨fr, to, 8, rr, ff, oo, 1⟩) hs2; dsimp only at d0 d1 d2 d3 d4 d5 d6; go_simp; (try with_reducible rfl)
            (try simp only [Act.put, n1, n2, n3, n4, n5, n6])
            refine tk 8 (v := ?_) rfl (Or.inl ⟨by rfl, ?_⟩) ?_
            rotate_left
            ·intro w' hSw; (try dsimp only at hSw); obtain ⟨hs1, hs2⟩ := hSw; have y0 := hs1.cell 0; have y1 := hs1.cell 1; have y2 := hs1.cell 2; obtain ⟨d0, d1, d2, d3, d4, d5, d6⟩ := CB.rrc (x := ⟨fr, to, 8, rr, ff, oo, 1⟩) hs2; dsimp only at d0 d1 d2 d3 d4 d5 d6; go_simp; (try with_reducible rfl)
            (try simp only [Act.put, n1, n2, n3, n4, n5, n6])
            refine tk 9 (v := ?_) rfl (Or.inl ⟨by rfl, ?_⟩) ?_
            rotate_left
            ·intro w' hSw; (try dsimp only at hSw); obtain ⟨hs1, hs2⟩ := hSw; have y0 := hs1.cell 0; have y1 := hs1.cell 1; have y2 := hs1.cell 2; obtain ⟨d0, d1, d2, d3, d4, d5, d6⟩ := CB.rrc (x := ⟨fr, to, 8, rr, ff, oo, 1⟩) hs2; dsimp only at d0 d1 d2 d3 d4 d5 d6; go_simp; (try with_reducible rfl)
            (try simp only [Act.put, n1, n2, n3, n4, n5, n6])
            refine tk 10 (v := ?_) rfl (Or.inl ⟨by rfl, ?_⟩) ?_
            rotate_left
            ·intro w' hSw; (try dsimp only at hSw); obtain ⟨hs1, hs2⟩ := hSw; have y0 := hs1.cell 0; have y1 := hs1.cell 1; have y2 := hs1.cell 2; obtain ⟨d0, d1, d2, d3, d4, d5, d6⟩ := CB.rrc (x := ⟨fr, to, 8, rr, ff, oo, 1⟩) hs2; dsimp only at d0 d1 d2 d3 d4 d5 d6; go_simp; (try with_reducible rfl)
            (try simp only [Act.put, n1, n2, n3, n4, n5, n6])
            refine tk 11 (v := ?_) rfl (Or.inl ⟨by rfl, ?_⟩) ?_
            rotate_left
            ·intro w' hSw; (try dsimp only at hSw); obtain ⟨hs1, hs2⟩ := hSw; have y0 := hs1.cell 0; have y1 := hs1.cell 1; have y2 := hs1.cell 2; obtain ⟨d0, d1, d2, d3, d4, d5, d6⟩ := CB.rrc (x := ⟨fr, to, 8, rr, ff, oo, 1⟩) hs2; dsimp only at d0 d1 d2 d3 d4 d5 d6; go_simp; (try with_reducible rfl)
            (try simp only [Act.put, n1, n2, n3, n4, n5, n6])
            refine tk 12 (v := ?_) rfl (Or.inl ⟨by rfl, ?_⟩) ?_
            rotate_left
            ·intro w' hSw; (try dsimp only at hSw); obtain ⟨hs1, hs2⟩ := hSw; have y0 := hs1.cell 0; have y1 := hs1.cell 1; have y2 := hs1.cell 2; obtain ⟨d0, d1, d2, d3, d4, d5, d6⟩ := CB.rrc (x := ⟨fr, to, 8, rr, ff, oo, 1⟩) hs2; dsimp only at d0 d1 d2 d3 d4 d5 d6; go_simp; (try with_reducible rfl)
            (try simp only [Act.put, n1, n2, n3, n4, n5, n6])
            refine tk 13 (v := ?_) rfl (Or.inl ⟨by rfl, ?_⟩) ?_
            rotate_left
            ·intro w' hSw; (try dsimp only at hSw); obtain ⟨hs1, hs2⟩ := hSw; have y0 := hs1.cell 0; have y1 := hs1.cell 1; have y2 := hs1.cell 2; obtain ⟨d0, d1, d2, d3, d4, d5, d6⟩ := CB.rrc (x := ⟨fr, to, 8, rr, ff, oo, 1⟩) hs2; dsimp only at d0 d1 d2 d3 d4 d5 d6; go_simp; (try with_reducible rfl)
            (try simp only [Act.put, n1, n2, n3, n4, n5, n6])
            refine wpAnyF_ready (rs := [14]) (by kernel_rfl) (by simp) ?_
            refine AllReadyF.last (by kernel_rfl) rfl (fun KK hKK => ?_) AllReadyF.nil
            have y1 := HN2.out.cell 1
            have yf := HN2.out.frozen 1
            have y1' : V2.drew.cell? ⟨N, 1, none⟩ = some (.int .i64 ff) := y1
            have yf' : V2.drew.frozen? ⟨N, 1, none⟩ = false := yf
            go_simp
            refine hKK.out _ _ ?_
            clear hKK KK
            (try simp only [Act.put, n1, n2, n3, n4, n5, n6])
            refine wpAnyF_done (by kernel_rfl) ?_ _
            refine NoPanic.normal ?_
            have HN4 := hi (show CB (V2.setCell ⟨N, 1, none⟩ (.int .i64 (ff + T))).drew N 70 #[.int .i64 rr, .int .i64 (ff + T), .int .i64 c4] from (HN2.out.set3m (.int .i64 (ff + T))).drew)
            have HF2 := hi ((HF3.out.set1 (o := 1) hN1.1 (.int .i64 (ff + T))).drew)
            obtain ⟨V4, hV4⟩ : ∃ V4, (V2.setCell ⟨N, 1, none⟩ (.int .i64 (ff + T))).drew = V4 := ⟨_, rfl⟩
            rw [hV4] at HN4 HF2 ⊢
            clear hV4 hHeld HS18
            have y0 := HN4.out.cell 0
            have y1 := HN4.out.cell 1
            have y2 := HN4.out.cell 2
            have z0 := HF2.out.z.cell 0
            have z1 := HF2.out.z.cell 1
            have z2 := HF2.out.z.cell 2
            have zf := HF2.out.z.frozen
            go_wp2
            exact bodyPost_ret (results_pl rfl _ _ w.heap.size ⟨rr, ff + T, c4⟩ (.int .i64 0) rfl rfl (CB.put3 HF2.out.z _ _ _)) rfl ⟨by rw [HG.out, HV.out, HPV.out], below_put3 HF2.out.below (Nat.le_refl _) _ _ _⟩
          ·have HV := hi (HG.out.trans (goV_bad hmt (fun e => hww e.symm)))
           have hne : ((8 : Int) != wd) = true := by simp; omega
           go_wp2
           exact bodyPost_ret (results_pl rfl _ _ w.heap.size Pl.zero (.int .i64 40) rfl rfl (CB.put3 HX2.out.z _ _ _)) rfl ⟨by rw [HV.out], below_put3 HX2.out.below (Nat.le_refl _) _ _ _⟩
       ·obtain rfl : d = 8 := by omega
        have HV := hi (HG.out.trans (goV_no (HN.out.meets hft (by decide))))
        go_wp2
        go_roundw
        case rel => exact ⟨k + 1, by omega, by go_num, hi ⟨HX2.out, HV.out⟩⟩
        case measure => simp only [intOf]; omega
     ·obtain rfl : k = xs.length := by omega
      have HV := hi (show goV off 8 xs = (Pl.zero, 0) by rw [HX.out.2, List.drop_length]; rfl)
      have z0 := HX.out.1.z.cell 0
      have z1 := HX.out.1.z.cell 1
      have z2 := HX.out.1.z.cell 2
      have zf := HX.out.1.z.frozen
      go_wp2
      exact bodyPost_ret (results_pl rfl _ _ w.heap.size Pl.zero (.int .i64 0) rfl rfl (CB.put3 HX.out.1.z _ _ _)) rfl ⟨by rw [HV.out], below_put3 HX.out.1.below (Nat.le_refl _) _ _ _⟩
 ·rw [if_pos hm]
  have hq : (off.tmod 8 != 0) = true := by simpa using hm
  go_enter Tryz.func92, Tryz.ntmps92
  go_wp2
  exact bodyPost_ret (results_pl rfl _ _ w.heap.size Pl.zero (.int .i64 41) rfl rfl (CB.new w _ _)) rfl ⟨rfl, bal w _⟩
end Go.Proofs.YtieedhdmpabfkaaGreat
namespace Go.Proofs.YtieedhdmpabfkaaGreat
open Go.ChangeShapes Go.WideShapes Go.ChangeAt Go.RowKit Go.Shelf
set_option linter.unusedVariables false
attribute [local go_sem] Oper.semAt_some
theorem find_exact (g cap : Nat) (xs : List Rr) (sz off wd : Int) (w : World) (h : Row w g 184 (flR xs)) (hall : xs.all rowOk2 = true) (hn : xs.length ≤ 100) (hs0 : 8 ≤ sz) (hs1 : sz ≤ 200000) (ho : Int64 off) :
  Calls Tryz.prog 92 #[.slice (some ⟨g, 0, none⟩) xs.length cap, .int .i64 sz, .int .i64 off, .int .i64 wd] w (Finds w (findV xs sz off wd)) := by
 by_cases h4 : wd = 4
 ·subst h4; exact find4_any g cap xs sz off w h hall hn hs0 hs1 ho
 by_cases h8 : wd = 8
 ·subst h8; exact find8_any g cap xs sz off w h hall hn hs0 hs1 ho
 rw [findV, if_pos ⟨h4, h8⟩]
 have t4 : (wd != 4) = true := by simpa using h4
 have t8 : (wd != 8) = true := by simpa using h8
 clear h4 h8 h hall
 go_enter Tryz.func92, Tryz.ntmps92
 go_wp2
 exact bodyPost_ret (results_pl rfl _ _ w.heap.size Pl.zero (.int .i64 40) rfl rfl (CB.new w _ _)) rfl ⟨rfl, bal w _⟩
theorem dist_len : distRows.length = 12 := by decide
theorem dist_ok : distRows.all rowOk2 = true := by decide +kernel
set_option maxHeartbeats 4000000 in
theorem refDist_any (off wd : Int) (w : World) (ho : Int64 off) : Calls Tryz.prog 89 #[.int .i64 off, .int .i64 wd] w (Finds w (findV distRows 65536 off wd)) := by
 have CD := hi (fun W => dist_any W)
 have CF := hi (fun g cap W (h : Row W g 184 (flR distRows)) => find_exact g cap distRows 65536 off wd W h dist_ok (by rw [dist_len]; decide) (by decide) (by decide) ho)
 rw [dist_len] at CF
 have H0 := hi (CB.new w 70 #[.int .i64 0, .int .i64 0, .int .i64 0])
 have HB0 := hi (bal w (.cells #[.int .i64 0, .int .i64 0, .int .i64 0] 70))
 obtain ⟨R, hR⟩ : ∃ R, findV distRows 65536 off wd = R := ⟨_, rfl⟩
 rw [hR] at CF ⊢
 clear hR
 obtain ⟨⟨r, f, c⟩, er⟩ := R
 go_enter Tryz.func89, Tryz.ntmps89
 go_wp2_with (first
  | (go_at_call 127; ((with_reducible refine (CD.out _).mono ?_); rintro e w2 ⟨v, rfl, ho2, hb2⟩; obtain ⟨g, cap, rfl⟩ := ownsRow_succ ho2; have HR := hi (Row.own ho2); have HF2 := hi (show FZ w w2 from ⟨H0.out.below hb2, HB0.out.trans (hb2.mono HB0.out.size)⟩); clear ho2 hb2))
  | (go_at_call 92; ((with_reducible refine (CF.out _ _ _ HR.out).mono ?_); rintro e w3 ⟨rfl, hb3⟩; have HF3 := hi (HF2.out.later hb3); have z0 := HF3.out.z.cell 0; have z1 := HF3.out.z.cell 1; have z2 := HF3.out.z.cell 2; have zf := HF3.out.z.frozen; clear hb3)))
 exact bodyPost_ret (results_pl rfl _ _ w.heap.size ⟨r, f, c⟩ (.int .i64 er) rfl rfl (CB.put3 HF3.out.z _ _ _)) rfl ⟨rfl, below_put3 HF3.out.below (Nat.le_refl _) _ _ _⟩
structure Pr where
 fr : Int
 to : Int
 wd : Int
 r : Int
 n : Int
 f : Int
deriving Inhabited
def Pr.meets (y : Pr) (off wd : Int) : Bool := decide (off < y.to) && decide (y.fr < off + wd)
def Pr.place (y : Pr) (off : Int) : Pl := ⟨y.r, y.f + (off - y.fr) / y.wd * y.n, y.n⟩
def goP (off wd : Int) : List Pr → Pl × Int
 | [] => (Pl.zero, 0)
 | y :: ys => if y.meets off wd then (if y.wd ≠ wd then (Pl.zero, 40) else (y.place off, 0)) else goP off wd ys
def decP (rows : List Pr) (size off wd : Int) : Pl × Int :=
 if wd ≠ 4 ∧ wd ≠ 8 then (Pl.zero, 40) else if off.tmod wd ≠ 0 then (Pl.zero, 41) else if off < 0 ∨ size - wd < off then (Pl.zero, 42) else goP off wd rows
def sameRow (y : Pr) (x : Rr) : Bool := y.fr == x.fr && (y.to == x.to && (y.wd == x.wd && (y.r == x.r && (y.f == x.f && (y.n == x.wd / x.p * x.o)))))
def sameRows (ys : List Pr) (xs : List Rr) : Bool := decide (ys.length = xs.length) && (ys.zip xs).all fun p => sameRow p.1 p.2 && rowOk2 p.2
theorem place_same {y : Pr} {x : Rr} {off : Int} (h : sameRow y x = true) (hx : rowOk2 x = true) (ho : off % x.wd = 0) : y.place off = placeV x off x.wd := by
 simp only [sameRow, Bool.and_eq_true, beq_iff_eq] at h
 simp only [rowOk2, Bool.and_eq_true, Bool.or_eq_true, decide_eq_true_eq, beq_iff_eq] at hx
 obtain ⟨e1, e2, e3, e4, e5, e6⟩ := h
 obtain ⟨hfr0, hft, hto, ho0, ho8, hf0, hf64, hw⟩ := hx
 obtain ⟨fr, to, wd, rr, ff, oo, pp⟩ := x
 obtain ⟨yfr, yto, ywd, yr, yn, yf⟩ := y
 dsimp only at e1 e2 e3 e4 e5 e6 hw ho
 subst e1 e2 e3 e4 e5 e6
 simp only [Pr.place, placeV]
 have hd : ∃ q, off - yfr = ywd * q := by
  rcases hw with ⟨rfl, _, hal⟩ | ⟨rfl, _, hal⟩
  ·exact ⟨(off - yfr) / 4, by omega⟩
  ·exact ⟨(off - yfr) / 8, by omega⟩
 obtain ⟨q, hq⟩ := hd
 rw [hq]
 congr 2
 rcases hw with ⟨rfl, rfl, hal⟩ | ⟨rfl, rfl | rfl, hal⟩
 ·rw [show (4 * q) / 4 = q by omega, show (4 * q) / 1 = 4 * q by omega, show (4 : Int) / 1 = 4 from rfl, ← Int.mul_assoc, Int.mul_comm q 4]
 ·rw [show (8 * q) / 8 = q by omega, show (8 : Int) / 8 = 1 from rfl, Int.one_mul]
 ·rw [show (8 * q) / 8 = q by omega, show (8 * q) / 1 = 8 * q by omega, show (8 : Int) / 1 = 8 from rfl, ← Int.mul_assoc, Int.mul_comm q 8]
theorem goP_same (off wd : Int) (ho : off % wd = 0) : ∀ (ys : List Pr) (xs : List Rr), ys.length = xs.length → (ys.zip xs).all (fun p => sameRow p.1 p.2 && rowOk2 p.2) = true → goP off wd ys = goV off wd xs
 | [], [], _, _ => rfl
 | y :: ys, x :: xs, hl, h => by
  simp only [List.zip_cons_cons, List.all_cons, Bool.and_eq_true] at h
  have ih := goP_same off wd ho ys xs (by simpa using hl) h.2
  have hs := h.1.1
  have e : y.fr = x.fr ∧ y.to = x.to ∧ y.wd = x.wd := by simp only [sameRow, Bool.and_eq_true, beq_iff_eq] at hs; exact ⟨hs.1, hs.2.1, hs.2.2.1⟩
  have em : y.meets off wd = meets x off wd := by rw [Pr.meets, meets, e.1, e.2.1]
  rw [goP, goV, em, e.2.2]
  by_cases hm : meets x off wd = true
  ·rw [if_pos hm, if_pos hm]
   by_cases hw : wd = x.wd
   ·rw [if_neg (by rw [hw]; simp), if_pos hw, place_same hs h.1.2 (by rw [← hw]; exact ho), ← hw]
   ·rw [if_pos (fun e => hw e.symm), if_neg hw]
  ·rw [if_neg hm, if_neg hm, ih]
theorem decP_same {ys : List Pr} {xs : List Rr} (h : sameRows ys xs = true) (size off wd : Int) : decP ys size off wd = findV xs size off wd := by
 simp only [sameRows, Bool.and_eq_true, decide_eq_true_eq] at h
 unfold decP findV
 split
 ·rfl
 ·split
  ·rfl
  ·split
   ·rfl
   ·rename_i h1 h2 h3
    refine goP_same off wd ?_ ys xs h.1 h.2
    have h4 : off.tmod wd = 0 := by simpa using h2
    rwa [Int.tmod_eq_emod_of_nonneg (by omega)] at h4
end Go.Proofs.YtieedhdmpabfkaaGreat
namespace Go.Proofs.YtieedhdmpabfkaaGreat
open Go.ChangeShapes Go.WideShapes Go.ChangeAt Go.RowKit Go.Shelf
set_option linter.unusedVariables false
def rowFew (x : Rr) : Bool := decide ((x.to - x.fr) * x.o ≤ 19000) && decide (x.wd / x.p * x.o ≤ 64)
theorem place_few {x : Rr} {off wd : Int} (hm : meets x off wd = true) (hw : wd = x.wd) (h1 : rowOk2 x = true) (h2 : rowFew x = true) (ho : off % wd = 0) : ∃ c, PlOk (placeV x off wd) c := by
 simp only [rowOk2, Bool.and_eq_true, Bool.or_eq_true, decide_eq_true_eq, beq_iff_eq] at h1
 simp only [rowFew, Bool.and_eq_true, decide_eq_true_eq] at h2
 simp only [meets, Bool.and_eq_true, decide_eq_true_eq] at hm
 obtain ⟨hfr0, hft, hto, ho0, ho8, hf0, hf64, hk⟩ := h1
 obtain ⟨fr, to, xwd, rr, ff, oo, pp⟩ := x
 dsimp only at hw hm hk hfr0 hft hto ho0 ho8 hf0 hf64 h2
 subst hw
 have hge : fr ≤ off := by rcases hk with ⟨rfl, _, hal⟩ | ⟨rfl, _, hal⟩ <;> omega
 have hp1 : pp = 1 ∨ pp = 8 := by rcases hk with ⟨_, h, _⟩ | ⟨_, h | h, _⟩ <;> simp [h]
 have hd : 0 ≤ (off - fr) / pp ∧ (off - fr) / pp ≤ to - fr := by rcases hp1 with rfl | rfl <;> omega
 have hw0 : 0 ≤ wd / pp := by rcases hk with ⟨rfl, rfl, _⟩ | ⟨rfl, rfl | rfl, _⟩ <;> decide
 have m0 : 0 ≤ (off - fr) / pp * oo := Int.mul_nonneg hd.1 ho0
 have m1 : (off - fr) / pp * oo ≤ (to - fr) * oo := Int.mul_le_mul_of_nonneg_right hd.2 ho0
 have m2 : 0 ≤ wd / pp * oo := Int.mul_nonneg hw0 ho0
 refine ⟨(wd / pp * oo).toNat, ⟨?_, ?_, ?_, ?_⟩⟩
 ·show wd / pp * oo = _; omega
 ·omega
 ·show 0 ≤ ff + (off - fr) / pp * oo; omega
 ·show ff + (off - fr) / pp * oo + _ ≤ _; omega
theorem plok_zero : PlOk Pl.zero 0 := ⟨rfl, by decide, by decide, by decide⟩
theorem goV_few (off wd : Int) (ho : off % wd = 0) : ∀ xs : List Rr, xs.all rowOk2 = true → xs.all rowFew = true → ∃ c, PlOk (goV off wd xs).1 c
 | [], _, _ => ⟨0, plok_zero⟩
 | x :: xs, h1, h2 => by
  simp only [List.all_cons, Bool.and_eq_true] at h1 h2
  rw [goV]
  by_cases hm : meets x off wd = true
  ·rw [if_pos hm]
   by_cases hw : wd = x.wd
   ·rw [if_pos hw]; exact place_few hm hw h1.1 h2.1 ho
   ·rw [if_neg hw]; exact ⟨0, plok_zero⟩
  ·rw [if_neg hm]; exact goV_few off wd ho xs h1.2 h2.2
theorem findV_few {xs : List Rr} (h1 : xs.all rowOk2 = true) (h2 : xs.all rowFew = true) (size off wd : Int) : ∃ c, PlOk (findV xs size off wd).1 c := by
 unfold findV
 split
 ·exact ⟨0, plok_zero⟩
 ·split
  ·exact ⟨0, plok_zero⟩
  ·split
   ·exact ⟨0, plok_zero⟩
   ·rename_i a b c
    refine goV_few off wd ?_ xs h1 h2
    have h4 : off.tmod wd = 0 := by simpa using b
    rwa [Int.tmod_eq_emod_of_nonneg (by omega)] at h4
theorem dist_few : distRows.all rowFew = true := by decide +kernel
def bitRowG (at0 size step : Int) (k : Nat) : Rr := ⟨at0 + step * k, at0 + step * k + size, 4, 4 + k, 0, 8, 1⟩
def bitRowsG (at0 size step : Int) (k : Nat) : List Rr := (List.range k).map (bitRowG at0 size step)
def redA : List Rr := [⟨0, 4, 4, 1, 0, 0, 1⟩, ⟨8, 16, 8, 2, 0, 0, 1⟩, ⟨20, 24, 4, 3, 0, 0, 1⟩, ⟨112, 120, 8, 14, 0, 0, 1⟩, ⟨120, 128, 8, 15, 0, 0, 1⟩, ⟨160, 168, 8, 16, 0, 0, 1⟩, ⟨176, 184, 8, 17, 0, 0, 1⟩, ⟨192, 196, 4, 18, 0, 0, 1⟩]
def redB : List Rr := [⟨66560, 66592, 4, 11, 0, 1, 1⟩, ⟨68608, 68616, 4, 12, 0, 4, 1⟩]
def redRows : List Rr := (redA ++ bitRowsG 65664 4 128 7) ++ redB
theorem red_ok : redRows.all rowOk2 = true := by decide +kernel
theorem red_few : redRows.all rowFew = true := by decide +kernel
end Go.Proofs.YtieedhdmpabfkaaGreat
