/-
  The document's find over the distributor's rows, Dist: at the width 4.
-/
import Derived.Test.YtjgamfonpagkbaaFrmM
import Derived.Test.YtjgamfonpagkbaaFrmG
import Derived.Test.YtjgamfonpagkbaaLast
namespace Go.Proofs.Ytjgamfonpagkbaa
open Go.ChangeShapes Go.WideShapes Go.ChangeAt Go.RowKit Go.Shelf
set_option linter.unusedVariables false
attribute [local go_sem] Oper.semAt_some

def rowOkB (x : Rr) : Bool := decide (x.fr % 4 = 0) && (x.wd == 8 || (x.wd == 4 && (x.p == 1 && (decide (0 ≤ x.o) && (decide (x.o ≤ 8) && (decide (x.f = 0) && (decide (0 ≤ x.fr) && (decide (x.to ≤ 40000) && decide ((x.to - x.fr) * x.o ≤ 1024)))))))))
theorem rows_ok : distRows.all rowOkB = true := by decide +kernel
def nthR (xs : List Rr) (k : Nat) : Rr := xs[k]?.getD default
theorem nthR_at {xs : List Rr} {k : Nat} (h : k < xs.length) : xs[k]? = some (nthR xs k) := by simp [nthR, List.getElem?_eq_getElem h]
theorem dist_len : distRows.length = 12 := by decide
theorem nth_ok {k : Nat} (hk : k < 12) : rowOkB (nthR distRows k) = true := List.all_eq_true.1 rows_ok _ (List.mem_of_getElem? (nthR_at (by rw [dist_len]; exact hk)))
/-- A row's cells. -/
structure RrC (W : World) (g o : Nat) (x : Rr) : Prop where
  c0 : W.cell? ⟨g, o, none⟩ = some (.int .i64 x.fr)
  c1 : W.cell? ⟨g, o + 1, none⟩ = some (.int .i64 x.to)
  c2 : W.cell? ⟨g, o + 2, none⟩ = some (.int .i64 x.wd)
  c3 : W.cell? ⟨g, o + 3, none⟩ = some (.int .i64 x.r)
  c4 : W.cell? ⟨g, o + 4, none⟩ = some (.int .i64 x.f)
  c5 : W.cell? ⟨g, o + 5, none⟩ = some (.int .i64 x.o)
  c6 : W.cell? ⟨g, o + 6, none⟩ = some (.int .i64 x.p)
theorem Row.rrc {W : World} {g : Nat} {t : TypeId} {xs : List Rr} (h : Row W g t (flR xs)) {k : Nat} {x : Rr} (hk : xs[k]? = some x) : RrC W g (k * 7) x := by
  have hl : k < xs.length := (List.getElem?_eq_some_iff.1 hk).1
  have K : ∀ c u, c < 7 → x.cs[c]? = some u → W.cell? ⟨g, k * 7 + c, none⟩ = some u := fun c u hc hu => by
    rw [h.cell (by rw [flR_len]; omega), flat_get rr_len xs k c x hc hk, hu]
  exact ⟨K 0 _ (by decide) rfl, K 1 _ (by decide) rfl, K 2 _ (by decide) rfl, K 3 _ (by decide) rfl, K 4 _ (by decide) rfl, K 5 _ (by decide) rfl, K 6 _ (by decide) rfl⟩
theorem CB.rrc {W : World} {B : Nat} {t : TypeId} {x : Rr} (h : CB W B t x.ca) : RrC W B 0 x := ⟨h.cell 0, h.cell 1, h.cell 2, h.cell 3, h.cell 4, h.cell 5, h.cell 6⟩
theorem RrC.below {W W' : World} {g o : Nat} {x : Rr} (h : RrC W g o x) (hg : g < W.heap.size) (k : Below W.heap.size W W') : RrC W' g o x :=
  have e := k.block g hg
  ⟨(World.cell?_of_block (w := W) (a := ⟨g, o, none⟩) e).trans h.c0, (World.cell?_of_block (w := W) (a := ⟨g, o + 1, none⟩) e).trans h.c1, (World.cell?_of_block (w := W) (a := ⟨g, o + 2, none⟩) e).trans h.c2, (World.cell?_of_block (w := W) (a := ⟨g, o + 3, none⟩) e).trans h.c3, (World.cell?_of_block (w := W) (a := ⟨g, o + 4, none⟩) e).trans h.c4, (World.cell?_of_block (w := W) (a := ⟨g, o + 5, none⟩) e).trans h.c5, (World.cell?_of_block (w := W) (a := ⟨g, o + 6, none⟩) e).trans h.c6⟩

theorem results_pl {fn : Func} {c t : Tmp} (h : fn.results = #[.cell c 37, .tmp t]) (tmps : Array Value) (w : World) (b : Nat) (x : Pl) (v : Value) (hp : tmps.getD c undef = .pointer (some ⟨b, 0, none⟩)) (ht : tmps.getD t undef = v)
    (hb : CB w b 37 x.cs) : (results fn tmps).run Try.prog w = .ok (.tuple #[x.v, v]) w := by
  have hp' : tmps[c]?.getD undef = .pointer (some ⟨b, 0, none⟩) := by simpa using hp
  have ht' : tmps[t]?.getD undef = v := by simpa using ht
  have c0 := hb.cell 0
  have c1 := hb.cell 1
  have c2 := hb.cell 2
  simp at c0 c1 c2
  simp [results, h, go_sem, hp', ht', c0, c1, c2]
theorem CB.put3 {W : World} {B : Nat} {t : TypeId} {a0 a1 a2 : Value} (h : CB W B t #[a0, a1, a2]) (v0 v1 v2 : Value) : CB (((W.setCell ⟨B, 0, none⟩ v0).setCell ⟨B, 1, none⟩ v1).setCell ⟨B, 2, none⟩ v2) B t #[v0, v1, v2] := by
  have := ((h.set 0 v0).set 1 v1).set 2 v2
  simpa only [List.setIfInBounds_toArray, List.set_cons_zero, List.set_cons_succ] using this
theorem below_put3 {n : Nat} {w W : World} (h : Below n w W) {B : Nat} (hb : n ≤ B) (v0 v1 v2 : Value) : Below n w (((W.setCell ⟨B, 0, none⟩ v0).setCell ⟨B, 1, none⟩ v1).setCell ⟨B, 2, none⟩ v2) := below_set (below_set (below_set h hb _) hb _) hb _

/-- What Dist tells of an access. -/
def Found (w : World) (e : Ending) (w' : World) : Prop := ∃ (p : Pl) (c : Nat) (er : Int), e = .returned (.tuple #[p.v, .int .i64 er]) ∧ (er = 0 → PlOk p c) ∧ Below w.heap.size w w'
def Pl.zero : Pl := ⟨0, 0, 0⟩
theorem plok_zero : PlOk Pl.zero 0 := ⟨rfl, by decide, by decide, by decide⟩
theorem found_err {w W : World} {er : Int} (h : er ≠ 0) (hb : Below w.heap.size w W) : Found w (.returned (.tuple #[Pl.zero.v, .int .i64 er])) W := ⟨_, 0, er, rfl, fun e => absurd e h, hb⟩
theorem found_none {w W : World} (hb : Below w.heap.size w W) : Found w (.returned (.tuple #[Pl.zero.v, .int .i64 0])) W := ⟨_, 0, 0, rfl, fun _ => plok_zero, hb⟩

/-- Where find's loop stands. -/
structure FA (w : World) (g : Nat) (W : World) : Prop where
  z : CB W w.heap.size 37 #[.int .i64 0, .int .i64 0, .int .i64 0]
  row : Row W g 98 (flR distRows)
  below : Below w.heap.size w W
theorem FA.later {w W W' : World} {g : Nat} (h : FA w g W) (k : Below W.heap.size W W') : FA w g W' := ⟨h.z.below k, h.row.below k, h.below.trans (k.mono h.below.size)⟩
/-- The answer's box alone. -/
structure FZ (w W : World) : Prop where
  z : CB W w.heap.size 37 #[.int .i64 0, .int .i64 0, .int .i64 0]
  below : Below w.heap.size w W
theorem FZ.later {w W W' : World} (h : FZ w W) (k : Below W.heap.size W W') : FZ w W' := ⟨h.z.below k, h.below.trans (k.mono h.below.size)⟩
theorem FZ.drew {w W : World} (h : FZ w W) : FZ w W.drew := ⟨h.z, Below.drewN (m := 1) h.below⟩
theorem FZ.set1 {w W : World} (h : FZ w W) {N o : Nat} (hN : w.heap.size < N) (v : Value) : FZ w (W.setCell ⟨N, o, none⟩ v) := ⟨h.z.other _ _ _ (by omega), below_set h.below (by omega) _⟩
theorem FZ.put3 {w W : World} (h : FZ w W) {N : Nat} (hN : w.heap.size < N) (v0 v1 v2 : Value) : FZ w (((W.setCell ⟨N, 0, none⟩ v0).setCell ⟨N, 1, none⟩ v1).setCell ⟨N, 2, none⟩ v2) := ((h.set1 hN v0).set1 hN v1).set1 hN v2
theorem CB.other3 {W : World} {B : Nat} {t : TypeId} {cs : Array Value} (h : CB W B t cs) {N : Nat} (hn : B ≠ N) (v0 v1 v2 : Value) : CB (((W.setCell ⟨N, 0, none⟩ v0).setCell ⟨N, 1, none⟩ v1).setCell ⟨N, 2, none⟩ v2) B t cs := ((h.other N _ _ hn).other N _ _ hn).other N _ _ hn
theorem FA.fz {w W : World} {g : Nat} (h : FA w g W) : FZ w W := ⟨h.z, h.below⟩
theorem FA.drew {w W : World} {g : Nat} (h : FA w g W) : FA w g W.drew := ⟨h.z, h.row.below (Below.drewN (m := 1) (Below.refl _ _)), Below.drewN (m := 1) h.below⟩

set_option maxRecDepth 100000 in
set_option maxHeartbeats 16000000 in
theorem find_any (g cap : Nat) (off : Int) (w : World) (h : Row w g 98 (flR distRows)) (ho : Int64 off) :
    Calls Try.prog 29 #[.slice (some ⟨g, 0, none⟩) 12 cap, .int .i64 65536, .int .i64 off, .int .i64 4] w (Found w) := by
  obtain ⟨h1, h2⟩ := ho
  by_cases hm : off.tmod 4 = 0
  · by_cases hneg : off < 0
    · have hq : (off.tmod 4 != 0) = false := by simpa using hm
      go_enter Try.func29, Try.ntmps29
      go_wp2
      exact bodyPost_ret (results_pl rfl _ _ w.heap.size Pl.zero (.int .i64 42) rfl rfl (CB.new w _ _)) rfl (found_err (er := 42) (by decide) (bal w _))
    · by_cases hbig : 65532 < off
      · have hq : (off.tmod 4 != 0) = false := by simpa using hm
        go_enter Try.func29, Try.ntmps29
        go_wp2
        exact bodyPost_ret (results_pl rfl _ _ w.heap.size Pl.zero (.int .i64 42) rfl rfl (CB.new w _ _)) rfl (found_err (er := 42) (by decide) (bal w _))
      · have hq : (off.tmod 4 != 0) = false := by simpa using hm
        have hm4 : off % 4 = 0 := by rw [Int.tmod_eq_emod_of_nonneg (by omega)] at hm; exact hm
        have H0 := hi (show FA w g (w.alloc (.cells #[.int .i64 0, .int .i64 0, .int .i64 0] 37)) from ⟨CB.new w _ _, h.below (bal w _), bal w _⟩)
        have hw4 : IntKind.i64.wrap (off + 4) = off + 4 := by rw [IntKind.wrap_i64]; omega
        clear hm h
        go_enter Try.func29, Try.ntmps29
        go_wp2
        go_loopw [10] (fun i wr => ∃ k : Nat, k ≤ 12 ∧ i = .int .i64 k ∧ Hi (FA w g wr)) (fun i _ => 12 - (intOf i).toNat)
        case atStart => exact ⟨0, Nat.zero_le _, rfl, H0⟩
        case round =>
          obtain ⟨k, hk, rfl, HX⟩ := hrel
          clear H0
          by_cases hlt : k < 12
          · have hok := nth_ok hlt
            have HRC := hi (HX.out.row.rrc (nthR_at (xs := distRows) (k := k) (by rw [dist_len]; exact hlt)))
            obtain ⟨x, hx⟩ : ∃ x, nthR distRows k = x := ⟨_, rfl⟩
            rw [hx] at hok HRC
            obtain ⟨d0, d1, d2, d3, d4, d5, d6⟩ := HRC.out
            clear hx
            obtain ⟨fr, to, wd, rr, ff, oo, pp⟩ := x
            dsimp only at d0 d1 d2 d3 d4 d5 d6
            simp only [rowOkB, Bool.and_eq_true, Bool.or_eq_true, decide_eq_true_eq, beq_iff_eq] at hok
            have HNB := hi (CB.new wr 98 (Rr.ca ⟨fr, to, wd, rr, ff, oo, pp⟩))
            have HX2 := hi (HX.out.later (bal wr (.cells (Rr.ca ⟨fr, to, wd, rr, ff, oo, pp⟩) 98)))
            go_wp2
            obtain ⟨wq, hwq⟩ : ∃ wq, wr.alloc (.cells #[.int .i64 fr, .int .i64 to, .int .i64 wd, .int .i64 rr, .int .i64 ff, .int .i64 oo, .int .i64 pp] 98) = wq := ⟨_, rfl⟩
            have hnb : wr.heap.size < wq.heap.size := by rw [← hwq]; simp
            rw [hwq] at HNB HX2 ⊢
            obtain ⟨R, hR⟩ : ∃ R, wr.heap.size = R := ⟨_, rfl⟩
            rw [hR] at HNB hnb ⊢
            clear hwq d0 d1 d2 d3 d4 d5 d6 HRC HX hR
            go_loopw [12] (fun i wr2 => ∃ d : Nat, d ≤ 4 ∧ i = .int .i64 (off + (d : Int)) ∧ wr2 = wq) (fun i _ => (off + 4 - intOf i).toNat)
            case atStart => exact ⟨0, by omega, by simp, rfl⟩
            case round =>
              obtain ⟨d, hd, rfl, rfl⟩ := hrel
              obtain ⟨d0, d1, d2, d3, d4, d5, d6⟩ := CB.rrc (x := ⟨fr, to, wd, rr, ff, oo, pp⟩) HNB.out
              dsimp only at d0 d1 d2 d3 d4 d5 d6
              by_cases hdl : d < 4
              · obtain ⟨a, ha⟩ : ∃ a, off + (d : Int) = a := ⟨_, rfl⟩
                have hwd : IntKind.i64.wrap (a + 1) = off + ((d + 1 : Nat) : Int) := by rw [IntKind.wrap_i64]; omega
                have ha4 : a < off + 4 := by omega
                rw [ha]
                by_cases hlo : a < fr
                · clear hok
                  go_wp2
                  go_roundw
                  case rel => exact ⟨d + 1, by omega, by first | rfl | simp, trivial⟩
                  case measure => simp only [intOf]; omega
                · by_cases hhi : to ≤ a
                  · clear hok
                    go_wp2
                    go_roundw
                    case rel => exact ⟨d + 1, by omega, by first | rfl | simp, trivial⟩
                    case measure => simp only [intOf]; omega
                  · have z0 := HX2.out.z.cell 0
                    have z1 := HX2.out.z.cell 1
                    have z2 := HX2.out.z.cell 2
                    have zf := HX2.out.z.frozen
                    obtain ⟨hf4, rfl | ⟨rfl, rfl, ho0, ho8, rfl, hfr0, hto, hmul⟩⟩ := hok
                    · go_wp2
                      exact bodyPost_ret (results_pl rfl _ _ w.heap.size Pl.zero (.int .i64 40) rfl rfl (CB.put3 HX2.out.z _ _ _)) rfl (found_err (er := 40) (by decide) (below_put3 HX2.out.below (Nat.le_refl _) _ _ _))
                    · have hge : fr ≤ off := by omega
                      have hml : (off - fr) * oo ≤ (to - fr) * oo := Int.mul_le_mul_of_nonneg_right (by omega) ho0
                      have hm0 : 0 ≤ (off - fr) * oo := Int.mul_nonneg (by omega) ho0
                      have hw1 : IntKind.i64.wrap (4 * oo) = 4 * oo := by rw [IntKind.wrap_i64]; omega
                      have hw2 : IntKind.i64.wrap (off - fr) = off - fr := by rw [IntKind.wrap_i64]; omega
                      have hw3 : IntKind.i64.wrap ((off - fr) * oo) = (off - fr) * oo := by rw [IntKind.wrap_i64]; omega
                      have hwT0 : IntKind.i64.wrap (IntKind.i64.wrap (IntKind.i64.wrap (IntKind.i64.wrap (off - fr)) * oo)) = (off - fr) * oo := by rw [hw2, hw2, hw3, hw3]
                      obtain ⟨df, hdf⟩ : ∃ df, off - fr = df := ⟨_, rfl⟩
                      rw [hdf] at hw2 hw3 hml hm0
                      obtain ⟨T, hT⟩ : ∃ T, df * oo = T := ⟨_, rfl⟩
                      rw [hT] at hw3 hml hm0
                      have hw1' : IntKind.i64.wrap (IntKind.i64.wrap 4 * oo) = 4 * oo := by rw [show IntKind.i64.wrap 4 = 4 from by decide]; exact hw1
                      have hwT : IntKind.i64.wrap (IntKind.i64.wrap (IntKind.i64.wrap (IntKind.i64.wrap (off - fr)) * oo)) = T := hwT0.trans (by rw [hdf, hT])
                      have HWT := hi hwT
                      clear hwT0 hwT
                      obtain ⟨c4, hc4⟩ : ∃ c4, 4 * oo = c4 := ⟨_, rfl⟩
                      rw [hc4] at hw1 hw1'
                      have hw5 : IntKind.i64.wrap T = T := by rw [IntKind.wrap_i64]; omega
                      have hq4 : (4 : Int).tdiv 1 = 4 := by decide
                      have hqd : df.tdiv 1 = df := by simp
                      have HPK := hi (show PlOk ⟨rr, T, c4⟩ c4.toNat from ⟨by show c4 = _; omega, by omega, hm0, by show T + _ ≤ _; omega⟩)
                      clear hml hmul hdf hT hc4 ha4 hwd
                      have HNB4 := hi (show CB wr R 98 #[.int .i64 fr, .int .i64 to, .int .i64 4, .int .i64 rr, .int .i64 0, .int .i64 oo, .int .i64 1] from HNB.out)
                      go_wp2
                      have HFD := hi HX2.out.fz.drew
                      have hS17 : (fun W' => CB W' R 98 #[.int .i64 fr, .int .i64 to, .int .i64 4, .int .i64 rr, .int .i64 0, .int .i64 oo, .int .i64 1]) wr.drew := HNB4.out.drew
                      obtain ⟨wd, hwd'⟩ : ∃ wd, wr.drew = wd := ⟨_, rfl⟩
                      rw [hwd'] at HFD
                      refine wp_region_noPanic ?_
                      refine wp_region_last_drew (S := (fun W' => CB W' R 98 #[.int .i64 fr, .int .i64 to, .int .i64 4, .int .i64 rr, .int .i64 0, .int .i64 oo, .int .i64 1])) [13] (by kernel_rfl) hS17 (fun hHeld => ?_)
                      rw [hwd'] at hHeld ⊢
                      clear hwd' hS17
                      (try simp only [Array.replicate_succ, Array.replicate_zero, List.push_toArray, List.nil_append, List.cons_append])
                      refine wpAnyF_take (i := 0) (v := ?_) (by kernel_rfl) (by kernel_rfl) rfl (by kernel_rfl) (by kernel_rfl) (by kernel_rfl) (fun _ _ _ h => h) (Or.inl ⟨by rfl, ?_⟩) (by assumption) ?_
                      rotate_left
                      · intro w' hSw; (try dsimp only at hSw); obtain ⟨d0, d1, d2, d3, d4, d5, d6⟩ := CB.rrc (x := ⟨fr, to, 4, rr, 0, oo, 1⟩) hSw; dsimp only at d0 d1 d2 d3 d4 d5 d6; go_simp; (try with_reducible rfl)
                      (try simp only [Act.put, List.getElem_toArray, List.getElem_cons_zero, List.setIfInBounds_toArray, List.set_cons_zero, List.set_cons_succ])
                      refine wpAnyF_take (i := 1) (v := ?_) (by kernel_rfl) (by kernel_rfl) rfl (by kernel_rfl) (by kernel_rfl) (by kernel_rfl) (fun _ _ _ h => h) (Or.inl ⟨by rfl, ?_⟩) (by assumption) ?_
                      rotate_left
                      · intro w' hSw; (try dsimp only at hSw); obtain ⟨d0, d1, d2, d3, d4, d5, d6⟩ := CB.rrc (x := ⟨fr, to, 4, rr, 0, oo, 1⟩) hSw; dsimp only at d0 d1 d2 d3 d4 d5 d6; go_simp; (try with_reducible rfl)
                      (try simp only [Act.put, List.getElem_toArray, List.getElem_cons_zero, List.getElem_cons_succ, List.setIfInBounds_toArray, List.set_cons_zero, List.set_cons_succ])
                      refine wpAnyF_take (i := 2) (v := ?_) (by kernel_rfl) (by kernel_rfl) rfl (by kernel_rfl) (by kernel_rfl) (by kernel_rfl) (fun _ _ _ h => h) (Or.inl ⟨by rfl, ?_⟩) (by assumption) ?_
                      rotate_left
                      · intro w' hSw; (try dsimp only at hSw); obtain ⟨d0, d1, d2, d3, d4, d5, d6⟩ := CB.rrc (x := ⟨fr, to, 4, rr, 0, oo, 1⟩) hSw; dsimp only at d0 d1 d2 d3 d4 d5 d6; go_simp; (try with_reducible rfl)
                      (try simp only [Act.put, List.getElem_toArray, List.getElem_cons_zero, List.getElem_cons_succ, List.setIfInBounds_toArray, List.set_cons_zero, List.set_cons_succ])
                      refine wpAnyF_take (i := 3) (v := ?_) (by kernel_rfl) (by kernel_rfl) rfl (by kernel_rfl) (by kernel_rfl) (by kernel_rfl) (fun _ _ _ h => h) (Or.inl ⟨by rfl, ?_⟩) (by assumption) ?_
                      rotate_left
                      · intro w' hSw; (try dsimp only at hSw); obtain ⟨d0, d1, d2, d3, d4, d5, d6⟩ := CB.rrc (x := ⟨fr, to, 4, rr, 0, oo, 1⟩) hSw; dsimp only at d0 d1 d2 d3 d4 d5 d6; go_simp; (try with_reducible rfl)
                      (try simp only [Act.put, List.getElem_toArray, List.getElem_cons_zero, List.getElem_cons_succ, List.setIfInBounds_toArray, List.set_cons_zero, List.set_cons_succ])
                      refine wpAnyF_take (i := 4) (v := ?_) (by kernel_rfl) (by kernel_rfl) rfl (by kernel_rfl) (by kernel_rfl) (by kernel_rfl) (fun _ _ _ h => h) (Or.inl ⟨by rfl, ?_⟩) (by assumption) ?_
                      rotate_left
                      · intro w' hSw; (try dsimp only at hSw); obtain ⟨d0, d1, d2, d3, d4, d5, d6⟩ := CB.rrc (x := ⟨fr, to, 4, rr, 0, oo, 1⟩) hSw; dsimp only at d0 d1 d2 d3 d4 d5 d6; go_simp; (try with_reducible rfl)
                      (try simp only [Act.put, List.getElem_toArray, List.getElem_cons_zero, List.getElem_cons_succ, List.setIfInBounds_toArray, List.set_cons_zero, List.set_cons_succ])
                      refine wpAnyF_take (i := 5) (v := ?_) (by kernel_rfl) (by kernel_rfl) rfl (by kernel_rfl) (by kernel_rfl) (by kernel_rfl) (fun _ _ _ h => h) (Or.inl ⟨by rfl, ?_⟩) (by assumption) ?_
                      rotate_left
                      · intro w' hSw; (try dsimp only at hSw); obtain ⟨d0, d1, d2, d3, d4, d5, d6⟩ := CB.rrc (x := ⟨fr, to, 4, rr, 0, oo, 1⟩) hSw; dsimp only at d0 d1 d2 d3 d4 d5 d6; go_simp; (try with_reducible rfl)
                      (try simp only [Act.put, List.getElem_toArray, List.getElem_cons_zero, List.getElem_cons_succ, List.setIfInBounds_toArray, List.set_cons_zero, List.set_cons_succ])
                      refine wpAnyF_take (i := 6) (v := ?_) (by kernel_rfl) (by kernel_rfl) rfl (by kernel_rfl) (by kernel_rfl) (by kernel_rfl) (fun _ _ _ h => h) (Or.inl ⟨by rfl, ?_⟩) (by assumption) ?_
                      rotate_left
                      · intro w' hSw; (try dsimp only at hSw); obtain ⟨d0, d1, d2, d3, d4, d5, d6⟩ := CB.rrc (x := ⟨fr, to, 4, rr, 0, oo, 1⟩) hSw; dsimp only at d0 d1 d2 d3 d4 d5 d6; go_simp; (try with_reducible rfl)
                      (try simp only [Act.put, List.getElem_toArray, List.getElem_cons_zero, List.getElem_cons_succ, List.setIfInBounds_toArray, List.set_cons_zero, List.set_cons_succ])
                      refine wpAnyF_take (i := 7) (v := ?_) (by kernel_rfl) (by kernel_rfl) rfl (by kernel_rfl) (by kernel_rfl) (by kernel_rfl) (fun _ _ _ h => h) (Or.inl ⟨by rfl, ?_⟩) (by assumption) ?_
                      rotate_left
                      · intro w' hSw; (try dsimp only at hSw); obtain ⟨d0, d1, d2, d3, d4, d5, d6⟩ := CB.rrc (x := ⟨fr, to, 4, rr, 0, oo, 1⟩) hSw; dsimp only at d0 d1 d2 d3 d4 d5 d6; go_simp; (try with_reducible rfl)
                      (try simp only [Act.put, List.getElem_toArray, List.getElem_cons_zero, List.getElem_cons_succ, List.setIfInBounds_toArray, List.set_cons_zero, List.set_cons_succ])
                      refine wpAnyF_take (i := 8) (v := ?_) (by kernel_rfl) (by kernel_rfl) rfl (by kernel_rfl) (by kernel_rfl) (by kernel_rfl) (fun _ _ _ h => h) (Or.inl ⟨by rfl, ?_⟩) (by assumption) ?_
                      rotate_left
                      · intro w' hSw; (try dsimp only at hSw); obtain ⟨d0, d1, d2, d3, d4, d5, d6⟩ := CB.rrc (x := ⟨fr, to, 4, rr, 0, oo, 1⟩) hSw; dsimp only at d0 d1 d2 d3 d4 d5 d6; go_simp; (try with_reducible rfl)
                      (try simp only [Act.put, List.getElem_toArray, List.getElem_cons_zero, List.getElem_cons_succ, List.setIfInBounds_toArray, List.set_cons_zero, List.set_cons_succ])
                      refine wpAnyF_take (i := 9) (v := ?_) (by kernel_rfl) (by kernel_rfl) rfl (by kernel_rfl) (by kernel_rfl) (by kernel_rfl) (fun _ _ _ h => h) (Or.inl ⟨by rfl, ?_⟩) (by assumption) ?_
                      rotate_left
                      · intro w' hSw; (try dsimp only at hSw); obtain ⟨d0, d1, d2, d3, d4, d5, d6⟩ := CB.rrc (x := ⟨fr, to, 4, rr, 0, oo, 1⟩) hSw; dsimp only at d0 d1 d2 d3 d4 d5 d6; go_simp; (try with_reducible rfl)
                      (try simp only [Act.put, List.getElem_toArray, List.getElem_cons_zero, List.getElem_cons_succ, List.setIfInBounds_toArray, List.set_cons_zero, List.set_cons_succ])
                      refine wpAnyF_take (i := 10) (v := ?_) (by kernel_rfl) (by kernel_rfl) rfl (by kernel_rfl) (by kernel_rfl) (by kernel_rfl) (fun _ _ _ h => h) (Or.inl ⟨by rfl, ?_⟩) (by assumption) ?_
                      rotate_left
                      · intro w' hSw; (try dsimp only at hSw); obtain ⟨d0, d1, d2, d3, d4, d5, d6⟩ := CB.rrc (x := ⟨fr, to, 4, rr, 0, oo, 1⟩) hSw; dsimp only at d0 d1 d2 d3 d4 d5 d6; go_simp; (try with_reducible rfl)
                      (try simp only [Act.put, List.getElem_toArray, List.getElem_cons_zero, List.getElem_cons_succ, List.setIfInBounds_toArray, List.set_cons_zero, List.set_cons_succ])
                      refine wpAnyF_take (i := 11) (v := ?_) (by kernel_rfl) (by kernel_rfl) rfl (by kernel_rfl) (by kernel_rfl) (by kernel_rfl) (fun _ _ _ h => h) (Or.inl ⟨by rfl, ?_⟩) (by assumption) ?_
                      rotate_left
                      · intro w' hSw; (try dsimp only at hSw); obtain ⟨d0, d1, d2, d3, d4, d5, d6⟩ := CB.rrc (x := ⟨fr, to, 4, rr, 0, oo, 1⟩) hSw; dsimp only at d0 d1 d2 d3 d4 d5 d6; go_simp; (try with_reducible rfl)
                      (try simp only [Act.put, List.getElem_toArray, List.getElem_cons_zero, List.getElem_cons_succ, List.setIfInBounds_toArray, List.set_cons_zero, List.set_cons_succ])
                      refine wpAnyF_ready (rs := [12]) (by kernel_rfl) (by simp) ?_
                      refine AllReadyF.cons rfl (fun KK hKK => ?_) AllReadyF.nil
                      go_simp
                      have HF1 := hi (HFD.out.later (bal wd (.cells #[.int .i64 0, .int .i64 0, .int .i64 0] 37)))
                      have HR1 := hi (CB.below hHeld (bal wd (.cells #[.int .i64 0, .int .i64 0, .int .i64 0] 37)))
                      have HZ1 := hi (CB.new wd 37 #[.int .i64 0, .int .i64 0, .int .i64 0])
                      obtain ⟨V1, hV1⟩ : ∃ V1, wd.alloc (.cells #[.int .i64 0, .int .i64 0, .int .i64 0] 37) = V1 := ⟨_, rfl⟩
                      rw [hV1] at HF1 HR1 HZ1 ⊢
                      obtain ⟨N, hN⟩ : ∃ N, wd.heap.size = N := ⟨_, rfl⟩
                      have hN1 : w.heap.size < N ∧ R < N := by have h9 := HFD.out.z.lt; have h8 := CB.lt hHeld; omega
                      rw [hN] at HZ1 ⊢
                      clear hV1 hN
                      refine hKK.out _ _ HR1.out (fun hHeld => ?_)
                      clear hKK KK
                      (try simp only [Act.put, List.getElem_toArray, List.getElem_cons_zero, List.getElem_cons_succ, List.setIfInBounds_toArray, List.set_cons_zero, List.set_cons_succ])
                      refine wpAnyF_ready (rs := [13]) (by kernel_rfl) (by simp) ?_
                      refine AllReadyF.last (by kernel_rfl) rfl (fun KK hKK => ?_) AllReadyF.nil
                      have y0 := HZ1.out.cell 0
                      have y1 := HZ1.out.cell 1
                      have y2 := HZ1.out.cell 2
                      have yf := HZ1.out.frozen
                      go_simp
                      refine hKK.out _ _ ?_
                      clear hKK KK
                      (try simp only [Act.put, List.getElem_toArray, List.getElem_cons_zero, List.getElem_cons_succ, List.setIfInBounds_toArray, List.set_cons_zero, List.set_cons_succ])
                      refine wpAnyF_done (by kernel_rfl) ?_ _
                      refine NoPanic.normal ?_
                      have HN2 := hi (CB.put3 HZ1.out (.int .i64 rr) (.int .i64 0) (.int .i64 c4))
                      have HF3 := hi (show FZ w (((V1.setCell ⟨N, 0, none⟩ (.int .i64 rr)).setCell ⟨N, 1, none⟩ (.int .i64 0)).setCell ⟨N, 2, none⟩ (.int .i64 c4)) from HF1.out.put3 hN1.1 _ _ _)
                      have HR3 := hi (HR1.out.other3 (show R ≠ N by omega) (.int .i64 rr) (.int .i64 0) (.int .i64 c4))
                      obtain ⟨V2, hV2⟩ : ∃ V2, ((V1.setCell ⟨N, 0, none⟩ (.int .i64 rr)).setCell ⟨N, 1, none⟩ (.int .i64 0)).setCell ⟨N, 2, none⟩ (.int .i64 c4) = V2 := ⟨_, rfl⟩
                      rw [hV2] at HN2 HF3 HR3
                      (try rw [hw1'])
                      rw [hV2]
                      clear hV2 hHeld
                      go_wp2
                      have HS18 := hi (And.intro HN2.out.drew HR3.out.drew)
                      refine wp_region_noPanic ?_
                      refine wp_region_last_drew (S := (fun W' => CB W' N 37 #[.int .i64 rr, .int .i64 0, .int .i64 c4] ∧ CB W' R 98 #[.int .i64 fr, .int .i64 to, .int .i64 4, .int .i64 rr, .int .i64 0, .int .i64 oo, .int .i64 1])) [14] (by kernel_rfl) HS18.out (fun hHeld => ?_)
                      (try simp only [Array.replicate_succ, Array.replicate_zero, List.push_toArray, List.nil_append, List.cons_append])
                      refine wpAnyF_take (i := 0) (v := ?_) (by kernel_rfl) (by kernel_rfl) rfl (by kernel_rfl) (by kernel_rfl) (by kernel_rfl) (fun _ _ _ h => h) (Or.inl ⟨by rfl, ?_⟩) (by assumption) ?_
                      rotate_left
                      · intro w' hSw; (try dsimp only at hSw); obtain ⟨hs1, hs2⟩ := hSw; have y0 := hs1.cell 0; have y1 := hs1.cell 1; have y2 := hs1.cell 2; obtain ⟨d0, d1, d2, d3, d4, d5, d6⟩ := CB.rrc (x := ⟨fr, to, 4, rr, 0, oo, 1⟩) hs2; dsimp only at d0 d1 d2 d3 d4 d5 d6; go_simp; (try with_reducible rfl)
                      (try simp only [Act.put, List.getElem_toArray, List.getElem_cons_zero, List.setIfInBounds_toArray, List.set_cons_zero, List.set_cons_succ])
                      refine wpAnyF_take (i := 1) (v := ?_) (by kernel_rfl) (by kernel_rfl) rfl (by kernel_rfl) (by kernel_rfl) (by kernel_rfl) (fun _ _ _ h => h) (Or.inl ⟨by rfl, ?_⟩) (by assumption) ?_
                      rotate_left
                      · intro w' hSw; (try dsimp only at hSw); obtain ⟨hs1, hs2⟩ := hSw; have y0 := hs1.cell 0; have y1 := hs1.cell 1; have y2 := hs1.cell 2; obtain ⟨d0, d1, d2, d3, d4, d5, d6⟩ := CB.rrc (x := ⟨fr, to, 4, rr, 0, oo, 1⟩) hs2; dsimp only at d0 d1 d2 d3 d4 d5 d6; go_simp; (try with_reducible rfl)
                      (try simp only [Act.put, List.getElem_toArray, List.getElem_cons_zero, List.getElem_cons_succ, List.setIfInBounds_toArray, List.set_cons_zero, List.set_cons_succ])
                      refine wpAnyF_take (i := 2) (v := ?_) (by kernel_rfl) (by kernel_rfl) rfl (by kernel_rfl) (by kernel_rfl) (by kernel_rfl) (fun _ _ _ h => h) (Or.inl ⟨by rfl, ?_⟩) (by assumption) ?_
                      rotate_left
                      · intro w' hSw; (try dsimp only at hSw); obtain ⟨hs1, hs2⟩ := hSw; have y0 := hs1.cell 0; have y1 := hs1.cell 1; have y2 := hs1.cell 2; obtain ⟨d0, d1, d2, d3, d4, d5, d6⟩ := CB.rrc (x := ⟨fr, to, 4, rr, 0, oo, 1⟩) hs2; dsimp only at d0 d1 d2 d3 d4 d5 d6; go_simp; (try with_reducible rfl)
                      (try simp only [Act.put, List.getElem_toArray, List.getElem_cons_zero, List.getElem_cons_succ, List.setIfInBounds_toArray, List.set_cons_zero, List.set_cons_succ])
                      refine wpAnyF_take (i := 3) (v := ?_) (by kernel_rfl) (by kernel_rfl) rfl (by kernel_rfl) (by kernel_rfl) (by kernel_rfl) (fun _ _ _ h => h) (Or.inl ⟨by rfl, ?_⟩) (by assumption) ?_
                      rotate_left
                      · intro w' hSw; (try dsimp only at hSw); obtain ⟨hs1, hs2⟩ := hSw; have y0 := hs1.cell 0; have y1 := hs1.cell 1; have y2 := hs1.cell 2; obtain ⟨d0, d1, d2, d3, d4, d5, d6⟩ := CB.rrc (x := ⟨fr, to, 4, rr, 0, oo, 1⟩) hs2; dsimp only at d0 d1 d2 d3 d4 d5 d6; go_simp; (try with_reducible rfl)
                      (try simp only [Act.put, List.getElem_toArray, List.getElem_cons_zero, List.getElem_cons_succ, List.setIfInBounds_toArray, List.set_cons_zero, List.set_cons_succ])
                      refine wpAnyF_take (i := 4) (v := ?_) (by kernel_rfl) (by kernel_rfl) rfl (by kernel_rfl) (by kernel_rfl) (by kernel_rfl) (fun _ _ _ h => h) (Or.inl ⟨by rfl, ?_⟩) (by assumption) ?_
                      rotate_left
                      · intro w' hSw; (try dsimp only at hSw); obtain ⟨hs1, hs2⟩ := hSw; have y0 := hs1.cell 0; have y1 := hs1.cell 1; have y2 := hs1.cell 2; obtain ⟨d0, d1, d2, d3, d4, d5, d6⟩ := CB.rrc (x := ⟨fr, to, 4, rr, 0, oo, 1⟩) hs2; dsimp only at d0 d1 d2 d3 d4 d5 d6; go_simp; (try with_reducible rfl)
                      (try simp only [Act.put, List.getElem_toArray, List.getElem_cons_zero, List.getElem_cons_succ, List.setIfInBounds_toArray, List.set_cons_zero, List.set_cons_succ])
                      refine wpAnyF_take (i := 5) (v := ?_) (by kernel_rfl) (by kernel_rfl) rfl (by kernel_rfl) (by kernel_rfl) (by kernel_rfl) (fun _ _ _ h => h) (Or.inl ⟨by rfl, ?_⟩) (by assumption) ?_
                      rotate_left
                      · intro w' hSw; (try dsimp only at hSw); obtain ⟨hs1, hs2⟩ := hSw; have y0 := hs1.cell 0; have y1 := hs1.cell 1; have y2 := hs1.cell 2; obtain ⟨d0, d1, d2, d3, d4, d5, d6⟩ := CB.rrc (x := ⟨fr, to, 4, rr, 0, oo, 1⟩) hs2; dsimp only at d0 d1 d2 d3 d4 d5 d6; go_simp; (try with_reducible rfl)
                      (try simp only [Act.put, List.getElem_toArray, List.getElem_cons_zero, List.getElem_cons_succ, List.setIfInBounds_toArray, List.set_cons_zero, List.set_cons_succ])
                      refine wpAnyF_take (i := 6) (v := ?_) (by kernel_rfl) (by kernel_rfl) rfl (by kernel_rfl) (by kernel_rfl) (by kernel_rfl) (fun _ _ _ h => h) (Or.inl ⟨by rfl, ?_⟩) (by assumption) ?_
                      rotate_left
                      · intro w' hSw; (try dsimp only at hSw); obtain ⟨hs1, hs2⟩ := hSw; have y0 := hs1.cell 0; have y1 := hs1.cell 1; have y2 := hs1.cell 2; obtain ⟨d0, d1, d2, d3, d4, d5, d6⟩ := CB.rrc (x := ⟨fr, to, 4, rr, 0, oo, 1⟩) hs2; dsimp only at d0 d1 d2 d3 d4 d5 d6; go_simp; (try with_reducible rfl)
                      (try simp only [Act.put, List.getElem_toArray, List.getElem_cons_zero, List.getElem_cons_succ, List.setIfInBounds_toArray, List.set_cons_zero, List.set_cons_succ])
                      refine wpAnyF_take (i := 7) (v := ?_) (by kernel_rfl) (by kernel_rfl) rfl (by kernel_rfl) (by kernel_rfl) (by kernel_rfl) (fun _ _ _ h => h) (Or.inl ⟨by rfl, ?_⟩) (by assumption) ?_
                      rotate_left
                      · intro w' hSw; (try dsimp only at hSw); obtain ⟨hs1, hs2⟩ := hSw; have y0 := hs1.cell 0; have y1 := hs1.cell 1; have y2 := hs1.cell 2; obtain ⟨d0, d1, d2, d3, d4, d5, d6⟩ := CB.rrc (x := ⟨fr, to, 4, rr, 0, oo, 1⟩) hs2; dsimp only at d0 d1 d2 d3 d4 d5 d6; go_simp; (try with_reducible rfl)
                      (try simp only [Act.put, List.getElem_toArray, List.getElem_cons_zero, List.getElem_cons_succ, List.setIfInBounds_toArray, List.set_cons_zero, List.set_cons_succ])
                      refine wpAnyF_take (i := 8) (v := ?_) (by kernel_rfl) (by kernel_rfl) rfl (by kernel_rfl) (by kernel_rfl) (by kernel_rfl) (fun _ _ _ h => h) (Or.inl ⟨by rfl, ?_⟩) (by assumption) ?_
                      rotate_left
                      · intro w' hSw; (try dsimp only at hSw); obtain ⟨hs1, hs2⟩ := hSw; have y0 := hs1.cell 0; have y1 := hs1.cell 1; have y2 := hs1.cell 2; obtain ⟨d0, d1, d2, d3, d4, d5, d6⟩ := CB.rrc (x := ⟨fr, to, 4, rr, 0, oo, 1⟩) hs2; dsimp only at d0 d1 d2 d3 d4 d5 d6; go_simp; (try with_reducible rfl)
                      (try simp only [Act.put, List.getElem_toArray, List.getElem_cons_zero, List.getElem_cons_succ, List.setIfInBounds_toArray, List.set_cons_zero, List.set_cons_succ])
                      refine wpAnyF_take (i := 9) (v := ?_) (by kernel_rfl) (by kernel_rfl) rfl (by kernel_rfl) (by kernel_rfl) (by kernel_rfl) (fun _ _ _ h => h) (Or.inl ⟨by rfl, ?_⟩) (by assumption) ?_
                      rotate_left
                      · intro w' hSw; (try dsimp only at hSw); obtain ⟨hs1, hs2⟩ := hSw; have y0 := hs1.cell 0; have y1 := hs1.cell 1; have y2 := hs1.cell 2; obtain ⟨d0, d1, d2, d3, d4, d5, d6⟩ := CB.rrc (x := ⟨fr, to, 4, rr, 0, oo, 1⟩) hs2; dsimp only at d0 d1 d2 d3 d4 d5 d6; go_simp; (try with_reducible rfl)
                      (try simp only [Act.put, List.getElem_toArray, List.getElem_cons_zero, List.getElem_cons_succ, List.setIfInBounds_toArray, List.set_cons_zero, List.set_cons_succ])
                      refine wpAnyF_take (i := 10) (v := ?_) (by kernel_rfl) (by kernel_rfl) rfl (by kernel_rfl) (by kernel_rfl) (by kernel_rfl) (fun _ _ _ h => h) (Or.inl ⟨by rfl, ?_⟩) (by assumption) ?_
                      rotate_left
                      · intro w' hSw; (try dsimp only at hSw); obtain ⟨hs1, hs2⟩ := hSw; have y0 := hs1.cell 0; have y1 := hs1.cell 1; have y2 := hs1.cell 2; obtain ⟨d0, d1, d2, d3, d4, d5, d6⟩ := CB.rrc (x := ⟨fr, to, 4, rr, 0, oo, 1⟩) hs2; dsimp only at d0 d1 d2 d3 d4 d5 d6; go_simp; (try with_reducible rfl)
                      (try simp only [Act.put, List.getElem_toArray, List.getElem_cons_zero, List.getElem_cons_succ, List.setIfInBounds_toArray, List.set_cons_zero, List.set_cons_succ])
                      refine wpAnyF_take (i := 11) (v := ?_) (by kernel_rfl) (by kernel_rfl) rfl (by kernel_rfl) (by kernel_rfl) (by kernel_rfl) (fun _ _ _ h => h) (Or.inl ⟨by rfl, ?_⟩) (by assumption) ?_
                      rotate_left
                      · intro w' hSw; (try dsimp only at hSw); obtain ⟨hs1, hs2⟩ := hSw; have y0 := hs1.cell 0; have y1 := hs1.cell 1; have y2 := hs1.cell 2; obtain ⟨d0, d1, d2, d3, d4, d5, d6⟩ := CB.rrc (x := ⟨fr, to, 4, rr, 0, oo, 1⟩) hs2; dsimp only at d0 d1 d2 d3 d4 d5 d6; go_simp; (try with_reducible rfl)
                      (try simp only [Act.put, List.getElem_toArray, List.getElem_cons_zero, List.getElem_cons_succ, List.setIfInBounds_toArray, List.set_cons_zero, List.set_cons_succ])
                      refine wpAnyF_take (i := 12) (v := ?_) (by kernel_rfl) (by kernel_rfl) rfl (by kernel_rfl) (by kernel_rfl) (by kernel_rfl) (fun _ _ _ h => h) (Or.inl ⟨by rfl, ?_⟩) (by assumption) ?_
                      rotate_left
                      · intro w' hSw; (try dsimp only at hSw); obtain ⟨hs1, hs2⟩ := hSw; have y0 := hs1.cell 0; have y1 := hs1.cell 1; have y2 := hs1.cell 2; obtain ⟨d0, d1, d2, d3, d4, d5, d6⟩ := CB.rrc (x := ⟨fr, to, 4, rr, 0, oo, 1⟩) hs2; dsimp only at d0 d1 d2 d3 d4 d5 d6; go_simp; (try with_reducible rfl)
                      (try simp only [Act.put, List.getElem_toArray, List.getElem_cons_zero, List.getElem_cons_succ, List.setIfInBounds_toArray, List.set_cons_zero, List.set_cons_succ])
                      refine wpAnyF_take (i := 13) (v := ?_) (by kernel_rfl) (by kernel_rfl) rfl (by kernel_rfl) (by kernel_rfl) (by kernel_rfl) (fun _ _ _ h => h) (Or.inl ⟨by rfl, ?_⟩) (by assumption) ?_
                      rotate_left
                      · intro w' hSw; (try dsimp only at hSw); obtain ⟨hs1, hs2⟩ := hSw; have y0 := hs1.cell 0; have y1 := hs1.cell 1; have y2 := hs1.cell 2; obtain ⟨d0, d1, d2, d3, d4, d5, d6⟩ := CB.rrc (x := ⟨fr, to, 4, rr, 0, oo, 1⟩) hs2; dsimp only at d0 d1 d2 d3 d4 d5 d6; go_simp; (try with_reducible rfl)
                      (try simp only [Act.put, List.getElem_toArray, List.getElem_cons_zero, List.getElem_cons_succ, List.setIfInBounds_toArray, List.set_cons_zero, List.set_cons_succ])
                      refine wpAnyF_ready (rs := [14]) (by kernel_rfl) (by simp) ?_
                      refine AllReadyF.last (by kernel_rfl) rfl (fun KK hKK => ?_) AllReadyF.nil
                      have y1 := HN2.out.cell 1
                      have yf := HN2.out.frozen 1
                      have y1' : V2.drew.cell? ⟨N, 1, none⟩ = some (.int .i64 0) := y1
                      have yf' : V2.drew.frozen? ⟨N, 1, none⟩ = false := yf
                      go_simp
                      refine hKK.out _ _ ?_
                      clear hKK KK
                      (try simp only [Act.put, List.getElem_toArray, List.getElem_cons_zero, List.getElem_cons_succ, List.setIfInBounds_toArray, List.set_cons_zero, List.set_cons_succ])
                      refine wpAnyF_done (by kernel_rfl) ?_ _
                      refine NoPanic.normal ?_
                      rw [HWT.out]
                      have HN4 := hi (show CB (V2.setCell ⟨N, 1, none⟩ (.int .i64 T)).drew N 37 #[.int .i64 rr, .int .i64 T, .int .i64 c4] from (HN2.out.set3 (.int .i64 T)).drew)
                      have HF2 := hi ((HF3.out.set1 (o := 1) hN1.1 (.int .i64 T)).drew)
                      obtain ⟨V4, hV4⟩ : ∃ V4, (V2.setCell ⟨N, 1, none⟩ (.int .i64 T)).drew = V4 := ⟨_, rfl⟩
                      rw [hV4] at HN4 HF2 ⊢
                      clear hV4 hHeld HS18
                      have y0 := HN4.out.cell 0
                      have y1 := HN4.out.cell 1
                      have y2 := HN4.out.cell 2
                      have z0 := HF2.out.z.cell 0
                      have z1 := HF2.out.z.cell 1
                      have z2 := HF2.out.z.cell 2
                      have zf := HF2.out.z.frozen
                      go_wp2
                      exact bodyPost_ret (results_pl rfl _ _ w.heap.size ⟨rr, T, c4⟩ (.int .i64 0) rfl rfl (CB.put3 HF2.out.z _ _ _)) rfl ⟨_, _, 0, rfl, fun _ => HPK.out, below_put3 HF2.out.below (Nat.le_refl _) _ _ _⟩
              · obtain rfl : d = 4 := by omega
                go_wp2
                go_roundw
                case rel => exact ⟨k + 1, by omega, by go_num, HX2⟩
                case measure => simp only [intOf]; omega
          · obtain rfl : k = 12 := by omega
            have z0 := HX.out.z.cell 0
            have z1 := HX.out.z.cell 1
            have z2 := HX.out.z.cell 2
            have zf := HX.out.z.frozen
            go_wp2
            exact bodyPost_ret (results_pl rfl _ _ w.heap.size Pl.zero (.int .i64 0) rfl rfl (CB.put3 HX.out.z _ _ _)) rfl (found_none (below_put3 HX.out.below (Nat.le_refl _) _ _ _))
  · have hq : (off.tmod 4 != 0) = true := by simpa using hm
    go_enter Try.func29, Try.ntmps29
    go_wp2
    exact bodyPost_ret (results_pl rfl _ _ w.heap.size Pl.zero (.int .i64 41) rfl rfl (CB.new w _ _)) rfl (found_err (er := 41) (by decide) (bal w _))

set_option maxHeartbeats 4000000 in
theorem distD_any (off : Int) (w : World) (ho : Int64 off) : Calls Try.prog 13 #[.int .i64 off, .int .i64 4] w (Found w) := by
  have CD := hi (fun W => dist_any W)
  have CF := hi (fun g cap W (h : Row W g 98 (flR distRows)) => find_any g cap off W h ho)
  have H0 := hi (CB.new w 37 #[.int .i64 0, .int .i64 0, .int .i64 0])
  have HB0 := hi (bal w (.cells #[.int .i64 0, .int .i64 0, .int .i64 0] 37))
  go_enter Try.func13, Try.ntmps13
  go_wp2_with (first
    | (go_at_call 30; ((with_reducible refine (CD.out _).mono ?_); rintro e w2 ⟨v, rfl, ho2, hb2⟩; obtain ⟨g, cap, rfl⟩ := ownsRow_succ ho2; have HR := hi (Row.own ho2); have HF2 := hi (show FZ w w2 from ⟨H0.out.below hb2, HB0.out.trans (hb2.mono HB0.out.size)⟩); clear ho2 hb2))
    | (go_at_call 29; ((with_reducible refine (CF.out _ _ _ HR.out).mono ?_); rintro e w3 ⟨⟨r, f, c⟩, cn, er, rfl, hok, hb3⟩; have HF3 := hi (HF2.out.later hb3); have HOK := hi hok; have z0 := HF3.out.z.cell 0; have z1 := HF3.out.z.cell 1; have z2 := HF3.out.z.cell 2; have zf := HF3.out.z.frozen; clear hok hb3)))
  exact bodyPost_ret (results_pl rfl _ _ w.heap.size ⟨r, f, c⟩ (.int .i64 er) rfl rfl (CB.put3 HF3.out.z _ _ _)) rfl ⟨_, cn, er, rfl, HOK.out, below_put3 HF3.out.below (Nat.le_refl _) _ _ _⟩

end Go.Proofs.Ytjgamfonpagkbaa
