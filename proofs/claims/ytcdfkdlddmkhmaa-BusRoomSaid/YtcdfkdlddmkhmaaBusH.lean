/-
  The document's Find.
-/
import Derived.Test.YtcdfkdlddmkhmaaBusG
namespace Go.Proofs.Ytcdfkdlddmkhmaa
open Go.ChangeShapes Go.WideShapes Go.ChangeAt Go.RowKit
set_option linter.unusedVariables false

theorem results_rfind {fn : Func} {c1 c2 c3 : Tmp} (h : fn.results = #[.cell c1 33, .tmp c2, .tmp c3]) (tmps : Array Value) (w : World) (b1 : Nat) (x : Sp) (off e : Int)
    (h1 : tmps.getD c1 undef = .pointer (some ⟨b1, 0, none⟩)) (h2 : tmps.getD c2 undef = .int .i64 off) (h3 : tmps.getD c3 undef = .int .i64 e) (hx : SpBox w b1 x) :
    (results fn tmps).run Try.prog w = .ok (tup x off e) w := by
  have h1' : tmps[c1]?.getD undef = .pointer (some ⟨b1, 0, none⟩) := by simpa using h1
  have h2' : tmps[c2]?.getD undef = .int .i64 off := by simpa using h2
  have h3' : tmps[c3]?.getD undef = .int .i64 e := by simpa using h3
  obtain ⟨x0, x1, x2, x3⟩ := hx.cells
  simp [results, h, go_sem, h1', h2', h3', x0, x1, x2, x3, tup]

/-- Where a box is written whole, it holds that; what lies below it stays. -/
theorem box_set4 {w W : World} {b : Nat} {z : Sp} (h : SpBox W b z) (hB : Below b w W) (x : Sp) :
    SpBox ((((W.setCell ⟨b, 0, none⟩ (.int .i64 x.b)).setCell ⟨b, 1, none⟩ (.int .i64 x.s)).setCell ⟨b, 2, none⟩ (.int .i64 x.k)).setCell ⟨b, 3, none⟩ (.int .i64 x.i)) b x ∧
    Below b w ((((W.setCell ⟨b, 0, none⟩ (.int .i64 x.b)).setCell ⟨b, 1, none⟩ (.int .i64 x.s)).setCell ⟨b, 2, none⟩ (.int .i64 x.k)).setCell ⟨b, 3, none⟩ (.int .i64 x.i)) :=
  ⟨h.set4 x, (((hB.setCell (p := ⟨b, 0, none⟩) (Nat.le_refl _) _).setCell (p := ⟨b, 1, none⟩) (Nat.le_refl _) _).setCell (p := ⟨b, 2, none⟩) (Nat.le_refl _) _).setCell (p := ⟨b, 3, none⟩) (Nat.le_refl _) _⟩

set_option maxRecDepth 100000 in
set_option maxHeartbeats 4000000 in
theorem rfind_any (lo hi' : Nat) (v : Value) (xs : List Sp) (addr width : Int) (w : World) (h : SpIn lo hi' w v xs) (hh : hi' ≤ w.heap.size) (hok : ∀ x ∈ xs, x.Ok) :
    Calls Try.prog 14 #[v, .int .i64 addr, .int .i64 width] w fun e w' => e = .returned (findV xs addr width) ∧ Below w.heap.size w w' := by
  obtain ⟨a, cap, rfl⟩ := h.slice
  have hl := h.len
  have H := hi h
  have HOK := hi hok
  obtain ⟨n, hn⟩ : ∃ n, xs.length = n := ⟨_, rfl⟩
  have HN := hi hn
  rw [hn] at hl ⊢
  clear h hn hok
  have HM := hi (fun W => rmay_any 1099511627776 addr width W)
  by_cases hm : ¬ mayE 1099511627776 addr width = 0
  · have hv : findV xs addr width = tup Sp.zero 0 (mayE 1099511627776 addr width) := by unfold findV; rw [if_neg hm]
    rw [hv]
    obtain ⟨m, hmm⟩ : ∃ m, mayE 1099511627776 addr width = m := ⟨_, rfl⟩
    rw [hmm] at HM hm ⊢
    have hd : (m != 0) = true := by simpa using hm
    clear hmm hm hv
    go_enter Try.func14, Try.ntmps14
    go_wp2_with (go_at_call 31; ((with_reducible refine (HM.out _).mono ?_); rintro e w1 ⟨rfl, rfl⟩))
    exact bodyPost_ret (results_rfind rfl _ _ w.heap.size Sp.zero 0 m rfl rfl rfl (SpBox.new w Sp.zero)) rfl ⟨rfl, bal w _⟩
  · replace hm : mayE 1099511627776 addr width = 0 := by simpa using hm
    have hv : findV xs addr width = findT addr (xs.find? (covB addr width)) := by unfold findV; rw [if_pos hm]
    rw [hv]
    obtain ⟨hwd, ha0, ha1⟩ := may_out hm
    rw [hm] at HM
    have hwa : IntKind.i64.wrap (addr + width) = addr + width := by rw [IntKind.wrap_i64]; omega
    clear hv hm
    go_enter Try.func14, Try.ntmps14
    go_wp2_with (go_at_call 31; ((with_reducible refine (HM.out _).mono ?_); rintro e w1 ⟨rfl, rfl⟩))
    go_loopw [10] (fun i wr => ∃ k : Nat, i = .int .i64 k ∧ k ≤ n ∧ Hi ((∀ (j : Nat) (x : Sp), j < k → xs[j]? = some x → covB addr width x = false) ∧ SpBox wr w.heap.size Sp.zero ∧ Below w.heap.size w wr)) (fun i _ => n - (intOf i).toNat)
    case atStart => exact ⟨0, rfl, Nat.zero_le _, hi ⟨fun j x h => by omega, SpBox.new w Sp.zero, bal w _⟩⟩
    case round =>
      obtain ⟨k, rfl, hk, HJ⟩ := hrel
      have hbx := HJ.out.2.1
      by_cases hlt : k < n
      · have H2 := H.out.below HJ.out.2.2 hh
        rw [← HN.out] at hlt
        obtain ⟨x, g, o, hx, hmx, rfl, hg1, hg2, _, c0, c1, c2, c3⟩ := H2.read hlt
        rw [HN.out] at hlt
        have okx := HOK.out x hmx
        have hw1 : IntKind.i64.wrap (x.b + x.s) = x.b + x.s := by rw [IntKind.wrap_i64]; have := okx.e1; have := okx.s1; have := okx.b0; omega
        have HX := hi hx
        have HOX := hi okx
        have hgw : g < w.heap.size := by omega
        by_cases g1 : x.b ≤ addr
        · by_cases g2 : addr + width ≤ x.b + x.s
          · have t1 : decide (x.b ≤ addr) = true := by simpa using g1
            have t2 : decide (addr + width ≤ x.b + x.s) = true := by simpa using g2
            have hcv : covB addr width x = true := by unfold covB; simp [g1, g2]
            have hf : xs.find? (covB addr width) = some x := by
              refine find_some (ini := xs.take k) ?_ (fun z hz => ?_) hcv
              · have := List.take_prefix (k + 1) xs
                rwa [List.take_add_one, HX.out] at this
              · obtain ⟨j, hj⟩ := List.mem_iff_getElem?.1 hz
                have hjk : j < k := by have := (List.getElem?_eq_some_iff.1 hj).1; simp at this; omega
                rw [List.getElem?_take, if_pos hjk] at hj
                exact HJ.out.1 j z hjk hj
            have HFF := hi hf
            have hw3 : IntKind.i64.wrap (addr - x.b) = addr - x.b := by rw [IntKind.wrap_i64]; have := okx.b0; omega
            have b0 := hbx.cells
            have b1 := hbx.frozen
            obtain ⟨y0, y1, y2, y3⟩ := b0
            have hne : g ≠ w.heap.size := by omega
            have hne2 : w.heap.size ≠ g := by omega
            clear g1 g2 hcv hf hx hmx okx H2 hg1 hg2 hbx
            go_wp2
            go_quiet (fail)
            go_wp2
            go_region_held3 (fun w' => w'.cell? ⟨g, o + k * 4, none⟩ = some (.int .i64 x.b) ∧ w'.cell? ⟨g, o + k * 4 + 1, none⟩ = some (.int .i64 x.s) ∧ w'.cell? ⟨g, o + k * 4 + 2, none⟩ = some (.int .i64 x.k) ∧ w'.cell? ⟨g, o + k * 4 + 3, none⟩ = some (.int .i64 x.i))
              (first | go_keep)
              (first | fail)
            go_wp2
            obtain ⟨e1, e2⟩ := box_set4 (W := wr.drewN (nq + 1)) HJ.out.2.1 (Below.drewN HJ.out.2.2) x
            exact bodyPost_ret (results_rfind rfl _ _ w.heap.size x (addr - x.b) 0 rfl rfl rfl e1) rfl ⟨by rw [HFF.out]; rfl, e2⟩
          · have t1 : decide (x.b ≤ addr) = true := by simpa using g1
            have t2 : decide (addr + width ≤ x.b + x.s) = false := by simpa using g2
            have HCV : Hi (covB addr width x = false) := hi (by unfold covB; simp; omega)
            clear g1 g2 hx hmx okx H2 hg1 hg2 hbx
            go_wp2
            go_quiet (fail)
            go_wp2
            go_roundw
            case rel => exact ⟨k + 1, by go_num, by omega, hi ⟨fun j z hj hz => by
              rcases Nat.lt_or_ge j k with q | q
              · exact HJ.out.1 j z q hz
              · obtain rfl : j = k := by omega
                rw [HX.out] at hz
                cases hz
                exact HCV.out, HJ.out.2.1, Below.drewN HJ.out.2.2⟩⟩
            case measure => simp [intOf]; omega
        · have t1 : decide (x.b ≤ addr) = false := by simpa using g1
          have HCV : Hi (covB addr width x = false) := hi (by unfold covB; simp; omega)
          clear g1 hx hmx okx H2 hg1 hg2 hbx
          go_wp2
          go_quiet (fail)
          go_wp2
          go_roundw
          case rel => exact ⟨k + 1, by go_num, by omega, hi ⟨fun j z hj hz => by
            rcases Nat.lt_or_ge j k with q | q
            · exact HJ.out.1 j z q hz
            · obtain rfl : j = k := by omega
              rw [HX.out] at hz
              cases hz
              exact HCV.out, HJ.out.2.1, Below.drewN HJ.out.2.2⟩⟩
          case measure => simp [intOf]; omega
      · obtain rfl : n = k := by omega
        have hf : xs.find? (covB addr width) = none := find_none fun z hz => by
          obtain ⟨j, hj⟩ := List.mem_iff_getElem?.1 hz
          exact HJ.out.1 j z (by have := (List.getElem?_eq_some_iff.1 hj).1; have := HN.out; omega) hj
        have HFF := hi hf
        have b0 := hbx.cells
        have b1 := hbx.frozen
        obtain ⟨y0, y1, y2, y3⟩ := b0
        clear hf hbx
        go_wp2
        obtain ⟨e1, e2⟩ := box_set4 HJ.out.2.1 HJ.out.2.2 Sp.zero
        exact bodyPost_ret (results_rfind rfl _ _ w.heap.size Sp.zero 0 42 rfl rfl rfl e1) rfl ⟨by rw [HFF.out]; rfl, e2⟩

end Go.Proofs.Ytcdfkdlddmkhmaa
