/-
  New.
-/
import Derived.Test.YtcdfkdlddmkhmaaBusD
namespace Go.Proofs.Ytcdfkdlddmkhmaa
open Go.ChangeShapes Go.WideShapes Go.ChangeAt Go.RowKit Go.Shelf Go.Lib
set_option linter.unusedVariables false

theorem mixed : Try.prog.follows .mixedOrders = true := by kernel_rfl
theorem below_grow (W : World) (n : Nat) (os : Array Obj) : Below W.heap.size W (Go.Sort.grow (W.drewN n) os) :=
  ⟨rfl, rfl, rfl, by rw [Go.Sort.size_grow]; exact Nat.le_add_right _ _, fun k hk => Go.Sort.heap_grow_old (W.drewN n) os hk⟩
/-- after, where blocks are laid. -/
theorem after_grown (x : Sp) (hx : x.Ok) (w : World) (n : Nat) (os : Array Obj) :
    Calls Try.prog 27 #[.agg #[.int .i64 x.b, .int .i64 x.s, .int .i64 x.k, .int .i64 x.i]] (Go.Sort.grow (w.drewN n) os) fun e w' => e = .returned (.int .i64 (x.b + x.s)) ∧ ∃ q os', w' = Go.Sort.grow ((Go.Sort.grow (w.drewN n) os).drewN q) os' :=
  (after_any x _ hx).mono fun e w' ⟨he, hw⟩ => ⟨he, 0, #[.cells #[.int .i64 x.b, .int .i64 x.s, .int .i64 x.k, .int .i64 x.i] 33], by rw [hw, Go.Sort.alloc_eq_grow]; rfl⟩

def NewPost (xs : List Sp) (w : World) (e : Ending) (w' : World) : Prop := Below w.heap.size w w' ∧
  ((newE xs ≠ 0 ∧ e = .returned (.tuple #[.pointer none, .int .i64 (newE xs)])) ∨
   (newE xs = 0 ∧ ∃ (p : Nat) (sv : Value), e = .returned (.tuple #[.pointer (some ⟨p, 0, none⟩), .int .i64 0]) ∧ BusAt w.heap.size w'.heap.size w' p sv (sortB xs)))

set_option maxRecDepth 100000 in
set_option maxHeartbeats 4000000 in
theorem new_any (lo hi' : Nat) (v : Value) (xs : List Sp) (w : World) (h : SpIn lo hi' w v xs) (hh : hi' ≤ w.heap.size) :
    Calls Try.prog 10 #[v] w (NewPost xs w) := by
  obtain ⟨a, cap, rfl⟩ := h.slice
  have hl := h.len
  have H := hi h
  obtain ⟨n, hn⟩ : ∃ n, xs.length = n := ⟨_, rfl⟩
  have HN := hi hn
  rw [hn] at hl ⊢
  clear h hn
  by_cases h32 : 32 < n
  · go_enter Try.func10, Try.ntmps10
    go_wp2
    go_ret2
    have he : newE xs = 1 := newE_1 (.inl (by rw [HN.out]; exact h32))
    exact ⟨Below.refl _ _, .inl ⟨by rw [he]; decide, by rw [he]; rfl⟩⟩
  have HC := hi (contains_any lo hi' _ xs w H.out hh)
  rw [HN.out] at HC
  by_cases hany : (xs.any fun x => !okB x) = true
  · rw [hany] at HC
    have HA := hi hany
    clear hany
    go_enter Try.func10, Try.ntmps10
    go_wp2_with (go_at_call 22; ((with_reducible refine HC.out.mono ?_); rintro e w1 ⟨rfl, hb⟩; have HB := hi hb; clear hb))
    go_ret2
    have he : newE xs = 1 := newE_1 (.inr HA.out)
    exact ⟨HB.out, .inl ⟨by rw [he]; decide, by rw [he]; rfl⟩⟩
  replace hany : (xs.any fun x => !okB x) = false := by simpa using hany
  rw [hany] at HC
  have HA := hi hany
  clear hany
  have HV := hi (fun W => values_any (.bool true) W a n cap)
  go_enter Try.func10, Try.ntmps10
  go_wp2_with (first
    | (go_at_call 22; ((with_reducible refine HC.out.mono ?_); rintro e w1 ⟨rfl, hb⟩; have HB := hi hb; clear hb))
    | (go_at_call 25; ((with_reducible refine (HV.out _).mono ?_); rintro e w2 ⟨rfl, rfl⟩))
    | (go_at_call 24; ((with_reducible refine (sorted_any w1.heap.size lo hi' (.slice a n cap) xs _ (by simp) (by simp) (by have := ((H.out.below HB.out hh).below (bal w1 (.cells #[.slice a n cap] 22)) (Nat.le_trans hh HB.out.size)); rw [HN.out] at this; exact this) (by have := HB.out.size; simp; omega)).mono ?_); rintro e w3 ⟨sv, ys, rfl, hp, hs, hin, hb3⟩; have hlen : ys.length = n := hp.length_eq.trans HN.out; obtain ⟨sa, sc, hsv⟩ := hin.slice; rw [hlen] at hsv; subst hsv; have HLEN := hi hlen; clear hlen; have HP := hi hp; have HS := hi hs; have HI := hi hin; have HB3 := hi (HB.out.trans ((bal w1 (.cells #[.slice a n cap] 22)).trans (hb3.mono (by simp)) |>.mono HB.out.size)); have HLO := hi (show w.heap.size ≤ (w1.alloc (.cells #[.slice a n cap] 22)).heap.size by have := HB.out.size; simp; omega); clear hp hs hin hb3)))
  have hmx := mixed
  have hn32 : n ≤ 32 := by omega
  clear h32
  go_loopw [19] (fun i wr => ∃ k : Nat, i = .int .i64 k ∧ k ≤ n ∧ Hi ((∀ (j : Nat) (x y : Sp), j + 1 < k → ys[j]? = some x → ys[j + 1]? = some y → Ahead x y) ∧ Below w3.heap.size w3 wr)) (fun i _ => n - (intOf i).toNat)
  case atStart => exact ⟨0, rfl, Nat.zero_le _, hi ⟨fun j x y h => by omega, Below.refl _ _⟩⟩
  case round =>
    obtain ⟨k, rfl, hk, HJ⟩ := hrel
    by_cases hlt : k < n
    · have H2 := HI.out.below HJ.out.2 (Nat.le_refl _)
      rw [← HLEN.out] at hlt H2
      obtain ⟨x, g, o, hx, hm, rfl, hg1, hg2, hfair, c0, c1, c2, c3⟩ := H2.read hlt
      rw [HLEN.out] at hlt
      have HX := hi hx
      have hgs : g < wr.heap.size := by have := HJ.out.2.size; omega
      obtain ⟨W1, hW1⟩ : ∃ W1, wr.alloc (.cells #[.int .i64 x.b, .int .i64 x.s, .int .i64 x.k, .int .i64 x.i] 33) = W1 := ⟨_, rfl⟩
      have hbx : SpBox W1 wr.heap.size x := by rw [← hW1]; exact SpBox.new wr x
      have hB1 : Below wr.heap.size wr W1 := by rw [← hW1]; exact bal wr _
      by_cases hk0 : k = 0
      · have hd : decide ((0 : Int) < (k : Int)) = false := by simp; omega
        have hd2 : decide (0 < k) = false := by simp; omega
        have HK0 := hi hk0
        clear hx hm hfair hg1 hg2 H2 hbx hk0
        have HB1 := hi hB1
        clear hB1
        go_wp2
        go_quiet (fail)
        go_wp2
        go_roundw
        case rel => exact ⟨k + 1, by go_num, by omega, hi ⟨fun j x y hj => by have := HK0.out; omega, HJ.out.2.trans ((Below.drewN HB1.out).mono HJ.out.2.size)⟩⟩
        case measure => simp [intOf]; omega
      · obtain ⟨t, rfl⟩ : ∃ t, k = t + 1 := ⟨k - 1, by omega⟩
        have ht : t < ys.length := by rw [HLEN.out]; omega
        obtain ⟨y, g', o', hy, hmy, e', _, _, hfy, d0, d1, d2, d3⟩ := H2.read ht
        cases e'
        have HY := hi hy
        have hyok : y.Ok := all_ok HA.out y (HP.out.mem_iff.1 hmy)
        have HYO := hi hyok
        have hsum : y.b + y.s ≤ 1099511627776 := hyok.e1
        have hcb : ∀ m os, (Go.Sort.grow (W1.drewN m) os).cell? ⟨wr.heap.size, 0, none⟩ = some (.int .i64 x.b) := fun m os => cell_grown hbx.lt hbx.cells.1 m os
        have hW1s : wr.heap.size ≤ W1.heap.size := hB1.size
        have K : ∀ c v, wr.cell? ⟨g, c, none⟩ = some v → ∀ m os, (Go.Sort.grow (W1.drewN m) os).cell? ⟨g, c, none⟩ = some v := fun c v hv m os => cell_grown (show g < W1.heap.size by omega) ((hB1.cell (p := ⟨g, c, none⟩) hgs).trans hv) m os
        have e0 := K _ _ d0
        have e1 := K _ _ d1
        have e2 := K _ _ d2
        have e3 := K _ _ d3
        have htk : t < n := by omega
        have hwt : IntKind.i64.wrap (t : Int) = t := by rw [IntKind.wrap_i64]; omega
        have hwt2 : IntKind.i64.wrap ((t : Int) + 1 - 1) = t := by rw [IntKind.wrap_i64]; omega
        have HAF := hi (after_grown y hyok W1)
        have HB1 := hi hB1
        clear hx hm hfair hg1 hg2 H2 hbx hk0 d0 d1 d2 d3 K hy hyok hmy hfy hB1 ht
        go_wp2
        go_quiet_grown (first | (go_at_call 27; refine Calls.grown_of (HAF.out _ _)))
        have HBN := hi (HJ.out.2.trans ((HB1.out.trans ((below_grow W1 nq osq).mono HB1.out.size)).mono HJ.out.2.size))
        by_cases hah : y.b + y.s ≤ x.b
        · have hd : decide (x.b < y.b + y.s) = false := by simp; omega
          go_wp2
          go_roundw
          case rel => exact ⟨t + 1 + 1, by go_num, by omega, hi ⟨fun j u v hj hu hv => by
            rcases Nat.lt_or_ge j t with q | q
            · exact HJ.out.1 j u v (by omega) hu hv
            · obtain rfl : j = t := by omega
              rw [HY.out] at hu
              rw [HX.out] at hv
              cases hu
              cases hv
              exact hah, HBN.out⟩⟩
          case measure => simp [intOf]; omega
        · have hd : decide (x.b < y.b + y.s) = true := by simp; omega
          go_wp2
          go_ret2
          have he : newE xs = 50 := sorted_no HP.out (by rw [HN.out]; omega) HA.out HS.out HY.out HX.out (by unfold Ahead; omega)
          exact ⟨HB3.out.trans (HBN.out.mono HB3.out.size), .inl ⟨by rw [he]; decide, by rw [he]; rfl⟩⟩
    · obtain rfl : n = k := by omega
      have HBW := hi (HB3.out.trans (HJ.out.2.mono HB3.out.size))
      go_wp2
      go_ret2
      obtain ⟨he, hys⟩ := sorted_is HP.out (by rw [HN.out]; omega) HA.out (ahead_of_next (fun x hx => all_ok HA.out x (HP.out.mem_iff.1 hx)) (fun j x y hx hy => HJ.out.1 j x y (by have := (List.getElem?_eq_some_iff.1 hy).1; have := HLEN.out; omega) hx hy))
      refine ⟨HBW.out.trans ((bal wr _).mono HBW.out.size), .inr ⟨he, wr.heap.size, .slice sa n sc, rfl, ⟨Boxed.new wr _ _, HBW.out.size, by simp, ?_⟩⟩⟩
      rw [← hys]
      have h5 := (HI.out.below HJ.out.2 (Nat.le_refl _)).mono HLO.out HJ.out.2.size
      have h6 := h5.below (bal wr (.cells #[.slice sa n sc] 59)) (Nat.le_refl _)
      exact h6.mono (Nat.le_refl _) (by simp)

end Go.Proofs.Ytcdfkdlddmkhmaa
