/-
  The document's New.
-/
import Derived.Test.YtcdfkdlddmkhmaaBusE
namespace Go.Proofs.Ytcdfkdlddmkhmaa
open Go.ChangeShapes Go.WideShapes Go.ChangeAt Go.RowKit
set_option linter.unusedVariables false

/-- What the round's loop has made of a first part of the row. -/
def nextB (x : Sp) (pre : List Sp) (put : Bool) : List Sp := if put = true then insB x pre else pre
def putB (x : Sp) (pre : List Sp) : Bool := pre.any fun z => decide (x.b < z.b)
theorem putB_nil (x : Sp) : putB x [] = false := rfl
theorem putB_snoc (x y : Sp) (pre : List Sp) : putB x (pre ++ [y]) = (putB x pre || decide (x.b < y.b)) := by simp [putB]
theorem next_put {x y : Sp} {pre : List Sp} (h : putB x pre = true) : nextB x (pre ++ [y]) true = nextB x pre true ++ [y] := by
  obtain ⟨z, hz, hlt⟩ := List.any_eq_true.1 h
  exact insB_yes ⟨z, hz, by simpa using hlt⟩
theorem next_now {x y : Sp} {pre : List Sp} (h : putB x pre = false) (hy : x.b < y.b) : nextB x (pre ++ [y]) true = (nextB x pre false ++ [x]) ++ [y] := by
  have h' : ∀ z ∈ pre, ¬ x.b < z.b := fun z hz => by have := List.any_eq_false.1 h z hz; simpa using this
  simp [nextB, insB_now h' hy]
theorem next_end {x : Sp} {pre : List Sp} (h : putB x pre = false) : insB x pre = nextB x pre false ++ [x] := by
  have h' : ∀ z ∈ pre, ¬ x.b < z.b := fun z hz => by have := List.any_eq_false.1 h z hz; simpa using this
  simp [nextB, insB_no h']

theorem own_drew {W : World} {base : Nat} {v : Value} {n m : Nat} {cs : List Value} (h : W.ownsRow base 33 4 v n cs) : (W.drewN m).ownsRow base 33 4 v n cs := h
theorem own_slice {W : World} {base : Nat} {v : Value} {n : Nat} {cs : List Value} (h : W.ownsRow base 33 4 v n cs) : ∃ a c, v = .slice a n c := by
  rcases h.2 with ⟨rfl, rfl⟩ | ⟨g, cap, cur, rfl, _⟩
  · exact ⟨_, _, rfl⟩
  · exact ⟨_, _, rfl⟩
theorem own_later {W W' : World} {base : Nat} {v : Value} {n : Nat} {cs : List Value} (h : W.ownsRow base 33 4 v n cs) (k : Below W.heap.size W W') : W'.ownsRow base 33 4 v n cs :=
  h.kept (Below.grew k) (by cases ho : v.ownBlock with
    | none => exact .inl rfl
    | some b => exact .inr (by simp))
theorem own_base {W : World} {base base' : Nat} {v : Value} {n : Nat} {cs : List Value} (h : W.ownsRow base 33 4 v n cs) (hb : base' ≤ base) : W.ownsRow base' 33 4 v n cs := by
  refine ⟨h.1, ?_⟩
  rcases h.2 with h0 | ⟨g, cap, cur, e, h1, h2⟩
  · exact .inl h0
  · exact .inr ⟨g, cap, cur, e, by omega, h2⟩
/-- Behind an append to a row of one's own. -/
theorem own_grown {W w1 : World} {tmp : Obj} {base n₀ : Nat} {v : Value} {n : Nat} {cs : List Value} (h : W.ownsRow base 33 4 v n cs) (hg : (W.alloc tmp).grownBy w1 v.ownBlock) (hn : n₀ ≤ base) (hW : n₀ ≤ W.heap.size) : Below n₀ W w1 := by
  refine ((Below.refl n₀ W).alloc hW tmp).grown hg (by simp; omega) fun j ej => ?_
  have := h.lt j ej
  omega

def RNewPost (xs : List Sp) (w : World) (e : Ending) (w' : World) : Prop := Below w.heap.size w w' ∧
  ((newE xs ≠ 0 ∧ e = .returned (.tuple #[.slice none 0 0, .int .i64 (newE xs)])) ∨
   (newE xs = 0 ∧ ∃ sv : Value, e = .returned (.tuple #[sv, .int .i64 0]) ∧ SpIn w.heap.size w'.heap.size w' sv (sortB xs)))

/-- The check of all pairs gone through. -/
def PairsTo (l : List Sp) (i k : Nat) : Prop := ∀ (a b : Nat) (x y : Sp), l[a]? = some x → l[b]? = some y → b < a → (a < i ∨ (a = i ∧ b < k)) → Apart x y
theorem pairs_all {l : List Sp} (h : PairsTo l l.length 0) : l.Pairwise Apart := List.pairwise_iff_getElem.2 fun i j hi hj hij =>
  (h j i _ _ (List.getElem?_eq_getElem hj) (List.getElem?_eq_getElem hi) hij (.inl hj)).symm
theorem pairs_no {l : List Sp} {a b : Nat} {x y : Sp} (h1 : l[a]? = some x) (h2 : l[b]? = some y) (hab : b < a) (hn : ¬ Apart x y) : ¬ l.Pairwise Apart := fun h => by
  obtain ⟨l1, e1⟩ := List.getElem?_eq_some_iff.1 h1
  obtain ⟨l2, e2⟩ := List.getElem?_eq_some_iff.1 h2
  have := List.pairwise_iff_getElem.1 h b a l2 l1 hab
  rw [e1, e2] at this
  exact hn this.symm

theorem pairs_step {l : List Sp} {i j : Nat} {x y : Sp} (h : PairsTo l i j) (hx : l[i]? = some x) (hy : l[j]? = some y) (ha : Apart x y) : PairsTo l i (j + 1) := fun a b u v hu hv hba hc => by
  rcases hc with hc | ⟨rfl, hc⟩
  · exact h a b u v hu hv hba (.inl hc)
  · rcases Nat.lt_or_ge b j with q | q
    · exact h a b u v hu hv hba (.inr ⟨rfl, q⟩)
    · obtain rfl : b = j := by omega
      rw [hx] at hu
      rw [hy] at hv
      cases hu
      cases hv
      exact ha

set_option maxRecDepth 100000 in
set_option maxHeartbeats 8000000 in
theorem rnew_any (lo hi' : Nat) (v : Value) (xs : List Sp) (w : World) (h : SpIn lo hi' w v xs) (hh : hi' ≤ w.heap.size) :
    Calls Try.prog 11 #[v] w (RNewPost xs w) := by
  obtain ⟨a, cap, rfl⟩ := h.slice
  have hl := h.len
  have H := hi h
  obtain ⟨n, hn⟩ : ∃ n, xs.length = n := ⟨_, rfl⟩
  have HN := hi hn
  rw [hn] at hl ⊢
  clear h hn
  by_cases h32 : 32 < n
  · go_enter Try.func11, Try.ntmps11
    go_wp2
    go_ret2
    have he : newE xs = 1 := newE_1 (.inl (by rw [HN.out]; exact h32))
    exact ⟨Below.refl _ _, .inl ⟨by rw [he]; decide, by rw [he]; rfl⟩⟩
  have hn32 : n ≤ 32 := by omega
  have hd32 : decide ((32 : Int) < (n : Int)) = false := by simp; omega
  obtain ⟨i0, hi', hz0, hz1, hz2⟩ := info_parts info_sp
  go_enter Try.func11, Try.ntmps11
  go_wp2
  go_loopw [4] (fun i wr => ∃ k : Nat, i = .int .i64 k ∧ k ≤ n ∧ Hi ((∀ (j : Nat) (x : Sp), j < k → xs[j]? = some x → okB x = true) ∧ Below w.heap.size w wr)) (fun i _ => n - (intOf i).toNat)
  case atStart => exact ⟨0, rfl, Nat.zero_le _, hi ⟨fun j x h => by omega, Below.refl _ _⟩⟩
  case round =>
    obtain ⟨k, rfl, hk, HJ⟩ := hrel
    by_cases hlt : k < n
    · have H2 := H.out.below HJ.out.2 hh
      rw [← HN.out] at hlt
      obtain ⟨x, g, o, hx, hm, rfl, hg1, hg2, hfair, c0, c1, c2, c3⟩ := H2.read hlt
      rw [HN.out] at hlt
      have HX := hi hx
      have HF := hi hfair
      have HC := hi (right_any x)
      clear hx hfair hm hg1 hg2 H2
      cases hok : okB x
      · have HOK := hi hok
        clear hok
        go_wp2_with (go_at_call 28; ((with_reducible refine (HC.out _ HF.out).mono ?_); rintro e w1 ⟨rfl, rfl⟩; rw [HOK.out]))
        go_ret2
        have he : newE xs = 1 := newE_1 (.inr (any_of_get HX.out HOK.out))
        exact ⟨below_alloc' HJ.out.2 (Nat.le_refl _) _, .inl ⟨by rw [he]; decide, by rw [he]; rfl⟩⟩
      · have HOK := hi hok
        clear hok
        go_wp2_with (go_at_call 28; ((with_reducible refine (HC.out _ HF.out).mono ?_); rintro e w1 ⟨rfl, rfl⟩; rw [HOK.out]))
        go_roundw
        case rel => exact ⟨k + 1, by go_num, by omega, hi ⟨fun j y hj hy => by
          rcases Nat.lt_or_ge j k with q | q
          · exact HJ.out.1 j y q hy
          · obtain rfl : j = k := by omega
            rw [HX.out] at hy
            cases hy
            exact HOK.out, below_alloc' HJ.out.2 (Nat.le_refl _) _⟩⟩
        case measure => simp [intOf]; omega
    · obtain rfl : n = k := by omega
      have hany := any_of_all (xs := xs) (fun j x hx => HJ.out.1 j x (by have := (List.getElem?_eq_some_iff.1 hx).1; have := HN.out; omega) hx)
      have HA := hi hany
      have HB0 := hi HJ.out.2
      clear hany hk hlt HJ
      obtain ⟨wo, rfl⟩ : ∃ wo : World, wo = wr := ⟨_, rfl⟩
      go_wp2
      go_loopw [5, 6, 7, 8, 9] (fun out i _ _ _ wr => ∃ (k : Nat) (oa : Option Addr) (oc : Nat), out = .slice oa k oc ∧ i = .int .i64 k ∧ k ≤ n ∧ Hi (wr.ownsRow w.heap.size 33 4 (.slice oa k oc) k (flatS (sortB (xs.take k))) ∧ Below w.heap.size w wr)) (fun _ i _ _ _ _ => n - (intOf i).toNat)
      case atStart => exact ⟨0, none, 0, rfl, rfl, Nat.zero_le _, hi ⟨World.ownsRow_nil _ _ _ _, HB0.out⟩⟩
      case round =>
        obtain ⟨k, oa, oc, rfl, rfl, hk, HJ⟩ := hrel
        by_cases hlt : k < n
        · have H2 := H.out.below HJ.out.2 hh
          rw [← HN.out] at hlt
          obtain ⟨x, g, o, hx, hm, rfl, hg1, hg2, hfair, c0, c1, c2, c3⟩ := H2.read hlt
          rw [HN.out] at hlt
          obtain ⟨os, hos⟩ : ∃ os, sortB (xs.take k) = os := ⟨_, rfl⟩
          have hol : os.length = k := by rw [← hos, sortB_len, List.length_take, HN.out]; omega
          have hon := HJ.out.1
          rw [hos] at hon
          have hof : ∀ z ∈ os, z.Fair := fun z hz => H.out.fair z (List.mem_of_mem_take ((sortB_perm (xs.take k)).mem_iff.1 (by rw [hos]; exact hz)))
          have hown1 := hon
          rw [← hol] at hown1
          have HOI := hi (spIn_of_own hown1 (by omega) hof)
          have hgs : g < wr.heap.size := by have := HJ.out.2.size; omega
          obtain ⟨wq, rfl⟩ : ∃ wq : World, wq = wr := ⟨_, rfl⟩
          have HKX : Hi (∀ W, Below wq.heap.size wq W → W.cell? ⟨g, o + k * 4, none⟩ = some (.int .i64 x.b) ∧ W.cell? ⟨g, o + k * 4 + 1, none⟩ = some (.int .i64 x.s) ∧ W.cell? ⟨g, o + k * 4 + 2, none⟩ = some (.int .i64 x.k) ∧ W.cell? ⟨g, o + k * 4 + 3, none⟩ = some (.int .i64 x.i)) :=
            hi fun W hb => ⟨(hb.cell (p := ⟨g, _, none⟩) hgs).trans c0, (hb.cell (p := ⟨g, _, none⟩) hgs).trans c1, (hb.cell (p := ⟨g, _, none⟩) hgs).trans c2, (hb.cell (p := ⟨g, _, none⟩) hgs).trans c3⟩
          have HX := hi hx
          have HOS := hi hos
          have HOL := hi hol
          clear hx hfair hm hg1 hg2 H2 hos hol hon hof hown1 hgs c0 c1 c2 c3
          go_wp2
          go_loopw [7, 8, 9] (fun nx put i wr => ∃ (j : Nat) (p : Bool) (m : Nat) (na : Option Addr) (nc : Nat), nx = .slice na m nc ∧ put = .bool p ∧ i = .int .i64 j ∧ j ≤ k ∧ m ≤ j + p.toNat ∧ Hi (m = (nextB x (os.take j) p).length ∧ p = putB x (os.take j) ∧ wr.ownsRow wq.heap.size 33 4 (.slice na m nc) m (flatS (nextB x (os.take j) p)) ∧ Below wq.heap.size wq wr)) (fun _ _ i _ => k - (intOf i).toNat)
          case atStart => exact ⟨0, false, 0, none, 0, rfl, rfl, rfl, Nat.zero_le _, Nat.zero_le _, hi ⟨rfl, rfl, World.ownsRow_nil _ _ _ _, Below.refl _ _⟩⟩
          case round =>
            obtain ⟨j, p, m, na, nc, rfl, rfl, rfl, hj, hm33, HL⟩ := hrel
            have HBL := hi HL.out.2.2.2
            have HRL := hi HL.out.2.2.1
            by_cases hjk : j < k
            · obtain ⟨y, go, oo, hy, hmy, e', _, hgo2, hfy, d0, d1, d2, d3⟩ := (HOI.out.below HBL.out (Nat.le_refl _)).read (by rw [HOL.out]; exact hjk)
              subst e'
              have HY := hi hy
              have hgos : go < wr.heap.size := by have := HBL.out.size; omega
              have HKY : Hi (∀ W, Below wq.heap.size wq W → W.cell? ⟨go, oo + j * 4, none⟩ = some (.int .i64 y.b) ∧ W.cell? ⟨go, oo + j * 4 + 1, none⟩ = some (.int .i64 y.s) ∧ W.cell? ⟨go, oo + j * 4 + 2, none⟩ = some (.int .i64 y.k) ∧ W.cell? ⟨go, oo + j * 4 + 3, none⟩ = some (.int .i64 y.i)) := hi fun W hb => by
                obtain ⟨y', go', oo', hy', _, e', _, _, _, f0, f1, f2, f3⟩ := (HOI.out.below hb (Nat.le_refl _)).read (by rw [HOL.out]; exact hjk)
                cases e'
                rw [HY.out] at hy'
                cases hy'
                exact ⟨f0, f1, f2, f3⟩
              have htk : os.take (j + 1) = os.take j ++ [y] := by rw [List.take_add_one, hy]; rfl
              have HT := hi htk
              obtain ⟨z0, z1, z2, z3⟩ := HKX.out wr HBL.out
              clear hy hmy hfy hgo2 htk z1 z2 z3 d1 d2 d3
              cases p with
              | true =>
                clear z0 d0
                simp only [Bool.toNat_true] at hm33
                have hp := HL.out.2.1
                have HP := hi hp
                have HM := hi HL.out.1
                clear hp HL
                go_wp2
                go_quiet (fail)

                have HB5 := hi (Below.drewN (m := nq) HBL.out)
                have HR5 := hi (own_drew (m := nq) HRL.out)
                obtain ⟨W5, hW5⟩ : ∃ W5, wr.drewN nq = W5 := ⟨_, rfl⟩
                rw [hW5] at HB5 HR5
                obtain ⟨p0, p1, p2, p3⟩ := HKX.out W5 HB5.out
                obtain ⟨r0, r1, r2, r3⟩ := HKY.out W5 HB5.out

                clear p0 p1 p2 p3
                go_wp2_with (first
                  | (at_builtin; refine wpList_append_own _ rfl _ _ 22 rfl wq.heap.size 33 i0 (.agg #[.int .i64 0, .int .i64 0, .int .i64 0, .int .i64 0]) 4 32 Try.underlying22 hi' hz0 hz1 hz2 rfl (by decide) _ _ _ rfl ((HR5.out).alloc _) ⟨W5.heap.size, 0, none⟩ 1 1 y.cs rfl rfl (cell_four_new _ _ _) (by simp [Sp.cs, Value.oneCell']) (by unfold maxLen; omega) (by omega) (by have := HB5.out.size; simp; omega) ?_; intro v9 w9 hown9 hgrow9 _; obtain ⟨g9, cap9, rfl⟩ := ownsRow_succ hown9; have HO9 := hi hown9; have HB9 := hi (HB5.out.trans (own_grown HR5.out hgrow9 (Nat.le_refl _) HB5.out.size)); clear hown9 hgrow9))
                go_roundw
                case rel => exact ⟨j + 1, true, m + 1, _, _, rfl, rfl, by go_num, by omega, by simp only [Bool.toNat_true]; omega, hi ⟨by rw [HT.out, next_put HP.out.symm, List.length_append, ← HM.out]; rfl, by rw [HT.out, putB_snoc, ← HP.out]; rfl, by rw [HT.out, next_put HP.out.symm, flatS_append, flatS_one]; exact HO9.out, HB9.out⟩⟩
                case measure => simp [intOf]; omega
              | false =>
                simp only [Bool.toNat_false, Nat.add_zero] at hm33
                have hp := HL.out.2.1
                have HP := hi hp
                have HM := hi HL.out.1
                clear hp HL
                by_cases hxy : x.b < y.b
                · have hd : decide (x.b < y.b) = true := by simpa using hxy
                  have HXY := hi hxy
                  clear hxy
                  go_wp2
                  go_quiet (fail)

                  have HB5 := hi (Below.drewN (m := nq) HBL.out)
                  have HR5 := hi (own_drew (m := nq) HRL.out)
                  obtain ⟨W5, hW5⟩ : ∃ W5, wr.drewN nq = W5 := ⟨_, rfl⟩
                  rw [hW5] at HB5 HR5
                  obtain ⟨p0, p1, p2, p3⟩ := HKX.out W5 HB5.out
                  obtain ⟨r0, r1, r2, r3⟩ := HKY.out W5 HB5.out

                  clear r0 r1 r2 r3
                  go_wp2_with (first
                    | (at_builtin; refine wpList_append_own _ rfl _ _ 22 rfl wq.heap.size 33 i0 (.agg #[.int .i64 0, .int .i64 0, .int .i64 0, .int .i64 0]) 4 32 Try.underlying22 hi' hz0 hz1 hz2 rfl (by decide) _ _ _ rfl ((HR5.out).alloc _) ⟨W5.heap.size, 0, none⟩ 1 1 x.cs rfl rfl (cell_four_new _ _ _) (by simp [Sp.cs, Value.oneCell']) (by unfold maxLen; omega) (by omega) (by have := HB5.out.size; simp; omega) ?_; intro v8 w8 hown8 hgrow8 _; obtain ⟨g8, cap8, rfl⟩ := ownsRow_succ hown8; have HO8 := hi hown8; have HB8 := hi (HB5.out.trans (own_grown HR5.out hgrow8 (Nat.le_refl _) HB5.out.size)); clear hown8 hgrow8; obtain ⟨q0, q1, q2, q3⟩ := HKY.out w8 HB8.out)
                    | (at_builtin; refine wpList_append_own _ rfl _ _ 22 rfl wq.heap.size 33 i0 (.agg #[.int .i64 0, .int .i64 0, .int .i64 0, .int .i64 0]) 4 32 Try.underlying22 hi' hz0 hz1 hz2 rfl (by decide) _ _ _ rfl ((HO8.out).alloc _) ⟨w8.heap.size, 0, none⟩ 1 1 y.cs rfl rfl (cell_four_new _ _ _) (by simp [Sp.cs, Value.oneCell']) (by unfold maxLen; omega) (by omega) (by have := HB8.out.size; simp; omega) ?_; intro v9 w9 hown9 hgrow9 _; obtain ⟨g9, cap9, rfl⟩ := ownsRow_succ hown9; have HO9 := hi hown9; have HB9 := hi (HB8.out.trans (own_grown HO8.out hgrow9 (Nat.le_refl _) HB8.out.size)); clear hown9 hgrow9))
                  go_roundw
                  case rel => exact ⟨j + 1, true, m + 1 + 1, _, _, rfl, rfl, by go_num, by omega, by simp only [Bool.toNat_true]; omega, hi ⟨by rw [HT.out, next_now HP.out.symm HXY.out, List.length_append, List.length_append, ← HM.out]; rfl, by rw [HT.out, putB_snoc, ← HP.out, hd]; rfl, by rw [HT.out, next_now HP.out.symm HXY.out, flatS_append, flatS_append, flatS_one, flatS_one]; exact HO9.out, HB9.out⟩⟩
                  case measure => simp [intOf]; omega
                · have hd : decide (x.b < y.b) = false := by simpa using hxy
                  clear hxy
                  go_wp2
                  go_quiet (fail)

                  have HB5 := hi (Below.drewN (m := nq) HBL.out)
                  have HR5 := hi (own_drew (m := nq) HRL.out)
                  obtain ⟨W5, hW5⟩ : ∃ W5, wr.drewN nq = W5 := ⟨_, rfl⟩
                  rw [hW5] at HB5 HR5
                  obtain ⟨p0, p1, p2, p3⟩ := HKX.out W5 HB5.out
                  obtain ⟨r0, r1, r2, r3⟩ := HKY.out W5 HB5.out

                  clear p0 p1 p2 p3
                  go_wp2_with (first
                    | (at_builtin; refine wpList_append_own _ rfl _ _ 22 rfl wq.heap.size 33 i0 (.agg #[.int .i64 0, .int .i64 0, .int .i64 0, .int .i64 0]) 4 32 Try.underlying22 hi' hz0 hz1 hz2 rfl (by decide) _ _ _ rfl ((HR5.out).alloc _) ⟨W5.heap.size, 0, none⟩ 1 1 y.cs rfl rfl (cell_four_new _ _ _) (by simp [Sp.cs, Value.oneCell']) (by unfold maxLen; omega) (by omega) (by have := HB5.out.size; simp; omega) ?_; intro v9 w9 hown9 hgrow9 _; obtain ⟨g9, cap9, rfl⟩ := ownsRow_succ hown9; have HO9 := hi hown9; have HB9 := hi (HB5.out.trans (own_grown HR5.out hgrow9 (Nat.le_refl _) HB5.out.size)); clear hown9 hgrow9))
                  go_roundw
                  case rel => exact ⟨j + 1, false, m + 1, _, _, rfl, rfl, by go_num, by omega, by simp only [Bool.toNat_false]; omega, hi ⟨by rw [HT.out]; simp only [nextB, if_neg (show ¬ (false = true) by decide)] at HM ⊢; rw [List.length_append, ← HM.out]; rfl, by rw [HT.out, putB_snoc, ← HP.out, hd]; rfl, by rw [HT.out]; have := HO9.out; simp only [nextB, if_neg (show ¬ (false = true) by decide)] at this ⊢; rw [flatS_append, flatS_one]; exact this, HB9.out⟩⟩
                  case measure => simp [intOf]; omega
            · obtain rfl : k = j := by omega
              have hto : os.take k = os := List.take_of_length_le (by rw [HOL.out]; exact Nat.le_refl _)
              have hsx : sortB (xs.take (k + 1)) = insB x os := by rw [List.take_add_one, HX.out]; show sortB (xs.take k ++ [x]) = _; rw [sortB_snoc, HOS.out]
              have HSX := hi hsx
              have hp := HL.out.2.1
              have hm := HL.out.1
              rw [hto] at hp hm HRL
              have HP := hi hp
              have hil := insB_len x os
              rw [HOL.out] at hil
              cases p with
              | true =>
                rw [show nextB x os true = insB x os from rfl] at hm HRL
                rw [hil] at hm
                have HRK := HRL
                rw [hm] at HRK
                obtain rfl : k + 1 = m := hm.symm
                clear hto hsx hp hil HL hm33 hjk HRL hm
                go_wp2
                go_roundw
                case rel => exact ⟨k + 1, na, nc, rfl, by go_num, by omega, hi ⟨by rw [HSX.out]; exact own_base HRK.out HJ.out.2.size, HJ.out.2.trans (HBL.out.mono HJ.out.2.size)⟩⟩
                case measure => simp [intOf]; omega
              | false =>
                have hne := next_end hp.symm
                have HNE := hi hne
                rw [hne] at hil
                simp only [List.length_append, List.length_cons, List.length_nil] at hil
                have hmk : m = k := by omega
                subst hmk
                obtain ⟨z0, z1, z2, z3⟩ := HKX.out wr HBL.out
                clear hto hsx hp hil HL hm33 hjk hm hne
                go_wp2_with (first
                  | (at_builtin; refine wpList_append_own _ rfl _ _ 22 rfl wq.heap.size 33 i0 (.agg #[.int .i64 0, .int .i64 0, .int .i64 0, .int .i64 0]) 4 32 Try.underlying22 hi' hz0 hz1 hz2 rfl (by decide) _ _ _ rfl ((HRL.out).alloc _) ⟨wr.heap.size, 0, none⟩ 1 1 x.cs rfl rfl (cell_four_new _ _ _) (by simp [Sp.cs, Value.oneCell']) (by unfold maxLen; omega) (by omega) (by have := HBL.out.size; simp; omega) ?_; intro v9 w9 hown9 hgrow9 _; obtain ⟨g9, cap9, rfl⟩ := ownsRow_succ hown9; have HO9 := hi hown9; have HB9 := hi (HBL.out.trans (own_grown HRL.out hgrow9 (Nat.le_refl _) HBL.out.size)); clear hown9 hgrow9))
                go_roundw
                case rel => exact ⟨m + 1, _, _, rfl, by go_num, by omega, hi ⟨by rw [HSX.out, HNE.out, flatS_append, flatS_one]; exact own_base HO9.out HJ.out.2.size, HJ.out.2.trans (HB9.out.mono HJ.out.2.size)⟩⟩
                case measure => simp [intOf]; omega
        · obtain rfl : n = k := by omega
          have hon := HJ.out.1
          have htx : xs.take n = xs := List.take_of_length_le (by rw [HN.out]; exact Nat.le_refl _)
          rw [htx] at hon
          obtain ⟨os, hos⟩ : ∃ os, sortB xs = os := ⟨_, rfl⟩
          rw [hos] at hon
          have hol : os.length = n := by rw [← hos, sortB_len, HN.out]
          have hok : ∀ z ∈ os, z.Ok := fun z hz => all_ok HA.out z ((sortB_perm xs).mem_iff.1 (by rw [hos]; exact hz))
          have hof : ∀ z ∈ os, z.Fair := fun z hz => H.out.fair z ((sortB_perm xs).mem_iff.1 (by rw [hos]; exact hz))
          have hown1 := hon
          rw [← hol] at hown1
          have HOI := hi (spIn_of_own hown1 (by omega) hof)
          obtain ⟨wq, rfl⟩ : ∃ wq : World, wq = wr := ⟨_, rfl⟩
          have HBQ := hi HJ.out.2
          have HOS := hi hos
          have HOL := hi hol
          have HOK := hi hok
          clear hon htx hos hol hof hok hown1 HJ hk hlt
          go_wp2
          go_loopw [10] (fun i wr => ∃ k : Nat, i = .int .i64 k ∧ k ≤ n ∧ Hi (PairsTo os k 0 ∧ Below wq.heap.size wq wr)) (fun i _ => n - (intOf i).toNat)
          case atStart => exact ⟨0, rfl, Nat.zero_le _, hi ⟨fun a b x y _ _ hba h => by omega, Below.refl _ _⟩⟩
          case round =>
            obtain ⟨k, rfl, hk, HJ⟩ := hrel
            by_cases hlt : k < n
            · obtain ⟨wp, rfl⟩ : ∃ wp : World, wp = wr := ⟨_, rfl⟩
              go_wp2
              go_loopw [11] (fun i wr => ∃ j : Nat, i = .int .i64 j ∧ j ≤ k ∧ Hi (PairsTo os k j ∧ Below wq.heap.size wq wr)) (fun i _ => k - (intOf i).toNat)
              case atStart => exact ⟨0, rfl, Nat.zero_le _, HJ⟩
              case round =>
                obtain ⟨j, rfl, hj, HL⟩ := hrel
                by_cases hjk : j < k
                · have hS := HOI.out.below HL.out.2 (Nat.le_refl _)
                  obtain ⟨x, go, oo, hx, hmx, e1, _, _, _, c0, c1, c2, c3⟩ := hS.read (show k < os.length by rw [HOL.out]; exact hlt)
                  obtain ⟨y, go', oo', hy, hmy, e2, _, _, _, d0, d1, d2, d3⟩ := hS.read (show j < os.length by rw [HOL.out]; omega)
                  rw [e1] at e2
                  cases e2
                  subst e1
                  have okx := HOK.out x hmx
                  have oky := HOK.out y hmy
                  have hw1 : IntKind.i64.wrap (y.b + y.s) = y.b + y.s := by rw [IntKind.wrap_i64]; have := oky.e1; have := oky.s1; have := oky.b0; omega
                  have hw2 : IntKind.i64.wrap (x.b + x.s) = x.b + x.s := by rw [IntKind.wrap_i64]; have := okx.e1; have := okx.s1; have := okx.b0; omega
                  have HX := hi hx
                  have HY := hi hy
                  have hjn : j < n := by omega
                  clear hx hy hmx hmy okx oky hS c2 c3 d2 d3
                  by_cases g1 : x.b < y.b + y.s
                  · by_cases g2 : y.b < x.b + x.s
                    · have t1 : decide (x.b < y.b + y.s) = true := by simpa using g1
                      have t2 : decide (y.b < x.b + x.s) = true := by simpa using g2
                      have HNA : Hi (¬ Apart x y) := hi (by unfold Apart; omega)
                      clear g1 g2
                      go_wp2
                      go_quiet (fail)
                      go_wp2
                      go_ret2
                      have he : newE xs = 50 := by
                        rw [newE_go (by rw [HN.out]; omega) HA.out, if_neg]
                        intro hp
                        exact pairs_no HX.out HY.out hjk HNA.out (by rw [← HOS.out]; exact (pairwise_apart_perm (sortB_perm xs)).2 hp)
                      exact ⟨HBQ.out.trans ((Below.drewN HL.out.2).mono HBQ.out.size), .inl ⟨by rw [he]; decide, by rw [he]; rfl⟩⟩
                    · have t1 : decide (x.b < y.b + y.s) = true := by simpa using g1
                      have t2 : decide (y.b < x.b + x.s) = false := by simpa using g2
                      have HAP : Hi (Apart x y) := hi (by unfold Apart; omega)
                      clear g1 g2
                      go_wp2
                      go_quiet (fail)
                      go_wp2
                      go_roundw
                      case rel => exact ⟨j + 1, by go_num, by omega, hi ⟨pairs_step HL.out.1 HX.out HY.out HAP.out, Below.drewN HL.out.2⟩⟩
                      case measure => simp [intOf]; omega
                  · have t1 : decide (x.b < y.b + y.s) = false := by simpa using g1
                    have HAP : Hi (Apart x y) := hi (by unfold Apart; omega)
                    clear g1
                    go_wp2
                    go_quiet (fail)
                    go_wp2
                    go_roundw
                    case rel => exact ⟨j + 1, by go_num, by omega, hi ⟨pairs_step HL.out.1 HX.out HY.out HAP.out, Below.drewN HL.out.2⟩⟩
                    case measure => simp [intOf]; omega
                · obtain rfl : k = j := by omega
                  go_wp2
                  go_roundw
                  case rel => exact ⟨k + 1, by go_num, by omega, hi ⟨fun a b u v hu hv hba h => HL.out.1 a b u v hu hv hba (by omega), HL.out.2⟩⟩
                  case measure => simp [intOf]; omega
            · obtain rfl : n = k := by omega
              have hp := pairs_all (l := os) (by rw [HOL.out]; exact HJ.out.1)
              have he : newE xs = 0 := by rw [newE_go (by rw [HN.out]; omega) HA.out, if_pos ((pairwise_apart_perm (sortB_perm xs)).1 (by rw [HOS.out]; exact hp))]
              have HE := hi he
              clear hp he
              go_wp2
              go_ret2
              have h5 := (HOI.out.below HJ.out.2 (Nat.le_refl _)).mono (Nat.le_refl _) HJ.out.2.size
              rw [HOL.out] at h5
              exact ⟨HBQ.out.trans (HJ.out.2.mono HBQ.out.size), .inr ⟨HE.out, _, rfl, by rw [HOS.out]; exact h5⟩⟩

end Go.Proofs.Ytcdfkdlddmkhmaa
