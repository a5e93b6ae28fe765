/-
  slices.IndexFunc, ContainsFunc at wrong; slices.Values and its iterator; Spans.
-/
import Derived.Test.YtcdfkdlddmkhmaaBusA
import Derived.Test.YtcdfkdlddmkhmaaWin
import Derived.Shelf.Abstract
import Derived.Shelf.RegionOpen
import Derived.OwnWalkIn
import Derived.TacticsInMore
import Derived.LoopNIn
import Derived.LoopIn
namespace Go.Proofs.Ytcdfkdlddmkhmaa
open Go.ChangeShapes Go.WideShapes Go.ChangeAt Go.RowKit Go.Shelf
set_option linter.unusedVariables false
attribute [local go_sem] Oper.semAt_some

theorem below_alloc' {n : Nat} {A B : World} (h : Below n A B) (hn : n ≤ A.heap.size) (o : Obj) : Below n A (B.alloc o) := h.alloc (Nat.le_trans hn h.size) o

def IdxPost (xs : List Sp) (w : World) (e : Ending) (w' : World) : Prop := ∃ r : Int, e = .returned (.int .i64 r) ∧ decide (0 ≤ r) = xs.any (fun x => !okB x) ∧ Below w.heap.size w w'
theorem any_of_get {xs : List Sp} {k : Nat} {x : Sp} (h : xs[k]? = some x) (hx : okB x = false) : xs.any (fun x => !okB x) = true :=
  List.any_eq_true.2 ⟨x, List.mem_of_getElem? h, by simp [hx]⟩
theorem any_of_all {xs : List Sp} (h : ∀ (j : Nat) (x : Sp), xs[j]? = some x → okB x = true) : xs.any (fun x => !okB x) = false := by
  rw [List.any_eq_false]
  intro x hx
  obtain ⟨j, hj⟩ := List.mem_iff_getElem?.1 hx
  simp [h j x hj]

set_option maxHeartbeats 2000000 in
theorem idx_any (lo hi' : Nat) (sv : Value) (xs : List Sp) (w : World) (h : SpIn lo hi' w sv xs) (hh : hi' ≤ w.heap.size) :
    Calls Try.prog 35 #[sv, .func (.func 23) #[] #[]] w (IdxPost xs w) := by
  obtain ⟨a, cap, rfl⟩ := h.slice
  have hl := h.len
  have H := hi h
  obtain ⟨n, hn⟩ : ∃ n, xs.length = n := ⟨_, rfl⟩
  have HN := hi hn
  rw [hn] at hl ⊢
  clear h hn
  go_enter Try.func35, Try.ntmps35
  go_wp2
  go_loopw [8] (fun i wr => ∃ k : Nat, i = .int .i64 k ∧ k ≤ n ∧ Hi ((∀ (j : Nat) (x : Sp), j < k → xs[j]? = some x → okB x = true) ∧ Below w.heap.size w wr)) (fun i _ => n - (intOf i).toNat)
  case atStart => exact ⟨0, rfl, Nat.zero_le _, hi ⟨fun j x h => by omega, Below.refl _ _⟩⟩
  case round =>
    obtain ⟨k, rfl, hk, HJ⟩ := hrel
    by_cases hlt : k < n
    · have H2 := H.out.below HJ.out.2 hh
      rw [← HN.out] at hlt
      obtain ⟨x, g, o, hx, hm, rfl, hg1, hg2, hfair, c0, c1, c2, c3⟩ := H2.read hlt
      rw [HN.out] at hlt
      have HX := hi hx
      have HF := hi hfair
      clear hx hfair hm hg1 hg2 H2
      cases hok : okB x
      · have HC := hi (wrong_any x)
        have HOK := hi hok
        clear hok
        go_wp2_with (go_at_call 23; ((with_reducible refine (HC.out _ HF.out).mono ?_); rintro e w1 ⟨rfl, rfl⟩; rw [HOK.out]; dsimp only [Bool.not_false]))
        go_ret
        exact ⟨_, rfl, by rw [any_of_get HX.out HOK.out]; simp, below_alloc' HJ.out.2 (Nat.le_refl _) _⟩
      · have HC := hi (wrong_any x)
        have HOK := hi hok
        clear hok
        go_wp2_with (go_at_call 23; ((with_reducible refine (HC.out _ HF.out).mono ?_); rintro e w1 ⟨rfl, rfl⟩; rw [HOK.out]; dsimp only [Bool.not_true]))
        go_roundw
        case rel => exact ⟨k + 1, by go_num, by omega, hi ⟨fun j y hj hy => by
          rcases Nat.lt_or_ge j k with q | q
          · exact HJ.out.1 j y q hy
          · obtain rfl : j = k := by omega
            rw [HX.out] at hy
            cases hy
            exact HOK.out, below_alloc' HJ.out.2 (Nat.le_refl _) _⟩⟩
        case measure => simp [intOf]; omega
    · obtain rfl : k = n := by omega
      go_wp2
      go_ret
      exact ⟨_, rfl, by rw [any_of_all (fun j x hx => HJ.out.1 j x (by have := (List.getElem?_eq_some_iff.1 hx).1; have := HN.out; omega) hx)]; simp, HJ.out.2⟩

theorem contains_any (lo hi' : Nat) (sv : Value) (xs : List Sp) (w : World) (h : SpIn lo hi' w sv xs) (hh : hi' ≤ w.heap.size) :
    Calls Try.prog 22 #[sv, .func (.func 23) #[] #[]] w fun e w' => e = .returned (.bool (xs.any fun x => !okB x)) ∧ Below w.heap.size w w' := by
  have HC := hi (idx_any lo hi' sv xs w h hh)
  obtain ⟨r, hr⟩ : ∃ r, (xs.any fun x => !okB x) = r := ⟨_, rfl⟩
  have HR := hi hr
  rw [hr]
  clear h hr
  go_enter Try.func22, Try.ntmps22
  go_wp2_with (go_at_call 35; ((with_reducible refine HC.out.mono ?_); rintro e w1 ⟨r', rfl, he, hb⟩; have HE := hi he; clear he))
  go_ret
  exact ⟨by rw [← HR.out, ← HE.out]; rfl, hb⟩

/-! ### slices.Values -/
theorem values_any (sv : Value) (w : World) (a : Option Addr) (n cap : Nat) :
    Calls Try.prog 25 #[.slice a n cap] w fun e w' => e = .returned (.func (.func 38) #[] #[.pointer (some ⟨w.heap.size, 0, none⟩)]) ∧ w' = w.alloc (.cells #[.slice a n cap] 22) := by
  go_enter Try.func25, Try.ntmps25
  go_wp2
  go_ret
  exact ⟨rfl, rfl⟩

set_option maxRecDepth 100000 in
set_option maxHeartbeats 2000000 in
theorem values1_any (l Bs lo n₀ : Nat) (sv : Value) (xs : List Sp) (J Jx : List Sp → World → Prop) (W : World) (hn₀ : n₀ ≤ W.heap.size) (hJ : AbW W.heap.size 0 J)
    (hY : ∀ (pre : List Sp) (x : Sp) (W1 : World), J pre W1 → pre ++ [x] <+: xs → W.heap.size + 0 ≤ W1.heap.size → ∀ m, YieldAt Fence.wide m Try.prog l #[x.v] W1 fun e W' =>
      (e = .returned (.bool true) ∧ J (pre ++ [x]) W' ∧ Below n₀ W1 W') ∨ (e = .returned (.bool false) ∧ Jx (pre ++ [x]) W' ∧ Below n₀ W1 W'))
    (hBs : W.cell? ⟨Bs, 0, none⟩ = some sv) (h : SpIn lo n₀ W sv xs) (h0 : J [] W) :
    Calls Try.prog 38 #[.func (.yield l) #[] #[], .pointer (some ⟨Bs, 0, none⟩)] W fun e W' => (∃ v, e = .returned v) ∧
      ((∃ ys, ys = xs ∧ J ys W') ∨ (∃ pre, pre <+: xs ∧ Jx pre W')) := by
  obtain ⟨a, cap, rfl⟩ := h.slice
  have hl := h.len
  have H := hi h
  have HYY := hi hY
  have HJ := hi hJ
  obtain ⟨n, hn⟩ : ∃ n, xs.length = n := ⟨_, rfl⟩
  have HN := hi hn
  rw [hn] at hl hBs
  clear h hn hY hJ
  refine (callsIn_wide (n := 3)).1 ?_
  refine callsIn_of_wp Try.func38 rfl trivial ?_ rfl
  simp only [Try.ntmps38, List.size_toArray, List.length_cons, List.length_nil, Nat.reduceAdd, Nat.reduceSub, Array.replicate_succ, Array.replicate_zero, List.push_toArray, List.append_toArray, List.nil_append, List.cons_append]
  gi_wp2
  gi_loopw [7] (fun i wr => ∃ k : Nat, k ≤ n ∧ i = .int .i64 k ∧ Hi (J (xs.take k) wr ∧ Below n₀ W wr))
    (fun i _ => n - (intOf i).toNat)
  case atStart => exact ⟨0, Nat.zero_le _, rfl, hi ⟨by simpa using h0, Below.refl _ _⟩⟩
  case round =>
    obtain ⟨k, hk, rfl, HR⟩ := hrel
    by_cases hlt : k < n
    · have H2 := H.out.below HR.out.2 (Nat.le_refl _)
      rw [← HN.out] at hlt
      obtain ⟨x, g, o, hx, hm, rfl, hg1, hg2, hfair, c0, c1, c2, c3⟩ := H2.read hlt
      have hts : xs.take (k + 1) = xs.take k ++ [x] := by rw [List.take_add_one, hx]; rfl
      have ht : xs.take k ++ [x] <+: xs := by rw [← hts]; exact List.take_prefix _ _
      obtain ⟨fn, tmps, assign, body, hy, hRd⟩ := HYY.out (xs.take k) x (wr.alloc (.cells #[.int .i64 x.b, .int .i64 x.s, .int .i64 x.k, .int .i64 x.i] 33)) (HJ.out.alloc _ HR.out.1) ht (by have := HR.out.2.size; simp; omega) (3 - 1)
      rw [HN.out] at hlt
      have HT := hi hts
      dsimp only [Sp.v] at hy
      clear hx hfair hm hg1 hg2 H2 hts ht
      gi_wp2
      refine hRd.mono ?_
      rintro e W3 (⟨rfl, hJ3, hk3⟩ | ⟨rfl, hJx3, _⟩)
      · gi_wp2
        go_roundw
        case rel => exact ⟨k + 1, by omega, by go_num, hi ⟨by rw [HT.out]; exact hJ3, (HR.out.2.alloc (by have := HR.out.2.size; omega) _).trans hk3⟩⟩
        case measure => simp [intOf]; omega
      · gi_wp2
        refine bodyPost_ret (results_none rfl _ _ _) rfl ?_
        exact ⟨⟨_, rfl⟩, .inr ⟨_, by rw [← HT.out]; exact List.take_prefix _ _, hJx3⟩⟩
    · obtain rfl : k = n := by omega
      gi_wp2
      go_end0
      exact ⟨⟨_, rfl⟩, .inl ⟨xs, rfl, by have := HR.out.1; rw [List.take_of_length_le (by rw [HN.out]; exact Nat.le_refl _)] at this; exact this⟩⟩

theorem values_stops (Bs lo n₀ : Nat) (sv : Value) (xs : List Sp) (w : World) (hBs : Bs < w.heap.size) (hn₀ : n₀ ≤ w.heap.size) (hc : w.cell? ⟨Bs, 0, none⟩ = some sv) (h : SpIn lo n₀ w sv xs) :
    SeqW 0 Try.prog 38 #[.pointer (some ⟨Bs, 0, none⟩)] (fun x : Sp => #[x.v]) (fun _ => Below n₀) (fun ys => ys = xs) (fun pre => pre <+: xs) (fun pre x => pre ++ [x] <+: xs) w := fun l J Jx W hW hJ hJx hY h0 =>
  values1_any l Bs lo n₀ sv xs J Jx W (by have := hW.size; omega) hJ hY ((hW.cell (p := ⟨Bs, 0, none⟩) hBs).trans hc) (h.below hW hn₀) h0

/-! ### The bus -/
/-- The pointer p leads to a bus of the spans xs, all of it in blocks from lo up to hi. -/
structure BusAt (lo hi : Nat) (W : World) (p : Nat) (sv : Value) (xs : List Sp) : Prop where
  box : Boxed W p 59 sv
  p1 : lo ≤ p
  p2 : p < hi
  sp : SpIn lo hi W sv xs
theorem BusAt.kept {lo hi : Nat} {A W : World} {p : Nat} {sv : Value} {xs : List Sp} (h : BusAt lo hi A p sv xs) (k : ∀ i, lo ≤ i → i < hi → W.heap[i]? = A.heap[i]?) : BusAt lo hi W p sv xs :=
  ⟨(k p h.p1 h.p2).trans h.box, h.p1, h.p2, h.sp.kept k⟩
theorem BusAt.below {lo hi n : Nat} {A W : World} {p : Nat} {sv : Value} {xs : List Sp} (h : BusAt lo hi A p sv xs) (k : Below n A W) (hn : hi ≤ n) : BusAt lo hi W p sv xs := h.kept fun i _ b => k.block i (by omega)
theorem BusAt.mono {lo hi lo' hi' : Nat} {A : World} {p : Nat} {sv : Value} {xs : List Sp} (h : BusAt lo hi A p sv xs) (h1 : lo' ≤ lo) (h2 : hi ≤ hi') : BusAt lo' hi' A p sv xs :=
  ⟨h.box, by have := h.p1; omega, by have := h.p2; omega, h.sp.mono h1 h2⟩

theorem spans_any (lo hi' p : Nat) (sv : Value) (xs : List Sp) (w : World) (h : BusAt lo hi' w p sv xs) :
    Calls Try.prog 30 #[.pointer (some ⟨p, 0, none⟩)] w fun e w' => e = .returned (.func (.func 38) #[] #[.pointer (some ⟨w.heap.size, 0, none⟩)]) ∧ w' = w.alloc (.cells #[sv] 22) := by
  obtain ⟨a, cap, rfl⟩ := h.sp.slice
  have hc := h.box.cell
  have HV := hi (values_any (.bool true) w a xs.length cap)
  clear h
  go_enter Try.func30, Try.ntmps30
  go_wp2_with (go_at_call 25; ((with_reducible refine HV.out.mono ?_); rintro e w1 ⟨rfl, rfl⟩))
  go_ret
  exact ⟨rfl, rfl⟩

end Go.Proofs.Ytcdfkdlddmkhmaa
