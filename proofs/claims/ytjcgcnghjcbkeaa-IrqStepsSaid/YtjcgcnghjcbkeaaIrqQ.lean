/-
  Play's iterator, for every loop body: the states in their order, or a first part of them where the body stops.
-/
import Derived.Test.YtjcgcnghjcbkeaaIrqP
namespace Go.Proofs.Ytjcgcnghjcbkeaa
open Go.ChangeShapes Go.WideShapes Go.ChangeAt Go.RowKit Go.Shelf
set_option linter.unusedVariables false
attribute [local go_sem] Oper.semAt_some

set_option maxRecDepth 100000 in
set_option maxHeartbeats 4000000 in
theorem play1_any (l c c2 : Nat) (v : Value) (x : St) (ks : List Int) (J Jx : List St → World → Prop) (W : World) (hc : c2 ≤ W.heap.size) (hl : ks.length ≤ 17592186044416) (hJ : AbW W.heap.size 1 J)
    (hY : ∀ (pre : List St) (y : St) (W1 : World), J pre W1 → pre ++ [y] <+: path x ks → W.heap.size + 1 ≤ W1.heap.size → ∀ m, YieldAt Fence.wide m Try.prog l #[y.v] W1 fun e W' =>
      (e = .returned (.bool true) ∧ J (pre ++ [y]) W' ∧ KpP c c2 W.heap.size W1 W') ∨ (e = .returned (.bool false) ∧ Jx (pre ++ [y]) W' ∧ KpP c c2 W.heap.size W1 W'))
    (hb : PlayBox c c2 x ks v W) (h0 : J [] W) :
    Calls Try.prog 27 #[.func (.yield l) #[] #[], .pointer (some ⟨c, 0, none⟩), .pointer (some ⟨c + 1, 0, none⟩)] W fun e W' => (∃ v, e = .returned v) ∧
      ((∃ ys, ys = path x ks ∧ J ys W') ∨ (∃ pre, pre <+: path x ks ∧ Jx pre W')) := by
  obtain ⟨a, cap, rfl⟩ := hb.ints.slice
  have HB := hi hb
  have HYY := hi hY
  have HJ := hi hJ
  obtain ⟨n, hn⟩ : ∃ n, ks.length = n := ⟨_, rfl⟩
  have HN := hi hn
  have c0 := (hb.st).cells (x := x)
  obtain ⟨c00, c01, c02, c03⟩ := c0
  have c1 := (hb.acts).cell 0
  rw [hn] at hl c1
  simp only [List.getElem?_toArray, List.getElem?_cons_zero] at c1
  have hJ1 : J [] (W.alloc (.cells x.cs 23)) := hJ.alloc _ h0
  have hst : PI c c2 W.heap.size W (x.upto ks 0) (J []) (W.alloc (.cells x.cs 23)) := ⟨by rw [upto_zero]; exact CB.new W _ _, fun i _ h2 => (bal W _).block i (by omega), by simp, hJ1⟩
  have HST := hi hst
  have hlc : c + 1 < W.heap.size := hb.acts.lt
  clear hb hn hY hJ hJ1 hst h0
  dsimp only [St.v, St.cs] at *
  refine (callsIn_wide (n := 3)).1 ?_
  refine callsIn_of_wp Try.func27 rfl trivial ?_ rfl
  simp only [Try.ntmps27, List.size_toArray, List.length_cons, List.length_nil, Nat.reduceAdd, Nat.reduceSub, Array.replicate_succ, Array.replicate_zero, List.push_toArray, List.append_toArray, List.nil_append, List.cons_append]
  gi_wp2
  gi_loopw [10] (fun i wr => ∃ k : Nat, k ≤ n ∧ i = .int .i64 k ∧ Hi (PI c c2 W.heap.size W (x.upto ks k) (J ((path x ks).take k)) wr))
    (fun i _ => n - (intOf i).toNat)
  case atStart => exact ⟨0, Nat.zero_le _, rfl, HST⟩
  case round =>
    obtain ⟨k, hk, rfl, HP⟩ := hrel
    clear HST c00 c01 c02 c03 c1
    by_cases hlt : k < n
    · have hlt' : k < ks.length := by rw [HN.out]; exact hlt
      have hin := HB.out.ints.kept HP.out.cap
      rw [HN.out] at hin
      obtain ⟨g, o, rfl, c0⟩ := hin.read hlt
      have hts := path_take (x := x) hlt'
      have ht : (path x ks).take k ++ [x.upto ks (k + 1)] <+: path x ks := by rw [← hts]; exact List.take_prefix _ _
      have hu := upto_succ (x := x) hlt'
      have HC := hi (fun V => step_any (x.upto ks k) (nth ks k) V)
      rw [← hu] at HC
      obtain ⟨A, hA⟩ : ∃ A, nth ks k = A := ⟨_, rfl⟩
      rw [hA] at c0 HC
      clear hu hA hin hlt'
      have HT := hi hts
      have HPX := hi ht
      obtain ⟨z, hz⟩ : ∃ z, x.upto ks (k + 1) = z := ⟨_, rfl⟩
      have HZ := hi hz
      rw [hz] at HC HT HPX
      obtain ⟨r0, r1, r2, r3⟩ := HP.out.now.cells
      have HJk : Hi (AbW W.heap.size 1 (fun (_ : Unit) V => J ((path x ks).take k) V)) := hi (fun s A A' row hs hg hr => HJ.out _ A A' row hs hg hr)
      clear hts ht hz
      dsimp only [St.v] at HC HYY
      gi_wp2_with (first
        | (refine ⟨trivial, ?_⟩; gi_at_call 12; ((with_reducible refine (callsIn_wide.2 (HC.out _)).mono ?_); rintro e' w1 ⟨rfl, hb⟩; have HQ := hi (PI.call HJk.out hc HP.out hb z); obtain ⟨fn, tmps, assign, body, hy, hRd⟩ := HYY.out _ z _ HQ.out.j HPX.out HQ.out.size (3 - 1); have hnow := HP.out.now.below hb; obtain ⟨d0, d1, d2, d3⟩ := hnow.cells; have f := hnow.frozen; clear hb hnow))
        | gi_in)
      refine hRd.mono ?_
      rintro e W3 (⟨rfl, hJ3, hk3⟩ | ⟨rfl, hJx3, _⟩)
      · gi_wp2
        go_roundw
        case rel =>
          have hn3 : CB W3 W.heap.size 23 z.cs := (hk3 _ (by omega)).trans HQ.out.now
          exact ⟨k + 1, by omega, by go_num, hi ⟨by rw [HZ.out]; exact hn3, fun i h1 h2 => (hk3 i (by omega)).trans (HQ.out.cap i h1 h2), hn3.lt, by rw [HT.out]; exact hJ3⟩⟩
        case measure => simp [intOf]; omega
      · gi_wp2
        refine bodyPost_ret (results_none rfl _ _ _) rfl ?_
        exact ⟨⟨_, rfl⟩, .inr ⟨_, HPX.out, hJx3⟩⟩
    · obtain rfl : k = n := by omega
      gi_wp2
      go_end0
      exact ⟨⟨_, rfl⟩, .inl ⟨_, rfl, by have := HP.out.j; rw [List.take_of_length_le (by rw [path_len, HN.out]; exact Nat.le_refl _)] at this; exact this⟩⟩

theorem play_stops (c c2 : Nat) (v : Value) (x : St) (ks : List Int) (w : World) (hc : c2 ≤ w.heap.size) (hl : ks.length ≤ 17592186044416) (hb : PlayBox c c2 x ks v w) :
    SeqW 1 Try.prog 27 #[.pointer (some ⟨c, 0, none⟩), .pointer (some ⟨c + 1, 0, none⟩)] (fun y : St => #[y.v]) (KpP c c2) (fun ys => ys = path x ks) (fun pre => pre <+: path x ks) (fun pre y => pre ++ [y] <+: path x ks) w := fun l J Jx W hW hJ hJx hY h0 =>
  play1_any l c c2 v x ks J Jx W (by have := hW.size; omega) hl hJ hY (hb.kept fun i _ h2 => hW.block i (by omega)) h0

end Go.Proofs.Ytjcgcnghjcbkeaa
