import Derived.Test.YtieedhdmpabfkaaGreatMg02
import Derived.Test.YtieedhdmpabfkaaGreatMg31
import Derived.Test.YtieedhdmpabfkaaGreatMg19
import Derived.Deep.OwnRows
set_option linter.unusedSimpArgs false
namespace Go.Proofs.YtieedhdmpabfkaaGreat
open Go.ChangeShapes Go.WideShapes Go.ChangeAt Go.RowKit Go.Shelf
set_option linter.unusedVariables false
attribute [local go_sem] Oper.semAt_some
def Ds.new (n m : Nat) : Ds := ⟨false, false, List.replicate n ⟨edgesV 16, false⟩, fresh m Rt.zero⟩
theorem Ds.new_len (n m : Nat) : (Ds.new n m).cs.length = n := List.length_replicate
theorem Ds.new_sh (n m : Nat) : (Ds.new n m).sh.length = m := List.length_replicate
theorem Ds.new_nth {n m k : Nat} (h : k < n) : (Ds.new n m).nth k = ⟨edgesV 16, false⟩ := by
 unfold Ds.nth Ds.new
 rw [List.getElem?_replicate, if_pos h]
 rfl
theorem nthE_fresh (m k : Nat) (s : Rt) (hk : k < m) : nthE (fresh m s) k = ⟨Ln.zero, s⟩ := by simp [nthE, fresh, hk]
theorem Ds.new_ok {n m : Nat} (h1 : 1 ≤ n) (h8 : n ≤ 8) (hm : m ≤ 64) : (Ds.new n m).Ok := by
 refine ⟨by rw [Ds.new_len]; exact h1, by rw [Ds.new_len]; exact h8, by rw [Ds.new_sh]; exact hm, fun k hk => ?_, fun k hk => ?_, fresh_fine _ _, fun k hk => ?_⟩
 ·rw [Ds.new_len] at hk; rw [Ds.new_nth hk]; have q := edgesV_len 16; generalize edgesV 16 = E at q ⊢; exact q
 ·rw [Ds.new_len] at hk; rw [Ds.new_nth hk]; have q := edgesV_fine 16; generalize edgesV 16 = E at q ⊢; exact q
 ·rw [Ds.new_sh] at hk
  show 0 ≤ (nthE (fresh m Rt.zero) k).s.c ∧ (nthE (fresh m Rt.zero) k).s.c ≤ 255
  rw [nthE_fresh _ _ _ hk]
  exact ⟨by decide, by decide⟩
def Vd (k i : Nat) : Prop := i < 4 + 2 * k ∧ i ≠ 2 ∧ i ≠ 3
structure NwI (lo n k : Nat) (b c : Nat → Nat) (W : World) : Prop where
 z0 : b 0 = lo + 1
 z1 : b 1 = lo
 box : CB W (lo + 1) 83 #[.bool false, .bool false, .slice (some ⟨lo, 0, none⟩) n n, .pointer none]
 row : ∃ vs, Row W lo 86 vs ∧ vs.length = 2 * n ∧ (∀ i, i < k → vs[i * 2]? = some (.pointer (some ⟨b (4 + 2 * i), 0, none⟩))) ∧ ∀ i, i < n → vs[i * 2 + 1]? = some (.bool false)
 own : ∀ i, i < k → BkAt W (b (4 + 2 * i)) (b (5 + 2 * i)) (c (2 + i)) 0 (edgesV 16)
 inj : ∀ i j, Vd k i → Vd k j → i ≠ j → b i ≠ b j
 rng : ∀ i, Vd k i → lo ≤ b i ∧ b i < W.heap.size
def upd (b : Nat → Nat) (j x y : Nat) (i : Nat) : Nat := if i = j then x else if i = j + 1 then y else b i
theorem upd_a (b : Nat → Nat) (j x y : Nat) : upd b j x y j = x := by simp [upd]
theorem upd_b (b : Nat → Nat) (j x y : Nat) : upd b j x y (j + 1) = y := by simp [upd]
theorem upd_o (b : Nat → Nat) {j x y i : Nat} (h : i ≠ j) (h2 : i ≠ j + 1) : upd b j x y i = b i := by simp [upd, h, h2]
theorem upd_inj {b : Nat → Nat} {V : Nat → Prop} {j x y s : Nat} (hi' : ∀ i i', V i → V i' → i ≠ i' → b i ≠ b i') (hs : ∀ i, V i → b i < s) (hx : s ≤ x) (hy : s ≤ y) (hne : x ≠ y) :
  ∀ i i', (V i ∨ i = j ∨ i = j + 1) → (V i' ∨ i' = j ∨ i' = j + 1) → i ≠ i' → upd b j x y i ≠ upd b j x y i' := by
 intro i i' h h' hn
 unfold upd
 have k1 := hs i
 have k2 := hs i'
 have k3 := hi' i i'
 split <;> split <;> (try split) <;> (try split) <;> (try omega)
 ·have := k2 (by rcases h' with q | q | q <;> first | exact q | omega); omega
 ·have := k2 (by rcases h' with q | q | q <;> first | exact q | omega); omega
 ·have := k1 (by rcases h with q | q | q <;> first | exact q | omega); omega
 ·have := k1 (by rcases h with q | q | q <;> first | exact q | omega); omega
 ·exact k3 (by rcases h with q | q | q <;> first | exact q | omega) (by rcases h' with q | q | q <;> first | exact q | omega) hn
theorem made_two (n j : Nat) (h : j < 2 * n) : (madeCells #[.pointer none, .bool false] (n * 2)).toList[j]? = some (if j % 2 = 0 then .pointer none else .bool false) := by
 have h1 : j < (madeCells #[.pointer none, .bool false] (n * 2)).size := by rw [size_madeCells]; omega
 rw [Array.getElem?_toList, Array.getElem?_eq_getElem h1]
 simp only [madeCells, Array.getElem_map, Array.getElem_range, Option.some.injEq]
 rcases Nat.mod_two_eq_zero_or_one j with e | e <;> simp [e]
theorem NwI.start (w : World) (n : Nat) : NwI w.heap.size n 0 (fun i => if i = 0 then w.heap.size + 1 else w.heap.size) (fun _ => 0) ((w.alloc (.cells (madeCells #[.pointer none, .bool false] (n * 2)) 86)).alloc (.cells #[.bool false, .bool false, .slice (some ⟨w.heap.size, 0, none⟩) n n, .pointer none] 83)) := by
 refine ⟨rfl, rfl, cb_second, ⟨_, ⟨_, (CB.new w _ _).alloc _, List.prefix_refl _⟩, ?_, fun i h => by omega, fun i h => ?_⟩, fun i h => by omega, fun i j h1 h2 h3 => ?_, fun i h => ?_⟩
 ·rw [Array.length_toList, size_madeCells]; omega
 ·rw [made_two n _ (by omega), if_neg (by omega)]
 ·obtain ⟨q1, q2, q3⟩ := h1
  obtain ⟨r1, r2, r3⟩ := h2
  (try dsimp only)
  split <;> split <;> omega
 ·(try dsimp only)
  rw [World.size_alloc, World.size_alloc]
  split <;> omega
theorem NwI.step {lo n k : Nat} {b c : Nat → Nat} {W W1 : World} (h : NwI lo n k b c W) (hk : k < n) {B G cap : Nat} (hB : BkAt W1 B G cap 0 (edgesV 16)) (hb : Below W.heap.size W W1) (h1 : W.heap.size ≤ B) (h2 : W.heap.size ≤ G) :
  NwI lo n (k + 1) (upd b (4 + 2 * k) B G) (fun i => if i = 2 + k then cap else c i) (W1.setCell ⟨lo, k * 2, none⟩ (.pointer (some ⟨B, 0, none⟩))) := by
 have hl1 := h.box.lt
 obtain ⟨vs, hr, hv1, hv2, hv3⟩ := h.row
 have hl0 := hr.lt
 have hbl := hB.box.lt
 have hgl := hB.row.lt
 have S : ∀ i, i ≠ lo → (W1.setCell ⟨lo, k * 2, none⟩ (.pointer (some ⟨B, 0, none⟩))).heap[i]? = W1.heap[i]? := fun i hne => Below.heap_setCell W1 ⟨lo, k * 2, none⟩ _ _ hne
 refine ⟨by rw [upd_o _ (by omega) (by omega)]; exact h.z0, by rw [upd_o _ (by omega) (by omega)]; exact h.z1, (h.box.below hb).heap (S _ (by omega)), ⟨vs.set (k * 2) (.pointer (some ⟨B, 0, none⟩)), (hr.below hb).set _ (by omega), by rw [List.length_set]; exact hv1, fun i hi => ?_, fun i hi => ?_⟩, fun i hi => ?_, ?_, fun i hi => ?_⟩
 ·by_cases e : i = k
  ·subst e
   rw [List.getElem?_set_self (by omega), upd_a]
  ·rw [List.getElem?_set_ne (by omega), hv2 i (by omega), upd_o _ (by omega) (by omega)]
 ·rw [List.getElem?_set_ne (by omega), hv3 i hi]
 ·by_cases e : i = k
  ·subst e
   rw [upd_a, show 5 + 2 * i = 4 + 2 * i + 1 by omega, upd_b]
   simp only [if_true]
   exact ⟨hB.box.heap (S _ (by omega)), hB.row.heap (S _ (by omega)), hB.ne⟩
  ·rw [upd_o _ (by omega) (by omega), upd_o _ (by omega) (by omega)]
   (try dsimp only)
   rw [if_neg (by omega)]
   have z := (h.own i (by omega)).below hb
   have n1 := h.inj (4 + 2 * i) 1 ⟨by omega, by omega, by omega⟩ ⟨by omega, by omega, by omega⟩ (by omega)
   have n2 := h.inj (5 + 2 * i) 1 ⟨by omega, by omega, by omega⟩ ⟨by omega, by omega, by omega⟩ (by omega)
   rw [h.z1] at n1 n2
   exact z.heap (S _ n1) (S _ n2)
 ·have := upd_inj (V := Vd k) (j := 4 + 2 * k) h.inj (fun i q => (h.rng i q).2) h1 h2 hB.ne
  intro i j q1 q2
  refine this i j ?_ ?_
  ·obtain ⟨a1, a2, a3⟩ := q1; unfold Vd; omega
  ·obtain ⟨a1, a2, a3⟩ := q2; unfold Vd; omega
 ·have hs := hb.size
  have hlo := (h.rng 1 ⟨by omega, by omega, by omega⟩)
  rw [h.z1] at hlo
  rw [World.size_setCell]
  obtain ⟨q1, q2, q3⟩ := hi
  by_cases e1 : i = 4 + 2 * k
  ·subst e1; rw [upd_a]; omega
  ·by_cases e2 : i = 4 + 2 * k + 1
   ·subst e2; rw [upd_b]; omega
   ·rw [upd_o _ e1 e2]
    have := h.rng i ⟨by omega, q2, q3⟩
    omega
theorem NwI.row_at {lo n k : Nat} {b c : Nat → Nat} {W W1 : World} (h : NwI lo n k b c W) (hk : k < n) (hb : Below W.heap.size W W1) : (∃ v, W1.cell? ⟨lo, k * 2, none⟩ = some v) ∧ W1.frozen? ⟨lo, k * 2, none⟩ = false := by
 obtain ⟨vs, hr, hv1, hv2, hv3⟩ := h.row
 have hl : k * 2 < vs.length := by omega
 exact ⟨⟨vs[k * 2], by rw [(hr.below hb).cell hl, List.getElem?_eq_getElem hl]⟩, (hr.below hb).frozen _⟩
theorem NwI.done {lo n m : Nat} {b c : Nat → Nat} {W W1 : World} (h : NwI lo n n b c W) {B G cap : Nat} (hB : BkAt W1 B G cap 32 (fresh m Rt.zero)) (hb : Below W.heap.size W W1) (h1 : W.heap.size ≤ B) (h2 : W.heap.size ≤ G) :
  ∃ b' c', b' 0 = lo + 1 ∧ DiAt (W1.setCell ⟨lo + 1, 3, none⟩ (.pointer (some ⟨B, 0, none⟩))) lo (W1.setCell ⟨lo + 1, 3, none⟩ (.pointer (some ⟨B, 0, none⟩))).heap.size b' c' (Ds.new n m) := by
 have hl1 := h.box.lt
 obtain ⟨vs, hr, hv1, hv2, hv3⟩ := h.row
 have hl0 := hr.lt
 have hbl := hB.box.lt
 have hgl := hB.row.lt
 have hs := hb.size
 have S : ∀ i, i ≠ lo + 1 → (W1.setCell ⟨lo + 1, 3, none⟩ (.pointer (some ⟨B, 0, none⟩))).heap[i]? = W1.heap[i]? := fun i hne => Below.heap_setCell W1 ⟨lo + 1, 3, none⟩ _ _ hne
 have u0 : upd b 2 B G 0 = lo + 1 := by rw [upd_o _ (by omega) (by omega)]; exact h.z0
 have u1 : upd b 2 B G 1 = lo := by rw [upd_o _ (by omega) (by omega)]; exact h.z1
 have u3 : upd b 2 B G 3 = G := upd_b b 2 B G
 have uo : ∀ i, upd b 2 B G (4 + i) = b (4 + i) := fun i => upd_o _ (by omega) (by omega)
 have hlen := Ds.new_len n m
 have hvd : ∀ i, i < 4 + 2 * n → Vd n i ∨ i = 2 ∨ i = 2 + 1 := fun i q => by unfold Vd; omega
 refine ⟨upd b 2 B G, fun i => if i = 0 then n else if i = 1 then cap else c i, u0, ⟨?_, ?_, ?_, fun k hk => ?_, ?_, fun i hi => ?_, Nat.le_refl _⟩⟩
 ·rw [u0, u1, upd_a, hlen]
  exact (h.box.below hb).set 3 (.pointer (some ⟨B, 0, none⟩))
 ·rw [u1]
  have e : flat encCo ((Ds.new n m).prs (upd b 2 B G)) = vs := by
   apply List.ext_getElem?
   intro j
   by_cases hj : j < 2 * n
   ·obtain ⟨i, hi, e⟩ : ∃ i, i < n ∧ (j = i * 2 ∨ j = i * 2 + 1) := ⟨j / 2, by omega, by omega⟩
    have hp := Ds.prs_at (b := upd b 2 B G) (show i < (Ds.new n m).cs.length by rw [hlen]; exact hi)
    rw [Ds.new_nth hi] at hp
    rcases e with rfl | rfl
    ·have g := flat_get encCo_len _ i 0 _ (by decide) hp
     rw [Nat.add_zero] at g
     rw [g, hv2 i hi, ← uo (2 * i)]
     rfl
    ·rw [flat_get encCo_len _ i 1 _ (by decide) hp, hv3 i hi]
     rfl
   ·rw [List.getElem?_eq_none (by rw [flat_len encCo_len, Ds.prs_len, hlen]; omega), List.getElem?_eq_none (by omega)]
  rw [e]
  exact (hr.below hb).heap (S _ (by omega))
 ·rw [u3, upd_a]
  exact hB.heap (S _ (by omega)) (S _ (by omega))
 ·rw [hlen] at hk
  rw [Ds.new_nth hk, uo, show 5 + 2 * k = 4 + (2 * k + 1) by omega, uo]
  dsimp only
  rw [if_neg (by omega), if_neg (by omega)]
  have z := (h.own k hk).below hb
  have n1 := h.inj (4 + 2 * k) 0 ⟨by omega, by omega, by omega⟩ ⟨by omega, by omega, by omega⟩ (by omega)
  have n2 := h.inj (5 + 2 * k) 0 ⟨by omega, by omega, by omega⟩ ⟨by omega, by omega, by omega⟩ (by omega)
  rw [h.z0] at n1 n2
  rw [show 4 + (2 * k + 1) = 5 + 2 * k by omega]
  exact z.heap (S _ n1) (S _ n2)
 ·rw [hlen]
  have := upd_inj (V := Vd n) (j := 2) h.inj (fun i q => (h.rng i q).2) h1 h2 hB.ne
  intro i j q1 q2
  exact this i j (hvd i q1) (hvd j q2)
 ·rw [hlen] at hi
  rw [World.size_setCell]
  have hlo := (h.rng 1 ⟨by omega, by omega, by omega⟩)
  rw [h.z1] at hlo
  rcases hvd i hi with q | rfl | rfl
  ·rw [upd_o _ q.2.1 q.2.2]
   have := h.rng i q
   omega
  ·rw [upd_a]; omega
  ·rw [upd_b]; omega
def MadeD (w : World) (n m : Nat) (e : Ending) (W : World) : Prop := ∃ b c, e = .returned (.tuple #[.pointer (some ⟨b 0, 0, none⟩), .int .i64 0]) ∧ DiAt W w.heap.size W.heap.size b c (Ds.new n m) ∧ Below w.heap.size w W
theorem info_co : (Tryz.prog.info? 86).map (fun i => (i.zero, i.size, i.bytes)) = some (some (.agg #[.pointer none, .bool false]), 2, 16) := by kernel_rfl
set_option maxRecDepth 100000 in
set_option maxHeartbeats 4000000 in
theorem new_dist (n m : Nat) (w : World) (h1 : 1 ≤ n) (h8 : n ≤ 8) (hm : m ≤ 64) :
  Calls Tryz.prog 18 #[.int .i64 n, .int .i64 m] w (MadeD w n m) := by
 obtain ⟨i0, hi2, hz0, hz1, hz2⟩ := info_parts info_co
 have hmk : ∀ W : World, (Instr.makeSlice 80 (.int .i64 (n : Int)) (.int .i64 (n : Int))).run Tryz.prog W = .ok (.slice (some ⟨W.heap.size, 0, none⟩) n n) (W.alloc (.cells (madeCells #[.pointer none, .bool false] (n * 2)) 86)) := fun W => by
  have h1 := run_make (P := Tryz.prog) W 80 86 i0 _ Tryz.underlying80 hi2 hz0 .i64 .i64 n n (by omega) (Int.le_refl _) (by rw [hz2]; omega) (by omega)
  rw [hz1] at h1
  simpa [Value.cells] using h1
 have hd1 : decide ((n : Int) < 1) = false := by simp; omega
 have hd2 : decide (8 < (n : Int)) = false := by simp; omega
 have hd3 : decide ((m : Int) < 0) = false := by simp
 have hd4 : decide (64 < (m : Int)) = false := by simp; omega
 have HN := hi (fun W => show Calls Tryz.prog 63 #[.int .i64 32, .int .i64 m, .agg #[.int .i64 0, .bool false]] W (Made W 32 m Rt.zero) from new_yes 32 m Rt.zero W ⟨by decide, by omega, by omega⟩)
 have HO := hi (fun W => newOwn_any W)
 have H0 := hi (NwI.start w n)
 have HB0 := hi (bal_two w (.cells (madeCells #[.pointer none, .bool false] (n * 2)) 86) (.cells #[.bool false, .bool false, .slice (some ⟨w.heap.size, 0, none⟩) n n, .pointer none] 83))
 go_enter Tryz.func18, Tryz.ntmps18
 go_wp2
 obtain ⟨w0, hw0⟩ : ∃ w0, ((w.alloc (.cells (madeCells #[.pointer none, .bool false] (n * 2)) 86)).alloc (.cells #[.bool false, .bool false, .slice (some ⟨w.heap.size, 0, none⟩) n n, .pointer none] 83)) = w0 := ⟨_, rfl⟩
 rw [hw0] at H0 HB0 ⊢
 clear hw0
 go_loopw [31] (fun i wr => ∃ k : Nat, i = .int .i64 k ∧ k ≤ n ∧ ∃ b c, Hi (NwI w.heap.size n k b c wr ∧ Below w.heap.size w wr)) (fun i _ => n - (intOf i).toNat)
 case atStart => exact ⟨0, rfl, Nat.zero_le _, _, _, hi ⟨H0.out, HB0.out⟩⟩
 case round =>
  obtain ⟨k, rfl, hk, b, c, HX⟩ := hrel
  clear H0 HB0
  by_cases hlt : k < n
  ·have x2 := HX.out.1.box.cell 2
   have xb := HX.out.1.box.lt
   go_wp2
   refine wp_region_noPanic ?_
   refine wp_region_last_drew (S := (fun W' => CB W' (w.heap.size + 1) 83 #[.bool false, .bool false, .slice (some ⟨w.heap.size, 0, none⟩) n n, .pointer none])) [6, 7, 8] (by kernel_rfl) HX.out.1.box.drew (fun hHeld => ?_)
   (try simp only [r1, r2, r3, r4, r5])
   refine tk 0 (v := ?_) rfl (Or.inl ⟨by rfl, ?_⟩) ?_
   rotate_left
   ·intro w' hSw; (try dsimp only at hSw); have p2 := hSw.cell 2; go_simp; (try with_reducible rfl)
   (try simp only [Act.put, n1, n2, n4, n5, n6])
   refine tk 1 (v := ?_) rfl (Or.inl ⟨by rfl, ?_⟩) ?_
   rotate_left
   ·intro w' hSw; (try dsimp only at hSw); have p2 := hSw.cell 2; go_simp; (try with_reducible rfl)
   (try simp only [Act.put, n1, n2, n3, n4, n5, n6])
   refine tk 2 (v := ?_) rfl (Or.inl ⟨by rfl, ?_⟩) ?_
   rotate_left
   ·intro w' hSw; (try dsimp only at hSw); have p2 := hSw.cell 2; go_simp; (try with_reducible rfl)
   (try simp only [Act.put, n1, n2, n3, n4, n5, n6])
   refine tk 3 (v := ?_) rfl (Or.inl ⟨by rfl, ?_⟩) ?_
   rotate_left
   ·intro w' hSw; (try dsimp only at hSw); have p2 := hSw.cell 2; go_simp; (try with_reducible rfl)
   (try simp only [Act.put, n1, n2, n3, n4, n5, n6])
   refine tk 4 (v := ?_) rfl (Or.inl ⟨by rfl, ?_⟩) ?_
   rotate_left
   ·intro w' hSw; (try dsimp only at hSw); have p2 := hSw.cell 2; go_simp; (try with_reducible rfl)
   (try simp only [Act.put, n1, n2, n3, n4, n5, n6])
   refine wpAnyF_ready (rs := [5]) (by kernel_rfl) (by simp) ?_
   refine AllReadyF.cons rfl (fun KK hKK => ?_) AllReadyF.nil
   go_simp
   ((with_reducible refine (HO.out _).mono ?_); rintro e' w2 ⟨B, G, cap, rfl, hbk, hb2', hB1, hG1⟩; have hb2 : Below wr.heap.size wr w2 := (Below.drewN (m := 1) (Below.refl _ _)).trans hb2'; have HS2 := hi (HX.out.1.step hlt hbk hb2 hB1 hG1); have HB2 := hi (HX.out.2.trans (hb2.mono HX.out.2.size)); have hSS := hHeld.below hb2'; have HRW := hi (HX.out.1.row_at hlt hb2); clear hbk hb2 hb2' hB1 hG1)
   (try go_simp)
   refine hKK.out _ _ hSS (fun hHeld => ?_)
   clear hKK KK
   (try simp only [Act.put, n1, n2, n3, n4, n5, n6])
   refine wpAnyF_ready (rs := [6]) (by kernel_rfl) (by simp) ?_
   refine AllReadyF.last (by kernel_rfl) rfl (fun KK hKK => ?_) AllReadyF.nil
   go_simp
   refine hKK.out _ _ ?_
   clear hKK KK
   (try simp only [Act.put, n1, n2, n3, n4, n5, n6])
   refine wpAnyF_ready (rs := [7]) (by kernel_rfl) (by simp) ?_
   refine AllReadyF.last (by kernel_rfl) rfl (fun KK hKK => ?_) AllReadyF.nil
   go_simp
   refine hKK.out _ _ ?_
   clear hKK KK
   (try simp only [Act.put, n1, n2, n3, n4, n5, n6])
   refine wpAnyF_ready (rs := [8]) (by kernel_rfl) (by simp) ?_
   refine AllReadyF.last (by kernel_rfl) rfl (fun KK hKK => ?_) AllReadyF.nil
   obtain ⟨⟨qv, q0⟩, qf⟩ := HRW.out
   go_simp
   refine hKK.out _ _ ?_
   clear hKK KK
   (try simp only [Act.put, n1, n2, n3, n4, n5, n6])
   refine wpAnyF_done (by kernel_rfl) ?_ _
   refine NoPanic.normal ?_
   go_wp2
   go_roundw
   case rel => exact ⟨k + 1, by go_num, hlt, _, _, hi ⟨HS2.out, HB2.out.setCell (Nat.le_refl _) _⟩⟩
   case measure => simp only [intOf]; omega
  ·obtain rfl : k = n := by omega
   go_wp2_with (go_at_call 63; ((with_reducible refine (HN.out _).mono ?_); rintro e w1 ⟨B, G, rfl, hb1, hg1, hbk, hB⟩; have HB := hi hB; have HD := hi (HX.out.1.done hbk hB hb1 hg1); have HS := hi (HX.out.2.trans (hB.mono HX.out.2.size)); have hX1 := HX.out.1.box.below hB; have m3 := hX1.cell 3; have mf := hX1.frozen; clear hB hb1 hg1 hbk hX1))
   go_ret2
   obtain ⟨b', c', e0, hd⟩ := HD.out
   exact ⟨b', c', by rw [e0]; rfl, hd, HS.out.setCell (by show w.heap.size ≤ w.heap.size + 1; omega) _⟩
end Go.Proofs.YtieedhdmpabfkaaGreat
namespace Go.Proofs.YtieedhdmpabfkaaGreat
open Go.ChangeShapes Go.WideShapes Go.ChangeAt Go.RowKit Go.Shelf
set_option linter.unusedVariables false
attribute [local go_sem] Oper.semAt_some
def ClonedC (w : World) (n : Nat) (vs : List Value) (e : Ending) (w' : World) : Prop := ∃ g' cap', e = .returned (.slice (some ⟨g', 0, none⟩) n cap') ∧ w.heap.size ≤ g' ∧ Row w' g' 86 vs ∧ Below w.heap.size w w'
set_option maxHeartbeats 1000000 in
theorem cloneC_any (g n cap : Nat) (vs : List Value) (w : World) (h : Row w g 86 vs) (hn : vs.length = n * 2) (h1c : ∀ v ∈ vs, v.oneCell' = true) (hl : n ≤ 16384) :
  Calls Tryz.prog 36 #[.slice (some ⟨g, 0, none⟩) n cap] w (ClonedC w n vs) := by
 obtain ⟨i0, hi2, hz0, hz1, hz2⟩ := info_parts info_co
 have hnil : ∀ W, (binOp .eql 80 (.slice (some ⟨g, 0, none⟩) n cap) (.slice none 0 0)).run Tryz.prog W = .ok (.bool false) W := fun W => Lib.run_eql_slice_nil W _ _ (some ⟨g, 0, none⟩) n cap 0 0 Tryz.underlying80
 have hcs : ∀ (j : Nat) (u : Value), vs[j]? = some u → (w.alloc (.cells #[] 86)).cell? ((⟨g, 0, none⟩ : Addr).add j) = some u := by
  intro j u hu
  have hj : j < vs.length := (List.getElem?_eq_some_iff.1 hu).1
  rw [addr_add, Nat.zero_add, World.cell?_alloc_lt _ _ _ h.lt, h.cell hj, hu]
 have HCS := hi hcs
 clear hcs h
 have hown : (w.alloc (.cells #[] 86)).ownsRow w.heap.size 86 2 (.slice (some ⟨w.heap.size, 0, none⟩) 0 0) 0 [] :=
  ⟨rfl, .inr ⟨w.heap.size, 0, #[], rfl, Nat.le_refl _, World.alloc_heap_new w _, Nat.le_refl _, by unfold maxLen; omega, rfl, rfl⟩⟩
 have HO := hi hown
 clear hown
 have HFL := hi hn
 have HF1 := hi h1c
 clear hn h1c
 go_enter Tryz.func36, Tryz.ntmps36
 go_wp2_with (first
  | (at_builtin; refine wpList_append_own _ rfl _ _ 80 rfl w.heap.size 86 i0 (.agg #[.pointer none, .bool false]) 2 16 Tryz.underlying80 hi2 hz0 hz1 hz2 rfl (by decide) _ _ _ rfl HO.out ⟨g, 0, none⟩ n cap vs rfl HFL.out HCS.out HF1.out (by unfold maxLen; omega) (by omega) (by simp) ?_; intro v9 w9 hown9 hgrow9 hnn9; have HW := hi hown9; have HG := hi hgrow9; have HNN := hi hnn9; clear hown9 hgrow9 hnn9))
 go_ret
 have hb : Below w.heap.size w w9 := (bal w _).grown HG.out (by simp) (fun k e => by cases e; exact Nat.le_refl _)
 have h2 := HW.out
 rw [List.nil_append, Nat.zero_add] at h2
 rcases h2.2 with ⟨e, _⟩ | ⟨g', c', cur, e, hb', hg, _⟩
 ·cases (HNN.out.1 e).1
 ·subst e
  exact ⟨g', c', rfl, hb', Row.own h2, hb⟩
structure CpI (lo : Nat) (D : Ds) (cap k : Nat) (b c : Nat → Nat) (W : World) : Prop where
 box : CB W (b 0) 83 #[.bool D.g0, .bool D.g1, .slice (some ⟨b 1, 0, none⟩) D.cs.length cap, .pointer (some ⟨b 2, 0, none⟩)]
 row : ∃ vs, Row W (b 1) 86 vs ∧ vs.length = 2 * D.cs.length ∧ (∀ i, i < k → vs[i * 2]? = some (.pointer (some ⟨b (4 + 2 * i), 0, none⟩))) ∧ ∀ i, i < D.cs.length → vs[i * 2 + 1]? = some (.bool (D.nth i).sl)
 shr : BkAt W (b 2) (b 3) (c 1) 32 D.sh
 own : ∀ i, i < k → BkAt W (b (4 + 2 * i)) (b (5 + 2 * i)) (c (2 + i)) 0 (D.nth i).es
 inj : ∀ i j, i < 4 + 2 * k → j < 4 + 2 * k → i ≠ j → b i ≠ b j
 rng : ∀ i, i < 4 + 2 * k → lo ≤ b i ∧ b i < W.heap.size
theorem CpI.below {lo cap k : Nat} {D : Ds} {b c : Nat → Nat} {W W' : World} (h : CpI lo D cap k b c W) (kk : Below W.heap.size W W') : CpI lo D cap k b c W' := by
 obtain ⟨vs, hr, r⟩ := h.row
 exact ⟨h.box.below kk, ⟨vs, hr.below kk, r⟩, h.shr.below kk, fun i hi => (h.own i hi).below kk, h.inj, fun i hi => ⟨(h.rng i hi).1, Nat.lt_of_lt_of_le (h.rng i hi).2 kk.size⟩⟩
theorem CpI.row_at {lo cap k : Nat} {D : Ds} {b c : Nat → Nat} {W W1 : World} (h : CpI lo D cap k b c W) (hk : k < D.cs.length) (hb : Below W.heap.size W W1) : (∃ v, W1.cell? ⟨b 1, k * 2, none⟩ = some v) ∧ W1.frozen? ⟨b 1, k * 2, none⟩ = false := by
 obtain ⟨vs, hr, hv1, hv2, hv3⟩ := h.row
 have hl : k * 2 < vs.length := by omega
 exact ⟨⟨vs[k * 2], by rw [(hr.below hb).cell hl, List.getElem?_eq_getElem hl]⟩, (hr.below hb).frozen _⟩
theorem CpI.step {lo cap k : Nat} {D : Ds} {b c : Nat → Nat} {W W1 : World} (h : CpI lo D cap k b c W) (hk : k < D.cs.length) {B G cp : Nat} (hB : BkAt W1 B G cp 0 (D.nth k).es) (hb : Below W.heap.size W W1) (h1 : W.heap.size ≤ B) (h2 : W.heap.size ≤ G) :
  CpI lo D cap (k + 1) (upd b (4 + 2 * k) B G) (fun i => if i = 2 + k then cp else c i) (W1.setCell ⟨b 1, k * 2, none⟩ (.pointer (some ⟨B, 0, none⟩))) := by
 obtain ⟨vs, hr, hv1, hv2, hv3⟩ := h.row
 have hbl := hB.box.lt
 have hgl := hB.row.lt
 have r1 := (h.rng 1 (by omega))
 have S : ∀ i, i ≠ b 1 → (W1.setCell ⟨b 1, k * 2, none⟩ (.pointer (some ⟨B, 0, none⟩))).heap[i]? = W1.heap[i]? := fun i hne => Below.heap_setCell W1 ⟨b 1, k * 2, none⟩ _ _ hne
 have N : ∀ i, i < 4 + 2 * k → i ≠ 1 → b i ≠ b 1 := fun i q1 q2 => h.inj i 1 q1 (by omega) q2
 have uo : ∀ i, i < 4 + 2 * k → upd b (4 + 2 * k) B G i = b i := fun i q => upd_o _ (by omega) (by omega)
 refine ⟨?_, ⟨vs.set (k * 2) (.pointer (some ⟨B, 0, none⟩)), ?_, by rw [List.length_set]; exact hv1, fun i hi => ?_, fun i hi => ?_⟩, ?_, fun i hi => ?_, ?_, fun i hi => ?_⟩
 ·rw [uo 0 (by omega), uo 1 (by omega), uo 2 (by omega)]
  exact (h.box.below hb).heap (S _ (N 0 (by omega) (by omega)))
 ·rw [uo 1 (by omega)]
  exact (hr.below hb).set _ (by omega)
 ·by_cases e : i = k
  ·subst e
   rw [List.getElem?_set_self (by omega), upd_a]
  ·rw [List.getElem?_set_ne (by omega), hv2 i (by omega), uo _ (by omega)]
 ·rw [List.getElem?_set_ne (by omega), hv3 i hi]
 ·rw [uo 2 (by omega), uo 3 (by omega)]
  (try dsimp only)
  rw [if_neg (by omega)]
  exact (h.shr.below hb).heap (S _ (N 2 (by omega) (by omega))) (S _ (N 3 (by omega) (by omega)))
 ·by_cases e : i = k
  ·subst e
   rw [upd_a, show 5 + 2 * i = 4 + 2 * i + 1 by omega, upd_b]
   simp only [if_true]
   exact ⟨hB.box.heap (S _ (by omega)), hB.row.heap (S _ (by omega)), hB.ne⟩
  ·rw [uo _ (by omega), uo _ (by omega)]
   (try dsimp only)
   rw [if_neg (by omega)]
   exact ((h.own i (by omega)).below hb).heap (S _ (N _ (by omega) (by omega))) (S _ (N _ (by omega) (by omega)))
 ·have := upd_inj (V := fun i => i < 4 + 2 * k) (j := 4 + 2 * k) h.inj (fun i q => (h.rng i q).2) h1 h2 hB.ne
  intro i j q1 q2
  exact this i j (by omega) (by omega)
 ·have hs := hb.size
  rw [World.size_setCell]
  by_cases e1 : i = 4 + 2 * k
  ·subst e1; rw [upd_a]; omega
  ·by_cases e2 : i = 4 + 2 * k + 1
   ·subst e2; rw [upd_b]; omega
   ·rw [upd_o _ e1 e2]
    have := h.rng i (by omega)
    omega
theorem CpI.done {lo cap : Nat} {D : Ds} {b c : Nat → Nat} {W : World} (h : CpI lo D cap D.cs.length b c W) : ∃ c', DiAt W lo W.heap.size b c' D := by
 obtain ⟨vs, hr, hv1, hv2, hv3⟩ := h.row
 refine ⟨fun i => if i = 0 then cap else c i, ⟨h.box, ?_, h.shr, fun k hk => ?_, h.inj, h.rng, Nat.le_refl _⟩⟩
 ·have e : flat encCo (D.prs b) = vs := by
   apply List.ext_getElem?
   intro j
   by_cases hj : j < 2 * D.cs.length
   ·obtain ⟨i, hi, e⟩ : ∃ i, i < D.cs.length ∧ (j = i * 2 ∨ j = i * 2 + 1) := ⟨j / 2, by omega, by omega⟩
    have hp := Ds.prs_at (b := b) hi
    rcases e with rfl | rfl
    ·have g := flat_get encCo_len _ i 0 _ (by decide) hp
     rw [Nat.add_zero] at g
     rw [g, hv2 i hi]
     rfl
    ·rw [flat_get encCo_len _ i 1 _ (by decide) hp, hv3 i hi]
     rfl
   ·rw [List.getElem?_eq_none (by rw [flat_len encCo_len, Ds.prs_len]; omega), List.getElem?_eq_none (by omega)]
  rw [e]
  exact hr
 ·(try dsimp only)
  rw [if_neg (by omega)]
  exact h.own k hk
theorem CpI.start {w W1 W2 : World} {lo hi' : Nat} {b c : Nat → Nat} {D : Ds} (h : DiAt w lo hi' b c D) {G cap B2 G2 c2 : Nat} (hr : Row W1 G 86 (flat encCo (D.prs b))) (hb1 : Below w.heap.size w W1) (hG : w.heap.size ≤ G)
  (hB : BkAt W2 B2 G2 c2 32 D.sh) (hb2 : Below W1.heap.size W1 W2) (l1 : W1.heap.size ≤ B2) (l2 : W1.heap.size ≤ G2) :
  ∃ b' c', b' 0 = W2.heap.size ∧ b' 1 = G ∧ b' 2 = B2 ∧ CpI w.heap.size D cap 0 b' c' (W2.alloc (.cells #[.bool D.g0, .bool D.g1, .slice (some ⟨G, 0, none⟩) D.cs.length cap, .pointer (some ⟨B2, 0, none⟩)] 83)) ∧ Below w.heap.size w (W2.alloc (.cells #[.bool D.g0, .bool D.g1, .slice (some ⟨G, 0, none⟩) D.cs.length cap, .pointer (some ⟨B2, 0, none⟩)] 83)) := by
 have hs1 := hb1.size
 have hs2 := hb2.size
 have hlG := hr.lt
 have hlB := hB.box.lt
 have hlC := hB.row.lt
 have hne := hB.ne
 refine ⟨fun i => if i = 0 then W2.heap.size else if i = 1 then G else if i = 2 then B2 else G2, fun _ => c2, rfl, rfl, rfl, ⟨CB.new _ _ _, ⟨_, (hr.below hb2).below (bal _ _), ?_, fun i hi => by omega, fun i hi => ?_⟩, hB.below (bal _ _), fun i hi => by omega, fun i j q1 q2 q3 => ?_, fun i q => ?_⟩, ((hb1.trans (hb2.mono hs1)).alloc (by omega) _)⟩
 ·rw [flat_len encCo_len, Ds.prs_len]; omega
 ·rw [flat_get encCo_len _ i 1 _ (by decide) (Ds.prs_at hi)]
  rfl
 ·have hI : i = 0 ∨ i = 1 ∨ i = 2 ∨ i = 3 := by omega
  have hJ : j = 0 ∨ j = 1 ∨ j = 2 ∨ j = 3 := by omega
  rcases hI with rfl | rfl | rfl | rfl <;> rcases hJ with rfl | rfl | rfl | rfl <;> simp <;> omega
 ·rw [World.size_alloc]
  have hI : i = 0 ∨ i = 1 ∨ i = 2 ∨ i = 3 := by omega
  rcases hI with rfl | rfl | rfl | rfl <;> simp <;> omega
theorem encCo_one (p : Nat × Bool) : ∀ v ∈ encCo p, v.oneCell' = true := by
 intro v hv
 simp only [List.mem_cons, List.not_mem_nil, or_false] at hv
 rcases hv with rfl | rfl <;> rfl
def CopiedD (w : World) (D : Ds) (e : Ending) (W : World) : Prop := ∃ b c, e = .returned (.pointer (some ⟨b 0, 0, none⟩)) ∧ DiAt W w.heap.size W.heap.size b c D ∧ Below w.heap.size w W
set_option maxRecDepth 100000 in
set_option maxHeartbeats 8000000 in
theorem copy_dist {w : World} {lo hi' : Nat} {b c : Nat → Nat} {D : Ds} (h : DiAt w lo hi' b c D) (ok : D.Ok) :
  Calls Tryz.prog 12 #[.pointer (some ⟨b 0, 0, none⟩)] w (CopiedD w D) := by
 have HH := hi h
 have HOK := hi ok
 have HD := hi h.drew
 have HCL := hi (cloneC_any (b 1) D.cs.length (c 0) _ w.drew h.drew.row (by rw [flat_len encCo_len, Ds.prs_len]) (flat_one_cell encCo_one _) (by have := ok.n8; omega))
 have HCS := hi (fun W (z : Below w.heap.size w W) => copy_any (h.below z).shr ok.fitS)
 have c0 := h.box.cell 0
 have c1 := h.box.cell 1
 have c2 := h.box.cell 2
 have c3 := h.box.cell 3
 have HB := hi h.box
 have HLT := hi h.box.lt
 have HN8 := hi ok.n8
 clear h ok
 go_enter Tryz.func12, Tryz.ntmps12
 go_wp2
 refine wp_region_noPanic ?_
 refine wp_region_last_drew (S := (fun W' => CB W' (b 0) 83 #[.bool D.g0, .bool D.g1, .slice (some ⟨b 1, 0, none⟩) D.cs.length (c 0), .pointer (some ⟨b 2, 0, none⟩)])) [] (by kernel_rfl) HB.out.drew (fun hHeld => ?_)
 (try simp only [r1, r2, r3, r4, r5])
 refine tk 0 (v := ?_) rfl (Or.inl ⟨by rfl, ?_⟩) ?_
 rotate_left
 ·intro w' hSw; (try dsimp only at hSw); have p0 := hSw.cell 0; have p1 := hSw.cell 1; have p2 := hSw.cell 2; have p3 := hSw.cell 3; go_simp; (try with_reducible rfl)
 (try simp only [Act.put, n1, n2, n4, n5, n6])
 refine tk 1 (v := ?_) rfl (Or.inl ⟨by rfl, ?_⟩) ?_
 rotate_left
 ·intro w' hSw; (try dsimp only at hSw); have p0 := hSw.cell 0; have p1 := hSw.cell 1; have p2 := hSw.cell 2; have p3 := hSw.cell 3; go_simp; (try with_reducible rfl)
 (try simp only [Act.put, n1, n2, n3, n4, n5, n6])
 refine tk 2 (v := ?_) rfl (Or.inl ⟨by rfl, ?_⟩) ?_
 rotate_left
 ·intro w' hSw; (try dsimp only at hSw); have p0 := hSw.cell 0; have p1 := hSw.cell 1; have p2 := hSw.cell 2; have p3 := hSw.cell 3; go_simp; (try with_reducible rfl)
 (try simp only [Act.put, n1, n2, n3, n4, n5, n6])
 refine tk 3 (v := ?_) rfl (Or.inl ⟨by rfl, ?_⟩) ?_
 rotate_left
 ·intro w' hSw; (try dsimp only at hSw); have p0 := hSw.cell 0; have p1 := hSw.cell 1; have p2 := hSw.cell 2; have p3 := hSw.cell 3; go_simp; (try with_reducible rfl)
 (try simp only [Act.put, n1, n2, n3, n4, n5, n6])
 refine tk 4 (v := ?_) rfl (Or.inl ⟨by rfl, ?_⟩) ?_
 rotate_left
 ·intro w' hSw; (try dsimp only at hSw); have p0 := hSw.cell 0; have p1 := hSw.cell 1; have p2 := hSw.cell 2; have p3 := hSw.cell 3; go_simp; (try with_reducible rfl)
 (try simp only [Act.put, n1, n2, n3, n4, n5, n6])
 refine tk 5 (v := ?_) rfl (Or.inl ⟨by rfl, ?_⟩) ?_
 rotate_left
 ·intro w' hSw; (try dsimp only at hSw); have p0 := hSw.cell 0; have p1 := hSw.cell 1; have p2 := hSw.cell 2; have p3 := hSw.cell 3; go_simp; (try with_reducible rfl)
 (try simp only [Act.put, n1, n2, n3, n4, n5, n6])
 refine tk 6 (v := ?_) rfl (Or.inl ⟨by rfl, ?_⟩) ?_
 rotate_left
 ·intro w' hSw; (try dsimp only at hSw); have p0 := hSw.cell 0; have p1 := hSw.cell 1; have p2 := hSw.cell 2; have p3 := hSw.cell 3; go_simp; (try with_reducible rfl)
 (try simp only [Act.put, n1, n2, n3, n4, n5, n6])
 refine tk 7 (v := ?_) rfl (Or.inl ⟨by rfl, ?_⟩) ?_
 rotate_left
 ·intro w' hSw; (try dsimp only at hSw); have p0 := hSw.cell 0; have p1 := hSw.cell 1; have p2 := hSw.cell 2; have p3 := hSw.cell 3; go_simp; (try with_reducible rfl)
 (try simp only [Act.put, n1, n2, n3, n4, n5, n6])
 refine tk 9 (v := ?_) rfl (Or.inl ⟨by rfl, ?_⟩) ?_
 rotate_left
 ·intro w' hSw; (try dsimp only at hSw); have p0 := hSw.cell 0; have p1 := hSw.cell 1; have p2 := hSw.cell 2; have p3 := hSw.cell 3; go_simp; (try with_reducible rfl)
 (try simp only [Act.put, n1, n2, n3, n4, n5, n6])
 refine tk 10 (v := ?_) rfl (Or.inl ⟨by rfl, ?_⟩) ?_
 rotate_left
 ·intro w' hSw; (try dsimp only at hSw); have p0 := hSw.cell 0; have p1 := hSw.cell 1; have p2 := hSw.cell 2; have p3 := hSw.cell 3; go_simp; (try with_reducible rfl)
 (try simp only [Act.put, n1, n2, n3, n4, n5, n6])
 refine tk 11 (v := ?_) rfl (Or.inl ⟨by rfl, ?_⟩) ?_
 rotate_left
 ·intro w' hSw; (try dsimp only at hSw); have p0 := hSw.cell 0; have p1 := hSw.cell 1; have p2 := hSw.cell 2; have p3 := hSw.cell 3; go_simp; (try with_reducible rfl)
 (try simp only [Act.put, n1, n2, n3, n4, n5, n6])
 refine tk 12 (v := ?_) rfl (Or.inl ⟨by rfl, ?_⟩) ?_
 rotate_left
 ·intro w' hSw; (try dsimp only at hSw); have p0 := hSw.cell 0; have p1 := hSw.cell 1; have p2 := hSw.cell 2; have p3 := hSw.cell 3; go_simp; (try with_reducible rfl)
 (try simp only [Act.put, n1, n2, n3, n4, n5, n6])
 refine wpAnyF_ready (rs := [8]) (by kernel_rfl) (by simp) ?_
 refine AllReadyF.cons rfl (fun KK hKK => ?_) AllReadyF.nil
 go_simp
 ((with_reducible refine (HCL.out).mono ?_); rintro e' w2 ⟨G, cap, rfl, hG, hr, hb⟩; have HR2 := hi hr; have HG2 := hi hG; have HB2 := hi (show Below w.heap.size w w2 from (Below.drewN (m := 1) (Below.refl _ _)).trans hb); have hSS := hHeld.below hb; clear hr hG hb)
 (try go_simp)
 refine hKK.out _ _ hSS (fun hHeld => ?_)
 clear hKK KK
 (try simp only [Act.put, n1, n2, n3, n4, n5, n6])
 refine wpAnyF_ready (rs := [13]) (by kernel_rfl) (by simp) ?_
 refine AllReadyF.cons rfl (fun KK hKK => ?_) AllReadyF.nil
 go_simp
 ((with_reducible refine (HCS.out _ HB2.out).mono ?_); rintro e' w3 ⟨B2, G2, cc2, rfl, hl1, hl2, hbk, hb3⟩; have HSTART := hi (CpI.start (cap := cap) HH.out HR2.out HB2.out HG2.out hbk hb3 hl1 hl2); have hSS := hHeld.below hb3; clear hl1 hl2 hbk hb3)
 (try go_simp)
 refine hKK.out _ _ hSS (fun hHeld => ?_)
 clear hKK KK
 (try simp only [Act.put, n1, n2, n3, n4, n5, n6])
 refine tk 14 (v := ?_) rfl (Or.inl ⟨by rfl, ?_⟩) ?_
 rotate_left
 ·intro w' hSw; (try dsimp only at hSw); have p0 := hSw.cell 0; have p1 := hSw.cell 1; have p2 := hSw.cell 2; have p3 := hSw.cell 3; go_simp; (try with_reducible rfl)
 (try simp only [Act.put, n1, n2, n3, n4, n5, n6])
 refine wpAnyF_ready (rs := [15]) (by kernel_rfl) (by simp) ?_
 refine AllReadyF.cons rfl (fun KK hKK => ?_) AllReadyF.nil
 go_simp
 refine hKK.out _ _ (hHeld.alloc _) (fun hHeld => ?_)
 clear hKK KK
 (try simp only [Act.put, n1, n2, n3, n4, n5, n6])
 refine tk 16 (v := ?_) rfl (Or.inl ⟨by rfl, ?_⟩) ?_
 rotate_left
 ·intro w' hSw; (try dsimp only at hSw); have p0 := hSw.cell 0; have p1 := hSw.cell 1; have p2 := hSw.cell 2; have p3 := hSw.cell 3; go_simp; (try with_reducible rfl)
 (try simp only [Act.put, n1, n2, n3, n4, n5, n6])
 refine wpAnyF_done (by kernel_rfl) ?_ _
 refine NoPanic.normal ?_
 obtain ⟨w4, hw4⟩ : ∃ w4, (w3.alloc (.cells #[.bool D.g0, .bool D.g1, .slice (some ⟨G, 0, none⟩) D.cs.length cap, .pointer (some ⟨B2, 0, none⟩)] 83)) = w4 := ⟨_, rfl⟩
 have HNB := hi (CB.new w3 83 #[.bool D.g0, .bool D.g1, .slice (some ⟨G, 0, none⟩) D.cs.length cap, .pointer (some ⟨B2, 0, none⟩)])
 obtain ⟨B0, hB0⟩ : ∃ B0, w3.heap.size = B0 := ⟨_, rfl⟩
 rw [hw4, hB0] at HSTART HNB
 rw [hw4, hB0]
 clear hw4 hB0
 have x2 := HNB.out.cell 2
 go_wp2
 go_loopw [26] (fun i wr => ∃ (k : Nat) (b1 c1 : Nat → Nat), i = .int .i64 k ∧ k ≤ D.cs.length ∧ Hi (b1 0 = B0 ∧ b1 1 = G ∧ CpI w.heap.size D cap k b1 c1 wr ∧ Below w.heap.size w wr)) (fun i _ => D.cs.length - (intOf i).toNat)
 case atStart =>
  obtain ⟨b', c', e0, e1, e2, HX0, HB0⟩ := HSTART.out
  exact ⟨0, b', c', rfl, Nat.zero_le _, hi ⟨e0, e1, HX0, HB0⟩⟩
 case round =>
  obtain ⟨k, b1, c1, rfl, hk, HX⟩ := hrel
  clear HSTART HNB
  by_cases hlt : k < D.cs.length
  ·have hbx := HX.out.2.2.1.box
   rw [HX.out.1, HX.out.2.1] at hbx
   have hn8 := HN8.out
   have x2 := hbx.cell 2
   have HBX := hi hbx
   have HDI := hi (HH.out.below HX.out.2.2.2)
   have HCP := hi (copy_any (HDI.out.drew.own k hlt) (HOK.out.fitO hlt))
   clear hbx
   go_wp2
   refine wp_region_noPanic ?_
   refine wp_region_last_drew (S := (fun W' => CB W' B0 83 #[.bool D.g0, .bool D.g1, .slice (some ⟨G, 0, none⟩) D.cs.length cap, .pointer (some ⟨b1 2, 0, none⟩)] ∧ DiAt W' lo hi' b c D)) [14, 15, 16] (by kernel_rfl) ⟨HBX.out.drew, HDI.out.drew⟩ (fun hHeld => ?_)
   (try simp only [r1, r2, r3, r4, r5])
   refine tk 0 (v := ?_) rfl (Or.inl ⟨by rfl, ?_⟩) ?_
   rotate_left
   ·intro w' hSw; (try dsimp only at hSw); have p2 := hSw.1.cell 2; have q2 := hSw.2.box.cell 2; have q4 := hSw.2.ptr hlt; go_simp; (try with_reducible rfl)
   (try simp only [Act.put, n1, n2, n4, n5, n6])
   refine tk 1 (v := ?_) rfl (Or.inl ⟨by rfl, ?_⟩) ?_
   rotate_left
   ·intro w' hSw; (try dsimp only at hSw); have p2 := hSw.1.cell 2; have q2 := hSw.2.box.cell 2; have q4 := hSw.2.ptr hlt; go_simp; (try with_reducible rfl)
   (try simp only [Act.put, n1, n2, n3, n4, n5, n6])
   refine tk 2 (v := ?_) rfl (Or.inl ⟨by rfl, ?_⟩) ?_
   rotate_left
   ·intro w' hSw; (try dsimp only at hSw); have p2 := hSw.1.cell 2; have q2 := hSw.2.box.cell 2; have q4 := hSw.2.ptr hlt; go_simp; (try with_reducible rfl)
   (try simp only [Act.put, n1, n2, n3, n4, n5, n6])
   refine tk 3 (v := ?_) rfl (Or.inl ⟨by rfl, ?_⟩) ?_
   rotate_left
   ·intro w' hSw; (try dsimp only at hSw); have p2 := hSw.1.cell 2; have q2 := hSw.2.box.cell 2; have q4 := hSw.2.ptr hlt; go_simp; (try with_reducible rfl)
   (try simp only [Act.put, n1, n2, n3, n4, n5, n6])
   refine tk 4 (v := ?_) rfl (Or.inl ⟨by rfl, ?_⟩) ?_
   rotate_left
   ·intro w' hSw; (try dsimp only at hSw); have p2 := hSw.1.cell 2; have q2 := hSw.2.box.cell 2; have q4 := hSw.2.ptr hlt; go_simp; (try with_reducible rfl)
   (try simp only [Act.put, n1, n2, n3, n4, n5, n6])
   refine tk 5 (v := ?_) rfl (Or.inl ⟨by rfl, ?_⟩) ?_
   rotate_left
   ·intro w' hSw; (try dsimp only at hSw); have p2 := hSw.1.cell 2; have q2 := hSw.2.box.cell 2; have q4 := hSw.2.ptr hlt; go_simp; (try with_reducible rfl)
   (try simp only [Act.put, n1, n2, n3, n4, n5, n6])
   refine tk 6 (v := ?_) rfl (Or.inl ⟨by rfl, ?_⟩) ?_
   rotate_left
   ·intro w' hSw; (try dsimp only at hSw); have p2 := hSw.1.cell 2; have q2 := hSw.2.box.cell 2; have q4 := hSw.2.ptr hlt; go_simp; (try with_reducible rfl)
   (try simp only [Act.put, n1, n2, n3, n4, n5, n6])
   refine tk 7 (v := ?_) rfl (Or.inl ⟨by rfl, ?_⟩) ?_
   rotate_left
   ·intro w' hSw; (try dsimp only at hSw); have p2 := hSw.1.cell 2; have q2 := hSw.2.box.cell 2; have q4 := hSw.2.ptr hlt; go_simp; (try with_reducible rfl)
   (try simp only [Act.put, n1, n2, n3, n4, n5, n6])
   refine tk 8 (v := ?_) rfl (Or.inl ⟨by rfl, ?_⟩) ?_
   rotate_left
   ·intro w' hSw; (try dsimp only at hSw); have p2 := hSw.1.cell 2; have q2 := hSw.2.box.cell 2; have q4 := hSw.2.ptr hlt; go_simp; (try with_reducible rfl)
   (try simp only [Act.put, n1, n2, n3, n4, n5, n6])
   refine tk 9 (v := ?_) rfl (Or.inl ⟨by rfl, ?_⟩) ?_
   rotate_left
   ·intro w' hSw; (try dsimp only at hSw); have p2 := hSw.1.cell 2; have q2 := hSw.2.box.cell 2; have q4 := hSw.2.ptr hlt; go_simp; (try with_reducible rfl)
   (try simp only [Act.put, n1, n2, n3, n4, n5, n6])
   refine tk 10 (v := ?_) rfl (Or.inl ⟨by rfl, ?_⟩) ?_
   rotate_left
   ·intro w' hSw; (try dsimp only at hSw); have p2 := hSw.1.cell 2; have q2 := hSw.2.box.cell 2; have q4 := hSw.2.ptr hlt; go_simp; (try with_reducible rfl)
   (try simp only [Act.put, n1, n2, n3, n4, n5, n6])
   refine tk 11 (v := ?_) rfl (Or.inl ⟨by rfl, ?_⟩) ?_
   rotate_left
   ·intro w' hSw; (try dsimp only at hSw); have p2 := hSw.1.cell 2; have q2 := hSw.2.box.cell 2; have q4 := hSw.2.ptr hlt; go_simp; (try with_reducible rfl)
   (try simp only [Act.put, n1, n2, n3, n4, n5, n6])
   refine tk 12 (v := ?_) rfl (Or.inl ⟨by rfl, ?_⟩) ?_
   rotate_left
   ·intro w' hSw; (try dsimp only at hSw); have p2 := hSw.1.cell 2; have q2 := hSw.2.box.cell 2; have q4 := hSw.2.ptr hlt; go_simp; (try with_reducible rfl)
   (try simp only [Act.put, n1, n2, n3, n4, n5, n6])
   refine wpAnyF_ready (rs := [13]) (by kernel_rfl) (by simp) ?_
   refine AllReadyF.cons rfl (fun KK hKK => ?_) AllReadyF.nil
   go_simp
   ((with_reducible refine (HCP.out).mono ?_); rintro e' w5 ⟨B, G5, cp, rfl, hl1, hl2, hbk, hb5'⟩; have hb5 : Below wr.heap.size wr w5 := (Below.drewN (m := 1) (Below.refl _ _)).trans hb5'; have hs5 := HX.out.2.2.1.step hlt hbk hb5 hl1 hl2; rw [HX.out.2.1] at hs5; have HS2 := hi hs5; have HB2 := hi (HX.out.2.2.2.trans (hb5.mono HX.out.2.2.2.size)); have hSS := And.intro (hHeld.1.below hb5') (hHeld.2.below hb5'); have hrw := HX.out.2.2.1.row_at hlt hb5; rw [HX.out.2.1] at hrw; have HRW := hi hrw; have HG := hi (show w.heap.size ≤ G from by have := (HX.out.2.2.1.rng 1 (by omega)).1; rw [HX.out.2.1] at this; exact this); clear hs5 hrw hbk hb5 hb5' hl1 hl2)
   (try go_simp)
   refine hKK.out _ _ hSS (fun hHeld => ?_)
   clear hKK KK
   (try simp only [Act.put, n1, n2, n3, n4, n5, n6])
   refine wpAnyF_ready (rs := [14]) (by kernel_rfl) (by simp) ?_
   refine AllReadyF.last (by kernel_rfl) rfl (fun KK hKK => ?_) AllReadyF.nil
   have p2 := hHeld.1.cell 2
   go_simp
   refine hKK.out _ _ ?_
   clear hKK KK
   (try simp only [Act.put, n1, n2, n3, n4, n5, n6])
   refine wpAnyF_ready (rs := [15]) (by kernel_rfl) (by simp) ?_
   refine AllReadyF.last (by kernel_rfl) rfl (fun KK hKK => ?_) AllReadyF.nil
   go_simp
   refine hKK.out _ _ ?_
   clear hKK KK
   (try simp only [Act.put, n1, n2, n3, n4, n5, n6])
   refine wpAnyF_ready (rs := [16]) (by kernel_rfl) (by simp) ?_
   refine AllReadyF.last (by kernel_rfl) rfl (fun KK hKK => ?_) AllReadyF.nil
   obtain ⟨⟨qv, q0⟩, qf⟩ := HRW.out
   go_simp
   refine hKK.out _ _ ?_
   clear hKK KK
   (try simp only [Act.put, n1, n2, n3, n4, n5, n6])
   refine wpAnyF_done (by kernel_rfl) ?_ _
   refine NoPanic.normal ?_
   go_wp2
   go_roundw
   case rel => have := HN8.out; exact ⟨k + 1, _, _, by go_num, hlt, hi ⟨by rw [upd_o _ (by omega) (by omega)]; exact HX.out.1, by rw [upd_o _ (by omega) (by omega)]; exact HX.out.2.1, HS2.out, HB2.out.setCell HG.out _⟩⟩
   case measure => have := HN8.out; simp only [intOf]; omega
  ·obtain rfl : k = D.cs.length := by omega
   go_wp2
   go_ret
   obtain ⟨c', hd⟩ := HX.out.2.2.1.done
   exact ⟨b1, c', by rw [HX.out.1]; rfl, hd, HX.out.2.2.2⟩
end Go.Proofs.YtieedhdmpabfkaaGreat
namespace Go.Proofs.YtieedhdmpabfkaaGreat
open Go.ChangeShapes Go.WideShapes Go.ChangeAt Go.RowKit Go.Shelf
set_option linter.unusedVariables false
attribute [local go_sem] Oper.semAt_some
theorem ty_p1 : (105 : Nat) ≠ 101 ∧ (3 : Nat) ≠ 101 ∧ (4 : Nat) ≠ 101 ∧ (153 : Nat) ≠ 101 ∧ (58 : Nat) ≠ 101 ∧ (9 : Nat) ≠ 101 := by decide
theorem own_ap {W : World} {base sz n B : Nat} {te t : TypeId} {v : Value} {xs : List Value} {cs : Array Value} (h : W.ownsRow base te sz v n xs) (hc : CB W B t cs) (hne : t ≠ te) : some B ≠ v.ownBlock := by
 rcases h.2 with ⟨rfl, _⟩ | ⟨g, cap, cur, rfl, _, hg, _⟩
 ·simp [Value.ownBlock]
 ·intro e
  obtain rfl : B = g := by simpa [Value.ownBlock] using e
  rw [show W.heap[B]? = _ from hc] at hg
  simp only [Option.some.injEq, Obj.cells.injEq] at hg
  exact hne hg.2.1
def VR (m k i : Nat) : Prop := i < 8 + 3 * k ∧ (m = 0 → i ≠ 6 ∧ i ≠ 7) ∧ i ≠ 3
structure RnI (N n m k : Nat) (b : Nat → Nat) (OV : Value) (W : World) : Prop where
 z0 : b 0 = N + 3
 box : CB W (b 0) 105 #[.bool false, .bool false, .pointer (some ⟨b 5, 0, none⟩), .slice (some ⟨b 1, 0, none⟩) m m, .slice (some ⟨b 2, 0, none⟩) m m, OV, .slice (some ⟨b 4, 0, none⟩) n n]
 core : Row W (b 1) 3 (List.replicate m (.int .i64 0))
 any : Row W (b 2) 4 (List.replicate m (.bool false))
 slp : Row W (b 4) 4 (List.replicate n (.bool false))
 shr : RfB W (b 5) (b 6) (b 7) 32 (fresh m Rt.zero)
 own : ∀ i, i < k → RfB W (b (8 + 3 * i)) (b (9 + 3 * i)) (b (10 + 3 * i)) 0 (edgesV 16)
 row : W.ownsRow (N + 4) 101 1 OV k ((List.range k).map fun i => .pointer (some ⟨b (8 + 3 * i), 0, none⟩))
 inj : ∀ i j, VR m k i → VR m k j → i ≠ j → b i ≠ b j
 rng : ∀ i, VR m k i → N ≤ b i ∧ b i < W.heap.size
theorem rfb_ty {W : World} {x l g : Nat} {f : Int} {es : List En} (h : RfB W x l g f es) : (∃ cs, CB W x 153 cs) ∧ (es.length ≠ 0 → (∃ cs, CB W l 58 cs) ∧ (∃ cs, CB W g 9 cs) ∧ x ≠ l ∧ x ≠ g ∧ l ≠ g) := by
 obtain ⟨la, xa, lc, xc, h⟩ := h
 refine ⟨⟨_, h.box⟩, fun hne => ?_⟩
 obtain ⟨_, _, ⟨A, a1, _⟩, ⟨B, b1, _⟩, h5⟩ := h.ne0 (fun e => hne (by rw [e]; rfl))
 exact ⟨⟨_, a1⟩, ⟨_, b1⟩, h5⟩
theorem RnI.ty {N n m k : Nat} {b : Nat → Nat} {OV : Value} {W : World} (h : RnI N n m k b OV W) {i : Nat} (hv : VR m k i) : ∃ t cs, t ≠ (101 : Nat) ∧ CB W (b i) t cs := by
 obtain ⟨t1, t2, t3, t4, t5, t6⟩ := ty_p1
 obtain ⟨v1, v2, v3⟩ := hv
 have hs := rfb_ty h.shr
 rw [fresh_len] at hs
 by_cases h8 : i < 8
 ·have hc : i = 0 ∨ i = 1 ∨ i = 2 ∨ i = 4 ∨ i = 5 ∨ i = 6 ∨ i = 7 := by omega
  rcases hc with rfl | rfl | rfl | rfl | rfl | rfl | rfl
  ·exact ⟨_, _, t1, h.box⟩
  ·obtain ⟨A, a1, _⟩ := h.core; exact ⟨_, _, t2, a1⟩
  ·obtain ⟨A, a1, _⟩ := h.any; exact ⟨_, _, t3, a1⟩
  ·obtain ⟨A, a1, _⟩ := h.slp; exact ⟨_, _, t3, a1⟩
  ·obtain ⟨A, a1⟩ := hs.1; exact ⟨_, _, t4, a1⟩
  ·obtain ⟨⟨A, a1⟩, _⟩ := hs.2 (fun e => (v2 e).1 rfl); exact ⟨_, _, t5, a1⟩
  ·obtain ⟨_, ⟨A, a1⟩, _⟩ := hs.2 (fun e => (v2 e).2 rfl); exact ⟨_, _, t6, a1⟩
 ·obtain ⟨j, hj, e⟩ : ∃ j, j < k ∧ (i = 8 + 3 * j ∨ i = 9 + 3 * j ∨ i = 10 + 3 * j) := ⟨(i - 8) / 3, by omega, by omega⟩
  have ho := rfb_ty (h.own j hj)
  rw [edgesV_len] at ho
  have h2 := ho.2 (by decide)
  rcases e with rfl | rfl | rfl
  ·obtain ⟨A, a1⟩ := ho.1; exact ⟨_, _, t4, a1⟩
  ·obtain ⟨A, a1⟩ := h2.1; exact ⟨_, _, t5, a1⟩
  ·obtain ⟨A, a1⟩ := h2.2.1; exact ⟨_, _, t6, a1⟩
theorem RnI.heap {N n m k : Nat} {b : Nat → Nat} {OV OV' : Value} {W W' : World} (h : RnI N n m k b OV W) (hs : W.heap.size ≤ W'.heap.size) (hk : ∀ i, VR m k i → i ≠ 0 → W'.heap[b i]? = W.heap[b i]?)
  (hb : CB W' (b 0) 105 #[.bool false, .bool false, .pointer (some ⟨b 5, 0, none⟩), .slice (some ⟨b 1, 0, none⟩) m m, .slice (some ⟨b 2, 0, none⟩) m m, OV', .slice (some ⟨b 4, 0, none⟩) n n])
  (hr : W'.ownsRow (N + 4) 101 1 OV' k ((List.range k).map fun i => .pointer (some ⟨b (8 + 3 * i), 0, none⟩))) : RnI N n m k b OV' W' := by
 have L : ∀ i, i < 6 → i ≠ 3 → i ≠ 0 → W'.heap[b i]? = W.heap[b i]? := fun i q1 q2 q3 => hk i ⟨by omega, fun _ => by omega, q2⟩ q3
 have O : ∀ i, 8 ≤ i → i < 8 + 3 * k → W'.heap[b i]? = W.heap[b i]? := fun i q1 q2 => hk i ⟨q2, fun _ => by omega, by omega⟩ (by omega)
 refine ⟨h.z0, hb, h.core.heap (L 1 (by omega) (by omega) (by omega)), h.any.heap (L 2 (by omega) (by omega) (by omega)), h.slp.heap (L 4 (by omega) (by omega) (by omega)), h.shr.heap (L 5 (by omega) (by omega) (by omega)) (fun hne => ?_),
  fun i hi => (h.own i hi).heap (O _ (by omega) (by omega)) (fun _ => ⟨O _ (by omega) (by omega), O _ (by omega) (by omega)⟩), hr, h.inj, fun i hv => ⟨(h.rng i hv).1, Nat.lt_of_lt_of_le (h.rng i hv).2 hs⟩⟩
 rw [fresh_len] at hne
 exact ⟨hk 6 ⟨by omega, fun e => (hne e).elim, by omega⟩ (by omega), hk 7 ⟨by omega, fun e => (hne e).elim, by omega⟩ (by omega)⟩
theorem own_below {W W' : World} {base sz n : Nat} {te : TypeId} {v : Value} {cs : List Value} (h : W.ownsRow base te sz v n cs) (k : Below W.heap.size W W') : W'.ownsRow base te sz v n cs :=
 h.kept (row := none) ⟨k.os, k.tape, k.output, k.size, fun i hi _ => k.block i hi⟩ (by cases hv : v.ownBlock <;> simp)
theorem RnI.below {N n m k : Nat} {b : Nat → Nat} {OV : Value} {W W' : World} (h : RnI N n m k b OV W) (kk : Below W.heap.size W W') : RnI N n m k b OV W' :=
 h.heap kk.size (fun i hv _ => kk.block _ (h.rng i hv).2) (h.box.below kk) (own_below h.row kk)
structure NwB (W W1 : World) (x l g : Nat) : Prop where
 rf : RfB W1 x l g 0 (edgesV 16)
 lo : W.heap.size ≤ x ∧ W.heap.size ≤ l ∧ W.heap.size ≤ g
 below : Below W.heap.size W W1
def upd3 (b : Nat → Nat) (j x y z : Nat) (i : Nat) : Nat := if i = j then x else if i = j + 1 then y else if i = j + 2 then z else b i
theorem upd3_o (b : Nat → Nat) {j x y z i : Nat} (h : i < j ∨ j + 2 < i) : upd3 b j x y z i = b i := by
 unfold upd3
 rw [if_neg (by omega), if_neg (by omega), if_neg (by omega)]
theorem upd3_a (b : Nat → Nat) (j x y z : Nat) : upd3 b j x y z j = x ∧ upd3 b j x y z (j + 1) = y ∧ upd3 b j x y z (j + 2) = z := by simp [upd3]
theorem RnI.step {N n m k : Nat} {b : Nat → Nat} {OV OV' : Value} {W W1 W2 : World} {x l g : Nat} {tmp : Obj} (h : RnI N n m k b OV W) (hn : NwB W W1 x l g)
  (ho : W2.ownsRow (N + 4) 101 1 OV' (k + 1) ((List.range k).map (fun i => .pointer (some ⟨b (8 + 3 * i), 0, none⟩)) ++ [.pointer (some ⟨x, 0, none⟩)])) (hg : (W1.alloc tmp).grownBy W2 OV.ownBlock) :
  CB W2 (b 0) 105 #[.bool false, .bool false, .pointer (some ⟨b 5, 0, none⟩), .slice (some ⟨b 1, 0, none⟩) m m, .slice (some ⟨b 2, 0, none⟩) m m, OV, .slice (some ⟨b 4, 0, none⟩) n n] ∧
  RnI N n m (k + 1) (upd3 b (8 + 3 * k) x l g) OV' (W2.setCell ⟨b 0, 5, none⟩ OV') := by
 have h1 := h.below hn.below
 have hz := hg.size
 rw [World.size_alloc] at hz
 have hzb := hn.below.size
 obtain ⟨t1, t2, t3, t4, t5, t6⟩ := ty_p1
 have hnt := rfb_ty hn.rf
 rw [edgesV_len] at hnt
 obtain ⟨⟨A, a1⟩, hn2⟩ := hnt
 obtain ⟨⟨B, b1⟩, ⟨C, c1⟩, d1, d2, d3⟩ := hn2 (by decide)
 have K : ∀ {i t cs}, t ≠ (101 : Nat) → CB W1 i t cs → W2.heap[i]? = W1.heap[i]? := fun {i t cs} ht hc => by
  rw [hg.block i (by rw [World.size_alloc]; exact Nat.lt_succ_of_lt hc.lt) (own_ap (h1.row.alloc tmp) (hc.alloc tmp) ht)]
  exact (bal W1 tmp).block i hc.lt
 have KV : ∀ i, VR m k i → W2.heap[b i]? = W1.heap[b i]? := fun i hv => by
  obtain ⟨t, cs, q1, q2⟩ := h1.ty hv
  exact K q1 q2
 have hb2 := h1.box.heap (KV 0 ⟨by omega, fun _ => by omega, by omega⟩)
 refine ⟨hb2, ?_⟩
 have S : ∀ i, i ≠ b 0 → (W2.setCell ⟨b 0, 5, none⟩ OV').heap[i]? = W2.heap[i]? := fun i hne => Below.heap_setCell W2 ⟨b 0, 5, none⟩ _ _ hne
 have r0 := (h.rng 0 ⟨by omega, fun _ => by omega, by omega⟩)
 obtain ⟨l1, l2, l3⟩ := hn.lo
 obtain ⟨u1, u2, u3⟩ := upd3_a b (8 + 3 * k) x l g
 have uo : ∀ i, i < 8 + 3 * k → upd3 b (8 + 3 * k) x l g i = b i := fun i q => upd3_o b (.inl q)
 have L : ∀ i, i < 6 → i ≠ 3 → i ≠ 0 → (W2.setCell ⟨b 0, 5, none⟩ OV').heap[b i]? = W1.heap[b i]? := fun i q1 q2 q3 => by
  rw [S _ (h.inj i 0 ⟨by omega, fun _ => by omega, q2⟩ ⟨by omega, fun _ => by omega, by omega⟩ q3)]
  exact KV i ⟨by omega, fun _ => by omega, q2⟩
 have O : ∀ i, 8 ≤ i → i < 8 + 3 * k → (W2.setCell ⟨b 0, 5, none⟩ OV').heap[b i]? = W1.heap[b i]? := fun i q1 q2 => by
  rw [S _ (h.inj i 0 ⟨q2, fun _ => by omega, by omega⟩ ⟨by omega, fun _ => by omega, by omega⟩ (by omega))]
  exact KV i ⟨q2, fun _ => by omega, by omega⟩
 have hlt1 := a1.lt
 have hlt2 := b1.lt
 have hlt3 := c1.lt
 refine ⟨by rw [uo _ (by omega)]; exact h.z0, ?_, ?_, ?_, ?_, ?_, fun i hi => ?_, ?_, ?_, fun i hv => ?_⟩
 ·rw [uo _ (by omega), uo _ (by omega), uo _ (by omega), uo _ (by omega), uo _ (by omega)]
  simpa using hb2.set 5 OV'
 ·rw [uo _ (by omega)]; exact h1.core.heap (L 1 (by omega) (by omega) (by omega))
 ·rw [uo _ (by omega)]; exact h1.any.heap (L 2 (by omega) (by omega) (by omega))
 ·rw [uo _ (by omega)]; exact h1.slp.heap (L 4 (by omega) (by omega) (by omega))
 ·rw [uo _ (by omega), uo _ (by omega), uo _ (by omega)]
  refine h1.shr.heap (L 5 (by omega) (by omega) (by omega)) (fun hne => ?_)
  rw [fresh_len] at hne
  have v6 : VR m k 6 := ⟨by omega, fun e => (hne e).elim, by omega⟩
  have v7 : VR m k 7 := ⟨by omega, fun e => (hne e).elim, by omega⟩
  have v0 : VR m k 0 := ⟨by omega, fun _ => by omega, by omega⟩
  exact ⟨(S _ (h.inj 6 0 v6 v0 (by omega))).trans (KV 6 v6), (S _ (h.inj 7 0 v7 v0 (by omega))).trans (KV 7 v7)⟩
 ·by_cases e : i = k
  ·subst e
   rw [u1, show 9 + 3 * i = 8 + 3 * i + 1 by omega, u2, show 10 + 3 * i = 8 + 3 * i + 2 by omega, u3]
   exact hn.rf.heap ((S _ (by omega)).trans (K t4 a1)) (fun _ => ⟨(S _ (by omega)).trans (K t5 b1), (S _ (by omega)).trans (K t6 c1)⟩)
  ·rw [uo _ (by omega), uo _ (by omega), uo _ (by omega)]
   exact (h1.own i (by omega)).heap (O _ (by omega) (by omega)) (fun _ => ⟨O _ (by omega) (by omega), O _ (by omega) (by omega)⟩)
 ·have e : (List.range (k + 1)).map (fun i => Value.pointer (some ⟨upd3 b (8 + 3 * k) x l g (8 + 3 * i), 0, none⟩)) = (List.range k).map (fun i => .pointer (some ⟨b (8 + 3 * i), 0, none⟩)) ++ [.pointer (some ⟨x, 0, none⟩)] := by
   rw [List.range_succ, List.map_append, List.map_singleton, u1]
   congr 1
   refine List.map_congr_left fun i hi => ?_
   rw [List.mem_range] at hi
   rw [uo _ (by omega)]
  rw [e]
  exact own_setCell ho (by rw [h.z0]; omega) _
 ·intro i j hi hj hne
  have ri := h.rng i
  have rj := h.rng j
  have q := h.inj i j
  obtain ⟨i1, i2, i3⟩ := hi
  obtain ⟨j1, j2, j3⟩ := hj
  by_cases ei : i < 8 + 3 * k
  ·have vi : VR m k i := ⟨ei, i2, i3⟩
   rw [uo i ei]
   have rii := ri vi
   by_cases ej : j < 8 + 3 * k
   ·rw [uo j ej]
    exact q vi ⟨ej, j2, j3⟩ hne
   ·have : j = 8 + 3 * k ∨ j = 8 + 3 * k + 1 ∨ j = 8 + 3 * k + 2 := by omega
    rcases this with rfl | rfl | rfl
    ·rw [u1]; omega
    ·rw [u2]; omega
    ·rw [u3]; omega
  ·have hI : i = 8 + 3 * k ∨ i = 8 + 3 * k + 1 ∨ i = 8 + 3 * k + 2 := by omega
   by_cases ej : j < 8 + 3 * k
   ·have rjj := rj ⟨ej, j2, j3⟩
    rw [uo j ej]
    rcases hI with rfl | rfl | rfl
    ·rw [u1]; omega
    ·rw [u2]; omega
    ·rw [u3]; omega
   ·have hJ : j = 8 + 3 * k ∨ j = 8 + 3 * k + 1 ∨ j = 8 + 3 * k + 2 := by omega
    rcases hI with rfl | rfl | rfl <;> rcases hJ with rfl | rfl | rfl <;> (try rw [u1]) <;> (try rw [u2]) <;> (try rw [u3]) <;> omega
 ·rw [World.size_setCell]
  obtain ⟨i1, i2, i3⟩ := hv
  by_cases ei : i < 8 + 3 * k
  ·rw [uo i ei]
   have := h.rng i ⟨ei, i2, i3⟩
   omega
  ·have hI : i = 8 + 3 * k ∨ i = 8 + 3 * k + 1 ∨ i = 8 + 3 * k + 2 := by omega
   have hN := (h.rng 0 ⟨by omega, fun _ => by omega, by omega⟩)
   rcases hI with rfl | rfl | rfl
   ·rw [u1]; omega
   ·rw [u2]; omega
   ·rw [u3]; omega
theorem RnI.done {N n m : Nat} {b : Nat → Nat} {OV : Value} {W : World} (h : RnI N n m n b OV W) (hn : 1 ≤ n) : ∃ b' c', b' 0 = N + 3 ∧ RdAt W N W.heap.size b' c' (Ds.new n m) := by
 obtain ⟨n', rfl⟩ : ∃ n', n = n' + 1 := ⟨n - 1, by omega⟩
 obtain ⟨g, cap, hO⟩ := ownsRow_succ h.row
 have hlt := h.row.lt g (by rw [hO]; rfl)
 have hap : ∀ i, VR m (n' + 1) i → b i ≠ g := fun i hv e => by
  obtain ⟨t, cs, q1, q2⟩ := h.ty hv
  refine own_ap h.row q2 q1 ?_
  rw [hO, e]
  rfl
 obtain ⟨b', hb'⟩ : ∃ b' : Nat → Nat, b' = fun i => if i = 3 then g else b i := ⟨_, rfl⟩
 have e3 : b' 3 = g := by rw [hb']; rfl
 have eo : ∀ i, i ≠ 3 → b' i = b i := fun i q => by rw [hb']; exact if_neg q
 have vr : ∀ i, Real (n' + 1) m i → i ≠ 3 → VR m (n' + 1) i := fun i q1 q2 => ⟨q1.1, q1.2, q2⟩
 have hl := Ds.new_len (n' + 1) m
 have hsl := Ds.new_sh (n' + 1) m
 refine ⟨b', fun i => if i = 2 then cap else if i = 3 then n' + 1 else m, by rw [eo _ (by omega)]; exact h.z0, ?_⟩
 refine ⟨?_, ?_, ?_, ?_, ?_, ?_, fun k hk => ?_, ?_, ?_, Nat.le_refl _⟩
 ·rw [hl, hsl, eo 0 (by omega), eo 1 (by omega), eo 2 (by omega), e3, eo 4 (by omega), eo 5 (by omega)]
  have := h.box
  rw [hO] at this
  exact this
 ·rw [eo 1 (by omega)]
  have := h.core
  simpa [Ds.new, fresh, Rt.zero] using this
 ·rw [eo 2 (by omega)]
  have := h.any
  simpa [Ds.new, fresh, Rt.zero] using this
 ·rw [e3, hl]
  have q := h.row
  rw [hO] at q
  have q2 := Row.own q
  have e : (List.range (n' + 1)).map (fun k => Value.pointer (some ⟨b' (8 + 3 * k), 0, none⟩)) = (List.range (n' + 1)).map (fun k => .pointer (some ⟨b (8 + 3 * k), 0, none⟩)) := List.map_congr_left fun i _ => by rw [eo _ (by omega)]
  rw [e]
  exact q2
 ·rw [eo 4 (by omega)]
  have := h.slp
  simpa [Ds.new] using this
 ·rw [eo 5 (by omega), eo 6 (by omega), eo 7 (by omega)]
  exact h.shr
 ·rw [hl] at hk
  rw [Ds.new_nth hk, eo _ (by omega), eo _ (by omega), eo _ (by omega)]
  have q := h.own k hk
  generalize edgesV 16 = E at q ⊢
  exact q
 ·rw [hl, hsl]
  intro i j q1 q2 hne
  by_cases ei : i = 3
  ·subst ei
   rw [e3, eo j (by omega)]
   exact Ne.symm (hap j (vr j q2 (by omega)))
  ·by_cases ej : j = 3
   ·subst ej
    rw [e3, eo i ei]
    exact hap i (vr i q1 ei)
   ·rw [eo i ei, eo j ej]
    exact h.inj i j (vr i q1 ei) (vr j q2 ej) hne
 ·rw [hl, hsl]
  intro i q
  by_cases ei : i = 3
  ·subst ei; rw [e3]; omega
  ·rw [eo i ei]; exact h.rng i (vr i q ei)
theorem info_iz : (Tryz.prog.info? 3).map (fun i => (i.zero, i.size, i.bytes)) = some (some (.int .i64 0), 1, 8) := by kernel_rfl
theorem info_bz : (Tryz.prog.info? 4).map (fun i => (i.zero, i.size, i.bytes)) = some (some (.bool false), 1, 1) := by kernel_rfl
theorem info_pb : (Tryz.prog.info? 101).map (fun i => (i.zero, i.size, i.bytes)) = some (some (.pointer none), 1, 8) := by kernel_rfl
structure Thr (w : World) (n m g1 g2 g4 : Nat) (W : World) : Prop where
 r1 : Row W g1 3 (List.replicate m (.int .i64 0))
 r2 : Row W g2 4 (List.replicate m (.bool false))
 r4 : Row W g4 4 (List.replicate n (.bool false))
 box : CB W (w.heap.size + 3) 105 #[.bool false, .bool false, .pointer none, .slice (some ⟨g1, 0, none⟩) m m, .slice (some ⟨g2, 0, none⟩) m m, .slice none 0 0, .slice (some ⟨g4, 0, none⟩) n n]
 ne : g1 ≠ g2 ∧ g1 ≠ g4 ∧ g2 ≠ g4
 lo : w.heap.size ≤ g1 ∧ w.heap.size ≤ g2 ∧ w.heap.size ≤ g4 ∧ g1 < w.heap.size + 3 ∧ g2 < w.heap.size + 3 ∧ g4 < w.heap.size + 3
 size : W.heap.size = w.heap.size + 4
 below : Below w.heap.size w W
theorem four_at (w : World) (o1 o2 o3 : Obj) (cs : Array Value) (t : TypeId) : ∃ W, ((((w.alloc o1).alloc o2).alloc o3).alloc (.cells cs t)).drew = W ∧ W.heap[w.heap.size]? = some o1 ∧ W.heap[w.heap.size + 1]? = some o2 ∧ W.heap[w.heap.size + 2]? = some o3 ∧ CB W (w.heap.size + 3) t cs ∧ W.heap.size = w.heap.size + 4 ∧ Below w.heap.size w W := by
 refine ⟨_, rfl, ?_, ?_, ?_, ?_, ?_, ?_⟩
 ·have h1 := World.alloc_heap_new w o1
  show (((((w.alloc o1).alloc o2).alloc o3).alloc (.cells cs t))).heap[_]? = _
  rw [(bal _ _).block _ (by simp <;> omega), (bal _ _).block _ (by simp <;> omega), (bal _ _).block _ (by simp)]
  exact h1
 ·have h1 := World.alloc_heap_new (w.alloc o1) o2
  show (((((w.alloc o1).alloc o2).alloc o3).alloc (.cells cs t))).heap[_]? = _
  rw [(bal _ _).block _ (by simp <;> omega), (bal _ _).block _ (by simp)]
  rw [World.size_alloc] at h1
  exact h1
 ·have h1 := World.alloc_heap_new ((w.alloc o1).alloc o2) o3
  show (((((w.alloc o1).alloc o2).alloc o3).alloc (.cells cs t))).heap[_]? = _
  rw [(bal _ _).block _ (by simp)]
  rw [World.size_alloc, World.size_alloc] at h1
  exact h1
 ·have h1 := CB.new (((w.alloc o1).alloc o2).alloc o3) t cs
  rw [World.size_alloc, World.size_alloc, World.size_alloc] at h1
  exact h1
 ·show (((((w.alloc o1).alloc o2).alloc o3).alloc (.cells cs t))).heap.size = _
  rw [World.size_alloc, World.size_alloc, World.size_alloc, World.size_alloc]
 ·exact Below.drewN (m := 1) (((((Below.refl w.heap.size w).alloc (by simp) o1).alloc (by simp) o2).alloc (by simp; omega) o3).alloc (by simp; omega) _)
theorem row_made {W : World} {g : Nat} {t : TypeId} {z : Value} {n : Nat} (h : W.heap[g]? = some (.cells (madeCells #[z] n) t (0, 0))) : Row W g t (List.replicate n z) := ⟨_, h, by rw [toList_madeCells_one]; exact List.prefix_refl _⟩
theorem thr124 (w : World) (n m : Nat) : Thr w n m w.heap.size (w.heap.size + 1) (w.heap.size + 2) ((((w.alloc (.cells (madeCells #[.int .i64 0] m) 3)).alloc (.cells (madeCells #[.bool false] m) 4)).alloc (.cells (madeCells #[.bool false] n) 4)).alloc (.cells #[.bool false, .bool false, .pointer none, .slice (some ⟨w.heap.size, 0, none⟩) m m, .slice (some ⟨(w.heap.size + 1), 0, none⟩) m m, .slice none 0 0, .slice (some ⟨(w.heap.size + 2), 0, none⟩) n n] 105)).drew := by
 obtain ⟨W, hW, p1, p2, p3, p4, p5, p6⟩ := four_at w (.cells (madeCells #[.int .i64 0] m) 3) (.cells (madeCells #[.bool false] m) 4) (.cells (madeCells #[.bool false] n) 4) #[.bool false, .bool false, .pointer none, .slice (some ⟨w.heap.size, 0, none⟩) m m, .slice (some ⟨(w.heap.size + 1), 0, none⟩) m m, .slice none 0 0, .slice (some ⟨(w.heap.size + 2), 0, none⟩) n n] 105
 rw [hW]
 exact ⟨row_made p1, row_made p2, row_made p3, p4, by omega, by omega, p5, p6⟩
theorem thr142 (w : World) (n m : Nat) : Thr w n m w.heap.size (w.heap.size + 2) (w.heap.size + 1) ((((w.alloc (.cells (madeCells #[.int .i64 0] m) 3)).alloc (.cells (madeCells #[.bool false] n) 4)).alloc (.cells (madeCells #[.bool false] m) 4)).alloc (.cells #[.bool false, .bool false, .pointer none, .slice (some ⟨w.heap.size, 0, none⟩) m m, .slice (some ⟨(w.heap.size + 2), 0, none⟩) m m, .slice none 0 0, .slice (some ⟨(w.heap.size + 1), 0, none⟩) n n] 105)).drew := by
 obtain ⟨W, hW, p1, p2, p3, p4, p5, p6⟩ := four_at w (.cells (madeCells #[.int .i64 0] m) 3) (.cells (madeCells #[.bool false] n) 4) (.cells (madeCells #[.bool false] m) 4) #[.bool false, .bool false, .pointer none, .slice (some ⟨w.heap.size, 0, none⟩) m m, .slice (some ⟨(w.heap.size + 2), 0, none⟩) m m, .slice none 0 0, .slice (some ⟨(w.heap.size + 1), 0, none⟩) n n] 105
 rw [hW]
 exact ⟨row_made p1, row_made p3, row_made p2, p4, by omega, by omega, p5, p6⟩
theorem thr214 (w : World) (n m : Nat) : Thr w n m (w.heap.size + 1) w.heap.size (w.heap.size + 2) ((((w.alloc (.cells (madeCells #[.bool false] m) 4)).alloc (.cells (madeCells #[.int .i64 0] m) 3)).alloc (.cells (madeCells #[.bool false] n) 4)).alloc (.cells #[.bool false, .bool false, .pointer none, .slice (some ⟨(w.heap.size + 1), 0, none⟩) m m, .slice (some ⟨w.heap.size, 0, none⟩) m m, .slice none 0 0, .slice (some ⟨(w.heap.size + 2), 0, none⟩) n n] 105)).drew := by
 obtain ⟨W, hW, p1, p2, p3, p4, p5, p6⟩ := four_at w (.cells (madeCells #[.bool false] m) 4) (.cells (madeCells #[.int .i64 0] m) 3) (.cells (madeCells #[.bool false] n) 4) #[.bool false, .bool false, .pointer none, .slice (some ⟨(w.heap.size + 1), 0, none⟩) m m, .slice (some ⟨w.heap.size, 0, none⟩) m m, .slice none 0 0, .slice (some ⟨(w.heap.size + 2), 0, none⟩) n n] 105
 rw [hW]
 exact ⟨row_made p2, row_made p1, row_made p3, p4, by omega, by omega, p5, p6⟩
theorem thr241 (w : World) (n m : Nat) : Thr w n m (w.heap.size + 2) w.heap.size (w.heap.size + 1) ((((w.alloc (.cells (madeCells #[.bool false] m) 4)).alloc (.cells (madeCells #[.bool false] n) 4)).alloc (.cells (madeCells #[.int .i64 0] m) 3)).alloc (.cells #[.bool false, .bool false, .pointer none, .slice (some ⟨(w.heap.size + 2), 0, none⟩) m m, .slice (some ⟨w.heap.size, 0, none⟩) m m, .slice none 0 0, .slice (some ⟨(w.heap.size + 1), 0, none⟩) n n] 105)).drew := by
 obtain ⟨W, hW, p1, p2, p3, p4, p5, p6⟩ := four_at w (.cells (madeCells #[.bool false] m) 4) (.cells (madeCells #[.bool false] n) 4) (.cells (madeCells #[.int .i64 0] m) 3) #[.bool false, .bool false, .pointer none, .slice (some ⟨(w.heap.size + 2), 0, none⟩) m m, .slice (some ⟨w.heap.size, 0, none⟩) m m, .slice none 0 0, .slice (some ⟨(w.heap.size + 1), 0, none⟩) n n] 105
 rw [hW]
 exact ⟨row_made p3, row_made p1, row_made p2, p4, by omega, by omega, p5, p6⟩
theorem thr412 (w : World) (n m : Nat) : Thr w n m (w.heap.size + 1) (w.heap.size + 2) w.heap.size ((((w.alloc (.cells (madeCells #[.bool false] n) 4)).alloc (.cells (madeCells #[.int .i64 0] m) 3)).alloc (.cells (madeCells #[.bool false] m) 4)).alloc (.cells #[.bool false, .bool false, .pointer none, .slice (some ⟨(w.heap.size + 1), 0, none⟩) m m, .slice (some ⟨(w.heap.size + 2), 0, none⟩) m m, .slice none 0 0, .slice (some ⟨w.heap.size, 0, none⟩) n n] 105)).drew := by
 obtain ⟨W, hW, p1, p2, p3, p4, p5, p6⟩ := four_at w (.cells (madeCells #[.bool false] n) 4) (.cells (madeCells #[.int .i64 0] m) 3) (.cells (madeCells #[.bool false] m) 4) #[.bool false, .bool false, .pointer none, .slice (some ⟨(w.heap.size + 1), 0, none⟩) m m, .slice (some ⟨(w.heap.size + 2), 0, none⟩) m m, .slice none 0 0, .slice (some ⟨w.heap.size, 0, none⟩) n n] 105
 rw [hW]
 exact ⟨row_made p2, row_made p3, row_made p1, p4, by omega, by omega, p5, p6⟩
theorem thr421 (w : World) (n m : Nat) : Thr w n m (w.heap.size + 2) (w.heap.size + 1) w.heap.size ((((w.alloc (.cells (madeCells #[.bool false] n) 4)).alloc (.cells (madeCells #[.bool false] m) 4)).alloc (.cells (madeCells #[.int .i64 0] m) 3)).alloc (.cells #[.bool false, .bool false, .pointer none, .slice (some ⟨(w.heap.size + 2), 0, none⟩) m m, .slice (some ⟨(w.heap.size + 1), 0, none⟩) m m, .slice none 0 0, .slice (some ⟨w.heap.size, 0, none⟩) n n] 105)).drew := by
 obtain ⟨W, hW, p1, p2, p3, p4, p5, p6⟩ := four_at w (.cells (madeCells #[.bool false] n) 4) (.cells (madeCells #[.bool false] m) 4) (.cells (madeCells #[.int .i64 0] m) 3) #[.bool false, .bool false, .pointer none, .slice (some ⟨(w.heap.size + 2), 0, none⟩) m m, .slice (some ⟨(w.heap.size + 1), 0, none⟩) m m, .slice none 0 0, .slice (some ⟨w.heap.size, 0, none⟩) n n] 105
 rw [hW]
 exact ⟨row_made p3, row_made p2, row_made p1, p4, by omega, by omega, p5, p6⟩
theorem Thr.start {w : World} {n m g1 g2 g4 : Nat} {W W1 : World} (h : Thr w n m g1 g2 g4 W) {x l g : Nat} (hx : RfB W1 x l g 32 (fresh m Rt.zero)) (hb : Below W.heap.size W W1) (l1 : W.heap.size ≤ x) (l2 : W.heap.size ≤ l) (l3 : W.heap.size ≤ g) :
  CB W1 (w.heap.size + 3) 105 #[.bool false, .bool false, .pointer none, .slice (some ⟨g1, 0, none⟩) m m, .slice (some ⟨g2, 0, none⟩) m m, .slice none 0 0, .slice (some ⟨g4, 0, none⟩) n n] ∧
  ∃ b, RnI w.heap.size n m 0 b (.slice none 0 0) (W1.setCell ⟨w.heap.size + 3, 2, none⟩ (.pointer (some ⟨x, 0, none⟩))) := by
 have hb1 := h.box.below hb
 have hs := h.size
 have hsb := hb.size
 obtain ⟨a1, a2, a3, a4, a5, a6⟩ := h.lo
 obtain ⟨q1, q2, q3⟩ := h.ne
 refine ⟨hb1, fun i => if i = 0 then w.heap.size + 3 else if i = 1 then g1 else if i = 2 then g2 else if i = 4 then g4 else if i = 5 then x else if i = 6 then l else g, ?_⟩
 have S : ∀ i, i ≠ w.heap.size + 3 → (W1.setCell ⟨w.heap.size + 3, 2, none⟩ (.pointer (some ⟨x, 0, none⟩))).heap[i]? = W1.heap[i]? := fun i hne => Below.heap_setCell W1 ⟨w.heap.size + 3, 2, none⟩ _ _ hne
 have ht := rfb_ty hx
 rw [fresh_len] at ht
 obtain ⟨⟨A, c1⟩, ht2⟩ := ht
 have k1 := c1.lt
 refine ⟨rfl, ?_, (h.r1.below hb).heap (S _ (by show g1 ≠ _; omega)), (h.r2.below hb).heap (S _ (by show g2 ≠ _; omega)), (h.r4.below hb).heap (S _ (by show g4 ≠ _; omega)), ?_, fun i hi => by omega, World.ownsRow_nil _ _ _ _, ?_, ?_⟩
 ·exact hb1.set 2 (.pointer (some ⟨x, 0, none⟩))
 ·refine hx.heap (S _ (by show x ≠ _; omega)) (fun _ => ⟨S _ (by show l ≠ _; omega), S _ (by show g ≠ _; omega)⟩)
 ·rintro i j ⟨i1, i2, i3⟩ ⟨j1, j2, j3⟩ hne
  have hI : i = 0 ∨ i = 1 ∨ i = 2 ∨ i = 4 ∨ i = 5 ∨ i = 6 ∨ i = 7 := by omega
  have hJ : j = 0 ∨ j = 1 ∨ j = 2 ∨ j = 4 ∨ j = 5 ∨ j = 6 ∨ j = 7 := by omega
  by_cases hm : m = 0
  ·have := i2 hm
   have := j2 hm
   rcases hI with rfl | rfl | rfl | rfl | rfl | rfl | rfl <;> rcases hJ with rfl | rfl | rfl | rfl | rfl | rfl | rfl <;> simp <;> omega
  ·obtain ⟨_, _, d1, d2, d3⟩ := ht2 hm
   rcases hI with rfl | rfl | rfl | rfl | rfl | rfl | rfl <;> rcases hJ with rfl | rfl | rfl | rfl | rfl | rfl | rfl <;> simp <;> omega
 ·rintro i ⟨i1, i2, i3⟩
  rw [World.size_setCell]
  have hI : i = 0 ∨ i = 1 ∨ i = 2 ∨ i = 4 ∨ i = 5 ∨ i = 6 ∨ i = 7 := by omega
  by_cases hm : m = 0
  ·have := i2 hm
   rcases hI with rfl | rfl | rfl | rfl | rfl | rfl | rfl <;> simp <;> omega
  ·obtain ⟨⟨B, c2⟩, ⟨C, c3⟩, _⟩ := ht2 hm
   have k2 := c2.lt
   have k3 := c3.lt
   rcases hI with rfl | rfl | rfl | rfl | rfl | rfl | rfl <;> simp <;> omega
theorem bel_grown {w W W9 : World} {base n sz : Nat} {te : TypeId} {v : Value} {xs : List Value} {tmp : Obj} (h : Below w.heap.size w W) (ho : W.ownsRow base te sz v n xs) (hg : (W.alloc tmp).grownBy W9 v.ownBlock) (hz : w.heap.size + 4 ≤ W.heap.size) (hbase : w.heap.size ≤ base) : Below w.heap.size w W9 :=
 (h.alloc h.size tmp).grown hg (by simp; omega) (fun j e => by have := (ho.lt j e).1; omega)
def RMadeD (w : World) (n m : Nat) (e : Ending) (W : World) : Prop := ∃ b c, e = .returned (.tuple #[.pointer (some ⟨b 0, 0, none⟩), .bool true]) ∧ RdAt W w.heap.size W.heap.size b c (Ds.new n m) ∧ Below w.heap.size w W
set_option maxRecDepth 100000 in
set_option maxHeartbeats 8000000 in
theorem rnew_dist (n m : Nat) (w : World) (h1 : 1 ≤ n) (h8 : n ≤ 8) (hm : m ≤ 64) :
  Calls Tryz.prog 19 #[.int .i64 n, .int .i64 m] w (RMadeD w n m) := by
 obtain ⟨i0, hi2, hz0, hz1, hz2⟩ := info_parts info_pb
 have hmi := fun W : World => run_make_row' (P := Tryz.prog) (w := W) 47 3 (.int .i64 0) 8 Tryz.underlying47 info_iz rfl .i64 .i64 m (by omega) (by omega)
 have hmb := fun W : World => run_make_row' (P := Tryz.prog) (w := W) 102 4 (.bool false) 1 Tryz.underlying102 info_bz rfl .i64 .i64 m (by omega) (by omega)
 have hms := fun W : World => run_make_row' (P := Tryz.prog) (w := W) 102 4 (.bool false) 1 Tryz.underlying102 info_bz rfl .i64 .i64 n (by omega) (by omega)
 have hd1 : decide ((n : Int) < 1) = false := by simp; omega
 have hd2 : decide (8 < (n : Int)) = false := by simp; omega
 have hd3 : decide ((m : Int) < 0) = false := by simp
 have hd4 : decide (64 < (m : Int)) = false := by simp; omega
 have HN := hi (fun W => rnew_yes 32 m Rt.zero W ⟨by decide, by omega, by omega⟩)
 have HO := hi (fun W => show Calls Tryz.prog 64 #[.int .i64 0, .int .i64 32, .string ⟨#[]⟩] W (RMade W 0 32 Rt.zero) from rnew_yes 0 32 Rt.zero W ⟨by decide, by decide, by decide⟩)
 go_enter Tryz.func19, Tryz.ntmps19
 go_wp2
 refine wp_mono (Q := fun e a W => ∃ g1 g2 g4 d, w.heap.size + 3 = d ∧ e = .normal ∧ a = { tmps := #[.int .i64 n, .int .i64 m, undef, undef, .pointer none, .bool false, .pointer (some ⟨d, 0, none⟩), undef, undef, undef, undef, undef, undef, .int .i64 n, .bool false, .bool false, .int .i64 n, .bool false, .bool false, .bool false, .int .i64 m, .bool false, .bool false, .bool false, .int .i64 m, .bool false, .bool false, .int .i64 m, .slice (some ⟨g1, 0, none⟩) m m, .int .i64 m, .slice (some ⟨g2, 0, none⟩) m m, .int .i64 n, .slice (some ⟨g4, 0, none⟩) n n, .agg #[.bool false, .bool false, .pointer none, .slice (some ⟨g1, 0, none⟩) m m, .slice (some ⟨g2, 0, none⟩) m m, .slice none 0 0, .slice (some ⟨g4, 0, none⟩) n n], .pointer (some ⟨d, 0, none⟩), undef, undef, undef, undef, undef, undef, undef, undef, undef, undef, undef, undef, undef, undef, undef, undef, undef, undef, undef, undef, undef, undef, undef, undef, undef, undef, undef, undef, undef, undef, undef, undef, undef, undef, undef, undef], defers := [] } ∧ Thr w n m g1 g2 g4 W) ?reg ?rest
 case reg =>
  refine wp_region_noPanic ?_
  refine wp_region_last_drew (S := (fun W' => True)) [] (by kernel_rfl) trivial (fun hHeld => ?_)
  (try simp only)
  refine tk 0 (v := ?_) rfl (Or.inl ⟨by rfl, ?_⟩) ?_
  rotate_left
  ·intro w' hSw; (try dsimp only at hSw); go_simp; (try with_reducible rfl)
  (try simp only [Act.put, n1, n2, n4, n5, n6])
  refine tk 2 (v := ?_) rfl (Or.inl ⟨by rfl, ?_⟩) ?_
  rotate_left
  ·intro w' hSw; (try dsimp only at hSw); go_simp; (try with_reducible rfl)
  (try simp only [Act.put, n1, n2, n3, n4, n5, n6])
  refine tk 4 (v := ?_) rfl (Or.inl ⟨by rfl, ?_⟩) ?_
  rotate_left
  ·intro w' hSw; (try dsimp only at hSw); go_simp; (try with_reducible rfl)
  (try simp only [Act.put, n1, n2, n3, n4, n5, n6])
  refine wpAnyF_ready (rs := [1, 3, 5]) (by kernel_rfl) (by simp) ?_
  refine (AllReadyF.cons rfl (fun KK hKK => ?_) (AllReadyF.cons rfl (fun KK hKK => ?_) (AllReadyF.cons rfl (fun KK hKK => ?_) AllReadyF.nil)))
  ·go_simp
   refine hKK.out _ _ trivial (fun hHeld => ?_)
   clear hKK KK
   (try simp only [Act.put, n1, n2, n3, n4, n5, n6])
   refine wpAnyF_ready (rs := [3, 5]) (by kernel_rfl) (by simp) ?_
   refine (AllReadyF.cons rfl (fun KK hKK => ?_) (AllReadyF.cons rfl (fun KK hKK => ?_) AllReadyF.nil))
   ·go_simp
    refine hKK.out _ _ trivial (fun hHeld => ?_)
    clear hKK KK
    (try simp only [Act.put, n1, n2, n3, n4, n5, n6])
    refine wpAnyF_ready (rs := [5]) (by kernel_rfl) (by simp) ?_
    refine AllReadyF.cons rfl (fun KK hKK => ?_) AllReadyF.nil
    go_simp
    refine hKK.out _ _ trivial (fun hHeld => ?_)
    clear hKK KK
    (try simp only [Act.put, n1, n2, n3, n4, n5, n6])
    refine tk 6 (v := ?_) rfl (Or.inl ⟨by rfl, ?_⟩) ?_
    rotate_left
    ·intro w' hSw; (try dsimp only at hSw); go_simp; (try with_reducible rfl)
    (try simp only [Act.put, n1, n2, n3, n4, n5, n6])
    refine wpAnyF_ready (rs := [7]) (by kernel_rfl) (by simp) ?_
    refine AllReadyF.cons rfl (fun KK hKK => ?_) AllReadyF.nil
    go_simp
    refine hKK.out _ _ trivial (fun hHeld => ?_)
    clear hKK KK
    (try simp only [Act.put, n1, n2, n3, n4, n5, n6])
    refine tk 8 (v := ?_) rfl (Or.inl ⟨by rfl, ?_⟩) ?_
    rotate_left
    ·intro w' hSw; (try dsimp only at hSw); go_simp; (try with_reducible rfl)
    (try simp only [Act.put, n1, n2, n3, n4, n5, n6])
    refine wpAnyF_done (by kernel_rfl) ?_ _
    refine NoPanic.normal ?_
    first | exact ⟨_, _, _, _, rfl, rfl, rfl, thr124 w n m⟩ | exact ⟨_, _, _, _, rfl, rfl, rfl, thr142 w n m⟩ | exact ⟨_, _, _, _, rfl, rfl, rfl, thr214 w n m⟩ | exact ⟨_, _, _, _, rfl, rfl, rfl, thr241 w n m⟩ | exact ⟨_, _, _, _, rfl, rfl, rfl, thr412 w n m⟩ | exact ⟨_, _, _, _, rfl, rfl, rfl, thr421 w n m⟩
   ·go_simp
    refine hKK.out _ _ trivial (fun hHeld => ?_)
    clear hKK KK
    (try simp only [Act.put, n1, n2, n3, n4, n5, n6])
    refine wpAnyF_ready (rs := [3]) (by kernel_rfl) (by simp) ?_
    refine AllReadyF.cons rfl (fun KK hKK => ?_) AllReadyF.nil
    go_simp
    refine hKK.out _ _ trivial (fun hHeld => ?_)
    clear hKK KK
    (try simp only [Act.put, n1, n2, n3, n4, n5, n6])
    refine tk 6 (v := ?_) rfl (Or.inl ⟨by rfl, ?_⟩) ?_
    rotate_left
    ·intro w' hSw; (try dsimp only at hSw); go_simp; (try with_reducible rfl)
    (try simp only [Act.put, n1, n2, n3, n4, n5, n6])
    refine wpAnyF_ready (rs := [7]) (by kernel_rfl) (by simp) ?_
    refine AllReadyF.cons rfl (fun KK hKK => ?_) AllReadyF.nil
    go_simp
    refine hKK.out _ _ trivial (fun hHeld => ?_)
    clear hKK KK
    (try simp only [Act.put, n1, n2, n3, n4, n5, n6])
    refine tk 8 (v := ?_) rfl (Or.inl ⟨by rfl, ?_⟩) ?_
    rotate_left
    ·intro w' hSw; (try dsimp only at hSw); go_simp; (try with_reducible rfl)
    (try simp only [Act.put, n1, n2, n3, n4, n5, n6])
    refine wpAnyF_done (by kernel_rfl) ?_ _
    refine NoPanic.normal ?_
    first | exact ⟨_, _, _, _, rfl, rfl, rfl, thr124 w n m⟩ | exact ⟨_, _, _, _, rfl, rfl, rfl, thr142 w n m⟩ | exact ⟨_, _, _, _, rfl, rfl, rfl, thr214 w n m⟩ | exact ⟨_, _, _, _, rfl, rfl, rfl, thr241 w n m⟩ | exact ⟨_, _, _, _, rfl, rfl, rfl, thr412 w n m⟩ | exact ⟨_, _, _, _, rfl, rfl, rfl, thr421 w n m⟩
  ·go_simp
   refine hKK.out _ _ trivial (fun hHeld => ?_)
   clear hKK KK
   (try simp only [Act.put, n1, n2, n3, n4, n5, n6])
   refine wpAnyF_ready (rs := [1, 5]) (by kernel_rfl) (by simp) ?_
   refine (AllReadyF.cons rfl (fun KK hKK => ?_) (AllReadyF.cons rfl (fun KK hKK => ?_) AllReadyF.nil))
   ·go_simp
    refine hKK.out _ _ trivial (fun hHeld => ?_)
    clear hKK KK
    (try simp only [Act.put, n1, n2, n3, n4, n5, n6])
    refine wpAnyF_ready (rs := [5]) (by kernel_rfl) (by simp) ?_
    refine AllReadyF.cons rfl (fun KK hKK => ?_) AllReadyF.nil
    go_simp
    refine hKK.out _ _ trivial (fun hHeld => ?_)
    clear hKK KK
    (try simp only [Act.put, n1, n2, n3, n4, n5, n6])
    refine tk 6 (v := ?_) rfl (Or.inl ⟨by rfl, ?_⟩) ?_
    rotate_left
    ·intro w' hSw; (try dsimp only at hSw); go_simp; (try with_reducible rfl)
    (try simp only [Act.put, n1, n2, n3, n4, n5, n6])
    refine wpAnyF_ready (rs := [7]) (by kernel_rfl) (by simp) ?_
    refine AllReadyF.cons rfl (fun KK hKK => ?_) AllReadyF.nil
    go_simp
    refine hKK.out _ _ trivial (fun hHeld => ?_)
    clear hKK KK
    (try simp only [Act.put, n1, n2, n3, n4, n5, n6])
    refine tk 8 (v := ?_) rfl (Or.inl ⟨by rfl, ?_⟩) ?_
    rotate_left
    ·intro w' hSw; (try dsimp only at hSw); go_simp; (try with_reducible rfl)
    (try simp only [Act.put, n1, n2, n3, n4, n5, n6])
    refine wpAnyF_done (by kernel_rfl) ?_ _
    refine NoPanic.normal ?_
    first | exact ⟨_, _, _, _, rfl, rfl, rfl, thr124 w n m⟩ | exact ⟨_, _, _, _, rfl, rfl, rfl, thr142 w n m⟩ | exact ⟨_, _, _, _, rfl, rfl, rfl, thr214 w n m⟩ | exact ⟨_, _, _, _, rfl, rfl, rfl, thr241 w n m⟩ | exact ⟨_, _, _, _, rfl, rfl, rfl, thr412 w n m⟩ | exact ⟨_, _, _, _, rfl, rfl, rfl, thr421 w n m⟩
   ·go_simp
    refine hKK.out _ _ trivial (fun hHeld => ?_)
    clear hKK KK
    (try simp only [Act.put, n1, n2, n3, n4, n5, n6])
    refine wpAnyF_ready (rs := [1]) (by kernel_rfl) (by simp) ?_
    refine AllReadyF.cons rfl (fun KK hKK => ?_) AllReadyF.nil
    go_simp
    refine hKK.out _ _ trivial (fun hHeld => ?_)
    clear hKK KK
    (try simp only [Act.put, n1, n2, n3, n4, n5, n6])
    refine tk 6 (v := ?_) rfl (Or.inl ⟨by rfl, ?_⟩) ?_
    rotate_left
    ·intro w' hSw; (try dsimp only at hSw); go_simp; (try with_reducible rfl)
    (try simp only [Act.put, n1, n2, n3, n4, n5, n6])
    refine wpAnyF_ready (rs := [7]) (by kernel_rfl) (by simp) ?_
    refine AllReadyF.cons rfl (fun KK hKK => ?_) AllReadyF.nil
    go_simp
    refine hKK.out _ _ trivial (fun hHeld => ?_)
    clear hKK KK
    (try simp only [Act.put, n1, n2, n3, n4, n5, n6])
    refine tk 8 (v := ?_) rfl (Or.inl ⟨by rfl, ?_⟩) ?_
    rotate_left
    ·intro w' hSw; (try dsimp only at hSw); go_simp; (try with_reducible rfl)
    (try simp only [Act.put, n1, n2, n3, n4, n5, n6])
    refine wpAnyF_done (by kernel_rfl) ?_ _
    refine NoPanic.normal ?_
    first | exact ⟨_, _, _, _, rfl, rfl, rfl, thr124 w n m⟩ | exact ⟨_, _, _, _, rfl, rfl, rfl, thr142 w n m⟩ | exact ⟨_, _, _, _, rfl, rfl, rfl, thr214 w n m⟩ | exact ⟨_, _, _, _, rfl, rfl, rfl, thr241 w n m⟩ | exact ⟨_, _, _, _, rfl, rfl, rfl, thr412 w n m⟩ | exact ⟨_, _, _, _, rfl, rfl, rfl, thr421 w n m⟩
  ·go_simp
   refine hKK.out _ _ trivial (fun hHeld => ?_)
   clear hKK KK
   (try simp only [Act.put, n1, n2, n3, n4, n5, n6])
   refine wpAnyF_ready (rs := [1, 3]) (by kernel_rfl) (by simp) ?_
   refine (AllReadyF.cons rfl (fun KK hKK => ?_) (AllReadyF.cons rfl (fun KK hKK => ?_) AllReadyF.nil))
   ·go_simp
    refine hKK.out _ _ trivial (fun hHeld => ?_)
    clear hKK KK
    (try simp only [Act.put, n1, n2, n3, n4, n5, n6])
    refine wpAnyF_ready (rs := [3]) (by kernel_rfl) (by simp) ?_
    refine AllReadyF.cons rfl (fun KK hKK => ?_) AllReadyF.nil
    go_simp
    refine hKK.out _ _ trivial (fun hHeld => ?_)
    clear hKK KK
    (try simp only [Act.put, n1, n2, n3, n4, n5, n6])
    refine tk 6 (v := ?_) rfl (Or.inl ⟨by rfl, ?_⟩) ?_
    rotate_left
    ·intro w' hSw; (try dsimp only at hSw); go_simp; (try with_reducible rfl)
    (try simp only [Act.put, n1, n2, n3, n4, n5, n6])
    refine wpAnyF_ready (rs := [7]) (by kernel_rfl) (by simp) ?_
    refine AllReadyF.cons rfl (fun KK hKK => ?_) AllReadyF.nil
    go_simp
    refine hKK.out _ _ trivial (fun hHeld => ?_)
    clear hKK KK
    (try simp only [Act.put, n1, n2, n3, n4, n5, n6])
    refine tk 8 (v := ?_) rfl (Or.inl ⟨by rfl, ?_⟩) ?_
    rotate_left
    ·intro w' hSw; (try dsimp only at hSw); go_simp; (try with_reducible rfl)
    (try simp only [Act.put, n1, n2, n3, n4, n5, n6])
    refine wpAnyF_done (by kernel_rfl) ?_ _
    refine NoPanic.normal ?_
    first | exact ⟨_, _, _, _, rfl, rfl, rfl, thr124 w n m⟩ | exact ⟨_, _, _, _, rfl, rfl, rfl, thr142 w n m⟩ | exact ⟨_, _, _, _, rfl, rfl, rfl, thr214 w n m⟩ | exact ⟨_, _, _, _, rfl, rfl, rfl, thr241 w n m⟩ | exact ⟨_, _, _, _, rfl, rfl, rfl, thr412 w n m⟩ | exact ⟨_, _, _, _, rfl, rfl, rfl, thr421 w n m⟩
   ·go_simp
    refine hKK.out _ _ trivial (fun hHeld => ?_)
    clear hKK KK
    (try simp only [Act.put, n1, n2, n3, n4, n5, n6])
    refine wpAnyF_ready (rs := [1]) (by kernel_rfl) (by simp) ?_
    refine AllReadyF.cons rfl (fun KK hKK => ?_) AllReadyF.nil
    go_simp
    refine hKK.out _ _ trivial (fun hHeld => ?_)
    clear hKK KK
    (try simp only [Act.put, n1, n2, n3, n4, n5, n6])
    refine tk 6 (v := ?_) rfl (Or.inl ⟨by rfl, ?_⟩) ?_
    rotate_left
    ·intro w' hSw; (try dsimp only at hSw); go_simp; (try with_reducible rfl)
    (try simp only [Act.put, n1, n2, n3, n4, n5, n6])
    refine wpAnyF_ready (rs := [7]) (by kernel_rfl) (by simp) ?_
    refine AllReadyF.cons rfl (fun KK hKK => ?_) AllReadyF.nil
    go_simp
    refine hKK.out _ _ trivial (fun hHeld => ?_)
    clear hKK KK
    (try simp only [Act.put, n1, n2, n3, n4, n5, n6])
    refine tk 8 (v := ?_) rfl (Or.inl ⟨by rfl, ?_⟩) ?_
    rotate_left
    ·intro w' hSw; (try dsimp only at hSw); go_simp; (try with_reducible rfl)
    (try simp only [Act.put, n1, n2, n3, n4, n5, n6])
    refine wpAnyF_done (by kernel_rfl) ?_ _
    refine NoPanic.normal ?_
    first | exact ⟨_, _, _, _, rfl, rfl, rfl, thr124 w n m⟩ | exact ⟨_, _, _, _, rfl, rfl, rfl, thr142 w n m⟩ | exact ⟨_, _, _, _, rfl, rfl, rfl, thr214 w n m⟩ | exact ⟨_, _, _, _, rfl, rfl, rfl, thr241 w n m⟩ | exact ⟨_, _, _, _, rfl, rfl, rfl, thr412 w n m⟩ | exact ⟨_, _, _, _, rfl, rfl, rfl, thr421 w n m⟩
 case rest =>
  rintro e a W ⟨g1, g2, g4, d, hd, rfl, rfl, HT⟩
  have HTH := hi HT
  have HDD := hi hd
  clear hmi hmb hms HT hd
  go_wp2_with (go_at_call 64; ((with_reducible refine (HN.out _).mono ?_); rintro e w1 ⟨x, lg, xg, la, xa, lc, xc, rfl, q1, q2, q3, hrf, hb⟩; obtain ⟨hbx, hst⟩ := HTH.out.start ⟨_, _, _, _, hrf⟩ hb q1 q2 q3; rw [HDD.out] at hbx hst; have m2 := hbx.cell 2; have mf := hbx.frozen; have HST := hi hst; have HB1 := hi (HTH.out.below.trans (hb.mono HTH.out.below.size)); clear hbx hst hb hrf q1 q2 q3))
  have hdle : w.heap.size ≤ d := by have := HDD.out; omega
  have HB2 := hi (HB1.out.setCell (p := ⟨d, 2, none⟩) hdle (.pointer (some ⟨x, 0, none⟩)))
  obtain ⟨w2, hw2⟩ : ∃ w2, w1.setCell ⟨d, 2, none⟩ (.pointer (some ⟨x, 0, none⟩)) = w2 := ⟨_, rfl⟩
  rw [hw2] at HST HB2 ⊢
  clear hw2 HTH HB1 m2 mf
  go_loopw [9] (fun i wr => ∃ (k : Nat) (b : Nat → Nat) (OV : Value), i = .int .i64 k ∧ k ≤ n ∧ Hi (RnI w.heap.size n m k b OV wr ∧ Below w.heap.size w wr)) (fun i _ => n - (intOf i).toNat)
  case atStart =>
   obtain ⟨b, hb⟩ := HST.out
   exact ⟨0, b, _, rfl, Nat.zero_le _, hi ⟨hb, HB2.out⟩⟩
  case round =>
   obtain ⟨k, b, OV, rfl, hk, HX⟩ := hrel
   obtain ⟨wo, rfl⟩ : ∃ wo, wo = wr := ⟨_, rfl⟩
   clear HST HB2
   by_cases hlt : k < n
   ·go_wp2_with (go_at_call 64; ((with_reducible refine (HO.out _).mono ?_); rintro e w3 ⟨x, lg, xg, la, xa, lc, xc, rfl, q1, q2, q3, hrf, hb⟩; have HRF := hi (show RfB w3 x lg xg 0 (edgesV 0) from ⟨_, _, _, _, hrf⟩); have HQ := hi (And.intro q1 (And.intro q2 q3)); have HB3 := hi hb; clear hb hrf q1 q2 q3))
    go_loopw [12] (fun i wq => ∃ j : Nat, i = .int .i64 j ∧ Hi (j ≤ 16 ∧ RfB wq x lg xg 0 (edgesV j) ∧ Kept (fun i => i = lg ∨ i = xg) w3 wq)) (fun i _ => 16 - (intOf i).toNat)
    case atStart => exact ⟨0, rfl, hi ⟨Nat.zero_le _, HRF.out, Kept.refl _ _⟩⟩
    case round =>
     obtain ⟨j, rfl, HY⟩ := hrel
     have hj := HY.out.1
     by_cases hl16 : j < 16
     ·have HD := hi (rfb_do (id := (j : Nat)) (a := 8) HY.out.2.1 (fit_own (edgesV_len j)))
      clear HRF
      go_wp2_with (go_at_call 65; ((with_reducible refine HD.out.mono ?_); rintro e w5 ⟨rfl, hA⟩; have HA := hi hA; clear hA))
      go_roundw
      case rel => exact ⟨j + 1, by go_num, hi ⟨hl16, HA.out.rf, HY.out.2.2.trans (HA.out.kept.mono (fun i z => z.2))⟩⟩
      case measure => simp only [intOf]; omega
     ·obtain rfl : j = 16 := by omega
      have hnw : NwB wo wr x lg xg := ⟨HY.out.2.1, HQ.out, HB3.out.trans (HY.out.2.2.toBelow HB3.out.size (fun i z => by have := HQ.out; rcases z with rfl | rfl <;> omega))⟩
      have HNW := hi hnw
      have h0 := HX.out.1.rng 0 ⟨by omega, fun _ => by omega, by omega⟩
      have hz0' := HX.out.1.z0
      have hzq : w.heap.size + 4 ≤ wr.heap.size := by have := hnw.below.size; omega
      have hbz : b 0 = d := hz0'.trans HDD.out
      have hbx := (HX.out.1.below hnw.below).box
      rw [hbz] at hbx
      have k5 := hbx.cell 5
      have HROW := hi (own_below HX.out.1.row hnw.below)
      obtain ⟨va, vc, rfl⟩ := own_slice HROW.out
      clear HRF HY HB3 hbx h0 hz0' hnw HO HN
      go_wp2_with (at_builtin; go_loud (refine wpList_append_own _ rfl _ _ 103 rfl (w.heap.size + 4) 101 i0 (.pointer none) 1 8 Tryz.underlying103 hi2 hz0 hz1 hz2 rfl (by decide) _ _ _ rfl (HROW.out.alloc _) ⟨wr.heap.size, 0, none⟩ 1 1 [.pointer (some ⟨x, 0, none⟩)] rfl rfl (cell_one_at rfl _ _) (by simp [Value.oneCell']) (by unfold maxLen; omega) (by omega) (by simp; omega) ?_; intro v' w9 hown' hgrow _; obtain ⟨g', cap', rfl⟩ := ownsRow_succ hown'; obtain ⟨hb9, hm9⟩ := HX.out.1.step HNW.out hown' hgrow; rw [hbz] at hb9 hm9; have d5 := hb9.cell 5; have df := hb9.frozen; have HM := hi hm9; have HBB := hi (show Below w.heap.size w w9 from bel_grown (HX.out.2.trans ((HNW.out.below.mono HX.out.2.size))) HROW.out hgrow hzq (by omega)); clear hb9 hm9))
      go_roundw
      case rel => exact ⟨k + 1, _, _, by go_num, hlt, hi ⟨HM.out, HBB.out.setCell hdle _⟩⟩
      case measure => simp only [intOf]; omega
   ·obtain rfl : k = n := by omega
    go_wp2
    go_ret2
    obtain ⟨b', c', e0, hd⟩ := HX.out.1.done h1
    exact ⟨b', c', by rw [e0, HDD.out]; rfl, hd, HX.out.2⟩
end Go.Proofs.YtieedhdmpabfkaaGreat
