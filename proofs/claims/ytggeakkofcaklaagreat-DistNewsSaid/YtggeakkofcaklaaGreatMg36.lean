import Derived.Test.YtggeakkofcaklaaGreatMg35
import Derived.Test.YtggeakkofcaklaaGreatMg32
namespace Go.Proofs.YtggeakkofcaklaaGreat
open Go.ChangeShapes Go.WideShapes Go.ChangeAt Go.RowKit Go.Shelf
set_option linter.unusedVariables false
attribute [local go_sem] Oper.semAt_some
section
variable {w W : World} {p q r s : Nat} {b c b' c' : Nat → Nat} {D D' : Ds}
end
end Go.Proofs.YtggeakkofcaklaaGreat
namespace Go.Proofs.YtggeakkofcaklaaGreat
open Go.ChangeShapes Go.WideShapes Go.ChangeAt Go.RowKit Go.Shelf
set_option linter.unusedVariables false
section
variable {w W : World} {p q r s : Nat} {b c b' c' : Nat → Nat} {D D' : Ds}
end
end Go.Proofs.YtggeakkofcaklaaGreat
namespace Go.Proofs.YtggeakkofcaklaaGreat
open Go.ChangeShapes Go.WideShapes Go.ChangeAt Go.RowKit Go.Shelf
set_option linter.unusedVariables false
attribute [local go_sem] Oper.semAt_some
def Ds.new (n m : Nat) : Ds := ⟨false, false, List.replicate n ⟨edgesV 16, false⟩, fresh m Rt.zero⟩
theorem Ds.new_len (n m : Nat) : (Ds.new n m).cs.length = n := List.length_replicate
theorem Ds.new_sh (n m : Nat) : (Ds.new n m).sh.length = m := List.length_replicate
theorem Ds.new_nth {n m k : Nat} (h : k < n) : (Ds.new n m).nth k = ⟨edgesV 16, false⟩ := by
  unfold Ds.nth Ds.new
  rw [List.getElem?_replicate, if_pos h]
  rfl
theorem nthE_fresh (m k : Nat) (s : Rt) (hk : k < m) : nthE (fresh m s) k = ⟨Ln.zero, s⟩ := by simp [nthE, fresh, hk]
theorem Ds.new_ok {n m : Nat} (h1 : 1 ≤ n) (h8 : n ≤ 8) (hm : m ≤ 64) : (Ds.new n m).Ok := by
  refine ⟨by rw [Ds.new_len]; exact h1, by rw [Ds.new_len]; exact h8, by rw [Ds.new_sh]; exact hm, fun k hk => ?_, fun k hk => ?_, fresh_fine _ _, fun k hk => ?_⟩
  · rw [Ds.new_len] at hk; rw [Ds.new_nth hk]; have q := edgesV_len 16; generalize edgesV 16 = E at q ⊢; exact q
  · rw [Ds.new_len] at hk; rw [Ds.new_nth hk]; have q := edgesV_fine 16; generalize edgesV 16 = E at q ⊢; exact q
  · rw [Ds.new_sh] at hk
    show 0 ≤ (nthE (fresh m Rt.zero) k).s.c ∧ (nthE (fresh m Rt.zero) k).s.c ≤ 255
    rw [nthE_fresh _ _ _ hk]
    exact ⟨by decide, by decide⟩
def Vd (k i : Nat) : Prop := i < 4 + 2 * k ∧ i ≠ 2 ∧ i ≠ 3
structure NwI (lo n k : Nat) (b c : Nat → Nat) (W : World) : Prop where
  z0 : b 0 = lo + 1
  z1 : b 1 = lo
  box : CB W (lo + 1) 83 #[.bool false, .bool false, .slice (some ⟨lo, 0, none⟩) n n, .pointer none]
  row : ∃ vs, Row W lo 86 vs ∧ vs.length = 2 * n ∧ (∀ i, i < k → vs[i * 2]? = some (.pointer (some ⟨b (4 + 2 * i), 0, none⟩))) ∧ ∀ i, i < n → vs[i * 2 + 1]? = some (.bool false)
  own : ∀ i, i < k → BkAt W (b (4 + 2 * i)) (b (5 + 2 * i)) (c (2 + i)) 0 (edgesV 16)
  inj : ∀ i j, Vd k i → Vd k j → i ≠ j → b i ≠ b j
  rng : ∀ i, Vd k i → lo ≤ b i ∧ b i < W.heap.size
def upd (b : Nat → Nat) (j x y : Nat) (i : Nat) : Nat := if i = j then x else if i = j + 1 then y else b i
theorem upd_a (b : Nat → Nat) (j x y : Nat) : upd b j x y j = x := by simp [upd]
theorem upd_b (b : Nat → Nat) (j x y : Nat) : upd b j x y (j + 1) = y := by simp [upd]
theorem upd_o (b : Nat → Nat) {j x y i : Nat} (h : i ≠ j) (h2 : i ≠ j + 1) : upd b j x y i = b i := by simp [upd, h, h2]
theorem upd_inj {b : Nat → Nat} {V : Nat → Prop} {j x y s : Nat} (hi' : ∀ i i', V i → V i' → i ≠ i' → b i ≠ b i') (hs : ∀ i, V i → b i < s) (hx : s ≤ x) (hy : s ≤ y) (hne : x ≠ y) :
    ∀ i i', (V i ∨ i = j ∨ i = j + 1) → (V i' ∨ i' = j ∨ i' = j + 1) → i ≠ i' → upd b j x y i ≠ upd b j x y i' := by
  intro i i' h h' hn
  unfold upd
  have k1 := hs i
  have k2 := hs i'
  have k3 := hi' i i'
  split <;> split <;> (try split) <;> (try split) <;> (try omega)
  · have := k2 (by rcases h' with q | q | q <;> first | exact q | omega); omega
  · have := k2 (by rcases h' with q | q | q <;> first | exact q | omega); omega
  · have := k1 (by rcases h with q | q | q <;> first | exact q | omega); omega
  · have := k1 (by rcases h with q | q | q <;> first | exact q | omega); omega
  · exact k3 (by rcases h with q | q | q <;> first | exact q | omega) (by rcases h' with q | q | q <;> first | exact q | omega) hn
theorem made_two (n j : Nat) (h : j < 2 * n) : (madeCells #[.pointer none, .bool false] (n * 2)).toList[j]? = some (if j % 2 = 0 then .pointer none else .bool false) := by
  have h1 : j < (madeCells #[.pointer none, .bool false] (n * 2)).size := by rw [size_madeCells]; omega
  rw [Array.getElem?_toList, Array.getElem?_eq_getElem h1]
  simp only [madeCells, Array.getElem_map, Array.getElem_range, Option.some.injEq]
  rcases Nat.mod_two_eq_zero_or_one j with e | e <;> simp [e]
theorem NwI.start (w : World) (n : Nat) : NwI w.heap.size n 0 (fun i => if i = 0 then w.heap.size + 1 else w.heap.size) (fun _ => 0) ((w.alloc (.cells (madeCells #[.pointer none, .bool false] (n * 2)) 86)).alloc (.cells #[.bool false, .bool false, .slice (some ⟨w.heap.size, 0, none⟩) n n, .pointer none] 83)) := by
  refine ⟨rfl, rfl, cb_second, ⟨_, ⟨_, (CB.new w _ _).alloc _, List.prefix_refl _⟩, ?_, fun i h => by omega, fun i h => ?_⟩, fun i h => by omega, fun i j h1 h2 h3 => ?_, fun i h => ?_⟩
  · rw [Array.length_toList, size_madeCells]; omega
  · rw [made_two n _ (by omega), if_neg (by omega)]
  · obtain ⟨q1, q2, q3⟩ := h1
    obtain ⟨r1, r2, r3⟩ := h2
    (try dsimp only)
    split <;> split <;> omega
  · (try dsimp only)
    rw [World.size_alloc, World.size_alloc]
    split <;> omega
theorem NwI.step {lo n k : Nat} {b c : Nat → Nat} {W W1 : World} (h : NwI lo n k b c W) (hk : k < n) {B G cap : Nat} (hB : BkAt W1 B G cap 0 (edgesV 16)) (hb : Below W.heap.size W W1) (h1 : W.heap.size ≤ B) (h2 : W.heap.size ≤ G) :
    NwI lo n (k + 1) (upd b (4 + 2 * k) B G) (fun i => if i = 2 + k then cap else c i) (W1.setCell ⟨lo, k * 2, none⟩ (.pointer (some ⟨B, 0, none⟩))) := by
  have hl1 := h.box.lt
  obtain ⟨vs, hr, hv1, hv2, hv3⟩ := h.row
  have hl0 := hr.lt
  have hbl := hB.box.lt
  have hgl := hB.row.lt
  have S : ∀ i, i ≠ lo → (W1.setCell ⟨lo, k * 2, none⟩ (.pointer (some ⟨B, 0, none⟩))).heap[i]? = W1.heap[i]? := fun i hne => Below.heap_setCell W1 ⟨lo, k * 2, none⟩ _ _ hne
  refine ⟨by rw [upd_o _ (by omega) (by omega)]; exact h.z0, by rw [upd_o _ (by omega) (by omega)]; exact h.z1, (h.box.below hb).heap (S _ (by omega)), ⟨vs.set (k * 2) (.pointer (some ⟨B, 0, none⟩)), (hr.below hb).set _ (by omega), by rw [List.length_set]; exact hv1, fun i hi => ?_, fun i hi => ?_⟩, fun i hi => ?_, ?_, fun i hi => ?_⟩
  · by_cases e : i = k
    · subst e
      rw [List.getElem?_set_self (by omega), upd_a]
    · rw [List.getElem?_set_ne (by omega), hv2 i (by omega), upd_o _ (by omega) (by omega)]
  · rw [List.getElem?_set_ne (by omega), hv3 i hi]
  · by_cases e : i = k
    · subst e
      rw [upd_a, show 5 + 2 * i = 4 + 2 * i + 1 by omega, upd_b]
      simp only [if_true]
      exact ⟨hB.box.heap (S _ (by omega)), hB.row.heap (S _ (by omega)), hB.ne⟩
    · rw [upd_o _ (by omega) (by omega), upd_o _ (by omega) (by omega)]
      (try dsimp only)
      rw [if_neg (by omega)]
      have z := (h.own i (by omega)).below hb
      have n1 := h.inj (4 + 2 * i) 1 ⟨by omega, by omega, by omega⟩ ⟨by omega, by omega, by omega⟩ (by omega)
      have n2 := h.inj (5 + 2 * i) 1 ⟨by omega, by omega, by omega⟩ ⟨by omega, by omega, by omega⟩ (by omega)
      rw [h.z1] at n1 n2
      exact z.heap (S _ n1) (S _ n2)
  · have := upd_inj (V := Vd k) (j := 4 + 2 * k) h.inj (fun i q => (h.rng i q).2) h1 h2 hB.ne
    intro i j q1 q2
    refine this i j ?_ ?_
    · obtain ⟨a1, a2, a3⟩ := q1; unfold Vd; omega
    · obtain ⟨a1, a2, a3⟩ := q2; unfold Vd; omega
  · have hs := hb.size
    have hlo := (h.rng 1 ⟨by omega, by omega, by omega⟩)
    rw [h.z1] at hlo
    rw [World.size_setCell]
    obtain ⟨q1, q2, q3⟩ := hi
    by_cases e1 : i = 4 + 2 * k
    · subst e1; rw [upd_a]; omega
    · by_cases e2 : i = 4 + 2 * k + 1
      · subst e2; rw [upd_b]; omega
      · rw [upd_o _ e1 e2]
        have := h.rng i ⟨by omega, q2, q3⟩
        omega
theorem NwI.row_at {lo n k : Nat} {b c : Nat → Nat} {W W1 : World} (h : NwI lo n k b c W) (hk : k < n) (hb : Below W.heap.size W W1) : (∃ v, W1.cell? ⟨lo, k * 2, none⟩ = some v) ∧ W1.frozen? ⟨lo, k * 2, none⟩ = false := by
  obtain ⟨vs, hr, hv1, hv2, hv3⟩ := h.row
  have hl : k * 2 < vs.length := by omega
  exact ⟨⟨vs[k * 2], by rw [(hr.below hb).cell hl, List.getElem?_eq_getElem hl]⟩, (hr.below hb).frozen _⟩
theorem NwI.done {lo n m : Nat} {b c : Nat → Nat} {W W1 : World} (h : NwI lo n n b c W) {B G cap : Nat} (hB : BkAt W1 B G cap 32 (fresh m Rt.zero)) (hb : Below W.heap.size W W1) (h1 : W.heap.size ≤ B) (h2 : W.heap.size ≤ G) :
    ∃ b' c', b' 0 = lo + 1 ∧ DiAt (W1.setCell ⟨lo + 1, 3, none⟩ (.pointer (some ⟨B, 0, none⟩))) lo (W1.setCell ⟨lo + 1, 3, none⟩ (.pointer (some ⟨B, 0, none⟩))).heap.size b' c' (Ds.new n m) := by
  have hl1 := h.box.lt
  obtain ⟨vs, hr, hv1, hv2, hv3⟩ := h.row
  have hl0 := hr.lt
  have hbl := hB.box.lt
  have hgl := hB.row.lt
  have hs := hb.size
  have S : ∀ i, i ≠ lo + 1 → (W1.setCell ⟨lo + 1, 3, none⟩ (.pointer (some ⟨B, 0, none⟩))).heap[i]? = W1.heap[i]? := fun i hne => Below.heap_setCell W1 ⟨lo + 1, 3, none⟩ _ _ hne
  have u0 : upd b 2 B G 0 = lo + 1 := by rw [upd_o _ (by omega) (by omega)]; exact h.z0
  have u1 : upd b 2 B G 1 = lo := by rw [upd_o _ (by omega) (by omega)]; exact h.z1
  have u3 : upd b 2 B G 3 = G := upd_b b 2 B G
  have uo : ∀ i, upd b 2 B G (4 + i) = b (4 + i) := fun i => upd_o _ (by omega) (by omega)
  have hlen := Ds.new_len n m
  have hvd : ∀ i, i < 4 + 2 * n → Vd n i ∨ i = 2 ∨ i = 2 + 1 := fun i q => by unfold Vd; omega
  refine ⟨upd b 2 B G, fun i => if i = 0 then n else if i = 1 then cap else c i, u0, ⟨?_, ?_, ?_, fun k hk => ?_, ?_, fun i hi => ?_, Nat.le_refl _⟩⟩
  · rw [u0, u1, upd_a, hlen]
    exact (h.box.below hb).set 3 (.pointer (some ⟨B, 0, none⟩))
  · rw [u1]
    have e : flat encCo ((Ds.new n m).prs (upd b 2 B G)) = vs := by
      apply List.ext_getElem?
      intro j
      by_cases hj : j < 2 * n
      · obtain ⟨i, hi, e⟩ : ∃ i, i < n ∧ (j = i * 2 ∨ j = i * 2 + 1) := ⟨j / 2, by omega, by omega⟩
        have hp := Ds.prs_at (b := upd b 2 B G) (show i < (Ds.new n m).cs.length by rw [hlen]; exact hi)
        rw [Ds.new_nth hi] at hp
        rcases e with rfl | rfl
        · have g := flat_get encCo_len _ i 0 _ (by decide) hp
          rw [Nat.add_zero] at g
          rw [g, hv2 i hi, ← uo (2 * i)]
          rfl
        · rw [flat_get encCo_len _ i 1 _ (by decide) hp, hv3 i hi]
          rfl
      · rw [List.getElem?_eq_none (by rw [flat_len encCo_len, Ds.prs_len, hlen]; omega), List.getElem?_eq_none (by omega)]
    rw [e]
    exact (hr.below hb).heap (S _ (by omega))
  · rw [u3, upd_a]
    exact hB.heap (S _ (by omega)) (S _ (by omega))
  · rw [hlen] at hk
    rw [Ds.new_nth hk, uo, show 5 + 2 * k = 4 + (2 * k + 1) by omega, uo]
    dsimp only
    rw [if_neg (by omega), if_neg (by omega)]
    have z := (h.own k hk).below hb
    have n1 := h.inj (4 + 2 * k) 0 ⟨by omega, by omega, by omega⟩ ⟨by omega, by omega, by omega⟩ (by omega)
    have n2 := h.inj (5 + 2 * k) 0 ⟨by omega, by omega, by omega⟩ ⟨by omega, by omega, by omega⟩ (by omega)
    rw [h.z0] at n1 n2
    rw [show 4 + (2 * k + 1) = 5 + 2 * k by omega]
    exact z.heap (S _ n1) (S _ n2)
  · rw [hlen]
    have := upd_inj (V := Vd n) (j := 2) h.inj (fun i q => (h.rng i q).2) h1 h2 hB.ne
    intro i j q1 q2
    exact this i j (hvd i q1) (hvd j q2)
  · rw [hlen] at hi
    rw [World.size_setCell]
    have hlo := (h.rng 1 ⟨by omega, by omega, by omega⟩)
    rw [h.z1] at hlo
    rcases hvd i hi with q | rfl | rfl
    · rw [upd_o _ q.2.1 q.2.2]
      have := h.rng i q
      omega
    · rw [upd_a]; omega
    · rw [upd_b]; omega
def NewOkD (n m : Int) : Prop := 1 ≤ n ∧ n ≤ 8 ∧ 0 ≤ m ∧ m ≤ 64
set_option maxHeartbeats 2000000 in
theorem new_dist_no (n m : Int) (w : World) (h : ¬ NewOkD n m) :
    Calls Tryz.prog 18 #[.int .i64 n, .int .i64 m] w fun e W => e = .returned (.tuple #[.pointer none, .int .i64 1]) ∧ w = W := by
  unfold NewOkD at h
  by_cases h1 : n < 1
  · clear h
    go_enter Tryz.func18, Tryz.ntmps18
    go_wp2
    go_ret2
    exact ⟨rfl, rfl⟩
  · by_cases h2 : 8 < n
    · have hd1 : decide (n < 1) = false := by simp; omega
      clear h
      go_enter Tryz.func18, Tryz.ntmps18
      go_wp2
      go_ret2
      exact ⟨rfl, rfl⟩
    · have hd1 : decide (n < 1) = false := by simp; omega
      have hd2 : decide (8 < n) = false := by simp; omega
      by_cases h3 : m < 0
      · clear h
        go_enter Tryz.func18, Tryz.ntmps18
        go_wp2
        go_ret2
        exact ⟨rfl, rfl⟩
      · have hd3 : decide (m < 0) = false := by simp; omega
        have h4 : 64 < m := by omega
        clear h
        go_enter Tryz.func18, Tryz.ntmps18
        go_wp2
        go_ret2
        exact ⟨rfl, rfl⟩
def MadeD (w : World) (n m : Nat) (e : Ending) (W : World) : Prop := ∃ b c, e = .returned (.tuple #[.pointer (some ⟨b 0, 0, none⟩), .int .i64 0]) ∧ DiAt W w.heap.size W.heap.size b c (Ds.new n m) ∧ Below w.heap.size w W
theorem info_co : (Tryz.prog.info? 86).map (fun i => (i.zero, i.size, i.bytes)) = some (some (.agg #[.pointer none, .bool false]), 2, 16) := by kernel_rfl
set_option maxRecDepth 100000 in
set_option maxHeartbeats 4000000 in
theorem new_dist (n m : Nat) (w : World) (h1 : 1 ≤ n) (h8 : n ≤ 8) (hm : m ≤ 64) :
    Calls Tryz.prog 18 #[.int .i64 n, .int .i64 m] w (MadeD w n m) := by
  obtain ⟨i0, hi2, hz0, hz1, hz2⟩ := info_parts info_co
  have hmk : ∀ W : World, (Instr.makeSlice 80 (.int .i64 (n : Int)) (.int .i64 (n : Int))).run Tryz.prog W = .ok (.slice (some ⟨W.heap.size, 0, none⟩) n n) (W.alloc (.cells (madeCells #[.pointer none, .bool false] (n * 2)) 86)) := fun W => by
    have h1 := run_make (P := Tryz.prog) W 80 86 i0 _ Tryz.underlying80 hi2 hz0 .i64 .i64 n n (by omega) (Int.le_refl _) (by rw [hz2]; omega) (by omega)
    rw [hz1] at h1
    simpa [Value.cells] using h1
  have hd1 : decide ((n : Int) < 1) = false := by simp; omega
  have hd2 : decide (8 < (n : Int)) = false := by simp; omega
  have hd3 : decide ((m : Int) < 0) = false := by simp
  have hd4 : decide (64 < (m : Int)) = false := by simp; omega
  have HN := hi (fun W => show Calls Tryz.prog 63 #[.int .i64 32, .int .i64 m, .agg #[.int .i64 0, .bool false]] W (Made W 32 m Rt.zero) from new_yes 32 m Rt.zero W ⟨by decide, by omega, by omega⟩)
  have HO := hi (fun W => newOwn_any W)
  have H0 := hi (NwI.start w n)
  have HB0 := hi (bal_two w (.cells (madeCells #[.pointer none, .bool false] (n * 2)) 86) (.cells #[.bool false, .bool false, .slice (some ⟨w.heap.size, 0, none⟩) n n, .pointer none] 83))
  go_enter Tryz.func18, Tryz.ntmps18
  go_wp2
  obtain ⟨w0, hw0⟩ : ∃ w0, ((w.alloc (.cells (madeCells #[.pointer none, .bool false] (n * 2)) 86)).alloc (.cells #[.bool false, .bool false, .slice (some ⟨w.heap.size, 0, none⟩) n n, .pointer none] 83)) = w0 := ⟨_, rfl⟩
  rw [hw0] at H0 HB0 ⊢
  clear hw0
  go_loopw [31] (fun i wr => ∃ k : Nat, i = .int .i64 k ∧ k ≤ n ∧ ∃ b c, Hi (NwI w.heap.size n k b c wr ∧ Below w.heap.size w wr)) (fun i _ => n - (intOf i).toNat)
  case atStart => exact ⟨0, rfl, Nat.zero_le _, _, _, hi ⟨H0.out, HB0.out⟩⟩
  case round =>
    obtain ⟨k, rfl, hk, b, c, HX⟩ := hrel
    clear H0 HB0
    by_cases hlt : k < n
    · have x2 := HX.out.1.box.cell 2
      have xb := HX.out.1.box.lt
      go_wp2
      refine wp_region_noPanic ?_
      refine wp_region_last_drew (S := (fun W' => CB W' (w.heap.size + 1) 83 #[.bool false, .bool false, .slice (some ⟨w.heap.size, 0, none⟩) n n, .pointer none])) [6, 7, 8] (by kernel_rfl) HX.out.1.box.drew (fun hHeld => ?_)
      (try simp only [Array.replicate_succ, Array.replicate_zero, List.push_toArray, List.nil_append, List.cons_append])
      refine wpAnyF_take (i := 0) (v := ?_) (by kernel_rfl) (by kernel_rfl) rfl (by kernel_rfl) (by kernel_rfl) (by kernel_rfl) (fun _ _ _ h => h) (Or.inl ⟨by rfl, ?_⟩) (by assumption) ?_
      rotate_left
      · intro w' hSw; (try dsimp only at hSw); have p2 := hSw.cell 2; go_simp; (try with_reducible rfl)
      (try simp only [Act.put, List.getElem_toArray, List.getElem_cons_zero, List.setIfInBounds_toArray, List.set_cons_zero, List.set_cons_succ])
      refine wpAnyF_take (i := 1) (v := ?_) (by kernel_rfl) (by kernel_rfl) rfl (by kernel_rfl) (by kernel_rfl) (by kernel_rfl) (fun _ _ _ h => h) (Or.inl ⟨by rfl, ?_⟩) (by assumption) ?_
      rotate_left
      · intro w' hSw; (try dsimp only at hSw); have p2 := hSw.cell 2; go_simp; (try with_reducible rfl)
      (try simp only [Act.put, List.getElem_toArray, List.getElem_cons_zero, List.getElem_cons_succ, List.setIfInBounds_toArray, List.set_cons_zero, List.set_cons_succ])
      refine wpAnyF_take (i := 2) (v := ?_) (by kernel_rfl) (by kernel_rfl) rfl (by kernel_rfl) (by kernel_rfl) (by kernel_rfl) (fun _ _ _ h => h) (Or.inl ⟨by rfl, ?_⟩) (by assumption) ?_
      rotate_left
      · intro w' hSw; (try dsimp only at hSw); have p2 := hSw.cell 2; go_simp; (try with_reducible rfl)
      (try simp only [Act.put, List.getElem_toArray, List.getElem_cons_zero, List.getElem_cons_succ, List.setIfInBounds_toArray, List.set_cons_zero, List.set_cons_succ])
      refine wpAnyF_take (i := 3) (v := ?_) (by kernel_rfl) (by kernel_rfl) rfl (by kernel_rfl) (by kernel_rfl) (by kernel_rfl) (fun _ _ _ h => h) (Or.inl ⟨by rfl, ?_⟩) (by assumption) ?_
      rotate_left
      · intro w' hSw; (try dsimp only at hSw); have p2 := hSw.cell 2; go_simp; (try with_reducible rfl)
      (try simp only [Act.put, List.getElem_toArray, List.getElem_cons_zero, List.getElem_cons_succ, List.setIfInBounds_toArray, List.set_cons_zero, List.set_cons_succ])
      refine wpAnyF_take (i := 4) (v := ?_) (by kernel_rfl) (by kernel_rfl) rfl (by kernel_rfl) (by kernel_rfl) (by kernel_rfl) (fun _ _ _ h => h) (Or.inl ⟨by rfl, ?_⟩) (by assumption) ?_
      rotate_left
      · intro w' hSw; (try dsimp only at hSw); have p2 := hSw.cell 2; go_simp; (try with_reducible rfl)
      (try simp only [Act.put, List.getElem_toArray, List.getElem_cons_zero, List.getElem_cons_succ, List.setIfInBounds_toArray, List.set_cons_zero, List.set_cons_succ])
      refine wpAnyF_ready (rs := [5]) (by kernel_rfl) (by simp) ?_
      refine AllReadyF.cons rfl (fun KK hKK => ?_) AllReadyF.nil
      go_simp
      ((with_reducible refine (HO.out _).mono ?_); rintro e' w2 ⟨B, G, cap, rfl, hbk, hb2', hB1, hG1⟩; have hb2 : Below wr.heap.size wr w2 := (Below.drewN (m := 1) (Below.refl _ _)).trans hb2'; have HS2 := hi (HX.out.1.step hlt hbk hb2 hB1 hG1); have HB2 := hi (HX.out.2.trans (hb2.mono HX.out.2.size)); have hSS := hHeld.below hb2'; have HRW := hi (HX.out.1.row_at hlt hb2); clear hbk hb2 hb2' hB1 hG1)
      (try go_simp)
      refine hKK.out _ _ hSS (fun hHeld => ?_)
      clear hKK KK
      (try simp only [Act.put, List.getElem_toArray, List.getElem_cons_zero, List.getElem_cons_succ, List.setIfInBounds_toArray, List.set_cons_zero, List.set_cons_succ])
      refine wpAnyF_ready (rs := [6]) (by kernel_rfl) (by simp) ?_
      refine AllReadyF.last (by kernel_rfl) rfl (fun KK hKK => ?_) AllReadyF.nil
      go_simp
      refine hKK.out _ _ ?_
      clear hKK KK
      (try simp only [Act.put, List.getElem_toArray, List.getElem_cons_zero, List.getElem_cons_succ, List.setIfInBounds_toArray, List.set_cons_zero, List.set_cons_succ])
      refine wpAnyF_ready (rs := [7]) (by kernel_rfl) (by simp) ?_
      refine AllReadyF.last (by kernel_rfl) rfl (fun KK hKK => ?_) AllReadyF.nil
      go_simp
      refine hKK.out _ _ ?_
      clear hKK KK
      (try simp only [Act.put, List.getElem_toArray, List.getElem_cons_zero, List.getElem_cons_succ, List.setIfInBounds_toArray, List.set_cons_zero, List.set_cons_succ])
      refine wpAnyF_ready (rs := [8]) (by kernel_rfl) (by simp) ?_
      refine AllReadyF.last (by kernel_rfl) rfl (fun KK hKK => ?_) AllReadyF.nil
      obtain ⟨⟨qv, q0⟩, qf⟩ := HRW.out
      go_simp
      refine hKK.out _ _ ?_
      clear hKK KK
      (try simp only [Act.put, List.getElem_toArray, List.getElem_cons_zero, List.getElem_cons_succ, List.setIfInBounds_toArray, List.set_cons_zero, List.set_cons_succ])
      refine wpAnyF_done (by kernel_rfl) ?_ _
      refine NoPanic.normal ?_
      go_wp2
      go_roundw
      case rel => exact ⟨k + 1, by go_num, hlt, _, _, hi ⟨HS2.out, HB2.out.setCell (Nat.le_refl _) _⟩⟩
      case measure => simp only [intOf]; omega
    · obtain rfl : k = n := by omega
      go_wp2_with (go_at_call 63; ((with_reducible refine (HN.out _).mono ?_); rintro e w1 ⟨B, G, rfl, hb1, hg1, hbk, hB⟩; have HB := hi hB; have HD := hi (HX.out.1.done hbk hB hb1 hg1); have HS := hi (HX.out.2.trans (hB.mono HX.out.2.size)); have hX1 := HX.out.1.box.below hB; have m3 := hX1.cell 3; have mf := hX1.frozen; clear hB hb1 hg1 hbk hX1))
      go_ret2
      obtain ⟨b', c', e0, hd⟩ := HD.out
      exact ⟨b', c', by rw [e0]; rfl, hd, HS.out.setCell (by show w.heap.size ≤ w.heap.size + 1; omega) _⟩
end Go.Proofs.YtggeakkofcaklaaGreat
