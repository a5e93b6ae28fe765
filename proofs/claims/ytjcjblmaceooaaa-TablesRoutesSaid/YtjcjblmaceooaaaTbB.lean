/-
  Package tables: fields of an entry, numbers, at every call.
-/
import Derived.Test.YtjcjblmaceooaaaTbA
import Derived.Test.YtjcjblmaceooaaaLast
namespace Go.Proofs.Ytjcjblmaceooaaa
open Go.ChangeShapes Go.WideShapes Go.ChangeAt Go.RowKit
set_option linter.unusedVariables false
set_option linter.unusedSimpArgs false

theorem below_dr (V : World) : Below V.heap.size V V.drew := ⟨rfl, rfl, rfl, Nat.le_refl _, fun _ _ => rfl⟩
theorem _root_.Go.RowKit.Below.more {w W W' : World} (h : Below w.heap.size w W) (k : Below W.heap.size W W') : Below w.heap.size w W' := h.trans (k.mono h.size)

theorem run_index_cells {T te : TypeId} {n sz : Nat} (hu : Try.prog.underlying T = some (.array n te)) (hz : (Try.prog.info? te).map (·.size) = some sz) (ha : ∀ w, (isAgg te).run Try.prog w = .ok true w) (cs : Array Value) (k : Nat) (hk : k < n) (W : World) :
    (Instr.index T (.agg cs) (.int .i64 (k : Int))).run Try.prog W = .ok (.agg (cs.extract (k * sz) (k * sz + sz))) W := by
  have h1 : (0 : Int) ≤ (k : Int) ∧ (k : Int) < (n : Nat) := by omega
  cases hq : Try.prog.info? te with
  | none => simp [hq] at hz
  | some i =>
    have hs : i.size = sz := by simpa [hq] using hz
    simp [Instr.index, run_underlying hu, asIntOf, h1, go_sem, part, sizeOf, typeInfo, hq, hs, ha]
    omega
theorem results_pl {fn : Func} {c : Tmp} (h : fn.results = #[.cell c 100]) (tmps : Array Value) (w : World) (b : Nat) (v0 v1 : Value) (hp : tmps.getD c undef = .pointer (some ⟨b, 0, none⟩)) (hb : CB w b 100 #[v0, v1]) :
    (results fn tmps).run Try.prog w = .ok (.agg #[v0, v1]) w := by
  have hp' : tmps[c]?.getD undef = .pointer (some ⟨b, 0, none⟩) := by simpa using hp
  have c0 := hb.cell 0
  have c1 := hb.cell 1
  simp at c0 c1
  simp [results, h, go_sem, hp', c0, c1]
theorem under_pls : Try.prog.underlying 112 = some (.array 6 100) := by kernel_rfl
theorem size_pl : (Try.prog.info? 100).map (·.size) = some 2 := by kernel_rfl
theorem plField0 (x y : Value) (w : World) : (Instr.field 100 (.agg #[x, y]) 0).run Try.prog w = .ok x w := by kernel_rfl
theorem plField1 (x y : Value) (w : World) : (Instr.field 100 (.agg #[x, y]) 1).run Try.prog w = .ok y w := by kernel_rfl
attribute [local go_sem] plField0 plField1
/-- Where a field's bits begin, how many it has. -/
def fF : Nat → Nat | 2 => 8 | 4 => 32 | _ => 0
def fB : Nat → Nat | 0 => 32 | 1 => 5 | 2 => 40 | 3 => 32 | 4 => 16 | 5 => 16 | _ => 0
abbrev Pl.v (f : Nat) : Value := .agg #[.int .i64 (fF f), .int .i64 (fB f)]
def plCells : Array Value := #[.int .i64 0, .int .i64 32, .int .i64 0, .int .i64 5, .int .i64 8, .int .i64 40, .int .i64 0, .int .i64 32, .int .i64 32, .int .i64 16, .int .i64 0, .int .i64 16]
theorem plCells_at (f : Nat) (hf : f < 6) : Value.agg (plCells.extract (f * 2) (f * 2 + 2)) = Pl.v f := by
  have : f = 0 ∨ f = 1 ∨ f = 2 ∨ f = 3 ∨ f = 4 ∨ f = 5 := by omega
  rcases this with rfl | rfl | rfl | rfl | rfl | rfl <;> rfl
set_option maxRecDepth 100000 in
set_option maxHeartbeats 2000000 in
theorem place_any (f : Nat) (hf : f < 6) (w : World) : Calls Try.prog 48 #[.int .i64 f] w fun e w' => e = .returned (Pl.v f) ∧ Below w.heap.size w w' := by
  have hix : ∀ W, (Instr.index 112 (.agg plCells) (.int .i64 (f : Int))).run Try.prog W = .ok (Pl.v f) W := fun W => by
    rw [run_index_cells under_pls size_pl Try.isAgg100 plCells f hf W, plCells_at f hf]
  unfold plCells at hix
  go_enter Try.func48, Try.ntmps48
  go_wp2
  exact bodyPost_ret (results_pl rfl _ _ w.heap.size _ _ rfl (CB.new w 100 _)) rfl ⟨rfl, bal w _⟩
/-- The greatest number that fits. -/
def fM (f : Nat) : Nat := 2 ^ fB f - 1
theorem most_num (f : Nat) (hf : f < 6) : wrap64 (wrap64 (2 ^ min (fB f) 64) - 1) = (fM f : Int) := by
  have : f = 0 ∨ f = 1 ∨ f = 2 ∨ f = 3 ∨ f = 4 ∨ f = 5 := by omega
  rcases this with rfl | rfl | rfl | rfl | rfl | rfl <;> decide +kernel
set_option maxRecDepth 100000 in
set_option maxHeartbeats 2000000 in
theorem most_any (f : Nat) (hf : f < 6) (w : World) : Calls Try.prog 37 #[.int .i64 f] w fun e w' => e = .returned (.int .i64 (fM f)) ∧ Below w.heap.size w w' := by
  have HP := hi (fun W => place_any f hf W)
  have hbl : fB f < 64 := by
    have : f = 0 ∨ f = 1 ∨ f = 2 ∨ f = 3 ∨ f = 4 ∨ f = 5 := by omega
    rcases this with rfl | rfl | rfl | rfl | rfl | rfl <;> decide
  rw [← most_num f hf]
  unfold Pl.v at HP
  obtain ⟨fb, hfb⟩ : ∃ x, fB f = x := ⟨_, rfl⟩
  rw [hfb] at HP hbl ⊢
  rw [show min fb 64 = fb by omega]
  clear hf hfb
  go_enter Try.func37, Try.ntmps37
  go_wp2_with (go_at_call 48; ((with_reducible refine (HP.out _).mono ?_); rintro e w1 ⟨rfl, hb1⟩))
  go_ret
  exact ⟨rfl, hb1⟩
/-- Does a number fit? -/
def fitB (f : Nat) (n : Int) : Bool := decide (0 ≤ n ∧ n ≤ (fM f : Int))
set_option maxHeartbeats 2000000 in
theorem fits_any (f : Nat) (hf : f < 6) (n : Int) (w : World) : Calls Try.prog 36 #[.int .i64 f, .int .i64 n] w fun e w' => e = .returned (.bool (fitB f n)) ∧ Below w.heap.size w w' := by
  have HP := hi (fun W => most_any f hf W)
  obtain ⟨m, hm⟩ : ∃ m, (fM f : Int) = m := ⟨_, rfl⟩
  have HF := hi (show fitB f n = decide (0 ≤ n ∧ n ≤ m) by rw [← hm]; rfl)
  rw [hm] at HP
  clear hf hm
  by_cases h0 : 0 ≤ n
  · have e : fitB f n = decide (n ≤ m) := by rw [HF.out]; simp [h0]
    rw [e]
    clear e
    go_enter Try.func36, Try.ntmps36
    go_wp2_with (go_at_call 37; ((with_reducible refine (HP.out _).mono ?_); rintro e w1 ⟨rfl, hb1⟩))
    go_ret
    exact ⟨rfl, hb1⟩
  · have e : fitB f n = false := by rw [HF.out]; simp [h0]
    have h0' : decide (0 ≤ n) = false := by simpa using h0
    rw [e]
    clear e h0
    go_enter Try.func36, Try.ntmps36
    go_wp2
    go_ret
    exact ⟨rfl, Below.refl _ _⟩

/-- What an entry has in a field. -/
def inN (f v : Nat) : Nat := v / 2 ^ fF f % 2 ^ fB f
theorem in_num (f v : Nat) (hf : f < 6) (hv : v < 18446744073709551616) : bits .and .i64 (IntKind.i64.wrap ((v : Int) / 2 ^ fF f)) (fM f : Nat) = (inN f v : Int) := by
  have h40 : fB f ≤ 40 := by
    have : f = 0 ∨ f = 1 ∨ f = 2 ∨ f = 3 ∨ f = 4 ∨ f = 5 := by omega
    rcases this with rfl | rfl | rfl | rfl | rfl | rfl <;> decide
  have e0 : ((2 : Int) ^ fF f) = ((2 ^ fF f : Nat) : Int) := by simp
  have hd : v / 2 ^ fF f < 18446744073709551616 := Nat.lt_of_le_of_lt (Nat.div_le_self _ _) hv
  rw [e0, ← Int.natCast_ediv, fM, i64_and_mask _ _ h40, inN]
  obtain ⟨d, hd'⟩ : ∃ d, v / 2 ^ fF f = d := ⟨_, rfl⟩
  rw [hd'] at hd ⊢
  have : fB f = 0 ∨ fB f = 5 ∨ fB f = 16 ∨ fB f = 32 ∨ fB f = 40 := by
    have : f = 0 ∨ f = 1 ∨ f = 2 ∨ f = 3 ∨ f = 4 ∨ f = 5 := by omega
    rcases this with rfl | rfl | rfl | rfl | rfl | rfl <;> decide
  rw [IntKind.wrap_i64]
  rcases this with h | h | h | h | h <;> rw [h] <;> simp <;> omega
theorem first_le (f : Nat) : fF f < 64 := by unfold fF; split <;> omega
set_option maxHeartbeats 2000000 in
theorem fin_any (f v : Nat) (hf : f < 6) (hv : v < 18446744073709551616) (w : World) : Calls Try.prog 35 #[.int .i64 f, .int .u64 v] w fun e w' => e = .returned (.int .i64 (inN f v)) ∧ Below w.heap.size w w' := by
  have HP := hi (fun W => place_any f hf W)
  have HM := hi (fun W => most_any f hf W)
  have hN := in_num f v hf hv
  have hfl := first_le f
  rw [← hN]
  unfold Pl.v at HP
  obtain ⟨ff, hff⟩ : ∃ x, fF f = x := ⟨_, rfl⟩
  obtain ⟨fm, hfm⟩ : ∃ x, fM f = x := ⟨_, rfl⟩
  rw [hff] at HP hfl ⊢
  rw [hfm] at HM ⊢
  clear hf hN hff hfm
  go_enter Try.func35, Try.ntmps35
  go_wp2
  refine wp_region_noPanic ?_
  refine wp_region_last_drew (S := (fun W => Below w.heap.size w W)) [] (by kernel_rfl) (below_dr w) (fun hHeld => ?_)
  (try simp only [Array.replicate_succ, Array.replicate_zero, List.push_toArray, List.nil_append, List.cons_append])
  refine wpAnyF_take (i := 0) (v := ?_) (by kernel_rfl) (by kernel_rfl) rfl (by kernel_rfl) (by kernel_rfl) (by kernel_rfl) (fun _ _ _ h => h) (Or.inl ⟨by rfl, ?_⟩) (by assumption) ?_
  rotate_left
  · intro w' hSw; (try dsimp only at hSw); clear hSw; go_simp; (try with_reducible rfl)
  (try simp only [Act.put, List.getElem_toArray, List.getElem_cons_zero, List.getElem_cons_succ, List.setIfInBounds_toArray, List.set_cons_zero, List.set_cons_succ])
  refine wpAnyF_take (i := 1) (v := ?_) (by kernel_rfl) (by kernel_rfl) rfl (by kernel_rfl) (by kernel_rfl) (by kernel_rfl) (fun _ _ _ h => h) (Or.inl ⟨by rfl, ?_⟩) (by assumption) ?_
  rotate_left
  · intro w' hSw; (try dsimp only at hSw); clear hSw; go_simp; (try with_reducible rfl)
  (try simp only [Act.put, List.getElem_toArray, List.getElem_cons_zero, List.getElem_cons_succ, List.setIfInBounds_toArray, List.set_cons_zero, List.set_cons_succ])
  refine wpAnyF_take (i := 6) (v := ?_) (by kernel_rfl) (by kernel_rfl) rfl (by kernel_rfl) (by kernel_rfl) (by kernel_rfl) (fun _ _ _ h => h) (Or.inl ⟨by rfl, ?_⟩) (by assumption) ?_
  rotate_left
  · intro w' hSw; (try dsimp only at hSw); clear hSw; go_simp; (try with_reducible rfl)
  (try simp only [Act.put, List.getElem_toArray, List.getElem_cons_zero, List.getElem_cons_succ, List.setIfInBounds_toArray, List.set_cons_zero, List.set_cons_succ])
  refine wpAnyF_ready (rs := [2]) (by kernel_rfl) (by simp) ?_
  refine AllReadyF.cons rfl (fun KK hKK => ?_) AllReadyF.nil
  go_simp
  ((with_reducible refine (HP.out _).mono ?_); rintro e' w1 ⟨rfl, hb1⟩; have hH1 := hHeld.more hb1; clear hb1)
  (try go_simp)
  refine hKK.out _ _ hH1 (fun hHeld => ?_)
  clear hKK KK
  (try simp only [Act.put, List.getElem_toArray, List.getElem_cons_zero, List.getElem_cons_succ, List.setIfInBounds_toArray, List.set_cons_zero, List.set_cons_succ])
  refine wpAnyF_take (i := 3) (v := ?_) (by kernel_rfl) (by kernel_rfl) rfl (by kernel_rfl) (by kernel_rfl) (by kernel_rfl) (fun _ _ _ h => h) (Or.inl ⟨by rfl, ?_⟩) (by assumption) ?_
  rotate_left
  · intro w' hSw; (try dsimp only at hSw); clear hSw; go_simp; (try with_reducible rfl)
  (try simp only [Act.put, List.getElem_toArray, List.getElem_cons_zero, List.getElem_cons_succ, List.setIfInBounds_toArray, List.set_cons_zero, List.set_cons_succ])
  refine wpAnyF_take (i := 4) (v := ?_) (by kernel_rfl) (by kernel_rfl) rfl (by kernel_rfl) (by kernel_rfl) (by kernel_rfl) (fun _ _ _ h => h) (Or.inl ⟨by rfl, ?_⟩) (by assumption) ?_
  rotate_left
  · intro w' hSw; (try dsimp only at hSw); clear hSw; go_simp; (try with_reducible rfl)
  (try simp only [Act.put, List.getElem_toArray, List.getElem_cons_zero, List.getElem_cons_succ, List.setIfInBounds_toArray, List.set_cons_zero, List.set_cons_succ])
  refine wpAnyF_take (i := 5) (v := ?_) (by kernel_rfl) (by kernel_rfl) rfl (by kernel_rfl) (by kernel_rfl) (by kernel_rfl) (fun _ _ _ h => h) (Or.inl ⟨by rfl, ?_⟩) (by assumption) ?_
  rotate_left
  · intro w' hSw; (try dsimp only at hSw); clear hSw; go_simp; (try with_reducible rfl)
  (try simp only [Act.put, List.getElem_toArray, List.getElem_cons_zero, List.getElem_cons_succ, List.setIfInBounds_toArray, List.set_cons_zero, List.set_cons_succ])
  refine wpAnyF_ready (rs := [7]) (by kernel_rfl) (by simp) ?_
  refine AllReadyF.cons rfl (fun KK hKK => ?_) AllReadyF.nil
  go_simp
  ((with_reducible refine (HM.out _).mono ?_); rintro e' w2 ⟨rfl, hb2⟩; have hH2 := hHeld.more hb2; clear hb2)
  (try go_simp)
  refine hKK.out _ _ hH2 (fun hHeld => ?_)
  clear hKK KK
  (try simp only [Act.put, List.getElem_toArray, List.getElem_cons_zero, List.getElem_cons_succ, List.setIfInBounds_toArray, List.set_cons_zero, List.set_cons_succ])
  refine wpAnyF_take (i := 8) (v := ?_) (by kernel_rfl) (by kernel_rfl) rfl (by kernel_rfl) (by kernel_rfl) (by kernel_rfl) (fun _ _ _ h => h) (Or.inl ⟨by rfl, ?_⟩) (by assumption) ?_
  rotate_left
  · intro w' hSw; (try dsimp only at hSw); clear hSw; go_simp; (try with_reducible rfl)
  (try simp only [Act.put, List.getElem_toArray, List.getElem_cons_zero, List.getElem_cons_succ, List.setIfInBounds_toArray, List.set_cons_zero, List.set_cons_succ])
  refine wpAnyF_take (i := 9) (v := ?_) (by kernel_rfl) (by kernel_rfl) rfl (by kernel_rfl) (by kernel_rfl) (by kernel_rfl) (fun _ _ _ h => h) (Or.inl ⟨by rfl, ?_⟩) (by assumption) ?_
  rotate_left
  · intro w' hSw; (try dsimp only at hSw); clear hSw; go_simp; (try with_reducible rfl)
  (try simp only [Act.put, List.getElem_toArray, List.getElem_cons_zero, List.getElem_cons_succ, List.setIfInBounds_toArray, List.set_cons_zero, List.set_cons_succ])
  refine wpAnyF_done (by kernel_rfl) ?_ _
  refine NoPanic.normal ?_
  go_wp2
  go_ret
  exact ⟨rfl, hHeld⟩

/-- The bits of an entry that has a number in a field. -/
def ofN (f n : Nat) : Nat := n * 2 ^ fF f
set_option maxRecDepth 100000 in
set_option maxHeartbeats 2000000 in
theorem of_any (f n : Nat) (hf : f < 6) (hn : n * 2 ^ fF f < 18446744073709551616) (h63 : n < 9223372036854775808) (w : World) : Calls Try.prog 29 #[.int .i64 f, .int .i64 n] w fun e w' => e = .returned (.int .u64 (ofN f n)) ∧ Below w.heap.size w w' := by
  have HP := hi (fun W => place_any f hf W)
  have hfl := first_le f
  have hN : IntKind.u64.wrap ((n : Int) * 2 ^ fF f) = (ofN f n : Int) := by
    have e0 : ((2 : Int) ^ fF f) = ((2 ^ fF f : Nat) : Int) := by simp
    rw [e0, ← Int.natCast_mul, IntKind.wrap_u64, ofN]
    omega
  unfold Pl.v at HP
  obtain ⟨r, hr⟩ : ∃ x, ofN f n = x := ⟨_, rfl⟩
  rw [hr] at hN ⊢
  obtain ⟨ff, hff⟩ : ∃ x, fF f = x := ⟨_, rfl⟩
  rw [hff] at HP hfl hN hn
  clear hf hr hff hn
  go_enter Try.func29, Try.ntmps29
  go_wp2_with (go_at_call 48; ((with_reducible refine (HP.out _).mono ?_); rintro e w1 ⟨rfl, hb1⟩))
  go_ret
  exact ⟨rfl, hb1⟩

theorem valid_yes (v : Nat) (hv : v < 18446744073709551616) (h : 9223372036854775808 ≤ v) (w : World) : Calls Try.prog 34 #[.int .u64 v] w fun e w' => e = .returned (.bool true) ∧ w = w' := by
  have e := and63 v hv
  rw [if_pos h] at e
  clear hv h
  go_enter Try.func34, Try.ntmps34
  go_wp2
  go_ret
  exact ⟨rfl, rfl⟩
theorem valid_no (v : Nat) (hv : v < 18446744073709551616) (h : ¬ 9223372036854775808 ≤ v) (w : World) : Calls Try.prog 34 #[.int .u64 v] w fun e w' => e = .returned (.bool false) ∧ w = w' := by
  have e := and63 v hv
  rw [if_neg h] at e
  clear hv h
  go_enter Try.func34, Try.ntmps34
  go_wp2
  go_ret
  exact ⟨rfl, rfl⟩
def valB (v : Nat) : Bool := decide (9223372036854775808 ≤ v)
theorem valid_any (v : Nat) (hv : v < 18446744073709551616) (w : World) : Calls Try.prog 34 #[.int .u64 v] w fun e w' => e = .returned (.bool (valB v)) ∧ w = w' := by
  by_cases h : 9223372036854775808 ≤ v
  · rw [show valB v = true by simpa [valB] using h]; exact valid_yes v hv h w
  · rw [show valB v = false by simpa [valB] using h]; exact valid_no v hv h w
def nuB (k : Int) : Bool := decide (0 ≤ k ∧ k < 131072)
theorem numbered_any (k : Int) (w : World) : Calls Try.prog 24 #[.int .i64 k] w fun e w' => e = .returned (.bool (nuB k)) ∧ w = w' := by
  by_cases h0 : 0 ≤ k
  · have e : nuB k = decide (k < 131072) := by simp [nuB, h0]
    rw [e]
    clear e
    go_enter Try.func24, Try.ntmps24
    go_wp2
    go_ret
    exact ⟨rfl, rfl⟩
  · have e : nuB k = false := by simp [nuB, h0]
    have h0' : decide (0 ≤ k) = false := by simpa using h0
    rw [e]
    clear e h0
    go_enter Try.func24, Try.ntmps24
    go_wp2
    go_ret
    exact ⟨rfl, rfl⟩
theorem per_any (t : Tb) (hp : i64B t.page) (w : World) : Calls Try.prog 27 #[t.v] w fun e w' => e = .returned (.int .i64 (perN t)) ∧ Below w.heap.size w w' := by
  obtain ⟨a, s, p⟩ := t
  have hw : IntKind.i64.wrap (p.tdiv 8) = p.tdiv 8 := by
    have : p.tdiv 8 = if 0 ≤ p then p / 8 else -((-p) / 8) := by
      split
      · exact Int.tdiv_eq_ediv_of_nonneg (by omega)
      · obtain ⟨q, rfl⟩ : ∃ q, p = -q := ⟨-p, by omega⟩
        rw [Int.neg_tdiv, Int.tdiv_eq_ediv_of_nonneg (by omega), Int.neg_neg]
    rw [IntKind.wrap_i64, this]
    dsimp only at hp
    split <;> omega
  unfold perN
  dsimp only at hp ⊢
  obtain ⟨h1, h2⟩ := hp
  go_enter Try.func27, Try.ntmps27
  go_wp2
  go_ret
  exact ⟨rfl, bal w _⟩

end Go.Proofs.Ytjcjblmaceooaaa
