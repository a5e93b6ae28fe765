/-
  Package ladder: the contracts of place, Has, Push, Clear at every input.
-/
import Derived.Test.YtnnlimjbmfpalaaLadA
import Derived.Test.YtnnlimjbmfpalaaGnd
namespace Go.Proofs.Ytnnlimjbmfpalaa
open Go.ChangeShapes Go.WideShapes Go.ChangeAt Go.RowKit
set_option linter.unusedVariables false

abbrev lcs (f : Rg) : Array Value := #[.int .u32 (wd f 0), .int .u32 (wd f 1)]
abbrev lv (f : Rg) : Value := .agg (lcs f)

theorem place_any (g p : Int) (w : World) : Calls Try.prog 58 #[.int .i64 g, .int .i64 p] w fun e w' => e = .returned (.tuple #[.int .i64 (gO g : Int), .int .u32 ((2 ^ kO p : Nat) : Int)]) ∧ Below w.heap.size w w' := by
  have h1 : bits .and .i64 g 1 = (gO g : Int) := by rw [i64_and1]; unfold gO; omega
  have h2 : bits .and .i64 (p / 8) 31 = (kO p : Int) := by rw [i64_and31]; unfold kO; omega
  have hk := kO_lt p
  obtain ⟨k, ek⟩ : ∃ k, kO p = k := ⟨_, rfl⟩
  rw [ek] at h2 hk ⊢
  clear ek
  go_enter Try.func58, Try.ntmps58
  go_wp2
  go_quiet (fail)
  go_wp2
  refine bodyPost_ret (results_tmp2 rfl _ _ _) rfl ⟨?_, Below.drewN (Below.refl _ _)⟩
  have hp : 2 ^ k < 2 ^ 32 := Nat.pow_lt_pow_right (by decide) hk
  have e : (2 : Int) ^ k % 4294967296 = ((2 ^ k : Nat) : Int) := by
    rw [show (2 : Int) ^ k = ((2 ^ k : Nat) : Int) by simp]
    revert hp
    generalize (2 : Nat) ^ k = q
    intro hp
    omega
  show Ending.returned (.tuple #[.int .i64 (gO g : Int), .int .u32 ((2 : Int) ^ k % 4294967296)]) = _
  rw [e]

theorem results_lad {fn : Func} {c : Tmp} (h : fn.results = #[.cell c 27]) (tmps : Array Value) (w : World) (b : Nat) (x y : Value) (hp : tmps.getD c undef = .pointer (some ⟨b, 0, none⟩)) (hb : CB w b 27 #[x, y]) :
    (results fn tmps).run Try.prog w = .ok (.agg #[x, y]) w := by
  have hp' : tmps[c]?.getD undef = .pointer (some ⟨b, 0, none⟩) := by simpa using hp
  have h0 := hb.cell 0
  have h1 := hb.cell 1
  simp [results, h, go_sem, hp', h0, h1]

theorem cb_second {w : World} {o : Obj} {cs : Array Value} {t : TypeId} : CB ((w.alloc o).alloc (.cells cs t)) (w.heap.size + 1) t cs := by
  have := CB.new (w.alloc o) t cs
  rwa [World.size_alloc] at this
theorem bal_two (w : World) (o o' : Obj) : Below w.heap.size w ((w.alloc o).alloc o') := (bal w o).alloc (by simp) o'
/-- A call behind two boxes. -/
theorem box_call2 {w w1 : World} {cs ds : Array Value} {t u : TypeId} (hb : Below ((w.alloc (.cells cs t)).alloc (.cells ds u)).heap.size ((w.alloc (.cells cs t)).alloc (.cells ds u)) w1) :
    CB w1 w.heap.size t cs ∧ CB w1 (w.heap.size + 1) u ds ∧ Below w.heap.size w w1 :=
  ⟨((CB.new w t cs).alloc _).below hb, cb_second.below hb, (bal_two w _ _).trans (hb.mono (by simp; omega))⟩
theorem below_set {n : Nat} {w W : World} (h : Below n w W) {b o : Nat} (hb : n ≤ b) (v : Value) : Below n w (W.setCell ⟨b, o, none⟩ v) := h.setCell (p := ⟨b, o, none⟩) hb v
theorem CB.set2 {W : World} {B : Nat} {t : TypeId} {p q : Value} (h : CB W B t #[p, q]) (x y : Value) : CB ((W.setCell ⟨B, 0, none⟩ x).setCell ⟨B, 1, none⟩ y) B t #[x, y] := (h.set 0 x).set 1 y
theorem below_set2 {n : Nat} {w W : World} (h : Below n w W) {b : Nat} (hb : n ≤ b) (x y : Value) : Below n w ((W.setCell ⟨b, 0, none⟩ x).setCell ⟨b, 1, none⟩ y) := below_set (below_set h hb _) hb _

theorem u32_bit (f : Rg) (g k : Nat) (hk : k < 32) : (bits .and .u32 (wd f g : Int) ((2 ^ k : Nat) : Int) != 0) = f (2 * k + g) := by
  have hp : 2 ^ k < 2 ^ 32 := Nat.pow_lt_pow_right (by decide) hk
  have h0 : 0 < 2 ^ k := Nat.two_pow_pos k
  rw [u32_and (wd_lt f g) (by omega), wd_and f k g hk]
  cases hf : f (2 * k + g)
  · rfl
  · simp only [if_true, bne_iff_ne, ne_eq]
    omega
theorem u32_push (f : Rg) (g k : Nat) (hk : k < 32) : bits .or .u32 (wd f g : Int) ((2 ^ k : Nat) : Int) = (wd (put f (2 * k + g) true) g : Int) := by
  have hp : 2 ^ k < 2 ^ 32 := Nat.pow_lt_pow_right (by decide) hk
  rw [u32_or (wd_lt f g) (by omega), wd_put_or f k g hk]
theorem u32_clear (f : Rg) (g k : Nat) (hk : k < 32) : bits .andNot .u32 (wd f g : Int) ((2 ^ k : Nat) : Int) = (wd (put f (2 * k + g) false) g : Int) := by
  have hp : 2 ^ k < 2 ^ 32 := Nat.pow_lt_pow_right (by decide) hk
  rw [u32_andNot (wd_lt f g) (by omega), wd_put_clear f k g hk]
theorem gO_two (g : Int) : gO g = 0 ∨ gO g = 1 := by unfold gO; omega

set_option maxHeartbeats 1000000 in
theorem has_any (f : Rg) (g p : Int) (w : World) : Calls Try.prog 57 #[lv f, .int .i64 g, .int .i64 p] w fun e w' => e = .returned (.bool (f (plc g p))) ∧ Below w.heap.size w w' := by
  have HP := hi (fun W => place_any g p W)
  have hb := u32_bit f (gO g) (kO p) (kO_lt p)
  rw [show 2 * kO p + gO g = plc g p from rfl] at hb
  obtain ⟨m, hm⟩ : ∃ m, 2 ^ kO p = m := ⟨_, rfl⟩
  rw [hm] at hb HP
  clear hm
  rcases gO_two g with h | h
  all_goals
    rw [h] at HP hb
    clear h
    obtain ⟨v, hv⟩ : ∃ v, f (plc g p) = v := ⟨_, rfl⟩
    rw [hv] at hb ⊢
    clear hv
    obtain ⟨a, ha⟩ : ∃ a, wd f 0 = a := ⟨_, rfl⟩
    obtain ⟨b, hb'⟩ : ∃ b, wd f 1 = b := ⟨_, rfl⟩
    unfold lv lcs
    rw [ha, hb']
    (try rw [ha] at hb)
    (try rw [hb'] at hb)
    clear ha hb'
    go_enter Try.func57, Try.ntmps57
    go_wp2_with (go_at_call 58; ((with_reducible refine (HP.out _).mono ?_); rintro e w1 ⟨rfl, hb1⟩; obtain ⟨hS, hB⟩ := box_call hb1; have HB := hi hB; have s0 := hS.cell 0; have s1 := hS.cell 1; clear hb1 hS hB))
    go_ret
    exact ⟨rfl, HB.out⟩

set_option maxHeartbeats 1000000 in
theorem push_any (f : Rg) (g p : Int) (w : World) : Calls Try.prog 46 #[lv f, .int .i64 g, .int .i64 p] w fun e w' => e = .returned (lv (put f (plc g p) true)) ∧ Below w.heap.size w w' := by
  have HP := hi (fun W => place_any g p W)
  have hb := u32_push f (gO g) (kO p) (kO_lt p)
  rcases gO_two g with h | h
  · have ho := wd_put_other f (kO p) 0 1 true (by omega) (by omega) (by omega)
    rw [h] at HP hb
    rw [show plc g p = 2 * kO p + 0 by rw [plc, h]]
    unfold lv lcs
    rw [ho]
    obtain ⟨c, hc⟩ : ∃ c, wd (put f (2 * kO p + 0) true) 0 = c := ⟨_, rfl⟩
    rw [hc] at hb ⊢
    obtain ⟨m, hm⟩ : ∃ m, 2 ^ kO p = m := ⟨_, rfl⟩
    obtain ⟨a, ha⟩ : ∃ a, wd f 0 = a := ⟨_, rfl⟩
    obtain ⟨b, hb'⟩ : ∃ b, wd f 1 = b := ⟨_, rfl⟩
    rw [hm] at hb HP
    rw [ha] at hb ⊢
    rw [hb']
    clear h ho hc hm ha hb'
    go_enter Try.func46, Try.ntmps46
    go_wp2_with (go_at_call 58; ((with_reducible refine (HP.out _).mono ?_); rintro e w1 ⟨rfl, hb1⟩; obtain ⟨hS, hR, hB⟩ := box_call2 hb1; have HS := hi hS; have HR := hi hR; have HB := hi hB; have s0 := hS.cell 0; have s1 := hS.cell 1; have r0 := hR.cell 0; have r1 := hR.cell 1; have fs := hS.frozen; have fr := hR.frozen; clear hb1 hS hR hB))
    exact bodyPost_ret (results_lad rfl _ _ (w.heap.size + 1) _ _ rfl (CB.set2 (HR.out.other _ _ _ (by omega)) _ _)) rfl ⟨rfl, below_set2 (below_set HB.out (by omega) _) (by omega) _ _⟩
  · have ho := wd_put_other f (kO p) 1 0 true (by omega) (by omega) (by omega)
    rw [h] at HP hb
    rw [show plc g p = 2 * kO p + 1 by rw [plc, h]]
    unfold lv lcs
    rw [ho]
    obtain ⟨c, hc⟩ : ∃ c, wd (put f (2 * kO p + 1) true) 1 = c := ⟨_, rfl⟩
    rw [hc] at hb ⊢
    obtain ⟨m, hm⟩ : ∃ m, 2 ^ kO p = m := ⟨_, rfl⟩
    obtain ⟨a, ha⟩ : ∃ a, wd f 1 = a := ⟨_, rfl⟩
    obtain ⟨b, hb'⟩ : ∃ b, wd f 0 = b := ⟨_, rfl⟩
    rw [hm] at hb HP
    rw [ha] at hb ⊢
    rw [hb']
    clear h ho hc hm ha hb'
    go_enter Try.func46, Try.ntmps46
    go_wp2_with (go_at_call 58; ((with_reducible refine (HP.out _).mono ?_); rintro e w1 ⟨rfl, hb1⟩; obtain ⟨hS, hR, hB⟩ := box_call2 hb1; have HS := hi hS; have HR := hi hR; have HB := hi hB; have s0 := hS.cell 0; have s1 := hS.cell 1; have r0 := hR.cell 0; have r1 := hR.cell 1; have fs := hS.frozen; have fr := hR.frozen; clear hb1 hS hR hB))
    exact bodyPost_ret (results_lad rfl _ _ (w.heap.size + 1) _ _ rfl (CB.set2 (HR.out.other _ _ _ (by omega)) _ _)) rfl ⟨rfl, below_set2 (below_set HB.out (by omega) _) (by omega) _ _⟩

set_option maxHeartbeats 1000000 in
theorem clear_any (f : Rg) (g p : Int) (w : World) : Calls Try.prog 59 #[lv f, .int .i64 g, .int .i64 p] w fun e w' => e = .returned (lv (put f (plc g p) false)) ∧ Below w.heap.size w w' := by
  have HP := hi (fun W => place_any g p W)
  have hb := u32_clear f (gO g) (kO p) (kO_lt p)
  rcases gO_two g with h | h
  · have ho := wd_put_other f (kO p) 0 1 false (by omega) (by omega) (by omega)
    rw [h] at HP hb
    rw [show plc g p = 2 * kO p + 0 by rw [plc, h]]
    unfold lv lcs
    rw [ho]
    obtain ⟨c, hc⟩ : ∃ c, wd (put f (2 * kO p + 0) false) 0 = c := ⟨_, rfl⟩
    rw [hc] at hb ⊢
    obtain ⟨m, hm⟩ : ∃ m, 2 ^ kO p = m := ⟨_, rfl⟩
    obtain ⟨a, ha⟩ : ∃ a, wd f 0 = a := ⟨_, rfl⟩
    obtain ⟨b, hb'⟩ : ∃ b, wd f 1 = b := ⟨_, rfl⟩
    rw [hm] at hb HP
    rw [ha] at hb ⊢
    rw [hb']
    clear h ho hc hm ha hb'
    go_enter Try.func59, Try.ntmps59
    go_wp2_with (go_at_call 58; ((with_reducible refine (HP.out _).mono ?_); rintro e w1 ⟨rfl, hb1⟩; obtain ⟨hS, hR, hB⟩ := box_call2 hb1; have HS := hi hS; have HR := hi hR; have HB := hi hB; have s0 := hS.cell 0; have s1 := hS.cell 1; have r0 := hR.cell 0; have r1 := hR.cell 1; have fs := hS.frozen; have fr := hR.frozen; clear hb1 hS hR hB))
    exact bodyPost_ret (results_lad rfl _ _ (w.heap.size + 1) _ _ rfl (CB.set2 (HR.out.other _ _ _ (by omega)) _ _)) rfl ⟨rfl, below_set2 (below_set HB.out (by omega) _) (by omega) _ _⟩
  · have ho := wd_put_other f (kO p) 1 0 false (by omega) (by omega) (by omega)
    rw [h] at HP hb
    rw [show plc g p = 2 * kO p + 1 by rw [plc, h]]
    unfold lv lcs
    rw [ho]
    obtain ⟨c, hc⟩ : ∃ c, wd (put f (2 * kO p + 1) false) 1 = c := ⟨_, rfl⟩
    rw [hc] at hb ⊢
    obtain ⟨m, hm⟩ : ∃ m, 2 ^ kO p = m := ⟨_, rfl⟩
    obtain ⟨a, ha⟩ : ∃ a, wd f 1 = a := ⟨_, rfl⟩
    obtain ⟨b, hb'⟩ : ∃ b, wd f 0 = b := ⟨_, rfl⟩
    rw [hm] at hb HP
    rw [ha] at hb ⊢
    rw [hb']
    clear h ho hc hm ha hb'
    go_enter Try.func59, Try.ntmps59
    go_wp2_with (go_at_call 58; ((with_reducible refine (HP.out _).mono ?_); rintro e w1 ⟨rfl, hb1⟩; obtain ⟨hS, hR, hB⟩ := box_call2 hb1; have HS := hi hS; have HR := hi hR; have HB := hi hB; have s0 := hS.cell 0; have s1 := hS.cell 1; have r0 := hR.cell 0; have r1 := hR.cell 1; have fs := hS.frozen; have fr := hR.frozen; clear hb1 hS hR hB))
    exact bodyPost_ret (results_lad rfl _ _ (w.heap.size + 1) _ _ rfl (CB.set2 (HR.out.other _ _ _ (by omega)) _ _)) rfl ⟨rfl, below_set2 (below_set HB.out (by omega) _) (by omega) _ _⟩

end Go.Proofs.Ytnnlimjbmfpalaa
