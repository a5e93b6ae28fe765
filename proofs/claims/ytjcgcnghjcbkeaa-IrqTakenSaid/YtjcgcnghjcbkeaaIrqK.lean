/-
  The law IrqLevel at every input.
-/
import Derived.Test.YtjcgcnghjcbkeaaIrqJ
import Derived.Deep.RegionHeld3
import Derived.BigRegion
import Derived.IntWalk
import Derived.Deep.RegionWith
namespace Go.Proofs.Ytjcgcnghjcbkeaa
open Go.ChangeShapes Go.WideShapes Go.ChangeAt Go.RowKit
set_option linter.unusedVariables false

theorem Below.drew1 {n : Nat} {A B : World} (h : Below n A B) : Below n A B.drew := ⟨h.os, h.tape, h.output, h.size, h.block⟩
theorem At1.drew {w wr : World} {x : St} (h : At1 w x wr) : At1 w x wr.drew := ⟨h.box, Below.drew1 h.below⟩
theorem At1.later {w wr w1 : World} {x : St} (h : At1 w x wr) (k : Below wr.heap.size wr w1) : At1 w x w1 := ⟨h.box.below k, h.below.trans (k.mono h.below.size)⟩
theorem At1.store {w wr : World} {x : St} (h : At1 w x wr) (y : St) :
    At1 w y ((((wr.setCell ⟨w.heap.size, 0, none⟩ (.bool y.e)).setCell ⟨w.heap.size, 1, none⟩ (.bool y.l)).setCell ⟨w.heap.size, 2, none⟩ (.bool y.h)).setCell ⟨w.heap.size, 3, none⟩ (.bool y.a)) :=
  ⟨CB.set4 (z := x) h.box y, below_set4 h.below (Nat.le_refl _) y⟩
theorem keep1 {w W W' : World} {n : Nat} {e l q a : Bool} (k : Below W.heap.size W W') (h : W.cell? ⟨n, 0, none⟩ = some (.bool e) ∧ W.cell? ⟨n, 1, none⟩ = some (.bool l) ∧ W.cell? ⟨n, 2, none⟩ = some (.bool q) ∧ W.cell? ⟨n, 3, none⟩ = some (.bool a) ∧ At1 w ⟨e, l, q, a⟩ W) (hn : n = w.heap.size) :
    W'.cell? ⟨n, 0, none⟩ = some (.bool e) ∧ W'.cell? ⟨n, 1, none⟩ = some (.bool l) ∧ W'.cell? ⟨n, 2, none⟩ = some (.bool q) ∧ W'.cell? ⟨n, 3, none⟩ = some (.bool a) ∧ At1 w ⟨e, l, q, a⟩ W' := by
  subst hn
  have h' := h.2.2.2.2.later k
  obtain ⟨c0, c1, c2, c3⟩ := h'.box.cells
  exact ⟨c0, c1, c2, c3, h'⟩

/-- A level's state: its edge and its latch are off. -/
theorem lev_step {x : St} {k : Int} (he : x.e = false) (hh : x.h = false) (h3 : k ≠ 3) (h8 : k ≠ 8) : (x.step k).e = false ∧ (x.step k).h = false := by
  obtain ⟨e, l, q, a⟩ := x
  dsimp only at he hh
  subst he hh
  rcases act_cases k with rfl | rfl | rfl | rfl | rfl | rfl | rfl | rfl | rfl | hk
  case inr.inr.inr.inr.inr.inr.inr.inr.inr => rw [step_odd hk]; exact ⟨rfl, rfl⟩
  case inr.inr.inl => exact absurd rfl h3
  case inr.inr.inr.inr.inr.inr.inr.inl => exact absurd rfl h8
  all_goals (cases l <;> cases a <;> decide)
theorem lev_form {x : St} (he : x.e = false) (hh : x.h = false) : ∃ l a : Bool, x = ⟨false, l, false, a⟩ := by
  obtain ⟨e, l, q, a⟩ := x
  exact ⟨l, a, by dsimp only at he hh; rw [he, hh]⟩
theorem lev_start {w w1 : World} {x : St} (h : CB w1 w.heap.size 23 x.cs) (hB : Below w.heap.size w w1) :
    At1 w ⟨false, x.l, false, x.a⟩ ((w1.setCell ⟨w.heap.size, 0, none⟩ (.bool false)).setCell ⟨w.heap.size, 2, none⟩ (.bool false)) :=
  ⟨(h.set 0 _).set 2 _, below_set (below_set hB (Nat.le_refl _) _) (Nat.le_refl _) _⟩

set_option maxRecDepth 100000 in
set_option maxHeartbeats 4000000 in
theorem lawLevel_any (x : St) (ks : List Int) (v : Value) (w : World) (h : IntsAt w v ks) (hl : ks.length ≤ 9223372036854775806) : Calls Try.prog 6 #[x.v, v] w fun e w' => e = .returned (.bool true) ∧ Below w.heap.size w w' := by
  obtain ⟨a, cap, rfl⟩ := h.slice
  obtain ⟨n, hn⟩ : ∃ n, ks.length = n := ⟨_, rfl⟩
  have H := hi h
  rw [hn] at hl H ⊢
  clear h hn
  obtain ⟨e, l, q, b1⟩ := x
  dsimp only [St.v] at *
  go_enter Try.func6, Try.ntmps6
  go_wp2_with (first
    | (go_at_call 9; ((with_reducible refine (awake_any _).mono ?_); rintro e' w3 ⟨rfl, hb⟩; obtain ⟨hS, hB⟩ := box_call hb; have HS := hi (lev_start (x := ⟨e, l, q, b1⟩) hS hB); have f := hS.frozen; obtain ⟨s0, s1, s2, s3⟩ := CB.cells (x := ⟨e, l, q, b1⟩) hS; clear hb hS hB)))
  go_loopw [6] (fun i wr => ∃ (k : Nat) (p r : Bool), k ≤ n ∧ i = .int .i64 k ∧ Hi (At1 w ⟨false, p, false, r⟩ wr)) (fun i _ => n - (intOf i).toNat)
  case atStart => exact ⟨0, l, b1, Nat.zero_le _, rfl, HS⟩
  case round =>
    obtain ⟨k, p, r, hk, rfl, HA⟩ := hrel
    clear HS f s0 s1 s2 s3
    by_cases hlt : k < n
    · obtain ⟨g, o, rfl, hgl, c0⟩ := (H.out.below HA.out.below).read hlt
      obtain ⟨A, hA⟩ : ∃ A, nth ks k = A := ⟨_, rfl⟩
      rw [hA] at c0
      clear hA
      obtain ⟨s0, s1, s2, s3⟩ := HA.out.box.cells
      dsimp only at s0 s1 s2 s3
      by_cases h3 : A = 3
      · subst h3
        go_wp2
        go_roundw
        case rel => exact ⟨k + 1, p, r, by omega, by go_num, HA⟩
        case measure => simp [intOf]; omega
      by_cases h8 : A = 8
      · subst h8
        go_wp2
        go_roundw
        case rel => exact ⟨k + 1, p, r, by omega, by go_num, HA⟩
        case measure => simp [intOf]; omega
      obtain ⟨y1, y2⟩ := lev_step (x := ⟨false, p, false, r⟩) rfl rfl h3 h8
      obtain ⟨p2, r2, hy⟩ := lev_form y1 y2
      have HC := hi (fun W => step_any ⟨false, p, false, r⟩ A W)
      rw [hy] at HC
      have q3 : (A == 3) = false := by simpa using h3
      have q8 : (A == 8) = false := by simpa using h8
      clear y1 y2 hy h3 h8
      dsimp only [St.v] at HC
      have HX := hi (fun w1 (k1 : Below wr.drew.heap.size wr.drew w1) => (HA.out.drew.later k1))
      have f := HA.out.box.frozen
      go_wp2
      go_region_with (go_at_call 12; ((with_reducible refine (HC.out _).mono ?_); rintro e' w4 ⟨rfl, hb⟩; have HY := hi (HX.out _ hb); obtain ⟨t0, t1, t2, t3⟩ := HY.out.box.cells; have f4 := HY.out.box.frozen; clear hb))
      all_goals
        have HZ := HY.out.store ⟨false, p2, false, r2⟩
        clear s0 s1 s2 s3 t0 t1 t2 t3 f f4 HY HX c0 hgl
        dsimp only at HZ
        obtain ⟨W5, hW5⟩ : ∃ W5, ((((w4.setCell ⟨w.heap.size, 0, none⟩ (.bool false)).setCell ⟨w.heap.size, 1, none⟩ (.bool p2)).setCell ⟨w.heap.size, 2, none⟩ (.bool false)).setCell ⟨w.heap.size, 3, none⟩ (.bool r2)) = W5 := ⟨_, rfl⟩
        rw [hW5] at HZ ⊢
        clear hW5
        have HP := hi (fun W => pend_any ⟨false, p2, false, r2⟩ W)
        rw [show St.pend ⟨false, p2, false, r2⟩ = p2 by cases p2 <;> rfl] at HP
        dsimp only [St.v] at HP
        obtain ⟨s0, s1, s2, s3⟩ := HZ.box.cells
        dsimp only at s0 s1 s2 s3
        have HD := HZ.drew
        go_wp2
        go_region_held3 (fun w' => w'.cell? ⟨w.heap.size, 0, none⟩ = some (.bool false) ∧ w'.cell? ⟨w.heap.size, 1, none⟩ = some (.bool p2) ∧ w'.cell? ⟨w.heap.size, 2, none⟩ = some (.bool false) ∧ w'.cell? ⟨w.heap.size, 3, none⟩ = some (.bool r2) ∧ At1 w ⟨false, p2, false, r2⟩ w')
          (first
            | go_keep
            | ((try dsimp only); go_split_ands; exact ⟨by assumption, by assumption, by assumption, by assumption, by assumption⟩))
          (first
            | (go_at_call 13; (with_reducible refine (HP.out _).mono ?_); rintro e' w6 ⟨rfl, hb⟩; have hS := keep1 (w := w) (n := w.heap.size) (e := false) (l := p2) (q := false) (a := r2) hb (by go_split_ands; exact ⟨by assumption, by assumption, by assumption, by assumption, by assumption⟩) rfl; clear hb; go_split_ands))
        have HQ : At1 w ⟨false, p2, false, r2⟩ w6 := by assumption
        go_wp2
        go_roundw
        case rel => exact ⟨k + 1, p2, r2, by omega, by go_num, hi HQ⟩
        case measure => simp [intOf]; omega
    · obtain rfl : k = n := by omega
      go_wp2
      go_ret
      exact ⟨rfl, HA.out.below⟩

end Go.Proofs.Ytjcgcnghjcbkeaa
