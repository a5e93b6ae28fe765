/-
  Slices of acts; the law's play at every state and acts.
-/
import Derived.Test.YtjcgcnghjcbkeaaIrqC
import Derived.BigQuiet
import Derived.Deep.QuietTactic
namespace Go.Proofs.Ytjcgcnghjcbkeaa
open Go.ChangeShapes Go.WideShapes Go.ChangeAt Go.RowKit
set_option linter.unusedVariables false

/-- The slice value v holds the ints xs. -/
def IntsAt (W : World) (v : Value) (xs : List Int) : Prop :=
  ∃ (a : Option Addr) (cap : Nat), v = .slice a xs.length cap ∧ (xs.length ≤ cap ∧ cap ≤ maxLen) ∧ (xs ≠ [] → ∃ b off : Nat, a = some ⟨b, off, none⟩ ∧ ∀ j, j < xs.length → W.cell? ⟨b, off + j, none⟩ = some (.int .i64 (xs[j]?.getD 0)))
theorem IntsAt.below {W W' : World} {v : Value} {xs : List Int} (h : IntsAt W v xs) (hb : Below W.heap.size W W') : IntsAt W' v xs := by
  obtain ⟨a, cap, hv, hcap, hc⟩ := h
  refine ⟨a, cap, hv, hcap, fun hx => ?_⟩
  obtain ⟨b, off, ha, hcs⟩ := hc hx
  exact ⟨b, off, ha, fun j hj => (hb.cell (p := ⟨b, off + j, none⟩) (World.block_lt_of_cell? W _ (hcs j hj))).trans (hcs j hj)⟩
theorem IntsAt.slice {W : World} {v : Value} {xs : List Int} (h : IntsAt W v xs) : ∃ a cap, v = .slice a xs.length cap := by obtain ⟨a, cap, e, _⟩ := h; exact ⟨a, cap, e⟩
def nth (xs : List Int) (k : Nat) : Int := xs[k]?.getD 0
/-- One element of a slice of numbers. -/
theorem IntsAt.read {W : World} {a : Option Addr} {n cap : Nat} {xs : List Int} (h : IntsAt W (.slice a n cap) xs) {k : Nat} (hk : k < n) : ∃ b o : Nat, a = some ⟨b, o, none⟩ ∧ b < W.heap.size ∧ W.cell? ⟨b, o + k, none⟩ = some (.int .i64 (nth xs k)) := by
  obtain ⟨a', cap', e, _, hc⟩ := h
  injection e with e1 e2 e3
  subst e1; subst e2
  obtain ⟨b, o, ha, hcs⟩ := hc (fun e => by simp [e] at hk)
  exact ⟨b, o, ha, World.block_lt_of_cell? W _ (hcs k hk), hcs k hk⟩
theorem IntsAt.len {W : World} {a : Option Addr} {n cap : Nat} {xs : List Int} (h : IntsAt W (.slice a n cap) xs) : n = xs.length := by
  obtain ⟨a', cap', e, _, hc⟩ := h
  injection e

theorem take_nth {xs : List Int} {k : Nat} (h : k < xs.length) : xs.take (k + 1) = xs.take k ++ [nth xs k] := by
  rw [List.take_add_one, List.getElem?_eq_getElem h]
  simp [nth, List.getElem?_eq_getElem h]
/-- The state behind the first k acts. -/
def St.upto (x : St) (ks : List Int) (k : Nat) : St := x.run (ks.take k)
theorem upto_zero (x : St) (ks : List Int) : x.upto ks 0 = x := by simp [St.upto, St.run]
theorem upto_all (x : St) (ks : List Int) : x.upto ks ks.length = x.run ks := by simp [St.upto]
theorem upto_succ {x : St} {ks : List Int} {k : Nat} (h : k < ks.length) : x.upto ks (k + 1) = (x.upto ks k).step (nth ks k) := by
  rw [St.upto, take_nth h, St.run_snoc]; rfl

/-- Where play stands. -/
structure PlayAt (w : World) (x : St) (z : St) (wr : World) : Prop where
  box : CB wr w.heap.size 23 x.cs
  res : CB wr (w.heap.size + 1) 23 z.cs
  below : Below w.heap.size w wr
theorem PlayAt.call {w wr w1 : World} {x z : St} (h : PlayAt w x z wr) (k : Below wr.heap.size wr w1) (y : St) :
    PlayAt w y z ((((w1.setCell ⟨w.heap.size, 0, none⟩ (.bool y.e)).setCell ⟨w.heap.size, 1, none⟩ (.bool y.l)).setCell ⟨w.heap.size, 2, none⟩ (.bool y.h)).setCell ⟨w.heap.size, 3, none⟩ (.bool y.a)) :=
  ⟨CB.set4 (z := x) (h.box.below k) y, ((((h.res.below k).other _ _ _ (by omega)).other _ _ _ (by omega)).other _ _ _ (by omega)).other _ _ _ (by omega),
   below_set4 (h.below.trans (k.mono h.below.size)) (Nat.le_refl _) y⟩

theorem out_upto (w wr w1 : World) (z x : St) (ks : List Int) (k : Nat) (hk : k < ks.length) (h : PlayAt w (x.upto ks k) z wr) (c : Below wr.heap.size wr w1) (y : St) (hy : (x.upto ks k).step (nth ks k) = y) :
    PlayAt w (x.upto ks (k + 1)) z ((((w1.setCell ⟨w.heap.size, 0, none⟩ (.bool y.e)).setCell ⟨w.heap.size, 1, none⟩ (.bool y.l)).setCell ⟨w.heap.size, 2, none⟩ (.bool y.h)).setCell ⟨w.heap.size, 3, none⟩ (.bool y.a)) := by
  rw [upto_succ hk, hy]; exact h.call c y

set_option maxHeartbeats 2000000 in
theorem play_any (x : St) (ks : List Int) (v : Value) (w : World) (h : IntsAt w v ks) (hl : ks.length ≤ 9223372036854775806) :
    Calls Try.prog 25 #[x.v, v] w fun e w' => e = .returned (x.run ks).v ∧ Below w.heap.size w w' := by
  obtain ⟨a, cap, rfl⟩ := h.slice
  obtain ⟨n, hn⟩ : ∃ n, ks.length = n := ⟨_, rfl⟩
  have HN := hi hn
  have H := hi h
  obtain ⟨y, hy⟩ : ∃ y, x.run ks = y := ⟨_, rfl⟩
  have HF := hi (show x.upto ks n = y by rw [← hn, ← hy]; exact upto_all x ks)
  rw [hy]
  rw [hn] at hl H ⊢
  clear h hn hy
  go_enter Try.func25, Try.ntmps25
  go_wp2
  go_loopw [9] (fun i wr => ∃ k : Nat, k ≤ n ∧ i = .int .i64 k ∧ Hi (PlayAt w (x.upto ks k) St.zero wr)) (fun i _ => n - (intOf i).toNat)
  case atStart => exact ⟨0, Nat.zero_le _, rfl, hi ⟨by rw [upto_zero]; exact (CB.new w _ _).alloc _, cb_second, bal_two _ _ _⟩⟩
  case round =>
    obtain ⟨k, hk, rfl, HP⟩ := hrel
    by_cases hlt : k < n
    · obtain ⟨b, o, rfl, hbl, c0⟩ := (H.out.below HP.out.below).read hlt
      have hlt' : k < ks.length := by rw [HN.out]; exact hlt
      have HS := hi (fun w1 c y hy => out_upto w wr w1 St.zero x ks k hlt' HP.out c y hy)
      have HC := hi (fun W => step_any (x.upto ks k) (nth ks k) W)
      have hbx := HP.out.box
      obtain ⟨A, hA⟩ : ∃ A, nth ks k = A := ⟨_, rfl⟩
      obtain ⟨y, hy⟩ : ∃ y, x.upto ks k = y := ⟨_, rfl⟩
      obtain ⟨z, hz⟩ : ∃ z, y.step A = z := ⟨_, rfl⟩
      rw [hA] at c0 HC
      rw [hy] at HC hbx
      have HZ := hi (show (x.upto ks k).step (nth ks k) = z by rw [hy, hA]; exact hz)
      rw [hz] at HC
      obtain ⟨r0, r1, r2, r3⟩ := hbx.cells
      clear hz hy hA hbx hlt' hbl
      obtain ⟨e, l, q, b1⟩ := y
      obtain ⟨ze, zl, zq, zb⟩ := z
      dsimp only [St.v] at *
      go_wp2_with (go_at_call 12; ((with_reducible refine (HC.out _).mono ?_); rintro e' w1 ⟨rfl, hb1⟩; have HX := hi (HS.out _ hb1 _ HZ.out); have hB := HP.out.box.below hb1; obtain ⟨d0, d1, d2, d3⟩ := hB.cells; have f := hB.frozen; clear hb1 hB))
      go_roundw
      case rel => exact ⟨k + 1, by omega, by go_num, HX⟩
      case measure => simp [intOf]; omega
    · obtain rfl : k = n := by omega
      have hbx := HP.out.box
      have hrs := HP.out.res
      have f := hrs.frozen
      rw [HF.out] at hbx
      have HR := hi hrs
      obtain ⟨r0, r1, r2, r3⟩ := hbx.cells
      obtain ⟨d0, d1, d2, d3⟩ := hrs.cells
      clear hbx hrs
      obtain ⟨e, l, q, b1⟩ := y
      dsimp only [St.v] at *
      go_wp2
      exact bodyPost_ret (results_irq rfl _ _ (w.heap.size + 1) ⟨_, _, _, _⟩ rfl (CB.set4 (z := St.zero) HR.out ⟨e, l, q, b1⟩)) rfl ⟨rfl, below_set4 HP.out.below (by omega) ⟨e, l, q, b1⟩⟩

end Go.Proofs.Ytjcgcnghjcbkeaa
