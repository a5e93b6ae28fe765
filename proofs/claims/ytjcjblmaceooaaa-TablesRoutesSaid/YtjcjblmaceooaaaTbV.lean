/-
  TablesRoutes, plain: the routes that are gone through rise; which events there are; what the law keeps.
-/
import Derived.Test.YtjcjblmaceooaaaTbU
namespace Go.Proofs.Ytjcjblmaceooaaa
open Go.ChangeShapes Go.WideShapes Go.ChangeAt Go.RowKit Go.Shelf
set_option linter.unusedVariables false
set_option linter.unusedSimpArgs false

theorem rts_mem {bs : List Nat} {d : Dv} : ∀ (k : Nat) (x : Nat × Rt), x ∈ rtsL bs d k → x.1 < k ∧ x.2 = routR bs d x.1 ∧ x.2.ok = true
  | 0, x, h => by simp [rtsL] at h
  | k + 1, x, h => by
    by_cases hk : (routR bs d k).ok = true
    · rw [rts_yes hk, List.mem_append] at h
      rcases h with h | h
      · obtain ⟨h1, h2, h3⟩ := rts_mem k x h
        exact ⟨by omega, h2, h3⟩
      · simp only [List.mem_singleton] at h
        subst h
        exact ⟨Nat.lt_succ_self _, rfl, hk⟩
    · rw [rts_no hk] at h
      obtain ⟨h1, h2, h3⟩ := rts_mem k x h
      exact ⟨by omega, h2, h3⟩
theorem rts_sorted {bs : List Nat} {d : Dv} : ∀ k : Nat, (rtsL bs d k).Pairwise (fun a b => a.1 < b.1)
  | 0 => List.Pairwise.nil
  | k + 1 => by
    by_cases hk : (routR bs d k).ok = true
    · rw [rts_yes hk, List.pairwise_append]
      refine ⟨rts_sorted k, List.pairwise_singleton _ _, fun a ha b hb => ?_⟩
      simp only [List.mem_singleton] at hb
      subst hb
      exact (rts_mem k a ha).1
    · rw [rts_no hk]
      exact rts_sorted k
def lastI (l : List (Nat × Rt)) : Int := match l.getLast? with | none => -1 | some y => (y.1 : Int)
theorem lastI_nil : lastI [] = -1 := rfl
theorem lastI_app (l : List (Nat × Rt)) (x : Nat × Rt) : lastI (l ++ [x]) = x.1 := by simp [lastI]
theorem rts_next {bs : List Nat} {d : Dv} {M : Nat} {pre : List (Nat × Rt)} {x : Nat × Rt} (h : pre ++ [x] <+: rtsL bs d M) : lastI pre < x.1 ∧ x.1 < M ∧ x.2 = routR bs d x.1 ∧ x.2.ok = true := by
  obtain ⟨r, hr⟩ := h
  have hx : x ∈ rtsL bs d M := by rw [← hr]; simp
  have hs := rts_sorted (bs := bs) (d := d) M
  rw [← hr, List.pairwise_append, List.pairwise_append] at hs
  refine ⟨?_, rts_mem M x hx⟩
  unfold lastI
  cases hl : pre.getLast? with
  | none => simp only []; omega
  | some y =>
    have hy : y ∈ pre := List.mem_of_getLast? hl
    have := hs.1.2.2 y hy x (by simp)
    simp only []
    omega
theorem rts_len (bs : List Nat) (d : Dv) : ∀ k : Nat, (rtsL bs d k).length ≤ k
  | 0 => Nat.le_refl _
  | k + 1 => by
    have := rts_len bs d k
    rw [rtsL]
    split
    · simp; omega
    · omega
theorem evs_in {n : Nat} {d : Dv} (hk : d.ok = true) (h0 : 0 ≤ d.at_) (h1 : d.at_ ≤ n - 8 * evN d) (k : Nat) (h : k < evN d) : evE n d k = 0 := by
  have hh : holdsB n (d.at_ + 8 * k) 8 = true := by
    simp only [holdsB, decide_eq_true_eq]; omega
  rw [evE, if_pos ⟨hk, by omega, by omega⟩, if_pos hh]
theorem evs_out {n : Nat} {d : Dv} : evE n d (evN d : Nat) ≠ 0 := by
  rw [evE, if_neg (by omega)]; decide
theorem evN_small {d : Dv} (h : d.bits ≤ 5) : evN d ≤ 64 := by
  unfold evN
  have h1 : (min (max d.bits 0) 31).toNat + 1 ≤ 6 := by omega
  exact Nat.le_trans (Nat.pow_le_pow_right (by decide) h1) (by decide)
theorem evN_pos (d : Dv) : 0 < evN d := Nat.pos_of_ne_zero (by unfold evN; exact Nat.ne_of_gt (Nat.pow_pos (by decide)))

theorem zip_two (i j : Nat) (u v : Value) (t : Array Value) : Array.foldl (fun t x => t.setIfInBounds x.fst x.snd) t ((#[i, j] : Array Nat).zip #[u, v]) = (t.setIfInBounds i u).setIfInBounds j v := by simp
theorem results_b {fn : Func} {c : Tmp} (h : fn.results = #[.cell c 4]) (tmps : Array Value) (w : World) (b : Nat) (v : Value) (hp : tmps.getD c undef = .pointer (some ⟨b, 0, none⟩)) (hb : CB w b 4 #[v]) :
    (results fn tmps).run Try.prog w = .ok v w := by
  have hp' : tmps[c]?.getD undef = .pointer (some ⟨b, 0, none⟩) := by simpa using hp
  have c0 := hb.cell 0
  simp at c0
  simp [results, h, go_sem, hp', c0]
theorem kept_grown_ {A A' : World} {row : Option Nat} (hg : A.grownBy A' row) : Kept (fun i => row = some i) A A' :=
  ⟨hg.os, hg.tape, hg.output, hg.size, fun i hi' hn => hg.block i hi' (fun e => hn e.symm)⟩
theorem below_put {n : Nat} {w W : World} (h : Below n w W) {l : Nat} (o : Obj) (hn : n ≤ W.heap.size) (hl : n ≤ l) : Below n w (W.putObj l o) :=
  h.trans ⟨rfl, rfl, rfl, by simp, fun i hi' => World.putObj_heap_other (by omega)⟩

/-- What the law keeps ahead of its loop over the routes. -/
structure RoI (w : World) (p g N M : Nat) (d : Dv) (bs : List Nat) (W : World) : Prop where
  m : Since w p g N bs W
  d : CB W w.heap.size 36 (Dv.cs d)
  r : CB W (w.heap.size + 1) 4 #[.bool false]
  x : CB W M 25 #[.pointer (some ⟨p, 0, none⟩)]
  gm : g < M
  pm : p < M
  g2 : w.heap.size + 1 < g
  p2 : w.heap.size + 1 < p
theorem RoI.later {w : World} {p g N M : Nat} {d : Dv} {bs : List Nat} {W W' : World} (h : RoI w p g N M d bs W) (k : Below W.heap.size W W') : RoI w p g N M d bs W' := ⟨h.m.later k, h.d.below k, h.r.below k, h.x.below k, h.gm, h.pm, h.g2, h.p2⟩
theorem RoI.wrote {w : World} {p g N M : Nat} {d : Dv} {bs bs' : List Nat} {W W' : World} (h : RoI w p g N M d bs W) (k : Kept (· = g) W W') (m : MemAt 89 W' p g N bs') : RoI w p g N M d bs' W' :=
  ⟨h.m.wrote k m, h.d.keptB k (fun e => by have := h.g2; omega), h.r.keptB k (fun e => by have := h.g2; omega), h.x.keptB k (fun e => by have := h.gm; omega), h.gm, h.pm, h.g2, h.p2⟩
/-- The device made valid. -/
theorem RoI.valid {w : World} {p g N M : Nat} {d : Dv} {bs : List Nat} {W : World} (h : RoI w p g N M d bs W) : RoI w p g N M ⟨true, d.bits, d.at_⟩ bs (W.setCell ⟨w.heap.size, 0, none⟩ (.bool true)) := by
  have k := kept_setCell W w.heap.size 0 (.bool true)
  refine ⟨⟨h.m.mem.kept k (fun e => by have := h.p2; omega) (fun e => by have := h.g2; omega), h.m.p, h.m.g, below_set h.m.below (Nat.le_refl _) _⟩, ?_, h.r.keptB k (by omega), h.x.keptB k (fun e => by have := h.gm; have := h.g2; omega), h.gm, h.pm, h.g2, h.p2⟩
  have := h.d.set 0 (.bool true)
  simpa [Dv.cs] using this
theorem RoI.cells {w : World} {p g N M : Nat} {d : Dv} {bs : List Nat} {W : World} (h : RoI w p g N M d bs W) : (W.cell? ⟨w.heap.size, 0, none⟩ = some (.bool d.ok) ∧ W.cell? ⟨w.heap.size, 1, none⟩ = some (.int .i64 d.bits) ∧ W.cell? ⟨w.heap.size, 2, none⟩ = some (.int .i64 d.at_)) ∧ W.cell? ⟨M, 0, none⟩ = some (.pointer (some ⟨p, 0, none⟩)) :=
  ⟨CB.three h.d, h.x.cell 0⟩
/-- In the loops behind it: the last event, the count. -/
structure RoN (w : World) (p g N M L : Nat) (d : Dv) (bs : List Nat) (last n : Int) (W : World) : Prop where
  i : RoI w p g N M d bs W
  l : CB W L 3 #[.int .i64 last]
  n : CB W (L + 1) 3 #[.int .i64 n]
  ml : M < L
theorem RoN.later {w : World} {p g N M L : Nat} {d : Dv} {bs : List Nat} {last n : Int} {W W' : World} (h : RoN w p g N M L d bs last n W) (k : Below W.heap.size W W') : RoN w p g N M L d bs last n W' := ⟨h.i.later k, h.l.below k, h.n.below k, h.ml⟩
theorem RoI.kept {w : World} {p g N M B0 : Nat} {d : Dv} {bs : List Nat} {W W' : World} {P : Nat → Prop} (h : RoI w p g N M d bs W) (k : Kept P W W') (hM : M < B0) (hP : ∀ i, P i → B0 ≤ i) : RoI w p g N M d bs W' := by
  have h1 := h.gm
  have h2 := h.pm
  have h3 := h.g2
  have hn : ∀ i, i < B0 → ¬ P i := fun i hi hp => by have := hP i hp; omega
  exact ⟨⟨h.m.mem.kept k (hn _ (by omega)) (hn _ (by omega)), h.m.p, h.m.g, h.m.below.trans (k.toBelow h.m.below.size (fun i e => by have := hP i e; omega))⟩, h.d.keptB k (hn _ (by omega)), h.r.keptB k (hn _ (by omega)), h.x.keptB k (hn _ (by omega)), h.gm, h.pm, h.g2, h.p2⟩
theorem RoN.kept {w : World} {p g N M L B0 : Nat} {d : Dv} {bs : List Nat} {last n : Int} {W W' : World} {P : Nat → Prop} (h : RoN w p g N M L d bs last n W) (k : Kept P W W') (hL : L + 1 < B0) (hP : ∀ i, P i → B0 ≤ i) : RoN w p g N M L d bs last n W' := by
  have h1 := h.ml
  have hn : ∀ i, i < B0 → ¬ P i := fun i hi hp => by have := hP i hp; omega
  exact ⟨h.i.kept k (B0 := B0) (by omega) hP, h.l.keptB k (hn _ (by omega)), h.n.keptB k (hn _ (by omega)), h.ml⟩
/-- A store into the last event's box, into the count's. -/
theorem RoN.setL {w : World} {p g N M L : Nat} {d : Dv} {bs : List Nat} {last n : Int} {W : World} (h : RoN w p g N M L d bs last n W) (z : Int) : RoN w p g N M L d bs z n (W.setCell ⟨L, 0, none⟩ (.int .i64 z)) := by
  have k := kept_setCell W L 0 (.int .i64 z)
  exact ⟨h.i.kept k (B0 := L) h.ml (fun i e => by omega), by have := h.l.set 0 (.int .i64 z); simpa using this, h.n.keptB k (by omega), h.ml⟩
theorem RoN.setN {w : World} {p g N M L : Nat} {d : Dv} {bs : List Nat} {last n : Int} {W : World} (h : RoN w p g N M L d bs last n W) (z : Int) : RoN w p g N M L d bs last z (W.setCell ⟨L + 1, 0, none⟩ (.int .i64 z)) := by
  have k := kept_setCell W (L + 1) 0 (.int .i64 z)
  exact ⟨h.i.kept k (B0 := L + 1) (by have := h.ml; omega) (fun i e => by omega), h.l.keptB k (by omega), by have := h.n.set 0 (.int .i64 z); simpa using this, h.ml⟩
theorem ron_abl {w : World} {p g N M L B0 k0 : Nat} {d : Dv} {bs : List Nat} (hL : L + 1 < B0) : AbL B0 k0 (fun (pre : List (Nat × Rt)) V => RoN w p g N M L d bs (lastI pre) pre.length V) := fun pre A A' row hs hgr hr =>
  hs.kept (kept_grown_ hgr) hL (fun i e => by rcases hr i e with ⟨h1, h2, _⟩ | ⟨h1, h2⟩ <;> omega)
end Go.Proofs.Ytjcjblmaceooaaa
