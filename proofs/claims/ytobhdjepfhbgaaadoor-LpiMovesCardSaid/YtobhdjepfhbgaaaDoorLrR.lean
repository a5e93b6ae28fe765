/-
  LpiMoves, plain: what stands behind the move; blocks made anew are the law's own.
-/
import Derived.Test.YtobhdjepfhbgaaaDoorLrL
import Derived.Test.YtobhdjepfhbgaaaDoorLrO
namespace Go.Proofs.YtobhdjepfhbgaaaDoor
open Go.ChangeShapes Go.WideShapes Go.ChangeAt Go.RowKit Go.Shelf
set_option linter.unusedVariables false
set_option linter.unusedSimpArgs false

theorem PrX.fresh {w0 : World} {N : Nat → Prop} {p q l0 l1 d0 d1 : Nat} {t td : Tw} {W W' : World} (h : PrX w0 N p q l0 l1 d0 d1 t td W) (k : Below W.heap.size W W') : PrX w0 (fun b => N b ∨ (W.heap.size ≤ b ∧ b < W'.heap.size)) p q l0 l1 d0 d1 t td W' := by
  obtain ⟨⟨κ, ⟨m, r⟩, ⟨a, b⟩, ⟨c, d⟩, hl, hn⟩, ht, hb, hp⟩ := h
  have kk : Kept (fun _ => False) W W' := Kept.of k
  have G : ∀ b, b < W.heap.size → grow κ W.heap.size 7 b = κ b := fun b hb => grow_old hb
  exact ⟨⟨grow κ W.heap.size 7, ⟨m.keep kk (fun _ _ x => x) G, r.keep kk (fun _ _ x => x) G⟩, ⟨a.keep kk (fun _ _ x => x) G, b.keep kk (fun _ _ x => x) G⟩, ⟨c.keep kk (fun _ _ x => x) G, d.keep kk (fun _ _ x => x) G⟩, fun b h0 => by rw [grow_old (Nat.lt_of_lt_of_le h0 hb.size)]; exact hl b h0, fun b hN' => by
    rcases hN' with h1 | h1
    · rw [grow_old (hn b h1).2]; exact ⟨(hn b h1).1, Nat.lt_of_lt_of_le (hn b h1).2 k.size⟩
    · rw [grow_new h1.1]; exact ⟨rfl, h1.2⟩⟩, ht.below k, hb.trans (k.mono hb.size), hp⟩
theorem IntsAt.nk {A W : World} {v : Value} {xs : List Int} (h : IntsAt A v xs) {N : Nat → Prop} (k : NK N A W) (hb : ∀ b, Yb v b → b < A.heap.size → N b) : IntsAt W v xs := by
  obtain ⟨a, cap, rfl, hcap, hc⟩ := h
  refine ⟨a, cap, rfl, hcap, fun hx => ?_⟩
  obtain ⟨b, off, rfl, hcs⟩ := hc hx
  refine ⟨b, off, rfl, fun j hj => ?_⟩
  have hlt := World.block_lt_of_cell? A _ (hcs j hj)
  exact (World.cell?_of_block (w := A) (k.same b (hb b ⟨_, _, _, rfl⟩ hlt) hlt)).trans (hcs j hj)

def mvdB (t : Tw) (all : Bool) (id i : Int) : Bool := (all || decide (i = id)) && decide (i - 8192 < (t.y.n : Int))
/-- What stands behind the move. -/
structure MvF (t t' : Tw) (all : Bool) (id : Int) (n : Nat) : Prop where
  ok : t'.Ok 200
  yn : t'.y.n = t.y.n
  gone : ∀ i, i ∈ ids (waitL t.bs t.x) → isIn (ids (waitL t'.bs t'.x)) i = !mvdB t all id i
  come : ∀ i, i ∈ ids (waitL t.bs t.x) → mvdB t all id i = true → isIn (ids (waitL t'.bs t'.y)) i = true
  stay : ∀ i, i ∈ ids (waitL t.bs t.y) → isIn (ids (waitL t'.bs t'.y)) i = true
  lx : (ids (waitL t'.bs t'.x)).length + n = (ids (waitL t.bs t.x)).length
  ly : (ids (waitL t'.bs t'.y)).length ≤ (ids (waitL t.bs t.y)).length + n
theorem isIn_wait (bs : List Nat) (x : St) (i : Int) : isIn (ids (waitL bs x)) i = hasV bs x i := by
  rw [Bool.eq_iff_iff, isIn, decide_eq_true_iff, wait_mem]
theorem own_of_wait {t : Tw} {i : Int} (h : i ∈ ids (waitL t.bs t.x)) : ownB t.y i = decide (i - 8192 < (t.y.n : Int)) := by
  obtain ⟨k, _, rfl⟩ := ids_mem.1 h
  rw [ownB_at, decide_eq_decide]; omega
theorem mvF_all {t : Tw} (ok : t.Ok 200) (id : Int) : MvF t (mvAll t).1 true id (mvAll t).2 := by
  obtain ⟨hx, hy, lx, ly⟩ := mvN_spec (ids (waitL t.bs t.x)) (t, 0) ok
  have e : (ids (waitL t.bs t.x)).foldl mvF (t, 0) = mvAll t := rfl
  rw [e] at hx hy lx ly
  refine ⟨mvN_ok ok _, (mvN_alike _ _).2.n, fun i hi => ?_, fun i hi hm => ?_, fun i hi => ?_, by simpa [ids_len] using lx, by simpa [ids_len] using ly⟩
  · rw [isIn_wait, hx, mvdB, ← own_of_wait hi, wait_mem.1 hi, decide_eq_true hi]; simp
  · rw [isIn_wait, hy]
    rw [mvdB, ← own_of_wait hi] at hm
    have h1 := wait_mem.1 hi
    simp only [Bool.true_or, Bool.true_and] at hm
    dsimp only
    rw [hm, h1, decide_eq_true hi]; simp
  · rw [isIn_wait, hy, wait_mem.1 hi]; simp
theorem mvF_one {t : Tw} (ok : t.Ok 200) (id : Int) : MvF t (mvS t id) false id (if mvB t.bs t.x t.y id = true then 1 else 0) := by
  obtain ⟨lx, ly⟩ := mvS_len ok id
  refine ⟨mvS_ok ok _, (mvS_al _ _).2.n, fun i hi => ?_, fun i hi hm => ?_, fun i hi => ?_, by simpa [ids_len] using lx, by simpa [ids_len] using ly⟩
  · rw [isIn_wait, mvS_x ok, mvdB, ← own_of_wait hi, wait_mem.1 hi]
    by_cases e : i = id
    · subst e
      rw [mvB, wait_mem.1 hi]; simp
    · simp [e]
  · rw [isIn_wait, mvS_y ok]
    rw [mvdB, ← own_of_wait hi] at hm
    simp only [Bool.false_or, Bool.and_eq_true, decide_eq_true_eq] at hm
    obtain ⟨rfl, hm⟩ := hm
    rw [mvB, hm, wait_mem.1 hi]; simp
  · rw [isIn_wait, mvS_y ok, wait_mem.1 hi]; simp
theorem wait_le {L : Nat} {t : Tw} (ok : t.Ok L) : (ids (waitL t.bs t.x)).length ≤ 512 := by
  rw [ids_len]; exact Nat.le_trans (lst_len _ _) ok.x.n5
theorem wait_nth {L : Nat} {t : Tw} (ok : t.Ok L) {j : Nat} (hj : j < (ids (waitL t.bs t.x)).length) : (ids (waitL t.bs t.x))[j]?.getD 0 ∈ ids (waitL t.bs t.x) ∧ 8192 ≤ (ids (waitL t.bs t.x))[j]?.getD 0 ∧ (ids (waitL t.bs t.x))[j]?.getD 0 < 8704 := by
  have h1 : (ids (waitL t.bs t.x))[j]?.getD 0 ∈ ids (waitL t.bs t.x) := by
    rw [List.getElem?_eq_getElem hj, Option.getD_some]; exact List.getElem_mem hj
  obtain ⟨k, hk, e⟩ := ids_mem.1 h1
  have h2 := (lst_mem.1 hk).1
  have h3 := ok.x.n5
  rw [e]
  exact ⟨e ▸ h1, by omega, by omega⟩

end Go.Proofs.YtobhdjepfhbgaaaDoor
