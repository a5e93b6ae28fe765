/-
  What is moved, plain: who waits behind it, and how many.
  LpiMoves, plain: what stands behind the move; blocks made anew are the law's own.
  Package lpi: Copy; a copy that takes the part's place.
-/
import Derived.Test.YtobhdjepfhbgaaaDoorLpA
import Derived.Test.YtobhdjepfhbgaaaDoorLrL
namespace Go.Proofs.YtobhdjepfhbgaaaDoor
open Go.ChangeShapes Go.WideShapes Go.ChangeAt Go.RowKit
set_option linter.unusedVariables false
set_option linter.unusedSimpArgs false

theorem lst_drop {P Q : Nat → Bool} {k0 : Nat} (hP : P k0 = true) (hQ : Q k0 = false) : ∀ {n : Nat}, k0 < n → (∀ k, k < n → k ≠ k0 → Q k = P k) → (lst Q n).length + 1 = (lst P n).length
  | 0, h, _ => by omega
  | n + 1, hk, h => by
    rw [lst_succ, lst_succ]
    by_cases e : k0 = n
    · subst e
      rw [hP, hQ, lst_congr (P := Q) (Q := P) (fun k hk' => h k (by omega) (by omega))]
      simp
    · have ih := lst_drop hP hQ (n := n) (by omega) (fun k hk' => h k (by omega))
      rw [h n (by omega) (fun x => e x.symm)]
      split
      · simp only [List.length_append, List.length_cons, List.length_nil]; omega
      · exact ih
theorem lst_add {P Q : Nat → Bool} {k0 : Nat} : ∀ {n : Nat}, (∀ k, k < n → k ≠ k0 → Q k = P k) → (lst Q n).length ≤ (lst P n).length + 1
  | 0, _ => by simp [lst]
  | n + 1, h => by
    rw [lst_succ, lst_succ]
    by_cases e : k0 = n
    · subst e
      rw [lst_congr (P := Q) (Q := P) (fun k hk' => h k (by omega) (by omega))]
      split <;> split <;> simp <;> omega
    · have ih := lst_add (P := P) (Q := Q) (k0 := k0) (n := n) (fun k hk' => h k (by omega))
      rw [h n (by omega) (fun x => e x.symm)]
      split
      · simp only [List.length_append, List.length_cons, List.length_nil]; omega
      · exact ih
theorem ownB_alike {x y : St} (a : St.Alike x y) (id : Int) : ownB y id = ownB x id := by unfold ownB; rw [a.n]
/-- One step: the bits. -/
theorem mvS_bits {L : Nat} {t : Tw} (h : t.Ok L) {k : Nat} (hm : mvB t.bs t.x t.y ((8192 + k : Nat) : Int) = true) :
    (∀ j, j < t.x.n → hasK (mvS t ((8192 + k : Nat) : Int)).bs (mvS t ((8192 + k : Nat) : Int)).x j = if j = k then false else hasK t.bs t.x j) ∧
    (∀ j, j < t.y.n → hasK (mvS t ((8192 + k : Nat) : Int)).bs (mvS t ((8192 + k : Nat) : Int)).y j = if j = k then true else hasK t.bs t.y j) ∧ k < t.x.n ∧ k < t.y.n ∧ hasK t.bs t.x k = true := by
  obtain ⟨k', e, hx, hy, hw⟩ := mvB_out hm
  obtain rfl : k = k' := by omega
  have e1 : mvS t ((8192 + k : Nat) : Int) = ⟨(setS (setS t.bs t.y k true).1 t.x k false).1, (setS (setS t.bs t.y k true).1 t.x k false).2, (setS t.bs t.y k true).2⟩ := by rw [mvS, if_pos hm, kOf_at]
  rw [e1]
  have hl1 : (setS t.bs t.y k true).1.length = L := (setS_len _ _ _ _).trans h.len
  refine ⟨fun j hj => ?_, fun j hj => ?_, hx, hy, hw⟩
  · show hasK (setS (setS t.bs t.y k true).1 t.x k false).1 (setS (setS t.bs t.y k true).1 t.x k false).2 j = _
    rw [setS_has h.x hl1 hx]
    by_cases ej : j = k
    · rw [if_pos ej, if_pos ej]
    · rw [if_neg ej, if_neg ej]
      exact setS_far h.y h.x h.len h.ap.symm hy true hj
  · show hasK (setS (setS t.bs t.y k true).1 t.x k false).1 (setS t.bs t.y k true).2 j = _
    have hy2 := setS_ok h.y hy true (bs := t.bs)
    have hal := setS_alike t.bs t.y k true
    rw [setS_far h.x hy2 hl1 (apart_alike h.ap (St.Alike.refl _) hal) hx false (by rw [hal.n]; exact hj)]
    exact setS_has h.y h.len hy true j
theorem mvS_no {t : Tw} {id : Int} (hm : mvB t.bs t.x t.y id = false) : mvS t id = t := by rw [mvS, if_neg (by rw [hm]; simp)]
theorem mvS_al (t : Tw) (id : Int) : St.Alike t.x (mvS t id).x ∧ St.Alike t.y (mvS t id).y := by
  unfold mvS; split
  · exact ⟨setS_alike _ _ _ _, setS_alike _ _ _ _⟩
  · exact ⟨St.Alike.refl _, St.Alike.refl _⟩
theorem mvS_x {L : Nat} {t : Tw} (h : t.Ok L) (id i : Int) : hasV (mvS t id).bs (mvS t id).x i = (hasV t.bs t.x i && !(mvB t.bs t.x t.y id && decide (i = id))) := by
  cases hm : mvB t.bs t.x t.y id
  · rw [mvS_no hm]; simp
  · obtain ⟨k, rfl, _⟩ := mvB_out hm
    obtain ⟨hb, _⟩ := mvS_bits h hm
    unfold hasV
    rw [ownB_alike (mvS_al t _).1]
    cases ho : ownB t.x i
    · simp
    · obtain ⟨j, hj, rfl⟩ := ownB_out ho
      rw [kOf_at, hb j hj]
      have e : decide (((8192 + j : Nat) : Int) = ((8192 + k : Nat) : Int)) = decide (j = k) := by rw [decide_eq_decide]; omega
      rw [e]
      by_cases ej : j = k <;> simp [ej]
theorem mvS_y {L : Nat} {t : Tw} (h : t.Ok L) (id i : Int) : hasV (mvS t id).bs (mvS t id).y i = (hasV t.bs t.y i || (mvB t.bs t.x t.y id && decide (i = id))) := by
  cases hm : mvB t.bs t.x t.y id
  · rw [mvS_no hm]; simp
  · obtain ⟨k, rfl, _⟩ := mvB_out hm
    obtain ⟨_, hb, _, hky, _⟩ := mvS_bits h hm
    unfold hasV
    rw [ownB_alike (mvS_al t _).2]
    cases ho : ownB t.y i
    · have e : ¬ i = ((8192 + k : Nat) : Int) := fun e => by rw [e, ownB_at] at ho; simp at ho; omega
      rw [decide_eq_false e]; simp
    · obtain ⟨j, hj, rfl⟩ := ownB_out ho
      rw [kOf_at, hb j hj]
      have e : decide (((8192 + j : Nat) : Int) = ((8192 + k : Nat) : Int)) = decide (j = k) := by rw [decide_eq_decide]; omega
      rw [e]
      by_cases ej : j = k <;> simp [ej]
theorem mvS_len {L : Nat} {t : Tw} (h : t.Ok L) (id : Int) :
    (waitL (mvS t id).bs (mvS t id).x).length + (if mvB t.bs t.x t.y id = true then 1 else 0) = (waitL t.bs t.x).length ∧
    (waitL (mvS t id).bs (mvS t id).y).length ≤ (waitL t.bs t.y).length + (if mvB t.bs t.x t.y id = true then 1 else 0) := by
  cases hm : mvB t.bs t.x t.y id
  · rw [mvS_no hm]; simp
  · obtain ⟨k, rfl, _⟩ := mvB_out hm
    obtain ⟨hbx, hby, hkx, hky, hk⟩ := mvS_bits h hm
    simp only [if_true]
    unfold waitL
    rw [(mvS_al t _).1.n, (mvS_al t _).2.n]
    exact ⟨lst_drop hk (by rw [hbx k hkx, if_pos rfl]) hkx (fun j hj hne => by rw [hbx j hj, if_neg hne]), lst_add (k0 := k) (fun j hj hne => by rw [hby j hj, if_neg hne])⟩
/-- Some, one after another. -/
theorem mvN_spec {L : Nat} : ∀ (l : List Int) (s : Tw × Nat), s.1.Ok L →
    (∀ i, hasV (l.foldl mvF s).1.bs (l.foldl mvF s).1.x i = (hasV s.1.bs s.1.x i && !(decide (i ∈ l) && ownB s.1.y i))) ∧
    (∀ i, hasV (l.foldl mvF s).1.bs (l.foldl mvF s).1.y i = (hasV s.1.bs s.1.y i || (decide (i ∈ l) && (ownB s.1.y i && hasV s.1.bs s.1.x i)))) ∧
    (waitL (l.foldl mvF s).1.bs (l.foldl mvF s).1.x).length + (l.foldl mvF s).2 = (waitL s.1.bs s.1.x).length + s.2 ∧
    (waitL (l.foldl mvF s).1.bs (l.foldl mvF s).1.y).length + s.2 ≤ (waitL s.1.bs s.1.y).length + (l.foldl mvF s).2
  | [], s, h => by simp
  | a :: r, s, h => by
    have h1 : (mvF s a).1.Ok L := mvS_ok h a
    obtain ⟨ix, iy, lx, ly⟩ := mvN_spec r (mvF s a) h1
    obtain ⟨sx, sy⟩ := mvS_len h a
    have e2 : (mvF s a).2 = s.2 + if mvB s.1.bs s.1.x s.1.y a = true then 1 else 0 := rfl
    have e1 : (mvF s a).1 = mvS s.1 a := rfl
    simp only [List.foldl_cons]
    rw [e1] at ix iy lx ly
    refine ⟨fun i => ?_, fun i => ?_, by omega, by omega⟩
    · rw [ix i, mvS_x h, ownB_alike (mvS_al _ _).2]
      unfold mvB
      by_cases e : i = a
      · subst e
        cases hasV s.1.bs s.1.x i <;> cases ownB s.1.y i <;> simp
      · have e3 : decide (i ∈ a :: r) = decide (i ∈ r) := by simp [e]
        rw [e3, decide_eq_false e]; simp
    · rw [iy i, mvS_y h, mvS_x h, ownB_alike (mvS_al _ _).2]
      unfold mvB
      by_cases e : i = a
      · subst e
        cases hasV s.1.bs s.1.x i <;> cases ownB s.1.y i <;> cases hasV s.1.bs s.1.y i <;> simp
      · have e3 : decide (i ∈ a :: r) = decide (i ∈ r) := by simp [e]
        rw [e3, decide_eq_false e]; simp

end Go.Proofs.YtobhdjepfhbgaaaDoor

namespace Go.Proofs.YtobhdjepfhbgaaaDoor
open Go.ChangeShapes Go.WideShapes Go.ChangeAt Go.RowKit Go.Shelf
set_option linter.unusedVariables false
set_option linter.unusedSimpArgs false

theorem PrX.fresh {w0 : World} {N : Nat → Prop} {p q l0 l1 d0 d1 : Nat} {t td : Tw} {W W' : World} (h : PrX w0 N p q l0 l1 d0 d1 t td W) (k : Below W.heap.size W W') : PrX w0 (fun b => N b ∨ (W.heap.size ≤ b ∧ b < W'.heap.size)) p q l0 l1 d0 d1 t td W' := by
  obtain ⟨⟨κ, ⟨m, r⟩, ⟨a, b⟩, ⟨c, d⟩, hl, hn⟩, ht, hb, hp⟩ := h
  have kk : Kept (fun _ => False) W W' := Kept.of k
  have G : ∀ b, b < W.heap.size → grow κ W.heap.size 7 b = κ b := fun b hb => grow_old hb
  exact ⟨⟨grow κ W.heap.size 7, ⟨m.keep kk (fun _ _ x => x) G, r.keep kk (fun _ _ x => x) G⟩, ⟨a.keep kk (fun _ _ x => x) G, b.keep kk (fun _ _ x => x) G⟩, ⟨c.keep kk (fun _ _ x => x) G, d.keep kk (fun _ _ x => x) G⟩, fun b h0 => by rw [grow_old (Nat.lt_of_lt_of_le h0 hb.size)]; exact hl b h0, fun b hN' => by
    rcases hN' with h1 | h1
    · rw [grow_old (hn b h1).2]; exact ⟨(hn b h1).1, Nat.lt_of_lt_of_le (hn b h1).2 k.size⟩
    · rw [grow_new h1.1]; exact ⟨rfl, h1.2⟩⟩, ht.below k, hb.trans (k.mono hb.size), hp⟩
theorem IntsAt.nk {A W : World} {v : Value} {xs : List Int} (h : IntsAt A v xs) {N : Nat → Prop} (k : NK N A W) (hb : ∀ b, Yb v b → b < A.heap.size → N b) : IntsAt W v xs := by
  obtain ⟨a, cap, rfl, hcap, hc⟩ := h
  refine ⟨a, cap, rfl, hcap, fun hx => ?_⟩
  obtain ⟨b, off, rfl, hcs⟩ := hc hx
  refine ⟨b, off, rfl, fun j hj => ?_⟩
  have hlt := World.block_lt_of_cell? A _ (hcs j hj)
  exact (World.cell?_of_block (w := A) (k.same b (hb b ⟨_, _, _, rfl⟩ hlt) hlt)).trans (hcs j hj)

def mvdB (t : Tw) (all : Bool) (id i : Int) : Bool := (all || decide (i = id)) && decide (i - 8192 < (t.y.n : Int))
/-- What stands behind the move. -/
structure MvF (t t' : Tw) (all : Bool) (id : Int) (n : Nat) : Prop where
  ok : t'.Ok 200
  yn : t'.y.n = t.y.n
  gone : ∀ i, i ∈ ids (waitL t.bs t.x) → isIn (ids (waitL t'.bs t'.x)) i = !mvdB t all id i
  come : ∀ i, i ∈ ids (waitL t.bs t.x) → mvdB t all id i = true → isIn (ids (waitL t'.bs t'.y)) i = true
  stay : ∀ i, i ∈ ids (waitL t.bs t.y) → isIn (ids (waitL t'.bs t'.y)) i = true
  lx : (ids (waitL t'.bs t'.x)).length + n = (ids (waitL t.bs t.x)).length
  ly : (ids (waitL t'.bs t'.y)).length ≤ (ids (waitL t.bs t.y)).length + n
theorem isIn_wait (bs : List Nat) (x : St) (i : Int) : isIn (ids (waitL bs x)) i = hasV bs x i := by
  rw [Bool.eq_iff_iff, isIn, decide_eq_true_iff, wait_mem]
theorem own_of_wait {t : Tw} {i : Int} (h : i ∈ ids (waitL t.bs t.x)) : ownB t.y i = decide (i - 8192 < (t.y.n : Int)) := by
  obtain ⟨k, _, rfl⟩ := ids_mem.1 h
  rw [ownB_at, decide_eq_decide]; omega
theorem mvF_all {t : Tw} (ok : t.Ok 200) (id : Int) : MvF t (mvAll t).1 true id (mvAll t).2 := by
  obtain ⟨hx, hy, lx, ly⟩ := mvN_spec (ids (waitL t.bs t.x)) (t, 0) ok
  have e : (ids (waitL t.bs t.x)).foldl mvF (t, 0) = mvAll t := rfl
  rw [e] at hx hy lx ly
  refine ⟨mvN_ok ok _, (mvN_alike _ _).2.n, fun i hi => ?_, fun i hi hm => ?_, fun i hi => ?_, by simpa [ids_len] using lx, by simpa [ids_len] using ly⟩
  · rw [isIn_wait, hx, mvdB, ← own_of_wait hi, wait_mem.1 hi, decide_eq_true hi]; simp
  · rw [isIn_wait, hy]
    rw [mvdB, ← own_of_wait hi] at hm
    have h1 := wait_mem.1 hi
    simp only [Bool.true_or, Bool.true_and] at hm
    dsimp only
    rw [hm, h1, decide_eq_true hi]; simp
  · rw [isIn_wait, hy, wait_mem.1 hi]; simp
theorem mvF_one {t : Tw} (ok : t.Ok 200) (id : Int) : MvF t (mvS t id) false id (if mvB t.bs t.x t.y id = true then 1 else 0) := by
  obtain ⟨lx, ly⟩ := mvS_len ok id
  refine ⟨mvS_ok ok _, (mvS_al _ _).2.n, fun i hi => ?_, fun i hi hm => ?_, fun i hi => ?_, by simpa [ids_len] using lx, by simpa [ids_len] using ly⟩
  · rw [isIn_wait, mvS_x ok, mvdB, ← own_of_wait hi, wait_mem.1 hi]
    by_cases e : i = id
    · subst e
      rw [mvB, wait_mem.1 hi]; simp
    · simp [e]
  · rw [isIn_wait, mvS_y ok]
    rw [mvdB, ← own_of_wait hi] at hm
    simp only [Bool.false_or, Bool.and_eq_true, decide_eq_true_eq] at hm
    obtain ⟨rfl, hm⟩ := hm
    rw [mvB, hm, wait_mem.1 hi]; simp
  · rw [isIn_wait, mvS_y ok, wait_mem.1 hi]; simp
theorem wait_le {L : Nat} {t : Tw} (ok : t.Ok L) : (ids (waitL t.bs t.x)).length ≤ 512 := by
  rw [ids_len]; exact Nat.le_trans (lst_len _ _) ok.x.n5
theorem wait_nth {L : Nat} {t : Tw} (ok : t.Ok L) {j : Nat} (hj : j < (ids (waitL t.bs t.x)).length) : (ids (waitL t.bs t.x))[j]?.getD 0 ∈ ids (waitL t.bs t.x) ∧ 8192 ≤ (ids (waitL t.bs t.x))[j]?.getD 0 ∧ (ids (waitL t.bs t.x))[j]?.getD 0 < 8704 := by
  have h1 : (ids (waitL t.bs t.x))[j]?.getD 0 ∈ ids (waitL t.bs t.x) := by
    rw [List.getElem?_eq_getElem hj, Option.getD_some]; exact List.getElem_mem hj
  obtain ⟨k, hk, e⟩ := ids_mem.1 h1
  have h2 := (lst_mem.1 hk).1
  have h3 := ok.x.n5
  rw [e]
  exact ⟨e ▸ h1, by omega, by omega⟩

end Go.Proofs.YtobhdjepfhbgaaaDoor

namespace Go.Proofs.YtobhdjepfhbgaaaDoor
open Go.ChangeShapes Go.WideShapes Go.ChangeAt Go.RowKit Go.Shelf
set_option linter.unusedVariables false
set_option linter.unusedSimpArgs false

set_option maxRecDepth 100000 in
set_option maxHeartbeats 4000000 in
theorem lcopy_lpi (l s c cap : Nat) (S : Words) (x : St) (hn : x.n ≤ 512) (w : World) (hL : LpB w l s c cap S x) :
    Calls Tryd.prog 11 #[pt l] w fun e w' => ∃ l' s' c' cap', e = .returned (pt l') ∧ LpB w' l' s' c' cap' S x ∧ (w.heap.size ≤ l' ∧ w.heap.size ≤ s' ∧ w.heap.size ≤ c') ∧ Below w.heap.size w w' := by
  have HL := hi hL
  have HB0 := hi (bal w (.cells (lpCs x s c cap) 92))
  have HBX := hi (CB.new w 92 (lpCs x s c cap))
  obtain ⟨r0, r1, r2, r3, r4, r5, r6⟩ := hL.cells
  have hlt := hL.box.lt
  have hne : ¬ (l = w.heap.size) := by omega
  obtain ⟨-, -, -, -, -, s5, s6⟩ := (hL.below HB0.out).cells
  dsimp only [lpCs] at s5 s6
  have HSC := hi (scopy_any s S _ (hL.set.keptB (Kept.of (bs := fun _ => False) HB0.out) (fun e => e)))
  simp only [World.size_alloc] at HSC
  have HCL := hi (fun (W : World) (k : Kept (· = w.heap.size) (w.alloc (.cells (lpCs x s c cap) 92)) W) => clone_any ⟨c, 0, none⟩ cap x.cfg W (by
    have hb : BytesAt W c x.cfg := (hL.below HB0.out).cfg.of_block (k.block c (hL.below HB0.out).cfg.lt (by show ¬ (c = w.heap.size); have := hL.cfg.lt; omega))
    have := BytesIn.of (v := .slice (some ⟨c, 0, none⟩) x.cfg.length cap) (o := 0) (n := x.cfg.length) hb ⟨_, _, rfl, fun _ => rfl, by rw [hL.len]; exact hL.cap.1, _, rfl⟩ (by omega)
    rwa [sub_all] at this) (by rw [hL.len]; omega))
  rw [hL.len] at HCL
  clear hL
  go_enter Tryd.func11, Tryd.ntmps11
  go_wp2_with (first
    | (go_at_call 44; ((with_reducible refine HSC.out.mono ?_); rintro e w2 ⟨rfl, hS2, hb2, hz2⟩; replace hb2 : Below (w.alloc (.cells (lpCs x s c cap) 92)).heap.size (w.alloc (.cells (lpCs x s c cap) 92)) w2 := (by rw [World.size_alloc]; exact hb2); have hbx2 := HBX.out.below hb2; obtain ⟨b0, b1, b2, b3, b4, b5, b6⟩ := CB.seven hbx2; have bf := hbx2.frozen; have bl := hbx2.lt; obtain ⟨t0, t1, t2, t3, t4, t5, t6⟩ := ((HL.out.below HB0.out).below hb2).cells; have H2 := hi (And.intro hS2 (And.intro hb2 hbx2)); have hz2' := hz2; clear hS2 hb2 hz2 hbx2))
    | (go_at_call 45; ((with_reducible refine (HCL.out _ ((Kept.of H2.out.2.1).trans (kept_setCell _ _ _ _))).mono ?_); rintro e w4 ⟨g, v, rfl, ⟨cap', rfl, hge, hB, hle, hcap⟩, hb4⟩; have hbx4 := (H2.out.2.2.set 5 (.pointer (some ⟨w.heap.size + 1, 0, none⟩))).below hb4; clear b0 b1 b2 b3 b4 b5 b6 bf bl t0 t1 t2 t3 t4 t5 t6 s5 s6; have bf := hbx4.frozen; have bl := hbx4.lt; have b6 := hbx4.cell 6)))
  go_ret
  have hb4' : w2.heap.size ≤ w4.heap.size := by simpa using hb4.size
  have hge' : w2.heap.size ≤ g := by simpa using hge
  have hk4 : Kept (· = w.heap.size) w2 w4 := (kept_setCell _ _ _ _).trans (Kept.of hb4)
  refine ⟨w.heap.size, w.heap.size + 1, g, cap', rfl, ⟨(by rw [HL.out.len]; exact hbx4.set 6 _), ?_, HL.out.is, ?_, HL.out.len, ?_⟩, ⟨Nat.le_refl _, by omega, by omega⟩, ?_⟩
  · exact (H2.out.1.keptB hk4 (by show ¬ (w.heap.size + 1 = w.heap.size); omega)).keptB (kept_setCell _ _ _ _) (by show ¬ (w.heap.size + 1 = w.heap.size); omega)
  · exact hB.of_block ((kept_setCell w4 w.heap.size 6 _).block g hB.lt (by show ¬ (g = w.heap.size); omega))
  · rw [← HL.out.len]; exact ⟨hle, hcap⟩
  · have h1 := (HB0.out.more H2.out.2.1)
    exact below_set ((below_set h1 (Nat.le_refl _) _).more hb4) (Nat.le_refl _) _

theorem Kept.wide {bs bs' : Nat → Prop} {A W : World} (h : Kept bs A W) (hs : ∀ b, bs b → bs' b) : Kept bs' A W := ⟨h.os, h.tape, h.output, h.size, fun b hl hn => h.block b hl (fun e => hn (hs b e))⟩
theorem LpB.nk {A W : World} {l s c cap : Nat} {S : Words} {x : St} (h : LpB A l s c cap S x) {N : Nat → Prop} (k : NK N A W) (h1 : N l) (h2 : N s) (h3 : N c) : LpB W l s c cap S x :=
  ⟨(k.same l h1 h.box.lt).trans h.box, ⟨(k.same s h2 h.set.lt).trans h.set.1, h.set.2⟩, h.is, h.cfg.of_block (k.same c h3 h.cfg.lt), h.len, h.cap⟩
theorem MemAt.nk {T : TypeId} {A W : World} {p g cp : Nat} {bs : List Nat} (h : MemAt T A p g cp bs) {N : Nat → Prop} (k : NK N A W) (h1 : N p) (h2 : N g) : MemAt T W p g cp bs :=
  ⟨(k.same p h1 h.plt).trans h.box, h.bytes.of_block (k.same g h2 h.bytes.lt), h.le, h.cap, h.len, h.type⟩
/-- A copy of the first part, and one of the memory, take their places. -/
theorem PrX.swapIn {w0 : World} {N N' : Nat → Prop} {p q l0 l1 d0 d1 : Nat} {t td : Tw} {W : World} (h : PrX w0 N p q l0 l1 d0 d1 t td W) {pn gn cpn : Nat} {bs' : List Nat} {ln sn cn capn : Nat} {Sn : Words} {xn : St}
    (hM : MemAt 96 W pn gn cpn bs') (hL : LpB W ln sn cn capn Sn xn) (h1 : N pn) (h2 : N gn) (h3 : N ln) (h4 : N sn) (h5 : N cn) {z : Nat} (z1 : ln < z ∧ sn < z ∧ cn < z) (z2 : z ≤ pn ∧ z ≤ gn)
    (hs : ∀ b, N' b → N b ∧ b ≠ pn ∧ b ≠ gn ∧ b ≠ ln ∧ b ≠ sn ∧ b ≠ cn) : PrX w0 N' pn q ln l1 d0 d1 ⟨bs', xn, t.y⟩ td W := by
  obtain ⟨⟨κ, ⟨m, r⟩, ⟨a, b⟩, ⟨c, d⟩, hl, hn⟩, ht, hb, hp⟩ := h
  have n1 := (hn _ h1).1
  have n2 := (hn _ h2).1
  have n3 := (hn _ h3).1
  have n4 := (hn _ h4).1
  have n5 := (hn _ h5).1
  obtain ⟨f, hf⟩ : ∃ f : Nat → Nat, (fun b => if b = pn ∨ b = gn then 1 else if b = ln ∨ b = sn ∨ b = cn then 3 else if κ b = 1 ∨ κ b = 3 then 8 else κ b) = f := ⟨_, rfl⟩
  have F : ∀ b, κ b ≠ 7 → κ b ≠ 1 → κ b ≠ 3 → f b = κ b := by
    intro b h7 hb1 hb3
    have e1 : ¬ (b = pn ∨ b = gn) := by rintro (rfl | rfl) <;> contradiction
    have e2 : ¬ (b = ln ∨ b = sn ∨ b = cn) := by rintro (rfl | rfl | rfl) <;> contradiction
    rw [← hf]
    simp only [if_neg e1, if_neg e2, if_neg (show ¬ (κ b = 1 ∨ κ b = 3) from fun e => e.elim hb1 hb3)]
  have G : ∀ {j b : Nat}, κ b = j → j ≠ 7 → j ≠ 1 → j ≠ 3 → f b = j := fun e g1 g2 g3 => by rw [F _ (by rw [e]; exact g1) (by rw [e]; exact g2) (by rw [e]; exact g3)]; exact e
  have P1 : f pn = 1 := by rw [← hf]; simp
  have P2 : f gn = 1 := by rw [← hf]; simp
  have e3 : ¬ (ln = pn ∨ ln = gn) := by omega
  have e4 : ¬ (sn = pn ∨ sn = gn) := by omega
  have e5 : ¬ (cn = pn ∨ cn = gn) := by omega
  have P3 : f ln = 3 := by rw [← hf]; simp only [if_neg e3]; simp
  have P4 : f sn = 3 := by rw [← hf]; simp only [if_neg e4]; simp
  have P5 : f cn = 3 := by rw [← hf]; simp only [if_neg e5]; simp
  obtain ⟨g', cp', r1, r2, r3⟩ := r
  obtain ⟨s', c', cap', S', b1, b2, b3, b4⟩ := b
  obtain ⟨f1, cf1, yv1, c1, c2, c3, c4⟩ := c
  obtain ⟨f2, cf2, yv2, d1', d2, d3, d4⟩ := d
  refine ⟨⟨f, ⟨⟨gn, cpn, hM, P1, P2⟩, ⟨g', cp', r1, G r2 (by decide) (by decide) (by decide), G r3 (by decide) (by decide) (by decide)⟩⟩, ⟨⟨sn, cn, capn, Sn, hL, P3, P4, P5⟩, ⟨s', c', cap', S', b1, G b2 (by decide) (by decide) (by decide), G b3 (by decide) (by decide) (by decide), G b4 (by decide) (by decide) (by decide)⟩⟩,
    ⟨⟨f1, cf1, yv1, c1, G c2 (by decide) (by decide) (by decide), G c3 (by decide) (by decide) (by decide), fun b hy => ⟨(c4 b hy).1, G (c4 b hy).2.1 (by decide) (by decide) (by decide), (c4 b hy).2.2⟩⟩, ⟨f2, cf2, yv2, d1', G d2 (by decide) (by decide) (by decide), G d3 (by decide) (by decide) (by decide), fun b hy => ⟨(d4 b hy).1, G (d4 b hy).2.1 (by decide) (by decide) (by decide), (d4 b hy).2.2⟩⟩⟩,
    fun b hb' => G (hl b hb') (by decide) (by decide) (by decide), fun b hb' => ?_⟩, ht, hb, hp⟩
  obtain ⟨k1, k2, k3, k4, k5, k6⟩ := hs b hb'
  have k7 := hn b k1
  refine ⟨?_, k7.2⟩
  rw [← hf]
  simp only [if_neg (show ¬ (b = pn ∨ b = gn) from fun e => e.elim k2 k3), if_neg (show ¬ (b = ln ∨ b = sn ∨ b = cn) from fun e => e.elim k4 (fun e => e.elim k5 k6)), if_neg (show ¬ (κ b = 1 ∨ κ b = 3) by rw [k7.1]; decide)]
  exact k7.1
theorem PrX.lpA {w0 : World} {N : Nat → Prop} {p q l0 l1 d0 d1 : Nat} {t td : Tw} {W : World} (h : PrX w0 N p q l0 l1 d0 d1 t td W) : (∃ s c cap S, LpB W l0 s c cap S t.x) ∧ ∃ g cp, MemAt 96 W p g cp t.bs := by
  obtain ⟨⟨κ, ⟨⟨g, cp, m1, _⟩, _⟩, ⟨⟨s, c, cap, S, a1, _⟩, _⟩, _⟩, _⟩ := h
  exact ⟨⟨s, c, cap, S, a1⟩, g, cp, m1⟩

end Go.Proofs.YtobhdjepfhbgaaaDoor
