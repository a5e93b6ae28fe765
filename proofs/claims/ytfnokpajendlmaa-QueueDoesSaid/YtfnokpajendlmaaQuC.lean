/-
  Package queue: Put, Head, Pass, SetWrite at every call.
-/
import Derived.Test.YtfnokpajendlmaaQuB
namespace Go.Proofs.Ytfnokpajendlmaa
open Go.ChangeShapes Go.WideShapes Go.ChangeAt Go.RowKit
set_option linter.unusedVariables false
set_option linter.unusedSimpArgs false

theorem mem_apart {T t : TypeId} {W : World} {p g cap b : Nat} {bs : List Nat} {cs : Array Value} (hM : MemAt T W p g cap bs) (hC : CB W b t cs) (h1 : t ≠ T) (h2 : t ≠ 5) : b ≠ p ∧ b ≠ g := by
  constructor
  · intro e
    have h := hM.box
    rw [← e, show W.heap[b]? = _ from hC] at h
    simp only [Option.some.injEq, Obj.cells.injEq] at h
    exact h1 h.2.1
  · intro e
    obtain ⟨⟨r, h⟩, _⟩ := hM.bytes
    rw [← e, show W.heap[b]? = _ from hC] at h
    simp only [Option.some.injEq, Obj.cells.injEq] at h
    exact h2 h.2.1
/-- A queue's box and its memory. -/
structure QM (w : World) (p g cap b : Nat) (bs : List Nat) (q : Qu) (W : World) : Prop where
  m : MemAt 73 W p g cap bs
  q : CB W b 25 (Qu.cs q)
  kept : Kept (fun x => x = g ∨ x = b) w W
theorem QM.refl {p g cap b : Nat} {bs : List Nat} {q : Qu} {W : World} (m : MemAt 73 W p g cap bs) (h : CB W b 25 (Qu.cs q)) : QM W p g cap b bs q W := ⟨m, h, Kept.refl _ _⟩
theorem QM.later {w : World} {p g cap b : Nat} {bs : List Nat} {q : Qu} {W W' : World} (h : QM w p g cap b bs q W) (k : Below W.heap.size W W') : QM w p g cap b bs q W' := ⟨h.m.below k, h.q.below k, h.kept.below k⟩
theorem QM.wrote {w : World} {p g cap b : Nat} {bs cs : List Nat} {q : Qu} {W W' : World} (h : QM w p g cap b bs q W) (hm : MemAt 73 W' p g cap cs) (k : Kept (· = g) W W') : QM w p g cap b cs q W' :=
  ⟨hm, h.q.keptB k (mem_apart h.m h.q (by decide) (by decide)).2, h.kept.trans (k.mono (fun x e => .inl e))⟩
theorem QM.put {w : World} {p g cap b : Nat} {bs : List Nat} {q q' : Qu} {W : World} (h : QM w p g cap b bs q W) (j : Nat) (u : Value) (hq : (Qu.cs q).setIfInBounds j u = Qu.cs q') : QM w p g cap b bs q' (W.setCell ⟨b, j, none⟩ u) := by
  obtain ⟨h1, h2⟩ := mem_apart h.m h.q (by decide) (by decide)
  have := h.q.set j u
  rw [hq] at this
  exact ⟨h.m.kept (kept_setCell W b j u) (fun e => h1 e.symm) (fun e => h2 e.symm), this, h.kept.trans ((kept_setCell W b j u).mono (fun x e => .inr e))⟩
theorem QM.held {w : World} {p g cap b : Nat} {bs : List Nat} {q : Qu} {W : World} (h : QM w p g cap b bs q W) : W.cell? ⟨b, 0, none⟩ = some (.int .i64 q.at_) ∧ W.cell? ⟨b, 1, none⟩ = some (.int .i64 q.size) ∧ W.cell? ⟨b, 2, none⟩ = some (.int .i64 q.read) ∧ W.cell? ⟨b, 3, none⟩ = some (.int .i64 q.write) :=
  ⟨h.q.cell 0, h.q.cell 1, h.q.cell 2, h.q.cell 3⟩
theorem QM.mid {w w1 : World} {p g cap b : Nat} {bs : List Nat} {q : Qu} {W : World} (h : QM w1 p g cap b bs q W) (k : Below w.heap.size w w1) : QM w p g cap b bs q W := ⟨h.m, h.q, (Kept.of k).trans h.kept⟩
theorem stE_no {n : Nat} {bs : List Nat} {a s off : Int} {c : Cm} (hn : bs.length = n) (h : stE n a s off (validC c) ≠ 0) : stL bs a s off c = bs := by
  subst hn
  unfold stE at h
  unfold stL
  cases hv : validC c
  · rfl
  · cases he : entOk bs.length a s off
    · rfl
    · rw [hv, he] at h; exact absurd rfl h
theorem CB.cm9z {W : World} {b : Nat} {t : TypeId} {a1 a2 a3 a4 a5 a6 a7 a8 : Int} {a9 : Bool} (h : CB W b t #[.int .i64 a1, .int .i64 a2, .int .i64 a3, .int .i64 a4, .int .i64 a5, .int .i64 a6, .int .i64 a7, .int .i64 a8, .bool a9]) :
    W.cell? ⟨b, 0, none⟩ = some (.int .i64 a1) ∧ W.cell? ⟨b, 1, none⟩ = some (.int .i64 a2) ∧ W.cell? ⟨b, 2, none⟩ = some (.int .i64 a3) ∧ W.cell? ⟨b, 3, none⟩ = some (.int .i64 a4) ∧ W.cell? ⟨b, 4, none⟩ = some (.int .i64 a5) ∧
    W.cell? ⟨b, 5, none⟩ = some (.int .i64 a6) ∧ W.cell? ⟨b, 6, none⟩ = some (.int .i64 a7) ∧ W.cell? ⟨b, 7, none⟩ = some (.int .i64 a8) ∧ W.cell? ⟨b, 8, none⟩ = some (.bool a9) := CB.nine h
theorem lt_block {w : World} {b : Nat} {t : TypeId} {cs : Array Value} (h : CB w b t cs) (o : Obj) : b < (w.alloc o).heap.size := by have := h.lt; simp; omega

set_option maxRecDepth 100000 in
set_option maxHeartbeats 8000000 in
theorem put_any (p g cap : Nat) (bs : List Nat) (b : Nat) (q : Qu) (c : Cm) (w : World) (hM : MemAt 73 w p g cap bs) (hQ : CB w b 25 (Qu.cs q)) (hF : q.Fair) (hc : i64B c.addr) :
    Calls Try.prog 18 #[.pointer (some ⟨b, 0, none⟩), .pointer (some ⟨p, 0, none⟩), c.v] w fun e w' => e = .returned (.int .i64 (quE bs.length q c)) ∧ QM w p g cap b (quL bs q c) (quQ bs.length q c) w' := by
  have HRM := hi (fun W => room_q q hF.s.2 W)
  have HST := hi (fun W hM => store_any p g cap bs q.at_ q.size q.write c W hM hF.a hF.s hF.w hc)
  have HAF := hi (fun W => after_q q q.write hF.s.2 W)
  have H0 := hi ((QM.refl hM hQ).later (bal w (.cells (Cm.cs c) 36)))
  have HCM := hi (CB.new w 36 (Cm.cs c))
  have hbl := hQ.lt
  have hMg := hM.bytes.lt
  have HNX := hi (show okQ q = true → nextN q q.write = nextR q.size 32 q.write from fun h => by rw [nextN, if_pos (okQ_out h).2])
  have HNO := hi (fun h => stE_no (bs := bs) (n := bs.length) (a := q.at_) (s := q.size) (off := q.write) (c := c) rfl h)
  have HE := hi (show quE bs.length q c = if rooN q < 1 then 2 else stE bs.length q.at_ q.size q.write (validC c) from rfl)
  have HL := hi (show quL bs q c = if rooN q < 1 then bs else stL bs q.at_ q.size q.write c from rfl)
  have HQQ := hi (show quQ bs.length q c = if quE bs.length q c = 0 then { q with write := nextR q.size 32 q.write } else q from rfl)
  obtain ⟨qe, hqe⟩ : ∃ v, quE bs.length q c = v := ⟨_, rfl⟩
  obtain ⟨ql, hql⟩ : ∃ v, quL bs q c = v := ⟨_, rfl⟩
  obtain ⟨qq, hqq⟩ : ∃ v, quQ bs.length q c = v := ⟨_, rfl⟩
  obtain ⟨F, hFF⟩ : ∃ v, stE bs.length q.at_ q.size q.write (validC c) = v := ⟨_, rfl⟩
  obtain ⟨SL, hSL⟩ : ∃ v, stL bs q.at_ q.size q.write c = v := ⟨_, rfl⟩
  rw [hFF, hSL] at HST
  rw [hFF] at HE HNO
  rw [hSL] at HL HNO
  rw [hqe] at HE HQQ ⊢
  rw [hql] at HL ⊢
  rw [hqq] at HQQ ⊢
  obtain ⟨rn, hrn⟩ : ∃ v, rooN q = v := ⟨_, rfl⟩
  rw [hrn] at HRM HE HL
  have HRO := hi (show ¬ rn < 1 → okQ q = true from fun h => room_ok (by rw [hrn]; exact h))
  clear hqe hql hqq hFF hSL hrn hF hc hM hQ
  obtain ⟨a, s, r, v⟩ := q
  obtain ⟨c1, c2, c3, c4, c5, c6, c7, c8, c9⟩ := c
  unfold win at HST
  dsimp only [Cm.v, Cm.cs] at HRM HST HAF H0 HCM HNX HQQ ⊢
  obtain ⟨a0, a1, a2, a3⟩ := H0.out.held
  by_cases hr : rn < 1
  · obtain rfl : qe = 2 := by have := HE.out; rw [if_pos hr] at this; exact this
    obtain rfl : ql = bs := by have := HL.out; rw [if_pos hr] at this; exact this
    obtain rfl : qq = ⟨a, s, r, v⟩ := by have := HQQ.out; rw [if_neg (by decide)] at this; exact this
    clear HE HL HQQ HST HAF HNX HNO HRO
    go_enter Try.func18, Try.ntmps18
    go_wp2_with (go_at_call 11; ((with_reducible refine (HRM.out _).mono ?_); rintro e w1 ⟨rfl, hb1⟩; have H1 := hi (H0.out.later hb1); clear hb1))
    go_ret
    exact ⟨rfl, H1.out⟩
  · have hok := HRO.out hr
    have hnx := HNX.out hok
    obtain rfl : qe = F := by have := HE.out; rw [if_neg hr] at this; exact this
    obtain rfl : ql = SL := by have := HL.out; rw [if_neg hr] at this; exact this
    have HOK := hi hok
    rw [hnx] at HAF
    clear hok hnx HE HL HNX HRO
    by_cases hz : qe = 0
    · subst hz
      obtain rfl : qq = ⟨a, s, r, nextR s 32 v⟩ := by have := HQQ.out; rw [if_pos rfl] at this; exact this
      clear HQQ HNO
      obtain ⟨nx, hnx⟩ : ∃ nx, nextR s 32 v = nx := ⟨_, rfl⟩
      rw [hnx] at HAF ⊢
      clear hnx
      go_enter Try.func18, Try.ntmps18
      go_wp2_with (go_at_call 11; ((with_reducible refine (HRM.out _).mono ?_); rintro e w1 ⟨rfl, hb1⟩; have H1 := hi (H0.out.later hb1); have HC1 := hi (HCM.out.below hb1); clear hb1 a0 a1 a2 a3))
      have hS1 := And.intro H1.out.held (CB.cm9z HC1.out)
      refine wp_region_noPanic ?_
      refine wp_region_last_drew (S := (fun V => (V.cell? ⟨b, 0, none⟩ = some (.int .i64 a) ∧ V.cell? ⟨b, 1, none⟩ = some (.int .i64 s) ∧ V.cell? ⟨b, 2, none⟩ = some (.int .i64 r) ∧ V.cell? ⟨b, 3, none⟩ = some (.int .i64 v)) ∧ (V.cell? ⟨w.heap.size, 0, none⟩ = some (.int .i64 c1) ∧ V.cell? ⟨w.heap.size, 1, none⟩ = some (.int .i64 c2) ∧ V.cell? ⟨w.heap.size, 2, none⟩ = some (.int .i64 c3) ∧ V.cell? ⟨w.heap.size, 3, none⟩ = some (.int .i64 c4) ∧ V.cell? ⟨w.heap.size, 4, none⟩ = some (.int .i64 c5) ∧ V.cell? ⟨w.heap.size, 5, none⟩ = some (.int .i64 c6) ∧ V.cell? ⟨w.heap.size, 6, none⟩ = some (.int .i64 c7) ∧ V.cell? ⟨w.heap.size, 7, none⟩ = some (.int .i64 c8) ∧ V.cell? ⟨w.heap.size, 8, none⟩ = some (.bool c9)))) [] (by kernel_rfl) hS1 (fun hHeld => ?_)
      (try simp only [Array.replicate_succ, Array.replicate_zero, List.push_toArray, List.nil_append, List.cons_append])
      refine wpAnyF_take (i := 0) (v := ?_) (by kernel_rfl) (by kernel_rfl) rfl (by kernel_rfl) (by kernel_rfl) (by kernel_rfl) (fun _ _ _ h => h) (Or.inl ⟨by rfl, ?_⟩) (by assumption) ?_
      rotate_left
      · intro w' hSw; (try dsimp only at hSw); clear hSw; go_simp; (try with_reducible rfl)
      (try simp only [Act.put, List.getElem_toArray, List.getElem_cons_zero, List.getElem_cons_succ, List.setIfInBounds_toArray, List.set_cons_zero, List.set_cons_succ])
      refine wpAnyF_take (i := 1) (v := ?_) (by kernel_rfl) (by kernel_rfl) rfl (by kernel_rfl) (by kernel_rfl) (by kernel_rfl) (fun _ _ _ h => h) (Or.inl ⟨by rfl, ?_⟩) (by assumption) ?_
      rotate_left
      · intro w' hSw; (try dsimp only at hSw); clear hSw; go_simp; (try with_reducible rfl)
      (try simp only [Act.put, List.getElem_toArray, List.getElem_cons_zero, List.getElem_cons_succ, List.setIfInBounds_toArray, List.set_cons_zero, List.set_cons_succ])
      refine wpAnyF_take (i := 2) (v := ?_) (by kernel_rfl) (by kernel_rfl) rfl (by kernel_rfl) (by kernel_rfl) (by kernel_rfl) (fun _ _ _ h => h) (Or.inl ⟨by rfl, ?_⟩) (by assumption) ?_
      rotate_left
      · intro w' hSw; (try dsimp only at hSw); clear hSw; go_simp; (try with_reducible rfl)
      (try simp only [Act.put, List.getElem_toArray, List.getElem_cons_zero, List.getElem_cons_succ, List.setIfInBounds_toArray, List.set_cons_zero, List.set_cons_succ])
      refine wpAnyF_take (i := 3) (v := ?_) (by kernel_rfl) (by kernel_rfl) rfl (by kernel_rfl) (by kernel_rfl) (by kernel_rfl) (fun _ _ _ h => h) (Or.inl ⟨by rfl, ?_⟩) (by assumption) ?_
      rotate_left
      · intro w' hSw; (try dsimp only at hSw); clear hSw; go_simp; (try with_reducible rfl)
      (try simp only [Act.put, List.getElem_toArray, List.getElem_cons_zero, List.getElem_cons_succ, List.setIfInBounds_toArray, List.set_cons_zero, List.set_cons_succ])
      refine wpAnyF_take (i := 4) (v := ?_) (by kernel_rfl) (by kernel_rfl) rfl (by kernel_rfl) (by kernel_rfl) (by kernel_rfl) (fun _ _ _ h => h) (Or.inl ⟨by rfl, ?_⟩) (by assumption) ?_
      rotate_left
      · intro w' hSw; (try dsimp only at hSw); have hh := hSw.1; clear hSw; obtain ⟨a0, a1, a2, a3⟩ := hh; go_simp; (try with_reducible rfl)
      (try simp only [Act.put, List.getElem_toArray, List.getElem_cons_zero, List.getElem_cons_succ, List.setIfInBounds_toArray, List.set_cons_zero, List.set_cons_succ])
      refine wpAnyF_take (i := 5) (v := ?_) (by kernel_rfl) (by kernel_rfl) rfl (by kernel_rfl) (by kernel_rfl) (by kernel_rfl) (fun _ _ _ h => h) (Or.inl ⟨by rfl, ?_⟩) (by assumption) ?_
      rotate_left
      · intro w' hSw; (try dsimp only at hSw); clear hSw; go_simp; (try with_reducible rfl)
      (try simp only [Act.put, List.getElem_toArray, List.getElem_cons_zero, List.getElem_cons_succ, List.setIfInBounds_toArray, List.set_cons_zero, List.set_cons_succ])
      refine wpAnyF_take (i := 6) (v := ?_) (by kernel_rfl) (by kernel_rfl) rfl (by kernel_rfl) (by kernel_rfl) (by kernel_rfl) (fun _ _ _ h => h) (Or.inl ⟨by rfl, ?_⟩) (by assumption) ?_
      rotate_left
      · intro w' hSw; (try dsimp only at hSw); clear hSw; go_simp; (try with_reducible rfl)
      (try simp only [Act.put, List.getElem_toArray, List.getElem_cons_zero, List.getElem_cons_succ, List.setIfInBounds_toArray, List.set_cons_zero, List.set_cons_succ])
      refine wpAnyF_take (i := 7) (v := ?_) (by kernel_rfl) (by kernel_rfl) rfl (by kernel_rfl) (by kernel_rfl) (by kernel_rfl) (fun _ _ _ h => h) (Or.inl ⟨by rfl, ?_⟩) (by assumption) ?_
      rotate_left
      · intro w' hSw; (try dsimp only at hSw); clear hSw; go_simp; (try with_reducible rfl)
      (try simp only [Act.put, List.getElem_toArray, List.getElem_cons_zero, List.getElem_cons_succ, List.setIfInBounds_toArray, List.set_cons_zero, List.set_cons_succ])
      refine wpAnyF_take (i := 8) (v := ?_) (by kernel_rfl) (by kernel_rfl) rfl (by kernel_rfl) (by kernel_rfl) (by kernel_rfl) (fun _ _ _ h => h) (Or.inl ⟨by rfl, ?_⟩) (by assumption) ?_
      rotate_left
      · intro w' hSw; (try dsimp only at hSw); have hh := hSw.1; clear hSw; obtain ⟨a0, a1, a2, a3⟩ := hh; go_simp; (try with_reducible rfl)
      (try simp only [Act.put, List.getElem_toArray, List.getElem_cons_zero, List.getElem_cons_succ, List.setIfInBounds_toArray, List.set_cons_zero, List.set_cons_succ])
      refine wpAnyF_take (i := 9) (v := ?_) (by kernel_rfl) (by kernel_rfl) rfl (by kernel_rfl) (by kernel_rfl) (by kernel_rfl) (fun _ _ _ h => h) (Or.inl ⟨by rfl, ?_⟩) (by assumption) ?_
      rotate_left
      · intro w' hSw; (try dsimp only at hSw); have hh := hSw.2; clear hSw; obtain ⟨b0, b1, b2, b3, b4, b5, b6, b7, b8⟩ := hh; go_simp; (try with_reducible rfl)
      (try simp only [Act.put, List.getElem_toArray, List.getElem_cons_zero, List.getElem_cons_succ, List.setIfInBounds_toArray, List.set_cons_zero, List.set_cons_succ])
      refine wpAnyF_ready (rs := [10]) (by kernel_rfl) (by simp) ?_
      refine AllReadyF.cons rfl (fun KK hKK => ?_) AllReadyF.nil
      go_simp
      ((with_reducible refine (HST.out _ (H1.out.later (below_dr _)).m).mono ?_); rintro e' w3 ⟨rfl, hm3, hk3⟩; have H3 := hi ((H1.out.later (below_dr _)).wrote hm3 hk3); have HC3 := hi ((HC1.out.below (below_dr _)).keptB hk3 (fun e => by have := H1.out.m; have hg := H0.out.m.bytes.lt; have h9 := hMg; omega)); clear hm3 hk3)
      (try go_simp)
      refine hKK.out _ _ ⟨H3.out.held, CB.cm9z HC3.out⟩ (fun hHeld => ?_)
      clear hKK KK
      (try simp only [Act.put, List.getElem_toArray, List.getElem_cons_zero, List.getElem_cons_succ, List.setIfInBounds_toArray, List.set_cons_zero, List.set_cons_succ])
      refine wpAnyF_take (i := 11) (v := ?_) (by kernel_rfl) (by kernel_rfl) rfl (by kernel_rfl) (by kernel_rfl) (by kernel_rfl) (fun _ _ _ h => h) (Or.inl ⟨by rfl, ?_⟩) (by assumption) ?_
      rotate_left
      · intro w' hSw; (try dsimp only at hSw); clear hSw; go_simp; (try with_reducible rfl)
      (try simp only [Act.put, List.getElem_toArray, List.getElem_cons_zero, List.getElem_cons_succ, List.setIfInBounds_toArray, List.set_cons_zero, List.set_cons_succ])
      refine wpAnyF_done (by kernel_rfl) ?_ _
      refine NoPanic.normal ?_
      have H3' := hi H3.out
      clear hHeld
      obtain ⟨a0, a1, a2, a3⟩ := H3.out.held
      have qf := H3.out.q.frozen
      have qz := H3.out.q.lt
      go_wp2
      refine wp_region_noPanic ?_
      refine wp_region_last_drew (S := (fun V => V.cell? ⟨b, 0, none⟩ = some (.int .i64 a) ∧ V.cell? ⟨b, 1, none⟩ = some (.int .i64 s) ∧ V.cell? ⟨b, 2, none⟩ = some (.int .i64 r) ∧ V.cell? ⟨b, 3, none⟩ = some (.int .i64 v))) [9, 10, 11] (by kernel_rfl) H3.out.held (fun hHeld => ?_)
      (try simp only [Array.replicate_succ, Array.replicate_zero, List.push_toArray, List.nil_append, List.cons_append])
      refine wpAnyF_take (i := 0) (v := ?_) (by kernel_rfl) (by kernel_rfl) rfl (by kernel_rfl) (by kernel_rfl) (by kernel_rfl) (fun _ _ _ h => h) (Or.inl ⟨by rfl, ?_⟩) (by assumption) ?_
      rotate_left
      · intro w' hSw; (try dsimp only at hSw); clear hSw; go_simp; (try with_reducible rfl)
      (try simp only [Act.put, List.getElem_toArray, List.getElem_cons_zero, List.getElem_cons_succ, List.setIfInBounds_toArray, List.set_cons_zero, List.set_cons_succ])
      refine wpAnyF_take (i := 1) (v := ?_) (by kernel_rfl) (by kernel_rfl) rfl (by kernel_rfl) (by kernel_rfl) (by kernel_rfl) (fun _ _ _ h => h) (Or.inl ⟨by rfl, ?_⟩) (by assumption) ?_
      rotate_left
      · intro w' hSw; (try dsimp only at hSw); clear hSw; go_simp; (try with_reducible rfl)
      (try simp only [Act.put, List.getElem_toArray, List.getElem_cons_zero, List.getElem_cons_succ, List.setIfInBounds_toArray, List.set_cons_zero, List.set_cons_succ])
      refine wpAnyF_take (i := 2) (v := ?_) (by kernel_rfl) (by kernel_rfl) rfl (by kernel_rfl) (by kernel_rfl) (by kernel_rfl) (fun _ _ _ h => h) (Or.inl ⟨by rfl, ?_⟩) (by assumption) ?_
      rotate_left
      · intro w' hSw; (try dsimp only at hSw); clear hSw; go_simp; (try with_reducible rfl)
      (try simp only [Act.put, List.getElem_toArray, List.getElem_cons_zero, List.getElem_cons_succ, List.setIfInBounds_toArray, List.set_cons_zero, List.set_cons_succ])
      refine wpAnyF_take (i := 3) (v := ?_) (by kernel_rfl) (by kernel_rfl) rfl (by kernel_rfl) (by kernel_rfl) (by kernel_rfl) (fun _ _ _ h => h) (Or.inl ⟨by rfl, ?_⟩) (by assumption) ?_
      rotate_left
      · intro w' hSw; (try dsimp only at hSw); obtain ⟨a0, a1, a2, a3⟩ := hSw; go_simp; (try with_reducible rfl)
      (try simp only [Act.put, List.getElem_toArray, List.getElem_cons_zero, List.getElem_cons_succ, List.setIfInBounds_toArray, List.set_cons_zero, List.set_cons_succ])
      refine wpAnyF_take (i := 4) (v := ?_) (by kernel_rfl) (by kernel_rfl) rfl (by kernel_rfl) (by kernel_rfl) (by kernel_rfl) (fun _ _ _ h => h) (Or.inl ⟨by rfl, ?_⟩) (by assumption) ?_
      rotate_left
      · intro w' hSw; (try dsimp only at hSw); clear hSw; go_simp; (try with_reducible rfl)
      (try simp only [Act.put, List.getElem_toArray, List.getElem_cons_zero, List.getElem_cons_succ, List.setIfInBounds_toArray, List.set_cons_zero, List.set_cons_succ])
      refine wpAnyF_take (i := 5) (v := ?_) (by kernel_rfl) (by kernel_rfl) rfl (by kernel_rfl) (by kernel_rfl) (by kernel_rfl) (fun _ _ _ h => h) (Or.inl ⟨by rfl, ?_⟩) (by assumption) ?_
      rotate_left
      · intro w' hSw; (try dsimp only at hSw); clear hSw; go_simp; (try with_reducible rfl)
      (try simp only [Act.put, List.getElem_toArray, List.getElem_cons_zero, List.getElem_cons_succ, List.setIfInBounds_toArray, List.set_cons_zero, List.set_cons_succ])
      refine wpAnyF_take (i := 6) (v := ?_) (by kernel_rfl) (by kernel_rfl) rfl (by kernel_rfl) (by kernel_rfl) (by kernel_rfl) (fun _ _ _ h => h) (Or.inl ⟨by rfl, ?_⟩) (by assumption) ?_
      rotate_left
      · intro w' hSw; (try dsimp only at hSw); clear hSw; go_simp; (try with_reducible rfl)
      (try simp only [Act.put, List.getElem_toArray, List.getElem_cons_zero, List.getElem_cons_succ, List.setIfInBounds_toArray, List.set_cons_zero, List.set_cons_succ])
      refine wpAnyF_take (i := 7) (v := ?_) (by kernel_rfl) (by kernel_rfl) rfl (by kernel_rfl) (by kernel_rfl) (by kernel_rfl) (fun _ _ _ h => h) (Or.inl ⟨by rfl, ?_⟩) (by assumption) ?_
      rotate_left
      · intro w' hSw; (try dsimp only at hSw); obtain ⟨a0, a1, a2, a3⟩ := hSw; go_simp; (try with_reducible rfl)
      (try simp only [Act.put, List.getElem_toArray, List.getElem_cons_zero, List.getElem_cons_succ, List.setIfInBounds_toArray, List.set_cons_zero, List.set_cons_succ])
      refine wpAnyF_ready (rs := [8]) (by kernel_rfl) (by simp) ?_
      refine AllReadyF.cons rfl (fun KK hKK => ?_) AllReadyF.nil
      go_simp
      ((with_reducible refine (HAF.out _).mono ?_); rintro e' w5 ⟨rfl, hb5⟩; have H5 := hi ((H3.out.later (below_dr _)).later hb5); clear hb5; obtain ⟨p0, p1, p2, p3⟩ := H5.out.held; have pf := H5.out.q.frozen; have pz := H5.out.q.lt)
      (try go_simp)
      refine hKK.out _ _ H5.out.held (fun hHeld => ?_)
      clear hKK KK
      (try simp only [Act.put, List.getElem_toArray, List.getElem_cons_zero, List.getElem_cons_succ, List.setIfInBounds_toArray, List.set_cons_zero, List.set_cons_succ])
      refine wpAnyF_ready (rs := [9]) (by kernel_rfl) (by simp) ?_
      refine AllReadyF.last (by kernel_rfl) rfl (fun KK hKK => ?_) AllReadyF.nil
      go_simp
      refine hKK.out _ _ ?_
      clear hKK KK
      (try simp only [Act.put, List.getElem_toArray, List.getElem_cons_zero, List.getElem_cons_succ, List.setIfInBounds_toArray, List.set_cons_zero, List.set_cons_succ])
      refine wpAnyF_ready (rs := [10]) (by kernel_rfl) (by simp) ?_
      refine AllReadyF.last (by kernel_rfl) rfl (fun KK hKK => ?_) AllReadyF.nil
      go_simp
      refine hKK.out _ _ ?_
      clear hKK KK
      (try simp only [Act.put, List.getElem_toArray, List.getElem_cons_zero, List.getElem_cons_succ, List.setIfInBounds_toArray, List.set_cons_zero, List.set_cons_succ])
      refine wpAnyF_ready (rs := [11]) (by kernel_rfl) (by simp) ?_
      refine AllReadyF.last (by kernel_rfl) rfl (fun KK hKK => ?_) AllReadyF.nil
      go_simp
      refine hKK.out _ _ ?_
      clear hKK KK
      (try simp only [Act.put, List.getElem_toArray, List.getElem_cons_zero, List.getElem_cons_succ, List.setIfInBounds_toArray, List.set_cons_zero, List.set_cons_succ])
      refine wpAnyF_done (by kernel_rfl) ?_ _
      refine NoPanic.normal ?_
      have H6 := hi ((H5.out.put (q' := ⟨a, s, r, nx⟩) 3 (.int .i64 nx) rfl))
      go_wp2
      go_ret
      exact ⟨rfl, H6.out⟩
    · have hne : (qe != 0) = true := by simpa using hz
      obtain rfl : qq = ⟨a, s, r, v⟩ := by have := HQQ.out; rw [if_neg hz] at this; exact this
      have hsl := HNO.out hz
      clear HQQ HNO hz HAF
      go_enter Try.func18, Try.ntmps18
      go_wp2_with (go_at_call 11; ((with_reducible refine (HRM.out _).mono ?_); rintro e w1 ⟨rfl, hb1⟩; have H1 := hi (H0.out.later hb1); have HC1 := hi (HCM.out.below hb1); clear hb1 a0 a1 a2 a3))
      have hS1 := And.intro H1.out.held (CB.cm9z HC1.out)
      refine wp_region_noPanic ?_
      refine wp_region_last_drew (S := (fun V => (V.cell? ⟨b, 0, none⟩ = some (.int .i64 a) ∧ V.cell? ⟨b, 1, none⟩ = some (.int .i64 s) ∧ V.cell? ⟨b, 2, none⟩ = some (.int .i64 r) ∧ V.cell? ⟨b, 3, none⟩ = some (.int .i64 v)) ∧ (V.cell? ⟨w.heap.size, 0, none⟩ = some (.int .i64 c1) ∧ V.cell? ⟨w.heap.size, 1, none⟩ = some (.int .i64 c2) ∧ V.cell? ⟨w.heap.size, 2, none⟩ = some (.int .i64 c3) ∧ V.cell? ⟨w.heap.size, 3, none⟩ = some (.int .i64 c4) ∧ V.cell? ⟨w.heap.size, 4, none⟩ = some (.int .i64 c5) ∧ V.cell? ⟨w.heap.size, 5, none⟩ = some (.int .i64 c6) ∧ V.cell? ⟨w.heap.size, 6, none⟩ = some (.int .i64 c7) ∧ V.cell? ⟨w.heap.size, 7, none⟩ = some (.int .i64 c8) ∧ V.cell? ⟨w.heap.size, 8, none⟩ = some (.bool c9)))) [] (by kernel_rfl) hS1 (fun hHeld => ?_)
      (try simp only [Array.replicate_succ, Array.replicate_zero, List.push_toArray, List.nil_append, List.cons_append])
      refine wpAnyF_take (i := 0) (v := ?_) (by kernel_rfl) (by kernel_rfl) rfl (by kernel_rfl) (by kernel_rfl) (by kernel_rfl) (fun _ _ _ h => h) (Or.inl ⟨by rfl, ?_⟩) (by assumption) ?_
      rotate_left
      · intro w' hSw; (try dsimp only at hSw); clear hSw; go_simp; (try with_reducible rfl)
      (try simp only [Act.put, List.getElem_toArray, List.getElem_cons_zero, List.getElem_cons_succ, List.setIfInBounds_toArray, List.set_cons_zero, List.set_cons_succ])
      refine wpAnyF_take (i := 1) (v := ?_) (by kernel_rfl) (by kernel_rfl) rfl (by kernel_rfl) (by kernel_rfl) (by kernel_rfl) (fun _ _ _ h => h) (Or.inl ⟨by rfl, ?_⟩) (by assumption) ?_
      rotate_left
      · intro w' hSw; (try dsimp only at hSw); clear hSw; go_simp; (try with_reducible rfl)
      (try simp only [Act.put, List.getElem_toArray, List.getElem_cons_zero, List.getElem_cons_succ, List.setIfInBounds_toArray, List.set_cons_zero, List.set_cons_succ])
      refine wpAnyF_take (i := 2) (v := ?_) (by kernel_rfl) (by kernel_rfl) rfl (by kernel_rfl) (by kernel_rfl) (by kernel_rfl) (fun _ _ _ h => h) (Or.inl ⟨by rfl, ?_⟩) (by assumption) ?_
      rotate_left
      · intro w' hSw; (try dsimp only at hSw); clear hSw; go_simp; (try with_reducible rfl)
      (try simp only [Act.put, List.getElem_toArray, List.getElem_cons_zero, List.getElem_cons_succ, List.setIfInBounds_toArray, List.set_cons_zero, List.set_cons_succ])
      refine wpAnyF_take (i := 3) (v := ?_) (by kernel_rfl) (by kernel_rfl) rfl (by kernel_rfl) (by kernel_rfl) (by kernel_rfl) (fun _ _ _ h => h) (Or.inl ⟨by rfl, ?_⟩) (by assumption) ?_
      rotate_left
      · intro w' hSw; (try dsimp only at hSw); clear hSw; go_simp; (try with_reducible rfl)
      (try simp only [Act.put, List.getElem_toArray, List.getElem_cons_zero, List.getElem_cons_succ, List.setIfInBounds_toArray, List.set_cons_zero, List.set_cons_succ])
      refine wpAnyF_take (i := 4) (v := ?_) (by kernel_rfl) (by kernel_rfl) rfl (by kernel_rfl) (by kernel_rfl) (by kernel_rfl) (fun _ _ _ h => h) (Or.inl ⟨by rfl, ?_⟩) (by assumption) ?_
      rotate_left
      · intro w' hSw; (try dsimp only at hSw); have hh := hSw.1; clear hSw; obtain ⟨a0, a1, a2, a3⟩ := hh; go_simp; (try with_reducible rfl)
      (try simp only [Act.put, List.getElem_toArray, List.getElem_cons_zero, List.getElem_cons_succ, List.setIfInBounds_toArray, List.set_cons_zero, List.set_cons_succ])
      refine wpAnyF_take (i := 5) (v := ?_) (by kernel_rfl) (by kernel_rfl) rfl (by kernel_rfl) (by kernel_rfl) (by kernel_rfl) (fun _ _ _ h => h) (Or.inl ⟨by rfl, ?_⟩) (by assumption) ?_
      rotate_left
      · intro w' hSw; (try dsimp only at hSw); clear hSw; go_simp; (try with_reducible rfl)
      (try simp only [Act.put, List.getElem_toArray, List.getElem_cons_zero, List.getElem_cons_succ, List.setIfInBounds_toArray, List.set_cons_zero, List.set_cons_succ])
      refine wpAnyF_take (i := 6) (v := ?_) (by kernel_rfl) (by kernel_rfl) rfl (by kernel_rfl) (by kernel_rfl) (by kernel_rfl) (fun _ _ _ h => h) (Or.inl ⟨by rfl, ?_⟩) (by assumption) ?_
      rotate_left
      · intro w' hSw; (try dsimp only at hSw); clear hSw; go_simp; (try with_reducible rfl)
      (try simp only [Act.put, List.getElem_toArray, List.getElem_cons_zero, List.getElem_cons_succ, List.setIfInBounds_toArray, List.set_cons_zero, List.set_cons_succ])
      refine wpAnyF_take (i := 7) (v := ?_) (by kernel_rfl) (by kernel_rfl) rfl (by kernel_rfl) (by kernel_rfl) (by kernel_rfl) (fun _ _ _ h => h) (Or.inl ⟨by rfl, ?_⟩) (by assumption) ?_
      rotate_left
      · intro w' hSw; (try dsimp only at hSw); clear hSw; go_simp; (try with_reducible rfl)
      (try simp only [Act.put, List.getElem_toArray, List.getElem_cons_zero, List.getElem_cons_succ, List.setIfInBounds_toArray, List.set_cons_zero, List.set_cons_succ])
      refine wpAnyF_take (i := 8) (v := ?_) (by kernel_rfl) (by kernel_rfl) rfl (by kernel_rfl) (by kernel_rfl) (by kernel_rfl) (fun _ _ _ h => h) (Or.inl ⟨by rfl, ?_⟩) (by assumption) ?_
      rotate_left
      · intro w' hSw; (try dsimp only at hSw); have hh := hSw.1; clear hSw; obtain ⟨a0, a1, a2, a3⟩ := hh; go_simp; (try with_reducible rfl)
      (try simp only [Act.put, List.getElem_toArray, List.getElem_cons_zero, List.getElem_cons_succ, List.setIfInBounds_toArray, List.set_cons_zero, List.set_cons_succ])
      refine wpAnyF_take (i := 9) (v := ?_) (by kernel_rfl) (by kernel_rfl) rfl (by kernel_rfl) (by kernel_rfl) (by kernel_rfl) (fun _ _ _ h => h) (Or.inl ⟨by rfl, ?_⟩) (by assumption) ?_
      rotate_left
      · intro w' hSw; (try dsimp only at hSw); have hh := hSw.2; clear hSw; obtain ⟨b0, b1, b2, b3, b4, b5, b6, b7, b8⟩ := hh; go_simp; (try with_reducible rfl)
      (try simp only [Act.put, List.getElem_toArray, List.getElem_cons_zero, List.getElem_cons_succ, List.setIfInBounds_toArray, List.set_cons_zero, List.set_cons_succ])
      refine wpAnyF_ready (rs := [10]) (by kernel_rfl) (by simp) ?_
      refine AllReadyF.cons rfl (fun KK hKK => ?_) AllReadyF.nil
      go_simp
      ((with_reducible refine (HST.out _ (H1.out.later (below_dr _)).m).mono ?_); rintro e' w3 ⟨rfl, hm3, hk3⟩; have H3 := hi ((H1.out.later (below_dr _)).wrote hm3 hk3); have HC3 := hi ((HC1.out.below (below_dr _)).keptB hk3 (fun e => by have := H1.out.m; have hg := H0.out.m.bytes.lt; have h9 := hMg; omega)); clear hm3 hk3)
      (try go_simp)
      refine hKK.out _ _ ⟨H3.out.held, CB.cm9z HC3.out⟩ (fun hHeld => ?_)
      clear hKK KK
      (try simp only [Act.put, List.getElem_toArray, List.getElem_cons_zero, List.getElem_cons_succ, List.setIfInBounds_toArray, List.set_cons_zero, List.set_cons_succ])
      refine wpAnyF_take (i := 11) (v := ?_) (by kernel_rfl) (by kernel_rfl) rfl (by kernel_rfl) (by kernel_rfl) (by kernel_rfl) (fun _ _ _ h => h) (Or.inl ⟨by rfl, ?_⟩) (by assumption) ?_
      rotate_left
      · intro w' hSw; (try dsimp only at hSw); clear hSw; go_simp; (try with_reducible rfl)
      (try simp only [Act.put, List.getElem_toArray, List.getElem_cons_zero, List.getElem_cons_succ, List.setIfInBounds_toArray, List.set_cons_zero, List.set_cons_succ])
      refine wpAnyF_done (by kernel_rfl) ?_ _
      refine NoPanic.normal ?_
      have H3' := hi H3.out
      clear hHeld
      go_wp2
      go_ret
      exact ⟨rfl, by have h := H3'.out; rw [hsl] at h; exact h⟩


end Go.Proofs.Ytfnokpajendlmaa
