import Derived.Test.YtggeakkofcaklaaGreatMg36
import Derived.Test.YtggeakkofcaklaaGreatMg22
import Derived.Deep.OwnRows
namespace Go.Proofs.YtggeakkofcaklaaGreat
open Go.ChangeShapes Go.WideShapes Go.ChangeAt Go.RowKit Go.Shelf
set_option linter.unusedVariables false
attribute [local go_sem] Oper.semAt_some
theorem ty_p1 : (105 : Nat) ≠ 101 ∧ (3 : Nat) ≠ 101 ∧ (4 : Nat) ≠ 101 ∧ (153 : Nat) ≠ 101 ∧ (58 : Nat) ≠ 101 ∧ (9 : Nat) ≠ 101 := by decide
theorem own_ap {W : World} {base sz n B : Nat} {te t : TypeId} {v : Value} {xs : List Value} {cs : Array Value} (h : W.ownsRow base te sz v n xs) (hc : CB W B t cs) (hne : t ≠ te) : some B ≠ v.ownBlock := by
  rcases h.2 with ⟨rfl, _⟩ | ⟨g, cap, cur, rfl, _, hg, _⟩
  · simp [Value.ownBlock]
  · intro e
    obtain rfl : B = g := by simpa [Value.ownBlock] using e
    rw [show W.heap[B]? = _ from hc] at hg
    simp only [Option.some.injEq, Obj.cells.injEq] at hg
    exact hne hg.2.1
def VR (m k i : Nat) : Prop := i < 8 + 3 * k ∧ (m = 0 → i ≠ 6 ∧ i ≠ 7) ∧ i ≠ 3
structure RnI (N n m k : Nat) (b : Nat → Nat) (OV : Value) (W : World) : Prop where
  z0 : b 0 = N + 3
  box : CB W (b 0) 105 #[.bool false, .bool false, .pointer (some ⟨b 5, 0, none⟩), .slice (some ⟨b 1, 0, none⟩) m m, .slice (some ⟨b 2, 0, none⟩) m m, OV, .slice (some ⟨b 4, 0, none⟩) n n]
  core : Row W (b 1) 3 (List.replicate m (.int .i64 0))
  any : Row W (b 2) 4 (List.replicate m (.bool false))
  slp : Row W (b 4) 4 (List.replicate n (.bool false))
  shr : RfB W (b 5) (b 6) (b 7) 32 (fresh m Rt.zero)
  own : ∀ i, i < k → RfB W (b (8 + 3 * i)) (b (9 + 3 * i)) (b (10 + 3 * i)) 0 (edgesV 16)
  row : W.ownsRow (N + 4) 101 1 OV k ((List.range k).map fun i => .pointer (some ⟨b (8 + 3 * i), 0, none⟩))
  inj : ∀ i j, VR m k i → VR m k j → i ≠ j → b i ≠ b j
  rng : ∀ i, VR m k i → N ≤ b i ∧ b i < W.heap.size
theorem rfb_ty {W : World} {x l g : Nat} {f : Int} {es : List En} (h : RfB W x l g f es) : (∃ cs, CB W x 153 cs) ∧ (es.length ≠ 0 → (∃ cs, CB W l 58 cs) ∧ (∃ cs, CB W g 9 cs) ∧ x ≠ l ∧ x ≠ g ∧ l ≠ g) := by
  obtain ⟨la, xa, lc, xc, h⟩ := h
  refine ⟨⟨_, h.box⟩, fun hne => ?_⟩
  obtain ⟨_, _, ⟨A, a1, _⟩, ⟨B, b1, _⟩, h5⟩ := h.ne0 (fun e => hne (by rw [e]; rfl))
  exact ⟨⟨_, a1⟩, ⟨_, b1⟩, h5⟩
theorem RnI.ty {N n m k : Nat} {b : Nat → Nat} {OV : Value} {W : World} (h : RnI N n m k b OV W) {i : Nat} (hv : VR m k i) : ∃ t cs, t ≠ (101 : Nat) ∧ CB W (b i) t cs := by
  obtain ⟨t1, t2, t3, t4, t5, t6⟩ := ty_p1
  obtain ⟨v1, v2, v3⟩ := hv
  have hs := rfb_ty h.shr
  rw [fresh_len] at hs
  by_cases h8 : i < 8
  · have hc : i = 0 ∨ i = 1 ∨ i = 2 ∨ i = 4 ∨ i = 5 ∨ i = 6 ∨ i = 7 := by omega
    rcases hc with rfl | rfl | rfl | rfl | rfl | rfl | rfl
    · exact ⟨_, _, t1, h.box⟩
    · obtain ⟨A, a1, _⟩ := h.core; exact ⟨_, _, t2, a1⟩
    · obtain ⟨A, a1, _⟩ := h.any; exact ⟨_, _, t3, a1⟩
    · obtain ⟨A, a1, _⟩ := h.slp; exact ⟨_, _, t3, a1⟩
    · obtain ⟨A, a1⟩ := hs.1; exact ⟨_, _, t4, a1⟩
    · obtain ⟨⟨A, a1⟩, _⟩ := hs.2 (fun e => (v2 e).1 rfl); exact ⟨_, _, t5, a1⟩
    · obtain ⟨_, ⟨A, a1⟩, _⟩ := hs.2 (fun e => (v2 e).2 rfl); exact ⟨_, _, t6, a1⟩
  · obtain ⟨j, hj, e⟩ : ∃ j, j < k ∧ (i = 8 + 3 * j ∨ i = 9 + 3 * j ∨ i = 10 + 3 * j) := ⟨(i - 8) / 3, by omega, by omega⟩
    have ho := rfb_ty (h.own j hj)
    rw [edgesV_len] at ho
    have h2 := ho.2 (by decide)
    rcases e with rfl | rfl | rfl
    · obtain ⟨A, a1⟩ := ho.1; exact ⟨_, _, t4, a1⟩
    · obtain ⟨A, a1⟩ := h2.1; exact ⟨_, _, t5, a1⟩
    · obtain ⟨A, a1⟩ := h2.2.1; exact ⟨_, _, t6, a1⟩
theorem RnI.heap {N n m k : Nat} {b : Nat → Nat} {OV OV' : Value} {W W' : World} (h : RnI N n m k b OV W) (hs : W.heap.size ≤ W'.heap.size) (hk : ∀ i, VR m k i → i ≠ 0 → W'.heap[b i]? = W.heap[b i]?)
    (hb : CB W' (b 0) 105 #[.bool false, .bool false, .pointer (some ⟨b 5, 0, none⟩), .slice (some ⟨b 1, 0, none⟩) m m, .slice (some ⟨b 2, 0, none⟩) m m, OV', .slice (some ⟨b 4, 0, none⟩) n n])
    (hr : W'.ownsRow (N + 4) 101 1 OV' k ((List.range k).map fun i => .pointer (some ⟨b (8 + 3 * i), 0, none⟩))) : RnI N n m k b OV' W' := by
  have L : ∀ i, i < 6 → i ≠ 3 → i ≠ 0 → W'.heap[b i]? = W.heap[b i]? := fun i q1 q2 q3 => hk i ⟨by omega, fun _ => by omega, q2⟩ q3
  have O : ∀ i, 8 ≤ i → i < 8 + 3 * k → W'.heap[b i]? = W.heap[b i]? := fun i q1 q2 => hk i ⟨q2, fun _ => by omega, by omega⟩ (by omega)
  refine ⟨h.z0, hb, h.core.heap (L 1 (by omega) (by omega) (by omega)), h.any.heap (L 2 (by omega) (by omega) (by omega)), h.slp.heap (L 4 (by omega) (by omega) (by omega)), h.shr.heap (L 5 (by omega) (by omega) (by omega)) (fun hne => ?_),
    fun i hi => (h.own i hi).heap (O _ (by omega) (by omega)) (fun _ => ⟨O _ (by omega) (by omega), O _ (by omega) (by omega)⟩), hr, h.inj, fun i hv => ⟨(h.rng i hv).1, Nat.lt_of_lt_of_le (h.rng i hv).2 hs⟩⟩
  rw [fresh_len] at hne
  exact ⟨hk 6 ⟨by omega, fun e => (hne e).elim, by omega⟩ (by omega), hk 7 ⟨by omega, fun e => (hne e).elim, by omega⟩ (by omega)⟩
theorem own_below {W W' : World} {base sz n : Nat} {te : TypeId} {v : Value} {cs : List Value} (h : W.ownsRow base te sz v n cs) (k : Below W.heap.size W W') : W'.ownsRow base te sz v n cs :=
  h.kept (row := none) ⟨k.os, k.tape, k.output, k.size, fun i hi _ => k.block i hi⟩ (by cases hv : v.ownBlock <;> simp)
theorem RnI.below {N n m k : Nat} {b : Nat → Nat} {OV : Value} {W W' : World} (h : RnI N n m k b OV W) (kk : Below W.heap.size W W') : RnI N n m k b OV W' :=
  h.heap kk.size (fun i hv _ => kk.block _ (h.rng i hv).2) (h.box.below kk) (own_below h.row kk)
structure NwB (W W1 : World) (x l g : Nat) : Prop where
  rf : RfB W1 x l g 0 (edgesV 16)
  lo : W.heap.size ≤ x ∧ W.heap.size ≤ l ∧ W.heap.size ≤ g
  below : Below W.heap.size W W1
def upd3 (b : Nat → Nat) (j x y z : Nat) (i : Nat) : Nat := if i = j then x else if i = j + 1 then y else if i = j + 2 then z else b i
theorem upd3_o (b : Nat → Nat) {j x y z i : Nat} (h : i < j ∨ j + 2 < i) : upd3 b j x y z i = b i := by
  unfold upd3
  rw [if_neg (by omega), if_neg (by omega), if_neg (by omega)]
theorem upd3_a (b : Nat → Nat) (j x y z : Nat) : upd3 b j x y z j = x ∧ upd3 b j x y z (j + 1) = y ∧ upd3 b j x y z (j + 2) = z := by simp [upd3]
theorem RnI.step {N n m k : Nat} {b : Nat → Nat} {OV OV' : Value} {W W1 W2 : World} {x l g : Nat} {tmp : Obj} (h : RnI N n m k b OV W) (hn : NwB W W1 x l g)
    (ho : W2.ownsRow (N + 4) 101 1 OV' (k + 1) ((List.range k).map (fun i => .pointer (some ⟨b (8 + 3 * i), 0, none⟩)) ++ [.pointer (some ⟨x, 0, none⟩)])) (hg : (W1.alloc tmp).grownBy W2 OV.ownBlock) :
    CB W2 (b 0) 105 #[.bool false, .bool false, .pointer (some ⟨b 5, 0, none⟩), .slice (some ⟨b 1, 0, none⟩) m m, .slice (some ⟨b 2, 0, none⟩) m m, OV, .slice (some ⟨b 4, 0, none⟩) n n] ∧
    RnI N n m (k + 1) (upd3 b (8 + 3 * k) x l g) OV' (W2.setCell ⟨b 0, 5, none⟩ OV') := by
  have h1 := h.below hn.below
  have hz := hg.size
  rw [World.size_alloc] at hz
  have hzb := hn.below.size
  obtain ⟨t1, t2, t3, t4, t5, t6⟩ := ty_p1
  have hnt := rfb_ty hn.rf
  rw [edgesV_len] at hnt
  obtain ⟨⟨A, a1⟩, hn2⟩ := hnt
  obtain ⟨⟨B, b1⟩, ⟨C, c1⟩, d1, d2, d3⟩ := hn2 (by decide)
  have K : ∀ {i t cs}, t ≠ (101 : Nat) → CB W1 i t cs → W2.heap[i]? = W1.heap[i]? := fun {i t cs} ht hc => by
    rw [hg.block i (by rw [World.size_alloc]; exact Nat.lt_succ_of_lt hc.lt) (own_ap (h1.row.alloc tmp) (hc.alloc tmp) ht)]
    exact (bal W1 tmp).block i hc.lt
  have KV : ∀ i, VR m k i → W2.heap[b i]? = W1.heap[b i]? := fun i hv => by
    obtain ⟨t, cs, q1, q2⟩ := h1.ty hv
    exact K q1 q2
  have hb2 := h1.box.heap (KV 0 ⟨by omega, fun _ => by omega, by omega⟩)
  refine ⟨hb2, ?_⟩
  have S : ∀ i, i ≠ b 0 → (W2.setCell ⟨b 0, 5, none⟩ OV').heap[i]? = W2.heap[i]? := fun i hne => Below.heap_setCell W2 ⟨b 0, 5, none⟩ _ _ hne
  have r0 := (h.rng 0 ⟨by omega, fun _ => by omega, by omega⟩)
  obtain ⟨l1, l2, l3⟩ := hn.lo
  obtain ⟨u1, u2, u3⟩ := upd3_a b (8 + 3 * k) x l g
  have uo : ∀ i, i < 8 + 3 * k → upd3 b (8 + 3 * k) x l g i = b i := fun i q => upd3_o b (.inl q)
  have L : ∀ i, i < 6 → i ≠ 3 → i ≠ 0 → (W2.setCell ⟨b 0, 5, none⟩ OV').heap[b i]? = W1.heap[b i]? := fun i q1 q2 q3 => by
    rw [S _ (h.inj i 0 ⟨by omega, fun _ => by omega, q2⟩ ⟨by omega, fun _ => by omega, by omega⟩ q3)]
    exact KV i ⟨by omega, fun _ => by omega, q2⟩
  have O : ∀ i, 8 ≤ i → i < 8 + 3 * k → (W2.setCell ⟨b 0, 5, none⟩ OV').heap[b i]? = W1.heap[b i]? := fun i q1 q2 => by
    rw [S _ (h.inj i 0 ⟨q2, fun _ => by omega, by omega⟩ ⟨by omega, fun _ => by omega, by omega⟩ (by omega))]
    exact KV i ⟨q2, fun _ => by omega, by omega⟩
  have hlt1 := a1.lt
  have hlt2 := b1.lt
  have hlt3 := c1.lt
  refine ⟨by rw [uo _ (by omega)]; exact h.z0, ?_, ?_, ?_, ?_, ?_, fun i hi => ?_, ?_, ?_, fun i hv => ?_⟩
  · rw [uo _ (by omega), uo _ (by omega), uo _ (by omega), uo _ (by omega), uo _ (by omega)]
    simpa using hb2.set 5 OV'
  · rw [uo _ (by omega)]; exact h1.core.heap (L 1 (by omega) (by omega) (by omega))
  · rw [uo _ (by omega)]; exact h1.any.heap (L 2 (by omega) (by omega) (by omega))
  · rw [uo _ (by omega)]; exact h1.slp.heap (L 4 (by omega) (by omega) (by omega))
  · rw [uo _ (by omega), uo _ (by omega), uo _ (by omega)]
    refine h1.shr.heap (L 5 (by omega) (by omega) (by omega)) (fun hne => ?_)
    rw [fresh_len] at hne
    have v6 : VR m k 6 := ⟨by omega, fun e => (hne e).elim, by omega⟩
    have v7 : VR m k 7 := ⟨by omega, fun e => (hne e).elim, by omega⟩
    have v0 : VR m k 0 := ⟨by omega, fun _ => by omega, by omega⟩
    exact ⟨(S _ (h.inj 6 0 v6 v0 (by omega))).trans (KV 6 v6), (S _ (h.inj 7 0 v7 v0 (by omega))).trans (KV 7 v7)⟩
  · by_cases e : i = k
    · subst e
      rw [u1, show 9 + 3 * i = 8 + 3 * i + 1 by omega, u2, show 10 + 3 * i = 8 + 3 * i + 2 by omega, u3]
      exact hn.rf.heap ((S _ (by omega)).trans (K t4 a1)) (fun _ => ⟨(S _ (by omega)).trans (K t5 b1), (S _ (by omega)).trans (K t6 c1)⟩)
    · rw [uo _ (by omega), uo _ (by omega), uo _ (by omega)]
      exact (h1.own i (by omega)).heap (O _ (by omega) (by omega)) (fun _ => ⟨O _ (by omega) (by omega), O _ (by omega) (by omega)⟩)
  · have e : (List.range (k + 1)).map (fun i => Value.pointer (some ⟨upd3 b (8 + 3 * k) x l g (8 + 3 * i), 0, none⟩)) = (List.range k).map (fun i => .pointer (some ⟨b (8 + 3 * i), 0, none⟩)) ++ [.pointer (some ⟨x, 0, none⟩)] := by
      rw [List.range_succ, List.map_append, List.map_singleton, u1]
      congr 1
      refine List.map_congr_left fun i hi => ?_
      rw [List.mem_range] at hi
      rw [uo _ (by omega)]
    rw [e]
    exact own_setCell ho (by rw [h.z0]; omega) _
  · intro i j hi hj hne
    have ri := h.rng i
    have rj := h.rng j
    have q := h.inj i j
    obtain ⟨i1, i2, i3⟩ := hi
    obtain ⟨j1, j2, j3⟩ := hj
    by_cases ei : i < 8 + 3 * k
    · have vi : VR m k i := ⟨ei, i2, i3⟩
      rw [uo i ei]
      have rii := ri vi
      by_cases ej : j < 8 + 3 * k
      · rw [uo j ej]
        exact q vi ⟨ej, j2, j3⟩ hne
      · have : j = 8 + 3 * k ∨ j = 8 + 3 * k + 1 ∨ j = 8 + 3 * k + 2 := by omega
        rcases this with rfl | rfl | rfl
        · rw [u1]; omega
        · rw [u2]; omega
        · rw [u3]; omega
    · have hI : i = 8 + 3 * k ∨ i = 8 + 3 * k + 1 ∨ i = 8 + 3 * k + 2 := by omega
      by_cases ej : j < 8 + 3 * k
      · have rjj := rj ⟨ej, j2, j3⟩
        rw [uo j ej]
        rcases hI with rfl | rfl | rfl
        · rw [u1]; omega
        · rw [u2]; omega
        · rw [u3]; omega
      · have hJ : j = 8 + 3 * k ∨ j = 8 + 3 * k + 1 ∨ j = 8 + 3 * k + 2 := by omega
        rcases hI with rfl | rfl | rfl <;> rcases hJ with rfl | rfl | rfl <;> (try rw [u1]) <;> (try rw [u2]) <;> (try rw [u3]) <;> omega
  · rw [World.size_setCell]
    obtain ⟨i1, i2, i3⟩ := hv
    by_cases ei : i < 8 + 3 * k
    · rw [uo i ei]
      have := h.rng i ⟨ei, i2, i3⟩
      omega
    · have hI : i = 8 + 3 * k ∨ i = 8 + 3 * k + 1 ∨ i = 8 + 3 * k + 2 := by omega
      have hN := (h.rng 0 ⟨by omega, fun _ => by omega, by omega⟩)
      rcases hI with rfl | rfl | rfl
      · rw [u1]; omega
      · rw [u2]; omega
      · rw [u3]; omega
theorem RnI.done {N n m : Nat} {b : Nat → Nat} {OV : Value} {W : World} (h : RnI N n m n b OV W) (hn : 1 ≤ n) : ∃ b' c', b' 0 = N + 3 ∧ RdAt W N W.heap.size b' c' (Ds.new n m) := by
  obtain ⟨n', rfl⟩ : ∃ n', n = n' + 1 := ⟨n - 1, by omega⟩
  obtain ⟨g, cap, hO⟩ := ownsRow_succ h.row
  have hlt := h.row.lt g (by rw [hO]; rfl)
  have hap : ∀ i, VR m (n' + 1) i → b i ≠ g := fun i hv e => by
    obtain ⟨t, cs, q1, q2⟩ := h.ty hv
    refine own_ap h.row q2 q1 ?_
    rw [hO, e]
    rfl
  obtain ⟨b', hb'⟩ : ∃ b' : Nat → Nat, b' = fun i => if i = 3 then g else b i := ⟨_, rfl⟩
  have e3 : b' 3 = g := by rw [hb']; rfl
  have eo : ∀ i, i ≠ 3 → b' i = b i := fun i q => by rw [hb']; exact if_neg q
  have vr : ∀ i, Real (n' + 1) m i → i ≠ 3 → VR m (n' + 1) i := fun i q1 q2 => ⟨q1.1, q1.2, q2⟩
  have hl := Ds.new_len (n' + 1) m
  have hsl := Ds.new_sh (n' + 1) m
  refine ⟨b', fun i => if i = 2 then cap else if i = 3 then n' + 1 else m, by rw [eo _ (by omega)]; exact h.z0, ?_⟩
  refine ⟨?_, ?_, ?_, ?_, ?_, ?_, fun k hk => ?_, ?_, ?_, Nat.le_refl _⟩
  · rw [hl, hsl, eo 0 (by omega), eo 1 (by omega), eo 2 (by omega), e3, eo 4 (by omega), eo 5 (by omega)]
    have := h.box
    rw [hO] at this
    exact this
  · rw [eo 1 (by omega)]
    have := h.core
    simpa [Ds.new, fresh, Rt.zero] using this
  · rw [eo 2 (by omega)]
    have := h.any
    simpa [Ds.new, fresh, Rt.zero] using this
  · rw [e3, hl]
    have q := h.row
    rw [hO] at q
    have q2 := Row.own q
    have e : (List.range (n' + 1)).map (fun k => Value.pointer (some ⟨b' (8 + 3 * k), 0, none⟩)) = (List.range (n' + 1)).map (fun k => .pointer (some ⟨b (8 + 3 * k), 0, none⟩)) := List.map_congr_left fun i _ => by rw [eo _ (by omega)]
    rw [e]
    exact q2
  · rw [eo 4 (by omega)]
    have := h.slp
    simpa [Ds.new] using this
  · rw [eo 5 (by omega), eo 6 (by omega), eo 7 (by omega)]
    exact h.shr
  · rw [hl] at hk
    rw [Ds.new_nth hk, eo _ (by omega), eo _ (by omega), eo _ (by omega)]
    have q := h.own k hk
    generalize edgesV 16 = E at q ⊢
    exact q
  · rw [hl, hsl]
    intro i j q1 q2 hne
    by_cases ei : i = 3
    · subst ei
      rw [e3, eo j (by omega)]
      exact Ne.symm (hap j (vr j q2 (by omega)))
    · by_cases ej : j = 3
      · subst ej
        rw [e3, eo i ei]
        exact hap i (vr i q1 ei)
      · rw [eo i ei, eo j ej]
        exact h.inj i j (vr i q1 ei) (vr j q2 ej) hne
  · rw [hl, hsl]
    intro i q
    by_cases ei : i = 3
    · subst ei; rw [e3]; omega
    · rw [eo i ei]; exact h.rng i (vr i q ei)
theorem info_iz : (Tryz.prog.info? 3).map (fun i => (i.zero, i.size, i.bytes)) = some (some (.int .i64 0), 1, 8) := by kernel_rfl
theorem info_bz : (Tryz.prog.info? 4).map (fun i => (i.zero, i.size, i.bytes)) = some (some (.bool false), 1, 1) := by kernel_rfl
theorem info_pb : (Tryz.prog.info? 101).map (fun i => (i.zero, i.size, i.bytes)) = some (some (.pointer none), 1, 8) := by kernel_rfl
set_option maxHeartbeats 2000000 in
theorem rnew_dist_no (n m : Int) (w : World) (h : ¬ NewOkD n m) :
    Calls Tryz.prog 19 #[.int .i64 n, .int .i64 m] w fun e W => e = .returned (.tuple #[.pointer none, .bool false]) ∧ w = W := by
  unfold NewOkD at h
  by_cases h1 : n < 1
  · clear h
    go_enter Tryz.func19, Tryz.ntmps19
    go_wp2
    go_ret2
    exact ⟨rfl, rfl⟩
  · by_cases h2 : 8 < n
    · have hd1 : decide (n < 1) = false := by simp; omega
      clear h
      go_enter Tryz.func19, Tryz.ntmps19
      go_wp2
      go_ret2
      exact ⟨rfl, rfl⟩
    · have hd1 : decide (n < 1) = false := by simp; omega
      have hd2 : decide (8 < n) = false := by simp; omega
      by_cases h3 : m < 0
      · clear h
        go_enter Tryz.func19, Tryz.ntmps19
        go_wp2
        go_ret2
        exact ⟨rfl, rfl⟩
      · have hd3 : decide (m < 0) = false := by simp; omega
        have h4 : 64 < m := by omega
        clear h
        go_enter Tryz.func19, Tryz.ntmps19
        go_wp2
        go_ret2
        exact ⟨rfl, rfl⟩
structure Thr (w : World) (n m g1 g2 g4 : Nat) (W : World) : Prop where
  r1 : Row W g1 3 (List.replicate m (.int .i64 0))
  r2 : Row W g2 4 (List.replicate m (.bool false))
  r4 : Row W g4 4 (List.replicate n (.bool false))
  box : CB W (w.heap.size + 3) 105 #[.bool false, .bool false, .pointer none, .slice (some ⟨g1, 0, none⟩) m m, .slice (some ⟨g2, 0, none⟩) m m, .slice none 0 0, .slice (some ⟨g4, 0, none⟩) n n]
  ne : g1 ≠ g2 ∧ g1 ≠ g4 ∧ g2 ≠ g4
  lo : w.heap.size ≤ g1 ∧ w.heap.size ≤ g2 ∧ w.heap.size ≤ g4 ∧ g1 < w.heap.size + 3 ∧ g2 < w.heap.size + 3 ∧ g4 < w.heap.size + 3
  size : W.heap.size = w.heap.size + 4
  below : Below w.heap.size w W
theorem four_at (w : World) (o1 o2 o3 : Obj) (cs : Array Value) (t : TypeId) : ∃ W, ((((w.alloc o1).alloc o2).alloc o3).alloc (.cells cs t)).drew = W ∧ W.heap[w.heap.size]? = some o1 ∧ W.heap[w.heap.size + 1]? = some o2 ∧ W.heap[w.heap.size + 2]? = some o3 ∧ CB W (w.heap.size + 3) t cs ∧ W.heap.size = w.heap.size + 4 ∧ Below w.heap.size w W := by
  refine ⟨_, rfl, ?_, ?_, ?_, ?_, ?_, ?_⟩
  · have h1 := World.alloc_heap_new w o1
    show (((((w.alloc o1).alloc o2).alloc o3).alloc (.cells cs t))).heap[_]? = _
    rw [(bal _ _).block _ (by simp <;> omega), (bal _ _).block _ (by simp <;> omega), (bal _ _).block _ (by simp)]
    exact h1
  · have h1 := World.alloc_heap_new (w.alloc o1) o2
    show (((((w.alloc o1).alloc o2).alloc o3).alloc (.cells cs t))).heap[_]? = _
    rw [(bal _ _).block _ (by simp <;> omega), (bal _ _).block _ (by simp)]
    rw [World.size_alloc] at h1
    exact h1
  · have h1 := World.alloc_heap_new ((w.alloc o1).alloc o2) o3
    show (((((w.alloc o1).alloc o2).alloc o3).alloc (.cells cs t))).heap[_]? = _
    rw [(bal _ _).block _ (by simp)]
    rw [World.size_alloc, World.size_alloc] at h1
    exact h1
  · have h1 := CB.new (((w.alloc o1).alloc o2).alloc o3) t cs
    rw [World.size_alloc, World.size_alloc, World.size_alloc] at h1
    exact h1
  · show (((((w.alloc o1).alloc o2).alloc o3).alloc (.cells cs t))).heap.size = _
    rw [World.size_alloc, World.size_alloc, World.size_alloc, World.size_alloc]
  · exact Below.drewN (m := 1) (((((Below.refl w.heap.size w).alloc (by simp) o1).alloc (by simp) o2).alloc (by simp; omega) o3).alloc (by simp; omega) _)
theorem row_made {W : World} {g : Nat} {t : TypeId} {z : Value} {n : Nat} (h : W.heap[g]? = some (.cells (madeCells #[z] n) t (0, 0))) : Row W g t (List.replicate n z) := ⟨_, h, by rw [toList_madeCells_one]; exact List.prefix_refl _⟩
theorem thr124 (w : World) (n m : Nat) : Thr w n m w.heap.size (w.heap.size + 1) (w.heap.size + 2) ((((w.alloc (.cells (madeCells #[.int .i64 0] m) 3)).alloc (.cells (madeCells #[.bool false] m) 4)).alloc (.cells (madeCells #[.bool false] n) 4)).alloc (.cells #[.bool false, .bool false, .pointer none, .slice (some ⟨w.heap.size, 0, none⟩) m m, .slice (some ⟨(w.heap.size + 1), 0, none⟩) m m, .slice none 0 0, .slice (some ⟨(w.heap.size + 2), 0, none⟩) n n] 105)).drew := by
  obtain ⟨W, hW, p1, p2, p3, p4, p5, p6⟩ := four_at w (.cells (madeCells #[.int .i64 0] m) 3) (.cells (madeCells #[.bool false] m) 4) (.cells (madeCells #[.bool false] n) 4) #[.bool false, .bool false, .pointer none, .slice (some ⟨w.heap.size, 0, none⟩) m m, .slice (some ⟨(w.heap.size + 1), 0, none⟩) m m, .slice none 0 0, .slice (some ⟨(w.heap.size + 2), 0, none⟩) n n] 105
  rw [hW]
  exact ⟨row_made p1, row_made p2, row_made p3, p4, by omega, by omega, p5, p6⟩
theorem thr142 (w : World) (n m : Nat) : Thr w n m w.heap.size (w.heap.size + 2) (w.heap.size + 1) ((((w.alloc (.cells (madeCells #[.int .i64 0] m) 3)).alloc (.cells (madeCells #[.bool false] n) 4)).alloc (.cells (madeCells #[.bool false] m) 4)).alloc (.cells #[.bool false, .bool false, .pointer none, .slice (some ⟨w.heap.size, 0, none⟩) m m, .slice (some ⟨(w.heap.size + 2), 0, none⟩) m m, .slice none 0 0, .slice (some ⟨(w.heap.size + 1), 0, none⟩) n n] 105)).drew := by
  obtain ⟨W, hW, p1, p2, p3, p4, p5, p6⟩ := four_at w (.cells (madeCells #[.int .i64 0] m) 3) (.cells (madeCells #[.bool false] n) 4) (.cells (madeCells #[.bool false] m) 4) #[.bool false, .bool false, .pointer none, .slice (some ⟨w.heap.size, 0, none⟩) m m, .slice (some ⟨(w.heap.size + 2), 0, none⟩) m m, .slice none 0 0, .slice (some ⟨(w.heap.size + 1), 0, none⟩) n n] 105
  rw [hW]
  exact ⟨row_made p1, row_made p3, row_made p2, p4, by omega, by omega, p5, p6⟩
theorem thr214 (w : World) (n m : Nat) : Thr w n m (w.heap.size + 1) w.heap.size (w.heap.size + 2) ((((w.alloc (.cells (madeCells #[.bool false] m) 4)).alloc (.cells (madeCells #[.int .i64 0] m) 3)).alloc (.cells (madeCells #[.bool false] n) 4)).alloc (.cells #[.bool false, .bool false, .pointer none, .slice (some ⟨(w.heap.size + 1), 0, none⟩) m m, .slice (some ⟨w.heap.size, 0, none⟩) m m, .slice none 0 0, .slice (some ⟨(w.heap.size + 2), 0, none⟩) n n] 105)).drew := by
  obtain ⟨W, hW, p1, p2, p3, p4, p5, p6⟩ := four_at w (.cells (madeCells #[.bool false] m) 4) (.cells (madeCells #[.int .i64 0] m) 3) (.cells (madeCells #[.bool false] n) 4) #[.bool false, .bool false, .pointer none, .slice (some ⟨(w.heap.size + 1), 0, none⟩) m m, .slice (some ⟨w.heap.size, 0, none⟩) m m, .slice none 0 0, .slice (some ⟨(w.heap.size + 2), 0, none⟩) n n] 105
  rw [hW]
  exact ⟨row_made p2, row_made p1, row_made p3, p4, by omega, by omega, p5, p6⟩
theorem thr241 (w : World) (n m : Nat) : Thr w n m (w.heap.size + 2) w.heap.size (w.heap.size + 1) ((((w.alloc (.cells (madeCells #[.bool false] m) 4)).alloc (.cells (madeCells #[.bool false] n) 4)).alloc (.cells (madeCells #[.int .i64 0] m) 3)).alloc (.cells #[.bool false, .bool false, .pointer none, .slice (some ⟨(w.heap.size + 2), 0, none⟩) m m, .slice (some ⟨w.heap.size, 0, none⟩) m m, .slice none 0 0, .slice (some ⟨(w.heap.size + 1), 0, none⟩) n n] 105)).drew := by
  obtain ⟨W, hW, p1, p2, p3, p4, p5, p6⟩ := four_at w (.cells (madeCells #[.bool false] m) 4) (.cells (madeCells #[.bool false] n) 4) (.cells (madeCells #[.int .i64 0] m) 3) #[.bool false, .bool false, .pointer none, .slice (some ⟨(w.heap.size + 2), 0, none⟩) m m, .slice (some ⟨w.heap.size, 0, none⟩) m m, .slice none 0 0, .slice (some ⟨(w.heap.size + 1), 0, none⟩) n n] 105
  rw [hW]
  exact ⟨row_made p3, row_made p1, row_made p2, p4, by omega, by omega, p5, p6⟩
theorem thr412 (w : World) (n m : Nat) : Thr w n m (w.heap.size + 1) (w.heap.size + 2) w.heap.size ((((w.alloc (.cells (madeCells #[.bool false] n) 4)).alloc (.cells (madeCells #[.int .i64 0] m) 3)).alloc (.cells (madeCells #[.bool false] m) 4)).alloc (.cells #[.bool false, .bool false, .pointer none, .slice (some ⟨(w.heap.size + 1), 0, none⟩) m m, .slice (some ⟨(w.heap.size + 2), 0, none⟩) m m, .slice none 0 0, .slice (some ⟨w.heap.size, 0, none⟩) n n] 105)).drew := by
  obtain ⟨W, hW, p1, p2, p3, p4, p5, p6⟩ := four_at w (.cells (madeCells #[.bool false] n) 4) (.cells (madeCells #[.int .i64 0] m) 3) (.cells (madeCells #[.bool false] m) 4) #[.bool false, .bool false, .pointer none, .slice (some ⟨(w.heap.size + 1), 0, none⟩) m m, .slice (some ⟨(w.heap.size + 2), 0, none⟩) m m, .slice none 0 0, .slice (some ⟨w.heap.size, 0, none⟩) n n] 105
  rw [hW]
  exact ⟨row_made p2, row_made p3, row_made p1, p4, by omega, by omega, p5, p6⟩
theorem thr421 (w : World) (n m : Nat) : Thr w n m (w.heap.size + 2) (w.heap.size + 1) w.heap.size ((((w.alloc (.cells (madeCells #[.bool false] n) 4)).alloc (.cells (madeCells #[.bool false] m) 4)).alloc (.cells (madeCells #[.int .i64 0] m) 3)).alloc (.cells #[.bool false, .bool false, .pointer none, .slice (some ⟨(w.heap.size + 2), 0, none⟩) m m, .slice (some ⟨(w.heap.size + 1), 0, none⟩) m m, .slice none 0 0, .slice (some ⟨w.heap.size, 0, none⟩) n n] 105)).drew := by
  obtain ⟨W, hW, p1, p2, p3, p4, p5, p6⟩ := four_at w (.cells (madeCells #[.bool false] n) 4) (.cells (madeCells #[.bool false] m) 4) (.cells (madeCells #[.int .i64 0] m) 3) #[.bool false, .bool false, .pointer none, .slice (some ⟨(w.heap.size + 2), 0, none⟩) m m, .slice (some ⟨(w.heap.size + 1), 0, none⟩) m m, .slice none 0 0, .slice (some ⟨w.heap.size, 0, none⟩) n n] 105
  rw [hW]
  exact ⟨row_made p3, row_made p2, row_made p1, p4, by omega, by omega, p5, p6⟩
theorem Thr.start {w : World} {n m g1 g2 g4 : Nat} {W W1 : World} (h : Thr w n m g1 g2 g4 W) {x l g : Nat} (hx : RfB W1 x l g 32 (fresh m Rt.zero)) (hb : Below W.heap.size W W1) (l1 : W.heap.size ≤ x) (l2 : W.heap.size ≤ l) (l3 : W.heap.size ≤ g) :
    CB W1 (w.heap.size + 3) 105 #[.bool false, .bool false, .pointer none, .slice (some ⟨g1, 0, none⟩) m m, .slice (some ⟨g2, 0, none⟩) m m, .slice none 0 0, .slice (some ⟨g4, 0, none⟩) n n] ∧
    ∃ b, RnI w.heap.size n m 0 b (.slice none 0 0) (W1.setCell ⟨w.heap.size + 3, 2, none⟩ (.pointer (some ⟨x, 0, none⟩))) := by
  have hb1 := h.box.below hb
  have hs := h.size
  have hsb := hb.size
  obtain ⟨a1, a2, a3, a4, a5, a6⟩ := h.lo
  obtain ⟨q1, q2, q3⟩ := h.ne
  refine ⟨hb1, fun i => if i = 0 then w.heap.size + 3 else if i = 1 then g1 else if i = 2 then g2 else if i = 4 then g4 else if i = 5 then x else if i = 6 then l else g, ?_⟩
  have S : ∀ i, i ≠ w.heap.size + 3 → (W1.setCell ⟨w.heap.size + 3, 2, none⟩ (.pointer (some ⟨x, 0, none⟩))).heap[i]? = W1.heap[i]? := fun i hne => Below.heap_setCell W1 ⟨w.heap.size + 3, 2, none⟩ _ _ hne
  have ht := rfb_ty hx
  rw [fresh_len] at ht
  obtain ⟨⟨A, c1⟩, ht2⟩ := ht
  have k1 := c1.lt
  refine ⟨rfl, ?_, (h.r1.below hb).heap (S _ (by show g1 ≠ _; omega)), (h.r2.below hb).heap (S _ (by show g2 ≠ _; omega)), (h.r4.below hb).heap (S _ (by show g4 ≠ _; omega)), ?_, fun i hi => by omega, World.ownsRow_nil _ _ _ _, ?_, ?_⟩
  · exact hb1.set 2 (.pointer (some ⟨x, 0, none⟩))
  · refine hx.heap (S _ (by show x ≠ _; omega)) (fun _ => ⟨S _ (by show l ≠ _; omega), S _ (by show g ≠ _; omega)⟩)
  · rintro i j ⟨i1, i2, i3⟩ ⟨j1, j2, j3⟩ hne
    have hI : i = 0 ∨ i = 1 ∨ i = 2 ∨ i = 4 ∨ i = 5 ∨ i = 6 ∨ i = 7 := by omega
    have hJ : j = 0 ∨ j = 1 ∨ j = 2 ∨ j = 4 ∨ j = 5 ∨ j = 6 ∨ j = 7 := by omega
    by_cases hm : m = 0
    · have := i2 hm
      have := j2 hm
      rcases hI with rfl | rfl | rfl | rfl | rfl | rfl | rfl <;> rcases hJ with rfl | rfl | rfl | rfl | rfl | rfl | rfl <;> simp <;> omega
    · obtain ⟨_, _, d1, d2, d3⟩ := ht2 hm
      rcases hI with rfl | rfl | rfl | rfl | rfl | rfl | rfl <;> rcases hJ with rfl | rfl | rfl | rfl | rfl | rfl | rfl <;> simp <;> omega
  · rintro i ⟨i1, i2, i3⟩
    rw [World.size_setCell]
    have hI : i = 0 ∨ i = 1 ∨ i = 2 ∨ i = 4 ∨ i = 5 ∨ i = 6 ∨ i = 7 := by omega
    by_cases hm : m = 0
    · have := i2 hm
      rcases hI with rfl | rfl | rfl | rfl | rfl | rfl | rfl <;> simp <;> omega
    · obtain ⟨⟨B, c2⟩, ⟨C, c3⟩, _⟩ := ht2 hm
      have k2 := c2.lt
      have k3 := c3.lt
      rcases hI with rfl | rfl | rfl | rfl | rfl | rfl | rfl <;> simp <;> omega
theorem bel_grown {w W W9 : World} {base n sz : Nat} {te : TypeId} {v : Value} {xs : List Value} {tmp : Obj} (h : Below w.heap.size w W) (ho : W.ownsRow base te sz v n xs) (hg : (W.alloc tmp).grownBy W9 v.ownBlock) (hz : w.heap.size + 4 ≤ W.heap.size) (hbase : w.heap.size ≤ base) : Below w.heap.size w W9 :=
  (h.alloc h.size tmp).grown hg (by simp; omega) (fun j e => by have := (ho.lt j e).1; omega)
def RMadeD (w : World) (n m : Nat) (e : Ending) (W : World) : Prop := ∃ b c, e = .returned (.tuple #[.pointer (some ⟨b 0, 0, none⟩), .bool true]) ∧ RdAt W w.heap.size W.heap.size b c (Ds.new n m) ∧ Below w.heap.size w W
set_option maxRecDepth 100000 in
set_option maxHeartbeats 8000000 in
theorem rnew_dist (n m : Nat) (w : World) (h1 : 1 ≤ n) (h8 : n ≤ 8) (hm : m ≤ 64) :
    Calls Tryz.prog 19 #[.int .i64 n, .int .i64 m] w (RMadeD w n m) := by
  obtain ⟨i0, hi2, hz0, hz1, hz2⟩ := info_parts info_pb
  have hmi := fun W : World => run_make_row' (P := Tryz.prog) (w := W) 47 3 (.int .i64 0) 8 Tryz.underlying47 info_iz rfl .i64 .i64 m (by omega) (by omega)
  have hmb := fun W : World => run_make_row' (P := Tryz.prog) (w := W) 102 4 (.bool false) 1 Tryz.underlying102 info_bz rfl .i64 .i64 m (by omega) (by omega)
  have hms := fun W : World => run_make_row' (P := Tryz.prog) (w := W) 102 4 (.bool false) 1 Tryz.underlying102 info_bz rfl .i64 .i64 n (by omega) (by omega)
  have hd1 : decide ((n : Int) < 1) = false := by simp; omega
  have hd2 : decide (8 < (n : Int)) = false := by simp; omega
  have hd3 : decide ((m : Int) < 0) = false := by simp
  have hd4 : decide (64 < (m : Int)) = false := by simp; omega
  have HN := hi (fun W => rnew_yes 32 m Rt.zero W ⟨by decide, by omega, by omega⟩)
  have HO := hi (fun W => show Calls Tryz.prog 64 #[.int .i64 0, .int .i64 32, .string ⟨#[]⟩] W (RMade W 0 32 Rt.zero) from rnew_yes 0 32 Rt.zero W ⟨by decide, by decide, by decide⟩)
  go_enter Tryz.func19, Tryz.ntmps19
  go_wp2
  refine wp_mono (Q := fun e a W => ∃ g1 g2 g4 d, w.heap.size + 3 = d ∧ e = .normal ∧ a = { tmps := #[.int .i64 n, .int .i64 m, undef, undef, .pointer none, .bool false, .pointer (some ⟨d, 0, none⟩), undef, undef, undef, undef, undef, undef, .int .i64 n, .bool false, .bool false, .int .i64 n, .bool false, .bool false, .bool false, .int .i64 m, .bool false, .bool false, .bool false, .int .i64 m, .bool false, .bool false, .int .i64 m, .slice (some ⟨g1, 0, none⟩) m m, .int .i64 m, .slice (some ⟨g2, 0, none⟩) m m, .int .i64 n, .slice (some ⟨g4, 0, none⟩) n n, .agg #[.bool false, .bool false, .pointer none, .slice (some ⟨g1, 0, none⟩) m m, .slice (some ⟨g2, 0, none⟩) m m, .slice none 0 0, .slice (some ⟨g4, 0, none⟩) n n], .pointer (some ⟨d, 0, none⟩), undef, undef, undef, undef, undef, undef, undef, undef, undef, undef, undef, undef, undef, undef, undef, undef, undef, undef, undef, undef, undef, undef, undef, undef, undef, undef, undef, undef, undef, undef, undef, undef, undef, undef, undef, undef], defers := [] } ∧ Thr w n m g1 g2 g4 W) ?reg ?rest
  case reg =>
    refine wp_region_noPanic ?_
    refine wp_region_last_drew (S := (fun W' => True)) [] (by kernel_rfl) trivial (fun hHeld => ?_)
    (try simp only)
    refine wpAnyF_take (i := 0) (v := ?_) (by kernel_rfl) (by kernel_rfl) rfl (by kernel_rfl) (by kernel_rfl) (by kernel_rfl) (fun _ _ _ h => h) (Or.inl ⟨by rfl, ?_⟩) (by assumption) ?_
    rotate_left
    · intro w' hSw; (try dsimp only at hSw); go_simp; (try with_reducible rfl)
    (try simp only [Act.put, List.getElem_toArray, List.getElem_cons_zero, List.setIfInBounds_toArray, List.set_cons_zero, List.set_cons_succ])
    refine wpAnyF_take (i := 2) (v := ?_) (by kernel_rfl) (by kernel_rfl) rfl (by kernel_rfl) (by kernel_rfl) (by kernel_rfl) (fun _ _ _ h => h) (Or.inl ⟨by rfl, ?_⟩) (by assumption) ?_
    rotate_left
    · intro w' hSw; (try dsimp only at hSw); go_simp; (try with_reducible rfl)
    (try simp only [Act.put, List.getElem_toArray, List.getElem_cons_zero, List.getElem_cons_succ, List.setIfInBounds_toArray, List.set_cons_zero, List.set_cons_succ])
    refine wpAnyF_take (i := 4) (v := ?_) (by kernel_rfl) (by kernel_rfl) rfl (by kernel_rfl) (by kernel_rfl) (by kernel_rfl) (fun _ _ _ h => h) (Or.inl ⟨by rfl, ?_⟩) (by assumption) ?_
    rotate_left
    · intro w' hSw; (try dsimp only at hSw); go_simp; (try with_reducible rfl)
    (try simp only [Act.put, List.getElem_toArray, List.getElem_cons_zero, List.getElem_cons_succ, List.setIfInBounds_toArray, List.set_cons_zero, List.set_cons_succ])
    refine wpAnyF_ready (rs := [1, 3, 5]) (by kernel_rfl) (by simp) ?_
    refine (AllReadyF.cons rfl (fun KK hKK => ?_) (AllReadyF.cons rfl (fun KK hKK => ?_) (AllReadyF.cons rfl (fun KK hKK => ?_) AllReadyF.nil)))
    · go_simp
      refine hKK.out _ _ trivial (fun hHeld => ?_)
      clear hKK KK
      (try simp only [Act.put, List.getElem_toArray, List.getElem_cons_zero, List.getElem_cons_succ, List.setIfInBounds_toArray, List.set_cons_zero, List.set_cons_succ])
      refine wpAnyF_ready (rs := [3, 5]) (by kernel_rfl) (by simp) ?_
      refine (AllReadyF.cons rfl (fun KK hKK => ?_) (AllReadyF.cons rfl (fun KK hKK => ?_) AllReadyF.nil))
      · go_simp
        refine hKK.out _ _ trivial (fun hHeld => ?_)
        clear hKK KK
        (try simp only [Act.put, List.getElem_toArray, List.getElem_cons_zero, List.getElem_cons_succ, List.setIfInBounds_toArray, List.set_cons_zero, List.set_cons_succ])
        refine wpAnyF_ready (rs := [5]) (by kernel_rfl) (by simp) ?_
        refine AllReadyF.cons rfl (fun KK hKK => ?_) AllReadyF.nil
        go_simp
        refine hKK.out _ _ trivial (fun hHeld => ?_)
        clear hKK KK
        (try simp only [Act.put, List.getElem_toArray, List.getElem_cons_zero, List.getElem_cons_succ, List.setIfInBounds_toArray, List.set_cons_zero, List.set_cons_succ])
        refine wpAnyF_take (i := 6) (v := ?_) (by kernel_rfl) (by kernel_rfl) rfl (by kernel_rfl) (by kernel_rfl) (by kernel_rfl) (fun _ _ _ h => h) (Or.inl ⟨by rfl, ?_⟩) (by assumption) ?_
        rotate_left
        · intro w' hSw; (try dsimp only at hSw); go_simp; (try with_reducible rfl)
        (try simp only [Act.put, List.getElem_toArray, List.getElem_cons_zero, List.getElem_cons_succ, List.setIfInBounds_toArray, List.set_cons_zero, List.set_cons_succ])
        refine wpAnyF_ready (rs := [7]) (by kernel_rfl) (by simp) ?_
        refine AllReadyF.cons rfl (fun KK hKK => ?_) AllReadyF.nil
        go_simp
        refine hKK.out _ _ trivial (fun hHeld => ?_)
        clear hKK KK
        (try simp only [Act.put, List.getElem_toArray, List.getElem_cons_zero, List.getElem_cons_succ, List.setIfInBounds_toArray, List.set_cons_zero, List.set_cons_succ])
        refine wpAnyF_take (i := 8) (v := ?_) (by kernel_rfl) (by kernel_rfl) rfl (by kernel_rfl) (by kernel_rfl) (by kernel_rfl) (fun _ _ _ h => h) (Or.inl ⟨by rfl, ?_⟩) (by assumption) ?_
        rotate_left
        · intro w' hSw; (try dsimp only at hSw); go_simp; (try with_reducible rfl)
        (try simp only [Act.put, List.getElem_toArray, List.getElem_cons_zero, List.getElem_cons_succ, List.setIfInBounds_toArray, List.set_cons_zero, List.set_cons_succ])
        refine wpAnyF_done (by kernel_rfl) ?_ _
        refine NoPanic.normal ?_
        first | exact ⟨_, _, _, _, rfl, rfl, rfl, thr124 w n m⟩ | exact ⟨_, _, _, _, rfl, rfl, rfl, thr142 w n m⟩ | exact ⟨_, _, _, _, rfl, rfl, rfl, thr214 w n m⟩ | exact ⟨_, _, _, _, rfl, rfl, rfl, thr241 w n m⟩ | exact ⟨_, _, _, _, rfl, rfl, rfl, thr412 w n m⟩ | exact ⟨_, _, _, _, rfl, rfl, rfl, thr421 w n m⟩
      · go_simp
        refine hKK.out _ _ trivial (fun hHeld => ?_)
        clear hKK KK
        (try simp only [Act.put, List.getElem_toArray, List.getElem_cons_zero, List.getElem_cons_succ, List.setIfInBounds_toArray, List.set_cons_zero, List.set_cons_succ])
        refine wpAnyF_ready (rs := [3]) (by kernel_rfl) (by simp) ?_
        refine AllReadyF.cons rfl (fun KK hKK => ?_) AllReadyF.nil
        go_simp
        refine hKK.out _ _ trivial (fun hHeld => ?_)
        clear hKK KK
        (try simp only [Act.put, List.getElem_toArray, List.getElem_cons_zero, List.getElem_cons_succ, List.setIfInBounds_toArray, List.set_cons_zero, List.set_cons_succ])
        refine wpAnyF_take (i := 6) (v := ?_) (by kernel_rfl) (by kernel_rfl) rfl (by kernel_rfl) (by kernel_rfl) (by kernel_rfl) (fun _ _ _ h => h) (Or.inl ⟨by rfl, ?_⟩) (by assumption) ?_
        rotate_left
        · intro w' hSw; (try dsimp only at hSw); go_simp; (try with_reducible rfl)
        (try simp only [Act.put, List.getElem_toArray, List.getElem_cons_zero, List.getElem_cons_succ, List.setIfInBounds_toArray, List.set_cons_zero, List.set_cons_succ])
        refine wpAnyF_ready (rs := [7]) (by kernel_rfl) (by simp) ?_
        refine AllReadyF.cons rfl (fun KK hKK => ?_) AllReadyF.nil
        go_simp
        refine hKK.out _ _ trivial (fun hHeld => ?_)
        clear hKK KK
        (try simp only [Act.put, List.getElem_toArray, List.getElem_cons_zero, List.getElem_cons_succ, List.setIfInBounds_toArray, List.set_cons_zero, List.set_cons_succ])
        refine wpAnyF_take (i := 8) (v := ?_) (by kernel_rfl) (by kernel_rfl) rfl (by kernel_rfl) (by kernel_rfl) (by kernel_rfl) (fun _ _ _ h => h) (Or.inl ⟨by rfl, ?_⟩) (by assumption) ?_
        rotate_left
        · intro w' hSw; (try dsimp only at hSw); go_simp; (try with_reducible rfl)
        (try simp only [Act.put, List.getElem_toArray, List.getElem_cons_zero, List.getElem_cons_succ, List.setIfInBounds_toArray, List.set_cons_zero, List.set_cons_succ])
        refine wpAnyF_done (by kernel_rfl) ?_ _
        refine NoPanic.normal ?_
        first | exact ⟨_, _, _, _, rfl, rfl, rfl, thr124 w n m⟩ | exact ⟨_, _, _, _, rfl, rfl, rfl, thr142 w n m⟩ | exact ⟨_, _, _, _, rfl, rfl, rfl, thr214 w n m⟩ | exact ⟨_, _, _, _, rfl, rfl, rfl, thr241 w n m⟩ | exact ⟨_, _, _, _, rfl, rfl, rfl, thr412 w n m⟩ | exact ⟨_, _, _, _, rfl, rfl, rfl, thr421 w n m⟩
    · go_simp
      refine hKK.out _ _ trivial (fun hHeld => ?_)
      clear hKK KK
      (try simp only [Act.put, List.getElem_toArray, List.getElem_cons_zero, List.getElem_cons_succ, List.setIfInBounds_toArray, List.set_cons_zero, List.set_cons_succ])
      refine wpAnyF_ready (rs := [1, 5]) (by kernel_rfl) (by simp) ?_
      refine (AllReadyF.cons rfl (fun KK hKK => ?_) (AllReadyF.cons rfl (fun KK hKK => ?_) AllReadyF.nil))
      · go_simp
        refine hKK.out _ _ trivial (fun hHeld => ?_)
        clear hKK KK
        (try simp only [Act.put, List.getElem_toArray, List.getElem_cons_zero, List.getElem_cons_succ, List.setIfInBounds_toArray, List.set_cons_zero, List.set_cons_succ])
        refine wpAnyF_ready (rs := [5]) (by kernel_rfl) (by simp) ?_
        refine AllReadyF.cons rfl (fun KK hKK => ?_) AllReadyF.nil
        go_simp
        refine hKK.out _ _ trivial (fun hHeld => ?_)
        clear hKK KK
        (try simp only [Act.put, List.getElem_toArray, List.getElem_cons_zero, List.getElem_cons_succ, List.setIfInBounds_toArray, List.set_cons_zero, List.set_cons_succ])
        refine wpAnyF_take (i := 6) (v := ?_) (by kernel_rfl) (by kernel_rfl) rfl (by kernel_rfl) (by kernel_rfl) (by kernel_rfl) (fun _ _ _ h => h) (Or.inl ⟨by rfl, ?_⟩) (by assumption) ?_
        rotate_left
        · intro w' hSw; (try dsimp only at hSw); go_simp; (try with_reducible rfl)
        (try simp only [Act.put, List.getElem_toArray, List.getElem_cons_zero, List.getElem_cons_succ, List.setIfInBounds_toArray, List.set_cons_zero, List.set_cons_succ])
        refine wpAnyF_ready (rs := [7]) (by kernel_rfl) (by simp) ?_
        refine AllReadyF.cons rfl (fun KK hKK => ?_) AllReadyF.nil
        go_simp
        refine hKK.out _ _ trivial (fun hHeld => ?_)
        clear hKK KK
        (try simp only [Act.put, List.getElem_toArray, List.getElem_cons_zero, List.getElem_cons_succ, List.setIfInBounds_toArray, List.set_cons_zero, List.set_cons_succ])
        refine wpAnyF_take (i := 8) (v := ?_) (by kernel_rfl) (by kernel_rfl) rfl (by kernel_rfl) (by kernel_rfl) (by kernel_rfl) (fun _ _ _ h => h) (Or.inl ⟨by rfl, ?_⟩) (by assumption) ?_
        rotate_left
        · intro w' hSw; (try dsimp only at hSw); go_simp; (try with_reducible rfl)
        (try simp only [Act.put, List.getElem_toArray, List.getElem_cons_zero, List.getElem_cons_succ, List.setIfInBounds_toArray, List.set_cons_zero, List.set_cons_succ])
        refine wpAnyF_done (by kernel_rfl) ?_ _
        refine NoPanic.normal ?_
        first | exact ⟨_, _, _, _, rfl, rfl, rfl, thr124 w n m⟩ | exact ⟨_, _, _, _, rfl, rfl, rfl, thr142 w n m⟩ | exact ⟨_, _, _, _, rfl, rfl, rfl, thr214 w n m⟩ | exact ⟨_, _, _, _, rfl, rfl, rfl, thr241 w n m⟩ | exact ⟨_, _, _, _, rfl, rfl, rfl, thr412 w n m⟩ | exact ⟨_, _, _, _, rfl, rfl, rfl, thr421 w n m⟩
      · go_simp
        refine hKK.out _ _ trivial (fun hHeld => ?_)
        clear hKK KK
        (try simp only [Act.put, List.getElem_toArray, List.getElem_cons_zero, List.getElem_cons_succ, List.setIfInBounds_toArray, List.set_cons_zero, List.set_cons_succ])
        refine wpAnyF_ready (rs := [1]) (by kernel_rfl) (by simp) ?_
        refine AllReadyF.cons rfl (fun KK hKK => ?_) AllReadyF.nil
        go_simp
        refine hKK.out _ _ trivial (fun hHeld => ?_)
        clear hKK KK
        (try simp only [Act.put, List.getElem_toArray, List.getElem_cons_zero, List.getElem_cons_succ, List.setIfInBounds_toArray, List.set_cons_zero, List.set_cons_succ])
        refine wpAnyF_take (i := 6) (v := ?_) (by kernel_rfl) (by kernel_rfl) rfl (by kernel_rfl) (by kernel_rfl) (by kernel_rfl) (fun _ _ _ h => h) (Or.inl ⟨by rfl, ?_⟩) (by assumption) ?_
        rotate_left
        · intro w' hSw; (try dsimp only at hSw); go_simp; (try with_reducible rfl)
        (try simp only [Act.put, List.getElem_toArray, List.getElem_cons_zero, List.getElem_cons_succ, List.setIfInBounds_toArray, List.set_cons_zero, List.set_cons_succ])
        refine wpAnyF_ready (rs := [7]) (by kernel_rfl) (by simp) ?_
        refine AllReadyF.cons rfl (fun KK hKK => ?_) AllReadyF.nil
        go_simp
        refine hKK.out _ _ trivial (fun hHeld => ?_)
        clear hKK KK
        (try simp only [Act.put, List.getElem_toArray, List.getElem_cons_zero, List.getElem_cons_succ, List.setIfInBounds_toArray, List.set_cons_zero, List.set_cons_succ])
        refine wpAnyF_take (i := 8) (v := ?_) (by kernel_rfl) (by kernel_rfl) rfl (by kernel_rfl) (by kernel_rfl) (by kernel_rfl) (fun _ _ _ h => h) (Or.inl ⟨by rfl, ?_⟩) (by assumption) ?_
        rotate_left
        · intro w' hSw; (try dsimp only at hSw); go_simp; (try with_reducible rfl)
        (try simp only [Act.put, List.getElem_toArray, List.getElem_cons_zero, List.getElem_cons_succ, List.setIfInBounds_toArray, List.set_cons_zero, List.set_cons_succ])
        refine wpAnyF_done (by kernel_rfl) ?_ _
        refine NoPanic.normal ?_
        first | exact ⟨_, _, _, _, rfl, rfl, rfl, thr124 w n m⟩ | exact ⟨_, _, _, _, rfl, rfl, rfl, thr142 w n m⟩ | exact ⟨_, _, _, _, rfl, rfl, rfl, thr214 w n m⟩ | exact ⟨_, _, _, _, rfl, rfl, rfl, thr241 w n m⟩ | exact ⟨_, _, _, _, rfl, rfl, rfl, thr412 w n m⟩ | exact ⟨_, _, _, _, rfl, rfl, rfl, thr421 w n m⟩
    · go_simp
      refine hKK.out _ _ trivial (fun hHeld => ?_)
      clear hKK KK
      (try simp only [Act.put, List.getElem_toArray, List.getElem_cons_zero, List.getElem_cons_succ, List.setIfInBounds_toArray, List.set_cons_zero, List.set_cons_succ])
      refine wpAnyF_ready (rs := [1, 3]) (by kernel_rfl) (by simp) ?_
      refine (AllReadyF.cons rfl (fun KK hKK => ?_) (AllReadyF.cons rfl (fun KK hKK => ?_) AllReadyF.nil))
      · go_simp
        refine hKK.out _ _ trivial (fun hHeld => ?_)
        clear hKK KK
        (try simp only [Act.put, List.getElem_toArray, List.getElem_cons_zero, List.getElem_cons_succ, List.setIfInBounds_toArray, List.set_cons_zero, List.set_cons_succ])
        refine wpAnyF_ready (rs := [3]) (by kernel_rfl) (by simp) ?_
        refine AllReadyF.cons rfl (fun KK hKK => ?_) AllReadyF.nil
        go_simp
        refine hKK.out _ _ trivial (fun hHeld => ?_)
        clear hKK KK
        (try simp only [Act.put, List.getElem_toArray, List.getElem_cons_zero, List.getElem_cons_succ, List.setIfInBounds_toArray, List.set_cons_zero, List.set_cons_succ])
        refine wpAnyF_take (i := 6) (v := ?_) (by kernel_rfl) (by kernel_rfl) rfl (by kernel_rfl) (by kernel_rfl) (by kernel_rfl) (fun _ _ _ h => h) (Or.inl ⟨by rfl, ?_⟩) (by assumption) ?_
        rotate_left
        · intro w' hSw; (try dsimp only at hSw); go_simp; (try with_reducible rfl)
        (try simp only [Act.put, List.getElem_toArray, List.getElem_cons_zero, List.getElem_cons_succ, List.setIfInBounds_toArray, List.set_cons_zero, List.set_cons_succ])
        refine wpAnyF_ready (rs := [7]) (by kernel_rfl) (by simp) ?_
        refine AllReadyF.cons rfl (fun KK hKK => ?_) AllReadyF.nil
        go_simp
        refine hKK.out _ _ trivial (fun hHeld => ?_)
        clear hKK KK
        (try simp only [Act.put, List.getElem_toArray, List.getElem_cons_zero, List.getElem_cons_succ, List.setIfInBounds_toArray, List.set_cons_zero, List.set_cons_succ])
        refine wpAnyF_take (i := 8) (v := ?_) (by kernel_rfl) (by kernel_rfl) rfl (by kernel_rfl) (by kernel_rfl) (by kernel_rfl) (fun _ _ _ h => h) (Or.inl ⟨by rfl, ?_⟩) (by assumption) ?_
        rotate_left
        · intro w' hSw; (try dsimp only at hSw); go_simp; (try with_reducible rfl)
        (try simp only [Act.put, List.getElem_toArray, List.getElem_cons_zero, List.getElem_cons_succ, List.setIfInBounds_toArray, List.set_cons_zero, List.set_cons_succ])
        refine wpAnyF_done (by kernel_rfl) ?_ _
        refine NoPanic.normal ?_
        first | exact ⟨_, _, _, _, rfl, rfl, rfl, thr124 w n m⟩ | exact ⟨_, _, _, _, rfl, rfl, rfl, thr142 w n m⟩ | exact ⟨_, _, _, _, rfl, rfl, rfl, thr214 w n m⟩ | exact ⟨_, _, _, _, rfl, rfl, rfl, thr241 w n m⟩ | exact ⟨_, _, _, _, rfl, rfl, rfl, thr412 w n m⟩ | exact ⟨_, _, _, _, rfl, rfl, rfl, thr421 w n m⟩
      · go_simp
        refine hKK.out _ _ trivial (fun hHeld => ?_)
        clear hKK KK
        (try simp only [Act.put, List.getElem_toArray, List.getElem_cons_zero, List.getElem_cons_succ, List.setIfInBounds_toArray, List.set_cons_zero, List.set_cons_succ])
        refine wpAnyF_ready (rs := [1]) (by kernel_rfl) (by simp) ?_
        refine AllReadyF.cons rfl (fun KK hKK => ?_) AllReadyF.nil
        go_simp
        refine hKK.out _ _ trivial (fun hHeld => ?_)
        clear hKK KK
        (try simp only [Act.put, List.getElem_toArray, List.getElem_cons_zero, List.getElem_cons_succ, List.setIfInBounds_toArray, List.set_cons_zero, List.set_cons_succ])
        refine wpAnyF_take (i := 6) (v := ?_) (by kernel_rfl) (by kernel_rfl) rfl (by kernel_rfl) (by kernel_rfl) (by kernel_rfl) (fun _ _ _ h => h) (Or.inl ⟨by rfl, ?_⟩) (by assumption) ?_
        rotate_left
        · intro w' hSw; (try dsimp only at hSw); go_simp; (try with_reducible rfl)
        (try simp only [Act.put, List.getElem_toArray, List.getElem_cons_zero, List.getElem_cons_succ, List.setIfInBounds_toArray, List.set_cons_zero, List.set_cons_succ])
        refine wpAnyF_ready (rs := [7]) (by kernel_rfl) (by simp) ?_
        refine AllReadyF.cons rfl (fun KK hKK => ?_) AllReadyF.nil
        go_simp
        refine hKK.out _ _ trivial (fun hHeld => ?_)
        clear hKK KK
        (try simp only [Act.put, List.getElem_toArray, List.getElem_cons_zero, List.getElem_cons_succ, List.setIfInBounds_toArray, List.set_cons_zero, List.set_cons_succ])
        refine wpAnyF_take (i := 8) (v := ?_) (by kernel_rfl) (by kernel_rfl) rfl (by kernel_rfl) (by kernel_rfl) (by kernel_rfl) (fun _ _ _ h => h) (Or.inl ⟨by rfl, ?_⟩) (by assumption) ?_
        rotate_left
        · intro w' hSw; (try dsimp only at hSw); go_simp; (try with_reducible rfl)
        (try simp only [Act.put, List.getElem_toArray, List.getElem_cons_zero, List.getElem_cons_succ, List.setIfInBounds_toArray, List.set_cons_zero, List.set_cons_succ])
        refine wpAnyF_done (by kernel_rfl) ?_ _
        refine NoPanic.normal ?_
        first | exact ⟨_, _, _, _, rfl, rfl, rfl, thr124 w n m⟩ | exact ⟨_, _, _, _, rfl, rfl, rfl, thr142 w n m⟩ | exact ⟨_, _, _, _, rfl, rfl, rfl, thr214 w n m⟩ | exact ⟨_, _, _, _, rfl, rfl, rfl, thr241 w n m⟩ | exact ⟨_, _, _, _, rfl, rfl, rfl, thr412 w n m⟩ | exact ⟨_, _, _, _, rfl, rfl, rfl, thr421 w n m⟩
  case rest =>
    rintro e a W ⟨g1, g2, g4, d, hd, rfl, rfl, HT⟩
    have HTH := hi HT
    have HDD := hi hd
    clear hmi hmb hms HT hd
    go_wp2_with (go_at_call 64; ((with_reducible refine (HN.out _).mono ?_); rintro e w1 ⟨x, lg, xg, la, xa, lc, xc, rfl, q1, q2, q3, hrf, hb⟩; obtain ⟨hbx, hst⟩ := HTH.out.start ⟨_, _, _, _, hrf⟩ hb q1 q2 q3; rw [HDD.out] at hbx hst; have m2 := hbx.cell 2; have mf := hbx.frozen; have HST := hi hst; have HB1 := hi (HTH.out.below.trans (hb.mono HTH.out.below.size)); clear hbx hst hb hrf q1 q2 q3))
    have hdle : w.heap.size ≤ d := by have := HDD.out; omega
    have HB2 := hi (HB1.out.setCell (p := ⟨d, 2, none⟩) hdle (.pointer (some ⟨x, 0, none⟩)))
    obtain ⟨w2, hw2⟩ : ∃ w2, w1.setCell ⟨d, 2, none⟩ (.pointer (some ⟨x, 0, none⟩)) = w2 := ⟨_, rfl⟩
    rw [hw2] at HST HB2 ⊢
    clear hw2 HTH HB1 m2 mf
    go_loopw [9] (fun i wr => ∃ (k : Nat) (b : Nat → Nat) (OV : Value), i = .int .i64 k ∧ k ≤ n ∧ Hi (RnI w.heap.size n m k b OV wr ∧ Below w.heap.size w wr)) (fun i _ => n - (intOf i).toNat)
    case atStart =>
      obtain ⟨b, hb⟩ := HST.out
      exact ⟨0, b, _, rfl, Nat.zero_le _, hi ⟨hb, HB2.out⟩⟩
    case round =>
      obtain ⟨k, b, OV, rfl, hk, HX⟩ := hrel
      obtain ⟨wo, rfl⟩ : ∃ wo, wo = wr := ⟨_, rfl⟩
      clear HST HB2
      by_cases hlt : k < n
      · go_wp2_with (go_at_call 64; ((with_reducible refine (HO.out _).mono ?_); rintro e w3 ⟨x, lg, xg, la, xa, lc, xc, rfl, q1, q2, q3, hrf, hb⟩; have HRF := hi (show RfB w3 x lg xg 0 (edgesV 0) from ⟨_, _, _, _, hrf⟩); have HQ := hi (And.intro q1 (And.intro q2 q3)); have HB3 := hi hb; clear hb hrf q1 q2 q3))
        go_loopw [12] (fun i wq => ∃ j : Nat, i = .int .i64 j ∧ Hi (j ≤ 16 ∧ RfB wq x lg xg 0 (edgesV j) ∧ Kept (fun i => i = lg ∨ i = xg) w3 wq)) (fun i _ => 16 - (intOf i).toNat)
        case atStart => exact ⟨0, rfl, hi ⟨Nat.zero_le _, HRF.out, Kept.refl _ _⟩⟩
        case round =>
          obtain ⟨j, rfl, HY⟩ := hrel
          have hj := HY.out.1
          by_cases hl16 : j < 16
          · have HD := hi (rfb_do (id := (j : Nat)) (a := 8) HY.out.2.1 (fit_own (edgesV_len j)))
            clear HRF
            go_wp2_with (go_at_call 65; ((with_reducible refine HD.out.mono ?_); rintro e w5 ⟨rfl, hA⟩; have HA := hi hA; clear hA))
            go_roundw
            case rel => exact ⟨j + 1, by go_num, hi ⟨hl16, HA.out.rf, HY.out.2.2.trans (HA.out.kept.mono (fun i z => z.2))⟩⟩
            case measure => simp only [intOf]; omega
          · obtain rfl : j = 16 := by omega
            have hnw : NwB wo wr x lg xg := ⟨HY.out.2.1, HQ.out, HB3.out.trans (HY.out.2.2.toBelow HB3.out.size (fun i z => by have := HQ.out; rcases z with rfl | rfl <;> omega))⟩
            have HNW := hi hnw
            have h0 := HX.out.1.rng 0 ⟨by omega, fun _ => by omega, by omega⟩
            have hz0' := HX.out.1.z0
            have hzq : w.heap.size + 4 ≤ wr.heap.size := by have := hnw.below.size; omega
            have hbz : b 0 = d := hz0'.trans HDD.out
            have hbx := (HX.out.1.below hnw.below).box
            rw [hbz] at hbx
            have k5 := hbx.cell 5
            have HROW := hi (own_below HX.out.1.row hnw.below)
            obtain ⟨va, vc, rfl⟩ := own_slice HROW.out
            clear HRF HY HB3 hbx h0 hz0' hnw HO HN
            go_wp2_with (at_builtin; go_loud (refine wpList_append_own _ rfl _ _ 103 rfl (w.heap.size + 4) 101 i0 (.pointer none) 1 8 Tryz.underlying103 hi2 hz0 hz1 hz2 rfl (by decide) _ _ _ rfl (HROW.out.alloc _) ⟨wr.heap.size, 0, none⟩ 1 1 [.pointer (some ⟨x, 0, none⟩)] rfl rfl (cell_one_at rfl _ _) (by simp [Value.oneCell']) (by unfold maxLen; omega) (by omega) (by simp; omega) ?_; intro v' w9 hown' hgrow _; obtain ⟨g', cap', rfl⟩ := ownsRow_succ hown'; obtain ⟨hb9, hm9⟩ := HX.out.1.step HNW.out hown' hgrow; rw [hbz] at hb9 hm9; have d5 := hb9.cell 5; have df := hb9.frozen; have HM := hi hm9; have HBB := hi (show Below w.heap.size w w9 from bel_grown (HX.out.2.trans ((HNW.out.below.mono HX.out.2.size))) HROW.out hgrow hzq (by omega)); clear hb9 hm9))
            go_roundw
            case rel => exact ⟨k + 1, _, _, by go_num, hlt, hi ⟨HM.out, HBB.out.setCell hdle _⟩⟩
            case measure => simp only [intOf]; omega
      · obtain rfl : k = n := by omega
        go_wp2
        go_ret2
        obtain ⟨b', c', e0, hd⟩ := HX.out.1.done h1
        exact ⟨b', c', by rw [e0, HDD.out]; rfl, hd, HX.out.2⟩
end Go.Proofs.YtggeakkofcaklaaGreat
