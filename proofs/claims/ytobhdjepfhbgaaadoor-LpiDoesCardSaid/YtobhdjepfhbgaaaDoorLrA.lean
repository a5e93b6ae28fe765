/-
  Both parts of both sides in one world: whose a block is, told by colours; each part opened and closed again.
-/
import Derived.Test.YtobhdjepfhbgaaaDoorLqF
namespace Go.Proofs.YtobhdjepfhbgaaaDoor
open Go.ChangeShapes Go.WideShapes Go.ChangeAt Go.RowKit Go.Shelf
set_option linter.unusedVariables false
set_option linter.unusedSimpArgs false

def PC (W : World) (κ : Nat → Nat) (i l : Nat) (x : St) : Prop := ∃ s c cap S, LpB W l s c cap S x ∧ κ l = i ∧ κ s = i ∧ κ c = i
def DC (W : World) (κ : Nat → Nat) (i d : Nat) (x : St) : Prop := ∃ f capf yv, LdB W d f capf yv x ∧ κ d = i ∧ κ f = i ∧ ∀ b, Yb yv b → b < W.heap.size ∧ κ b = i ∧ b ≠ d ∧ b ≠ f
def MC (T : TypeId) (W : World) (κ : Nat → Nat) (i p : Nat) (bs : List Nat) : Prop := ∃ g cp, MemAt T W p g cp bs ∧ κ p = i ∧ κ g = i
theorem PC.keep {A W : World} {κ κ' : Nat → Nat} {j l : Nat} {x : St} {bs : Nat → Prop} (h : PC A κ j l x) (k : Kept bs A W) (hb : ∀ b, κ b = j → ¬ bs b) (hκ : ∀ b, b < A.heap.size → κ' b = κ b) : PC W κ' j l x := by
  obtain ⟨s, c, cap, S, h1, h2, h3, h4⟩ := h
  exact ⟨s, c, cap, S, h1.kept k (hb _ h2) (hb _ h3) (hb _ h4), by rw [hκ _ h1.box.lt]; exact h2, by rw [hκ _ h1.set.lt]; exact h3, by rw [hκ _ h1.cfg.lt]; exact h4⟩
theorem DC.keep {A W : World} {κ κ' : Nat → Nat} {j d : Nat} {x : St} {bs : Nat → Prop} (h : DC A κ j d x) (k : Kept bs A W) (hb : ∀ b, κ b = j → ¬ bs b) (hκ : ∀ b, b < A.heap.size → κ' b = κ b) : DC W κ' j d x := by
  obtain ⟨f, capf, yv, h1, h2, h3, h4⟩ := h
  exact ⟨f, capf, yv, h1.kept k (hb _ h2) (hb _ h3) (fun b hy => hb _ (h4 b hy).2.1), by rw [hκ _ h1.box.lt]; exact h2, by rw [hκ _ h1.cfg.lt]; exact h3, fun b hy => ⟨Nat.lt_of_lt_of_le (h4 b hy).1 k.size, by rw [hκ _ (h4 b hy).1]; exact (h4 b hy).2.1, (h4 b hy).2.2⟩⟩
theorem MC.keep {T : TypeId} {A W : World} {κ κ' : Nat → Nat} {j p : Nat} {bb : List Nat} {bs : Nat → Prop} (h : MC T A κ j p bb) (k : Kept bs A W) (hb : ∀ b, κ b = j → ¬ bs b) (hκ : ∀ b, b < A.heap.size → κ' b = κ b) : MC T W κ' j p bb := by
  obtain ⟨g, cp, h1, h2, h3⟩ := h
  exact ⟨g, cp, h1.kept k (hb _ h2) (hb _ h3), by rw [hκ _ h1.plt]; exact h2, by rw [hκ _ h1.bytes.lt]; exact h3⟩

/-- The law's own blocks stay. -/
structure NK (N : Nat → Prop) (W W' : World) : Prop where
  size : W.heap.size ≤ W'.heap.size
  same : ∀ b, N b → b < W.heap.size → W'.heap[b]? = W.heap[b]?
theorem NK.refl (N : Nat → Prop) (W : World) : NK N W W := ⟨Nat.le_refl _, fun _ _ _ => rfl⟩
theorem NK.trans {N : Nat → Prop} {X Y Z : World} (h : NK N X Y) (k : NK N Y Z) : NK N X Z := ⟨Nat.le_trans h.size k.size, fun b hb hl => (k.same b hb (Nat.lt_of_lt_of_le hl h.size)).trans (h.same b hb hl)⟩
theorem NK.of_below {N : Nat → Prop} {W W' : World} (h : Below W.heap.size W W') : NK N W W' := ⟨h.size, fun b _ hl => h.block b hl⟩
theorem NK.cb {N : Nat → Prop} {W W' : World} {b : Nat} {t : TypeId} {cs : Array Value} (k : NK N W W') (h : CB W b t cs) (hb : N b) : CB W' b t cs := (k.same b hb h.lt).trans h

structure PrX (w0 : World) (N : Nat → Prop) (p q l0 l1 d0 d1 : Nat) (t td : Tw) (W : World) : Prop where
  ex : ∃ κ : Nat → Nat, (MC 96 W κ 1 p t.bs ∧ MC 107 W κ 2 q td.bs) ∧ (PC W κ 3 l0 t.x ∧ PC W κ 4 l1 t.y) ∧ (DC W κ 5 d0 td.x ∧ DC W κ 6 d1 td.y) ∧ (∀ b, b < w0.heap.size → κ b = 0) ∧ ∀ b, N b → κ b = 7 ∧ b < W.heap.size
  tab : TabW W
  below : Below w0.heap.size w0 W
  pos : 0 < w0.heap.size
def sw (t : Tw) : Tw := ⟨t.bs, t.y, t.x⟩
theorem sw_ok {L : Nat} {t : Tw} (h : t.Ok L) : (sw t).Ok L := ⟨h.len, h.mem, h.y, h.x, h.ap.symm⟩
theorem sw_sw (t : Tw) : sw (sw t) = t := rfl
/-- Colours 3 and 4, and 5 and 6, told the other way about. -/
def flip (c : Nat) : Nat := if c = 3 then 4 else if c = 4 then 3 else if c = 5 then 6 else if c = 6 then 5 else c
theorem PrX.swap {w0 : World} {N : Nat → Prop} {p q l0 l1 d0 d1 : Nat} {t td : Tw} {W : World} (h : PrX w0 N p q l0 l1 d0 d1 t td W) : PrX w0 N p q l1 l0 d1 d0 (sw t) (sw td) W := by
  obtain ⟨⟨κ, ⟨⟨g, cp, m1, m2, m3⟩, ⟨g', cp', r1, r2, r3⟩⟩, ⟨⟨s, c, cap, S, a1, a2, a3, a4⟩, ⟨s', c', cap', S', b1, b2, b3, b4⟩⟩, ⟨⟨f, cf, yv, c1, c2, c3, c4⟩, ⟨f', cf', yv', e1, e2, e3, e4⟩⟩, hl, hn⟩, ht, hb, hp⟩ := h
  have F : ∀ {b i : Nat}, κ b = i → flip (κ b) = flip i := fun h => by rw [h]
  refine ⟨⟨fun b => flip (κ b), ⟨⟨g, cp, m1, F m2, F m3⟩, ⟨g', cp', r1, F r2, F r3⟩⟩, ⟨⟨s', c', cap', S', b1, F b2, F b3, F b4⟩, ⟨s, c, cap, S, a1, F a2, F a3, F a4⟩⟩, ⟨⟨f', cf', yv', e1, F e2, F e3, fun b hy => ⟨(e4 b hy).1, F (e4 b hy).2.1, (e4 b hy).2.2⟩⟩, ⟨f, cf, yv, c1, F c2, F c3, fun b hy => ⟨(c4 b hy).1, F (c4 b hy).2.1, (c4 b hy).2.2⟩⟩⟩, fun b hb => F (hl b hb), fun b hb => ⟨F (hn b hb).1, (hn b hb).2⟩⟩, ht, hb, hp⟩
theorem PrX.later {w0 : World} {N : Nat → Prop} {p q l0 l1 d0 d1 : Nat} {t td : Tw} {W W' : World} (h : PrX w0 N p q l0 l1 d0 d1 t td W) (k : Below W.heap.size W W') : PrX w0 N p q l0 l1 d0 d1 t td W' := by
  obtain ⟨⟨κ, ⟨m, r⟩, ⟨a, b⟩, ⟨c, d⟩, hl, hn⟩, ht, hb, hp⟩ := h
  have kk : Kept (fun _ => False) W W' := Kept.of k
  exact ⟨⟨κ, ⟨m.keep kk (fun _ _ x => x) (fun _ _ => rfl), r.keep kk (fun _ _ x => x) (fun _ _ => rfl)⟩, ⟨a.keep kk (fun _ _ x => x) (fun _ _ => rfl), b.keep kk (fun _ _ x => x) (fun _ _ => rfl)⟩, ⟨c.keep kk (fun _ _ x => x) (fun _ _ => rfl), d.keep kk (fun _ _ x => x) (fun _ _ => rfl)⟩, hl, fun b h => ⟨(hn b h).1, Nat.lt_of_lt_of_le (hn b h).2 k.size⟩⟩, ht.below k, hb.trans (k.mono hb.size), hp⟩
/-- A box of the law's own. -/
theorem PrX.box {w0 : World} {N : Nat → Prop} {p q l0 l1 d0 d1 : Nat} {t td : Tw} {W : World} (h : PrX w0 N p q l0 l1 d0 d1 t td W) (o : Obj) : PrX w0 (fun b => N b ∨ b = W.heap.size) p q l0 l1 d0 d1 t td (W.alloc o) := by
  obtain ⟨⟨κ, ⟨m, r⟩, ⟨a, b⟩, ⟨c, d⟩, hl, hn⟩, ht, hb, hp⟩ := h
  have kk : Kept (fun _ => False) W (W.alloc o) := Kept.of (bal W o)
  have G : ∀ b, b < W.heap.size → grow κ W.heap.size 7 b = κ b := fun b hb => grow_old hb
  exact ⟨⟨grow κ W.heap.size 7, ⟨m.keep kk (fun _ _ x => x) G, r.keep kk (fun _ _ x => x) G⟩, ⟨a.keep kk (fun _ _ x => x) G, b.keep kk (fun _ _ x => x) G⟩, ⟨c.keep kk (fun _ _ x => x) G, d.keep kk (fun _ _ x => x) G⟩, fun b h0 => by rw [grow_old (Nat.lt_of_lt_of_le h0 hb.size)]; exact hl b h0, fun b hN' => by
    rcases hN' with h1 | h1
    · rw [grow_old (hn b h1).2]; exact ⟨(hn b h1).1, by have := (hn b h1).2; simp; omega⟩
    · rw [h1, grow_new (Nat.le_refl _)]; exact ⟨rfl, by simp⟩⟩, ht.below (bal W o), hb.trans ((bal W o).mono hb.size), hp⟩
theorem PrX.less {w0 : World} {N N' : Nat → Prop} {p q l0 l1 d0 d1 : Nat} {t td : Tw} {W : World} (h : PrX w0 N p q l0 l1 d0 d1 t td W) (hs : ∀ b, N' b → N b) : PrX w0 N' p q l0 l1 d0 d1 t td W := by
  obtain ⟨⟨κ, m, a, c, hl, hn⟩, ht, hb, hp⟩ := h
  exact ⟨⟨κ, m, a, c, hl, fun b h => hn b (hs b h)⟩, ht, hb, hp⟩
/-- The law's own blocks are turned: all else lies. -/
theorem PrX.own {w0 : World} {N : Nat → Prop} {p q l0 l1 d0 d1 : Nat} {t td : Tw} {W W' : World} (h : PrX w0 N p q l0 l1 d0 d1 t td W) (k : Kept N W W') : PrX w0 N p q l0 l1 d0 d1 t td W' := by
  obtain ⟨⟨κ, ⟨m, r⟩, ⟨a, b⟩, ⟨c, d⟩, hl, hn⟩, ht, hb, hp⟩ := h
  have X : ∀ j, j ≠ 7 → ∀ b, κ b = j → ¬ N b := fun j hj b h1 h2 => hj (by rw [← h1, (hn b h2).1])
  have S : ∀ b, b < W.heap.size → κ b = κ b := fun _ _ => rfl
  exact ⟨⟨κ, ⟨m.keep k (X 1 (by decide)) S, r.keep k (X 2 (by decide)) S⟩, ⟨a.keep k (X 3 (by decide)) S, b.keep k (X 4 (by decide)) S⟩, ⟨c.keep k (X 5 (by decide)) S, d.keep k (X 6 (by decide)) S⟩, hl, fun b h => ⟨(hn b h).1, Nat.lt_of_lt_of_le (hn b h).2 k.size⟩⟩, ht.kept k (fun e => by have h1 := (hn 0 e).1; rw [hl 0 hp] at h1; cases h1), hb.trans (k.toBelow hb.size (fun b e => by
    rcases Nat.lt_or_ge b w0.heap.size with h1 | h1
    · have h2 := (hn b e).1; rw [hl b h1] at h2; cases h2
    · exact h1)), hp⟩

/-- The program's first part, opened. -/
theorem PrX.openA {w0 : World} {N : Nat → Prop} {p q l0 l1 d0 d1 : Nat} {t td : Tw} {W : World} (h : PrX w0 N p q l0 l1 d0 d1 t td W) :
    ∃ s c cap S g cp, LpB W l0 s c cap S t.x ∧ MemAt 96 W p g cp t.bs ∧ g ≠ c ∧ g ≠ 0 ∧
      ∀ (W' : World) (s' : Nat) (S' : Words) (bs' : List Nat) (x' : St), LpB W' l0 s' c cap S' x' → MemAt 96 W' p g cp bs' → (s' = s ∨ W.heap.size ≤ s') → Kept (fun b => b = l0 ∨ b = s ∨ b = c ∨ b = g) W W' →
        PrX w0 N p q l0 l1 d0 d1 ⟨bs', x', t.y⟩ td W' ∧ NK N W W' := by
  obtain ⟨⟨κ, ⟨⟨g, cp, m1, m2, m3⟩, r⟩, ⟨⟨s, c, cap, S, a1, a2, a3, a4⟩, b⟩, ⟨cc, d⟩, hl, hn⟩, ht, hb, hp⟩ := h
  refine ⟨s, c, cap, S, g, cp, a1, m1, (fun e => by rw [e, a4] at m3; cases m3), (fun e => by rw [e, hl 0 hp] at m3; cases m3), ?_⟩
  intro W' s' S' bs' x' hL hM hs hK
  have C : ∀ b, (b = l0 ∨ b = s ∨ b = c ∨ b = g) → κ b = 3 ∨ κ b = 1 := by
    rintro b (rfl | rfl | rfl | rfl)
    · exact .inl a2
    · exact .inl a3
    · exact .inl a4
    · exact .inr m3
  have G : ∀ b, b < W.heap.size → grow κ W.heap.size 3 b = κ b := fun b hb => grow_old hb
  have X : ∀ j, j ≠ 3 → j ≠ 1 → ∀ b, κ b = j → ¬ (b = l0 ∨ b = s ∨ b = c ∨ b = g) := fun j h1 h2 b e hb => by
    rcases C b hb with h | h
    · exact h1 (e ▸ h)
    · exact h2 (e ▸ h)
  refine ⟨⟨⟨grow κ W.heap.size 3, ⟨⟨g, cp, hM, by rw [G _ m1.plt]; exact m2, by rw [G _ m1.bytes.lt]; exact m3⟩, r.keep hK (X 2 (by decide) (by decide)) G⟩, ⟨⟨s', c, cap, S', hL, by rw [G _ a1.box.lt]; exact a2, ?_, by rw [G _ a1.cfg.lt]; exact a4⟩, b.keep hK (X 4 (by decide) (by decide)) G⟩, ⟨cc.keep hK (X 5 (by decide) (by decide)) G, d.keep hK (X 6 (by decide) (by decide)) G⟩, fun b h0 => by rw [G _ (Nat.lt_of_lt_of_le h0 hb.size)]; exact hl b h0, ?_⟩, ?_, ?_, hp⟩, ⟨hK.size, fun b hN hlt => hK.block b hlt (X 7 (by decide) (by decide) b (hn b hN).1)⟩⟩
  · rcases hs with rfl | hs
    · rw [G _ a1.set.lt]; exact a3
    · exact grow_new hs
  · intro b hN
    rw [G b (hn b hN).2]
    exact ⟨(hn b hN).1, Nat.lt_of_lt_of_le (hn b hN).2 hK.size⟩
  · exact ht.kept hK (X 0 (by decide) (by decide) 0 (hl 0 hp))
  · exact hb.trans (hK.toBelow hb.size (fun b e => by
      rcases Nat.lt_or_ge b w0.heap.size with h1 | h1
      · exact absurd e (X 0 (by decide) (by decide) b (hl b h1))
      · exact h1))

/-- The document's first part, opened. -/
theorem PrX.openD {w0 : World} {N : Nat → Prop} {p q l0 l1 d0 d1 : Nat} {t td : Tw} {W : World} (h : PrX w0 N p q l0 l1 d0 d1 t td W) :
    ∃ f capf yv hh cq, LdB W d0 f capf yv td.x ∧ MemAt 107 W q hh cq td.bs ∧ LdN d0 f hh yv ∧ (∀ b, Yb yv b → b ≠ f) ∧
      ∀ (W' : World) (yv' : Value) (bs' : List Nat) (x' : St), LdB W' d0 f capf yv' x' → MemAt 107 W' q hh cq bs' → (∀ b, Yb yv' b → Yb yv b ∨ (W.heap.size ≤ b ∧ b < W'.heap.size)) → Kept (fun b => b = d0 ∨ b = f ∨ b = hh) W W' →
        PrX w0 N p q l0 l1 d0 d1 t ⟨bs', x', td.y⟩ W' ∧ NK N W W' := by
  obtain ⟨⟨κ, ⟨m, ⟨hh, cq, r1, r2, r3⟩⟩, ⟨a, b⟩, ⟨⟨f, capf, yv, c1, c2, c3, c4⟩, d⟩, hl, hn⟩, ht, hb, hp⟩ := h
  refine ⟨f, capf, yv, hh, cq, c1, r1, ⟨fun b hy => (c4 b hy).2.2.1, (fun b hy e => by have h1 := (c4 b hy).2.1; rw [e, r3] at h1; cases h1), (fun e => by rw [e, r3] at c3; cases c3)⟩, fun b hy => (c4 b hy).2.2.2, ?_⟩
  intro W' yv' bs' x' hL hM hY hK
  have C : ∀ b, (b = d0 ∨ b = f ∨ b = hh) → κ b = 5 ∨ κ b = 2 := by
    rintro b (rfl | rfl | rfl)
    · exact .inl c2
    · exact .inl c3
    · exact .inr r3
  have G : ∀ b, b < W.heap.size → grow κ W.heap.size 5 b = κ b := fun b hb => grow_old hb
  have X : ∀ j, j ≠ 5 → j ≠ 2 → ∀ b, κ b = j → ¬ (b = d0 ∨ b = f ∨ b = hh) := fun j h1 h2 b e hb => by
    rcases C b hb with h | h
    · exact h1 (e ▸ h)
    · exact h2 (e ▸ h)
  refine ⟨⟨⟨grow κ W.heap.size 5, ⟨m.keep hK (X 1 (by decide) (by decide)) G, ⟨hh, cq, hM, by rw [G _ r1.plt]; exact r2, by rw [G _ r1.bytes.lt]; exact r3⟩⟩, ⟨a.keep hK (X 3 (by decide) (by decide)) G, b.keep hK (X 4 (by decide) (by decide)) G⟩, ⟨⟨f, capf, yv', hL, by rw [G _ c1.box.lt]; exact c2, by rw [G _ c1.cfg.lt]; exact c3, ?_⟩, d.keep hK (X 6 (by decide) (by decide)) G⟩, fun b h0 => by rw [G _ (Nat.lt_of_lt_of_le h0 hb.size)]; exact hl b h0, ?_⟩, ?_, ?_, hp⟩, ⟨hK.size, fun b hN hlt => hK.block b hlt (X 7 (by decide) (by decide) b (hn b hN).1)⟩⟩
  · intro b hy
    rcases hY b hy with h1 | ⟨h1, h2⟩
    · have h3 := c4 b h1
      exact ⟨Nat.lt_of_lt_of_le h3.1 hK.size, by rw [G b h3.1]; exact h3.2.1, h3.2.2⟩
    · have g1 := c1.box.lt
      have g2 := c1.cfg.lt
      exact ⟨h2, grow_new h1, fun e => by omega, fun e => by omega⟩
  · intro b hN
    rw [G b (hn b hN).2]
    exact ⟨(hn b hN).1, Nat.lt_of_lt_of_le (hn b hN).2 hK.size⟩
  · exact ht.kept hK (X 0 (by decide) (by decide) 0 (hl 0 hp))
  · exact hb.trans (hK.toBelow hb.size (fun b e => by
      rcases Nat.lt_or_ge b w0.heap.size with h1 | h1
      · exact absurd e (X 0 (by decide) (by decide) b (hl b h1))
      · exact h1))
/-- Both of the program's parts, opened. -/
theorem PrX.openW {w0 : World} {N : Nat → Prop} {p q l0 l1 d0 d1 : Nat} {t td : Tw} {W : World} (h : PrX w0 N p q l0 l1 d0 d1 t td W) :
    ∃ s c cap s' c' cap' g cp, TwoL W l0 s c cap l1 s' c' cap' p g cp t ∧ TwoN l0 s c l1 s' c' g ∧
      ∀ (W' : World) (t' : Tw), TwoL W' l0 s c cap l1 s' c' cap' p g cp t' → Kept (fun b => b = s ∨ b = s' ∨ b = g) W W' → PrX w0 N p q l0 l1 d0 d1 t' td W' ∧ NK N W W' := by
  obtain ⟨⟨κ, ⟨⟨g, cp, m1, m2, m3⟩, r⟩, ⟨⟨s, c, cap, S, a1, a2, a3, a4⟩, ⟨s', c', cap', S', b1, b2, b3, b4⟩⟩, ⟨cc, d⟩, hl, hn⟩, ht, hb, hp⟩ := h
  refine ⟨s, c, cap, s', c', cap', g, cp, ⟨⟨S, a1⟩, ⟨S', b1⟩, m1⟩, ⟨(fun e => by rw [e, b2] at a2; cases a2), (fun e => by rw [e, b3] at a3; cases a3), (fun e => by rw [e, b4] at a4; cases a4), (fun e => by rw [e, a4] at m3; cases m3), (fun e => by rw [e, b4] at m3; cases m3)⟩, ?_⟩
  intro W' t' hT hK
  obtain ⟨⟨S2, hA⟩, ⟨S3, hB⟩, hM⟩ := hT
  have X : ∀ j, j ≠ 3 → j ≠ 4 → j ≠ 1 → ∀ b, κ b = j → ¬ (b = s ∨ b = s' ∨ b = g) := fun j h1 h2 h3 b e hb => by
    rcases hb with rfl | rfl | rfl
    · exact h1 (e ▸ a3)
    · exact h2 (e ▸ b3)
    · exact h3 (e ▸ m3)
  have G : ∀ b, b < W.heap.size → κ b = κ b := fun _ _ => rfl
  refine ⟨⟨⟨κ, ⟨⟨g, cp, hM, m2, m3⟩, r.keep hK (X 2 (by decide) (by decide) (by decide)) G⟩, ⟨⟨s, c, cap, S2, hA, a2, a3, a4⟩, ⟨s', c', cap', S3, hB, b2, b3, b4⟩⟩, ⟨cc.keep hK (X 5 (by decide) (by decide) (by decide)) G, d.keep hK (X 6 (by decide) (by decide) (by decide)) G⟩, hl, fun b hN => ⟨(hn b hN).1, Nat.lt_of_lt_of_le (hn b hN).2 hK.size⟩⟩, ?_, ?_, hp⟩, ⟨hK.size, fun b hN hlt => hK.block b hlt (X 7 (by decide) (by decide) (by decide) b (hn b hN).1)⟩⟩
  · exact ht.kept hK (X 0 (by decide) (by decide) (by decide) 0 (hl 0 hp))
  · exact hb.trans (hK.toBelow hb.size (fun b e => by
      rcases Nat.lt_or_ge b w0.heap.size with h1 | h1
      · exact absurd e (X 0 (by decide) (by decide) (by decide) b (hl b h1))
      · exact h1))

end Go.Proofs.YtobhdjepfhbgaaaDoor
