/-
  Laws for bytes: a slice that reads as bytes; copy, clear and append onto nothing; slices.Clone of bytes.
-/
import Derived.Test.YtkgkfgfnhjhabaaDoorMemD
namespace Go.Proofs.YtkgkfgfnhjhabaaDoor
open Go.ChangeShapes Go.WideShapes Go.ChangeAt Go.RowKit
set_option linter.unusedVariables false
set_option linter.unusedSimpArgs false

theorem add_mid_ (b o j : Nat) : (⟨b, o, none⟩ : Addr).add j = ⟨b, o + j, none⟩ := by unfold Addr.add; split <;> simp_all

/-- The slice value v reads as the bytes ys. -/
def BytesIn (W : World) (v : Value) (ys : List Nat) : Prop :=
  ∃ a cap, v = .slice a ys.length cap ∧ ys.length ≤ cap ∧ (∀ x ∈ ys, x < 256) ∧ (ys ≠ [] → ∃ b off : Nat, a = some ⟨b, off, none⟩ ∧ ∀ j, j < ys.length → W.cell? ⟨b, off + j, none⟩ = some (.int .u8 (ys[j]?.getD 0 : Nat)))
theorem BytesIn.of {W : World} {g o n : Nat} {bs : List Nat} {v : Value} (h : BytesAt W g bs) (hs : SlOf g o n v) (hn : o + n ≤ bs.length) : BytesIn W v (sub bs o n) := by
  obtain ⟨ad, c, rfl, had, hc, _⟩ := hs
  have hl := sub_len hn
  refine ⟨ad, c, by rw [hl], by rw [hl]; exact hc, sub_mem h.2, fun hne => ?_⟩
  have hpos : 0 < n := by
    rcases Nat.eq_zero_or_pos n with e | e
    · exact absurd (List.length_eq_zero_iff.1 (by rw [hl, e])) hne
    · exact e
  refine ⟨g, o, had hpos, fun j hj => ?_⟩
  rw [hl] at hj
  rw [sub_get hj]
  exact h.cell (o + j) (by omega)
theorem BytesIn.kept {A W : World} {v : Value} {ys : List Nat} (h : BytesIn A v ys) {xs : Nat → Prop} (k : Kept xs A W) (hb : ∀ b off cap, v = .slice (some ⟨b, off, none⟩) ys.length cap → ys ≠ [] → ¬ xs b) : BytesIn W v ys := by
  obtain ⟨a, cap, rfl, hc, hm, hr⟩ := h
  refine ⟨a, cap, rfl, hc, hm, fun hne => ?_⟩
  obtain ⟨b, off, rfl, hcell⟩ := hr hne
  refine ⟨b, off, rfl, fun j hj => ?_⟩
  have h1 := hcell j hj
  have hlt := World.block_lt_of_cell? A _ h1
  exact (World.cell?_of_block (w := A) (k.block b hlt (hb b off cap rfl hne))).trans h1
theorem BytesIn.below {A W : World} {v : Value} {ys : List Nat} (h : BytesIn A v ys) (k : Below A.heap.size A W) : BytesIn W v ys :=
  h.kept (xs := fun _ => False) (Kept.of k) (fun _ _ _ _ _ x => x)

/-- The slice value v holds the bytes ys in a block of its own. -/
def OwnB (W : World) (base g : Nat) (v : Value) (ys : List Nat) : Prop :=
  ∃ cap, v = .slice (some ⟨g, 0, none⟩) ys.length cap ∧ base ≤ g ∧ BytesAt W g ys ∧ ys.length ≤ cap ∧ cap ≤ maxLen
theorem OwnB.slOf {W : World} {base g : Nat} {v : Value} {ys : List Nat} (h : OwnB W base g v ys) : SlOf g 0 ys.length v := by
  obtain ⟨cap, rfl, _, _, hc, _⟩ := h
  exact ⟨_, _, rfl, fun _ => rfl, hc, _, rfl⟩
theorem sub_all (bs : List Nat) : sub bs 0 bs.length = bs := by simp [sub]
theorem OwnB.bytesIn {W : World} {base g : Nat} {v : Value} {ys : List Nat} (h : OwnB W base g v ys) : BytesIn W v ys := by
  have h1 := BytesIn.of (o := 0) h.choose_spec.2.2.1 h.slOf (by omega)
  rwa [sub_all] at h1
theorem OwnB.of_row {W : World} {base : Nat} {v : Value} {ys : List Nat} (h : W.ownsRow base 5 1 v ys.length (u8s ys)) (hm : ∀ x ∈ ys, x < 256) (hne : v ≠ .slice none 0 0) : ∃ g, OwnB W base g v ys := by
  rcases h.2 with ⟨e, _⟩ | ⟨g, cap, cur, rfl, hb, hg, h1, h2, h3, h4⟩
  · exact absurd e hne
  · refine ⟨g, cap, rfl, hb, ⟨⟨cur.toList.drop ys.length, ?_⟩, hm⟩, h1, h2⟩
    rw [hg]
    congr 2
    rw [Nat.mul_one] at h4
    rw [← h4, List.take_append_drop]

theorem info_u8 : (Tryd.prog.info? 5).map (fun i => (i.zero, i.size, i.bytes)) = some (some (.int .u8 0), 1, 1) := by kernel_rfl
theorem size_u8 : (Tryd.prog.info? 5).map (·.size) = some 1 := by kernel_rfl
theorem zero_u8 (w : World) : (zeroValue 5).run Tryd.prog w = .ok (.int .u8 0) w := by kernel_rfl

theorem kept_setRow (w : World) (g : Nat) (cs : Array Value) : Kept (· = g) w (w.setRow g cs) :=
  ⟨rfl, rfl, rfl, by simp [World.setRow], fun k _ hn => setRow_other w g k cs (fun e => hn e)⟩

theorem wpList_copy_bytes {ops : Array Oper} {rest : List Oper} {o : Oper} {a : Act} {w : World} {Q : Exit → Act → World → Prop} (hgd : o.guard = none) (d s : Operand)
    (ho : o.op = .call { callee := .builtin .copy, args := #[d, s], argTypes := #[48, 48] })
    (g off n : Nat) (bs ys : List Nat) (dv sv : Value) (hd : a.eval d = dv) (hs : a.eval s = sv) (hdv : SlOf g off n dv) (hsv : BytesIn w sv ys) (hB : BytesAt w g bs) (hfit : off + n ≤ bs.length) (hl : ys.length ≤ n)
    (h : ∀ w', BytesAt w' g (splice bs off ys) → Kept (· = g) w w' → wpList Tryd.prog ops Q rest (a.put o.dst (goInt ys.length)) w') : wpList Tryd.prog ops Q (o :: rest) a w := by
  obtain ⟨ad, c, rfl, had, hc, _⟩ := hdv
  obtain ⟨sa, sc, rfl, hsc, hm, hcell⟩ := hsv
  by_cases hy : ys = []
  · subst hy
    refine wpList_copy_nothing hgd d s _ _ ho 5 Tryd.underlying48 size_u8 ad sa n c _ sc hd hs (by simp) ?_
    exact h w (by rw [splice_nil]; exact hB) (Kept.refl _ _)
  · have hpos : 0 < ys.length := List.length_pos_iff.2 hy
    obtain ⟨b, so, rfl, hcs⟩ := hcell hy
    obtain rfl := had (by omega)
    obtain ⟨⟨r, hg⟩, hm0⟩ := hB
    have hmin : (u8s ys).length = Nat.min ys.length n := by rw [u8s_len]; exact (Nat.min_eq_left hl).symm
    refine wpList_copy_own hgd d s _ _ ho 5 Tryd.underlying48 size_u8 g off n c ⟨b, so, none⟩ ys.length sc hd hs _ 5 hg (u8s ys) hmin ?_ ?_ (u8s_one ys) ?_
    · intro j v hv
      have hj : j < ys.length := by
        have := (List.getElem?_eq_some_iff.1 hv).1
        rwa [u8s_len] at this
      rw [u8s_get ys j hj] at hv
      rw [show (⟨b, so, none⟩ : Addr).add j = ⟨b, so + j, none⟩ from add_mid_ b so j, hcs j hj]
      exact hv
    · simp only [List.size_toArray, List.length_append, u8s_len]; omega
    · rw [u8s_len]
      refine h _ ⟨⟨r, ?_⟩, splice_mem hm0 hm⟩ (kept_setRow _ _ _)
      rw [setRow_heap w g _ _ _ _ hg]
      congr 2
      rw [List.toList_toArray, ← splice_u8s bs off ys r (by omega)]
      simp [splice, u8s_len]

theorem splice_cons (bs cs : List Nat) (o x : Nat) (h : o < bs.length) : splice bs o (x :: cs) = splice (bs.set o x) (o + 1) cs := by
  have e1 : (bs.set o x).take (o + 1) = bs.take o ++ [x] := by
    rw [List.take_add_one, List.take_set_of_le (Nat.le_refl _), List.getElem?_set_self h]
    rfl
  have e2 : (bs.set o x).drop (o + 1 + cs.length) = bs.drop (o + 1 + cs.length) := List.drop_set_of_lt (by omega)
  simp only [splice, List.length_cons, e1, e2]
  rw [List.append_assoc, show o + (cs.length + 1) = o + 1 + cs.length by omega]
  rfl
theorem BytesAt.sets : ∀ (cs bs : List Nat) (W : World) (g o : Nat), BytesAt W g bs → (∀ x ∈ cs, x < 256) → o + cs.length ≤ bs.length → BytesAt (W.setCells g o (u8s cs)) g (splice bs o cs) ∧ Kept (· = g) W (W.setCells g o (u8s cs))
  | [], bs, W, g, o, h, _, _ => by rw [splice_nil]; exact ⟨h, Kept.refl _ _⟩
  | x :: cs, bs, W, g, o, h, hm, hl => by
    simp only [List.length_cons] at hl
    have h1 := h.set o x (by omega) (hm x (by simp))
    obtain ⟨h2, h3⟩ := BytesAt.sets cs (bs.set o x) _ g (o + 1) h1 (fun y hy => hm y (by simp [hy])) (by rw [List.length_set]; omega)
    rw [splice_cons bs cs o x (by omega)]
    exact ⟨h2, (kept_setCell W g o _).trans h3⟩

theorem run_clear_none (w : World) (ad : Option Addr) (c : Nat) (ty : TypeId) : (Builtin.clear_ #[48] ty #[.slice ad 0 c]).run Tryd.prog w = .ok (.tuple #[]) w := by
  cases ad <;> simp [Builtin.clear_, run_underlying Tryd.underlying48, zero_u8, Builtin.zeroCells, storeCells]

theorem wpList_clear_bytes {ops : Array Oper} {rest : List Oper} {o : Oper} {a : Act} {w : World} {Q : Exit → Act → World → Prop} (hgd : o.guard = none) (d : Operand)
    (ho : o.op = .call { callee := .builtin .clear, args := #[d], argTypes := #[48] })
    (g off n : Nat) (bs : List Nat) (dv : Value) (hd : a.eval d = dv) (hdv : SlOf g off n dv) (hB : BytesAt w g bs) (hfit : off + n ≤ bs.length)
    (h : ∀ w', BytesAt w' g (splice bs off (List.replicate n 0)) → Kept (· = g) w w' → wpList Tryd.prog ops Q rest (a.put o.dst (.tuple #[])) w') : wpList Tryd.prog ops Q (o :: rest) a w := by
  obtain ⟨ad, c, rfl, had, hc, _⟩ := hdv
  refine wpList_plain hgd fun K hK => ?_
  by_cases hn : n = 0
  · subst hn
    have hrun := run_clear_none w ad c o.type
    unfold Oper.wp
    simp [execOp, ho, resolve, invoke, builtin, hd, hrun, Result.andThen]
    exact hK _ _ (h w (by rw [show List.replicate 0 0 = ([] : List Nat) from rfl, splice_nil]; exact hB) (Kept.refl _ _))
  · obtain rfl := had (by omega)
    have hrun := Lib.run_clear_slice (P := Tryd.prog) w 48 5 o.type (.int .u8 0) Tryd.underlying48 zero_u8 rfl rfl g off n c (by omega)
      (fun j hj => by rw [hB.cell (off + j) (by omega)]; rfl) (fun j hj => hB.frozen (off + j))
    unfold Oper.wp
    simp [execOp, ho, resolve, invoke, builtin, hd, hrun, Result.andThen]
    have e : List.replicate n (Value.int .u8 0) = u8s (List.replicate n 0) := by simp [u8s]
    rw [e]
    obtain ⟨h1, h2⟩ := BytesAt.sets (List.replicate n 0) bs w g off hB (fun x hx => by rw [List.eq_of_mem_replicate hx]; omega) (by simp; omega)
    exact hK _ _ (h _ h1 h2)

end Go.Proofs.YtkgkfgfnhjhabaaDoor
