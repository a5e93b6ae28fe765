/-
  An act of the law, plain.
-/
import Derived.Test.YtobhdjepfhbgaaaDoorLrF
namespace Go.Proofs.YtobhdjepfhbgaaaDoor
open Go.ChangeShapes Go.WideShapes Go.ChangeAt Go.RowKit Go.Shelf
set_option linter.unusedVariables false
set_option linter.unusedSimpArgs false

/-- An act, as the law's script has it. -/
structure Ac where
  d : Int
  id : Int
  is : Bool
  two : Bool
  v : Nat
structure Ac.Fair (x : Ac) : Prop where
  d : i64B x.d
  id : i64B x.id
  v : x.v < 256
@[reducible] def Ac.cs (x : Ac) : Array Value := #[.int .i64 x.d, .int .i64 x.id, .bool x.is, .bool x.two, .int .u8 x.v]
theorem invV_ok {L : Nat} {bs : List Nat} (hb : ∀ b ∈ bs, b < 256) {x : St} (h : x.Ok L) (id : Int) : (invV bs x id).Ok L := by
  unfold invV; split
  · exact invS_ok hb h _
  · exact h
theorem invV_alike (bs : List Nat) (x : St) (id : Int) : St.Alike x (invV bs x id) := by
  unfold invV; split
  · exact invS_alike _ _ _
  · exact St.Alike.refl x
theorem wrB_mem {bs : List Nat} (h : ∀ b ∈ bs, b < 256) (a s off width : Int) (v : Nat) : ∀ b ∈ wrB bs a s off width v, b < 256 := by
  unfold wrB; split
  · exact splice_mem h (le_mem _ _)
  · exact h
theorem Tw.Ok.turnX {L : Nat} {t : Tw} (h : t.Ok L) {bs : List Nat} {x : St} (h1 : bs.length = t.bs.length) (h2 : ∀ b ∈ bs, b < 256) (h3 : x.Ok L) (h4 : St.Alike t.x x) : Tw.Ok L ⟨bs, x, t.y⟩ :=
  ⟨h1.trans h.len, h2, h3, h.y, apart_alike h.ap h4 (St.Alike.refl _)⟩
/-- What it does, where it speaks of the first part. -/
def stepA (t : Tw) (x : Ac) : Tw :=
  if x.d = 1 then ⟨(enS t.bs t.x).1, (enS t.bs t.x).2, t.y⟩
  else if x.d = 2 then ⟨(disS t.bs t.x).1, (disS t.bs t.x).2, t.y⟩
  else if x.d = 3 then ⟨(setV t.bs t.x x.id x.is).1, (setV t.bs t.x x.id x.is).2, t.y⟩
  else if x.d = 4 then ⟨t.bs, invV t.bs t.x x.id, t.y⟩
  else if x.d = 5 then ⟨t.bs, invTo t.bs t.x t.x.n, t.y⟩
  else if x.d = 6 then ⟨wrB t.bs 0 200 (IntKind.i64.wrap (x.id - 8192)) 1 x.v, t.x, t.y⟩
  else if x.d = 7 then mvS t x.id
  else if x.d = 8 then (mvAll t).1
  else t
theorem stepA_ok {L : Nat} {t : Tw} (h : t.Ok L) (x : Ac) : (stepA t x).Ok L := by
  have hx : t.x.Ok t.bs.length := by rw [h.len]; exact h.x
  have hl : t.bs.length ≤ 131072 := hx.L1
  unfold stepA
  repeat' split
  · exact h.turnX (enS_len _ _) (enS_mem h.mem _) (enS_ok h.mem h.x) (enS_alike _ _)
  · exact h.turnX (disS_len _ _) (disS_mem h.mem _) (disS_ok h.x) (disS_alike _ _)
  · exact h.turnX (setV_len _ _ _ _) (setV_mem h.mem _ _ _) (setV_ok h.x _ _) (setV_alike _ _ _ _)
  · exact h.turnX rfl h.mem (invV_ok h.mem h.x _) (invV_alike _ _ _)
  · exact h.turnX rfl h.mem (invTo_ok h.mem h.x _) (invTo_alike _ _ _)
  · exact h.turnX (wrB_len hl) (wrB_mem h.mem _ _ _ _ _) h.x (St.Alike.refl _)
  · exact mvS_ok h _
  · exact mvN_ok h _
  · exact h
def stepT (t : Tw) (x : Ac) : Tw := if x.two = true then sw (stepA (sw t) x) else stepA t x
theorem stepT_ok {L : Nat} {t : Tw} (h : t.Ok L) (x : Ac) : (stepT t x).Ok L := by
  unfold stepT; split
  · exact sw_ok (stepA_ok (sw_ok h) x)
  · exact stepA_ok h x
theorem mvS_alike (t : Tw) (id : Int) : St.Alike t.x (mvS t id).x ∧ St.Alike t.y (mvS t id).y := by
  unfold mvS; split
  · exact ⟨setS_alike _ _ _ _, setS_alike _ _ _ _⟩
  · exact ⟨St.Alike.refl _, St.Alike.refl _⟩
theorem mvN_alike (l : List Int) (t : Tw) : St.Alike t.x (mvN t l).1.x ∧ St.Alike t.y (mvN t l).1.y := by
  have : ∀ (l : List Int) (s : Tw × Nat), St.Alike s.1.x (l.foldl mvF s).1.x ∧ St.Alike s.1.y (l.foldl mvF s).1.y := by
    intro l
    induction l with
    | nil => exact fun s => ⟨St.Alike.refl _, St.Alike.refl _⟩
    | cons a r ih =>
      intro s
      have h1 := ih (mvF s a)
      have h2 := mvS_alike s.1 a
      exact ⟨h2.1.trans h1.1, h2.2.trans h1.2⟩
  exact this l (t, 0)
theorem stepA_alike (t : Tw) (x : Ac) : St.Alike t.x (stepA t x).x ∧ St.Alike t.y (stepA t x).y := by
  unfold stepA
  repeat' split
  · exact ⟨enS_alike _ _, St.Alike.refl _⟩
  · exact ⟨disS_alike _ _, St.Alike.refl _⟩
  · exact ⟨setV_alike _ _ _ _, St.Alike.refl _⟩
  · exact ⟨invV_alike _ _ _, St.Alike.refl _⟩
  · exact ⟨invTo_alike _ _ _, St.Alike.refl _⟩
  · exact ⟨St.Alike.refl _, St.Alike.refl _⟩
  · exact mvS_alike _ _
  · exact mvN_alike _ _
  · exact ⟨St.Alike.refl _, St.Alike.refl _⟩
theorem stepT_alike (t : Tw) (x : Ac) : St.Alike t.x (stepT t x).x ∧ St.Alike t.y (stepT t x).y := by
  unfold stepT; split
  · exact ⟨(stepA_alike (sw t) x).2, (stepA_alike (sw t) x).1⟩
  · exact stepA_alike t x
theorem move_self_pr {w0 : World} {N : Nat → Prop} {p q l0 l1 d0 d1 : Nat} {t td : Tw} {W : World} (h : PrX w0 N p q l0 l1 d0 d1 t td W) (id : Int) : Calls Tryd.prog 29 #[.pointer (some ⟨p, 0, none⟩), .int .i64 id, .pointer (some ⟨l0, 0, none⟩), .pointer (some ⟨l0, 0, none⟩)] W fun e W' => e = .returned (.bool false) ∧ Below W.heap.size W W' :=
  (move_self l0 p id W).mono (fun e W' ⟨h1, h2⟩ => ⟨h1, by rw [← h2]; exact Below.refl _ _⟩)

end Go.Proofs.YtobhdjepfhbgaaaDoor
