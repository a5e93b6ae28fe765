import Derived.Test.YtggeakkofcaklaaGreatMg39
import Derived.Test.YtggeakkofcaklaaGreatMg38
namespace Go.Proofs.YtggeakkofcaklaaGreat
open Go.ChangeShapes Go.WideShapes Go.ChangeAt Go.RowKit Go.Shelf
set_option linter.unusedVariables false
attribute [local go_sem] Oper.semAt_some
instance : Inhabited Xa := ⟨⟨0, 0, 0, 0, 0, 0, St.zero, false⟩⟩
structure XaC (W : World) (b o : Nat) (x : Xa) : Prop where
  c0 : W.cell? ⟨b, o, none⟩ = some (.int .i64 x.d)
  c1 : W.cell? ⟨b, o + 1, none⟩ = some (.int .i64 x.off)
  c2 : W.cell? ⟨b, o + 2, none⟩ = some (.int .i64 x.k)
  c3 : W.cell? ⟨b, o + 3, none⟩ = some (.int .i64 x.id)
  c4 : W.cell? ⟨b, o + 4, none⟩ = some (.int .u64 x.v)
  c5 : W.cell? ⟨b, o + 5, none⟩ = some (.int .i64 x.a)
  c6 : W.cell? ⟨b, o + 6, none⟩ = some (.bool x.s.e)
  c7 : W.cell? ⟨b, o + 7, none⟩ = some (.bool x.s.l)
  c8 : W.cell? ⟨b, o + 8, none⟩ = some (.bool x.s.h)
  c9 : W.cell? ⟨b, o + 9, none⟩ = some (.bool x.s.a)
  c10 : W.cell? ⟨b, o + 10, none⟩ = some (.bool x.hi)
theorem XaC.below {w W : World} {b o : Nat} {x : Xa} (h : XaC w b o x) (k : Below w.heap.size w W) (hb : b < w.heap.size) : XaC W b o x :=
  have K : ∀ j v, w.cell? ⟨b, j, none⟩ = some v → W.cell? ⟨b, j, none⟩ = some v := fun j v e => (k.cell (p := ⟨b, j, none⟩) hb).trans e
  ⟨K _ _ h.c0, K _ _ h.c1, K _ _ h.c2, K _ _ h.c3, K _ _ h.c4, K _ _ h.c5, K _ _ h.c6, K _ _ h.c7, K _ _ h.c8, K _ _ h.c9, K _ _ h.c10⟩
def nthA (xs : List Xa) (k : Nat) : Xa := xs[k]?.getD default
def ActsAt (W : World) (v : Value) (xs : List Xa) : Prop :=
  ∃ (a : Option Addr) (cap : Nat), v = .slice a xs.length cap ∧ (xs ≠ [] → ∃ b off : Nat, a = some ⟨b, off, none⟩ ∧ b < W.heap.size ∧ ∀ j, j < xs.length → (nthA xs j).Ok ∧ XaC W b (off + j * 11) (nthA xs j))
theorem ActsAt.slice {W : World} {v : Value} {xs : List Xa} (h : ActsAt W v xs) : ∃ a cap, v = .slice a xs.length cap := by obtain ⟨a, cap, e, _⟩ := h; exact ⟨a, cap, e⟩
theorem ActsAt.below {w W : World} {v : Value} {xs : List Xa} (h : ActsAt w v xs) (k : Below w.heap.size w W) : ActsAt W v xs := by
  obtain ⟨a, cap, e, hc⟩ := h
  exact ⟨a, cap, e, fun hne => by
    obtain ⟨b, o, ha, hb, hcs⟩ := hc hne
    exact ⟨b, o, ha, Nat.lt_of_lt_of_le hb k.size, fun j hj => ⟨(hcs j hj).1, (hcs j hj).2.below k hb⟩⟩⟩
structure TwW (w : World) (p q r s : Nat) (b c b' c' : Nat → Nat) (D : Ds) (W : World) : Prop where
  tw : TwD W p q r s b c b' c' D
  ok : D.Ok
  lo : w.heap.size ≤ p ∧ w.heap.size ≤ r
  below : Below w.heap.size w W
section
variable {w W W' : World} {p q r s : Nat} {b c b' c' : Nat → Nat} {D D' : Ds}
theorem TwW.later (h : TwW w p q r s b c b' c' D W) (k : Below W.heap.size W W') : TwW w p q r s b c b' c' D W' := ⟨h.tw.below k, h.ok, h.lo, h.below.trans (k.mono h.below.size)⟩
theorem TwW.act (h : TwW w p q r s b c b' c' D W) (k : TwAf W p q r s b c b' c' D' W') (ok : D'.Ok) : TwW w p q r s b c b' c' D' W' :=
  ⟨k.tw, ok, h.lo, h.below.trans (k.kept.toBelow h.below.size (fun i z => by rcases z with z | z <;> have := z.1 <;> have := h.lo <;> omega))⟩
end
end Go.Proofs.YtggeakkofcaklaaGreat
