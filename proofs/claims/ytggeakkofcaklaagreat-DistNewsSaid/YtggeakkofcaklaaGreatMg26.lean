import Derived.Test.YtggeakkofcaklaaGreatMg17
import Derived.Test.YtggeakkofcaklaaGreatMg25
namespace Go.Proofs.YtggeakkofcaklaaGreat
open Go.ChangeShapes Go.WideShapes Go.ChangeAt Go.RowKit Go.Shelf
set_option linter.unusedVariables false
structure Col (w : World) (o : Value) (xs : List Int) (W : World) : Prop where
  own : W.ownsRow w.heap.size 3 1 o xs.length (xs.map (Value.int .i64))
  below : Below w.heap.size w W
theorem Col.sz {w W : World} {o : Value} {xs : List Int} (h : Col w o xs W) : w.heap.size ≤ W.heap.size := h.below.size
theorem Col.nil (w W : World) (h : Below w.heap.size w W) : Col w (.slice none 0 0) [] W := ⟨World.ownsRow_nil _ _ _ _, h⟩
theorem Col.app {w W w1 : World} {o v' : Value} {xs : List Int} {x : Int} {tmp : Obj} (h : Col w o xs W)
    (hown : w1.ownsRow w.heap.size 3 1 v' (xs.length + 1) (xs.map (Value.int .i64) ++ [.int .i64 x])) (hg : (W.alloc tmp).grownBy w1 o.ownBlock) :
    Col w v' (xs ++ [x]) w1 ∧ ∃ g cap, v' = .slice (some ⟨g, 0, none⟩) (xs.length + 1) cap := by
  refine ⟨⟨by simpa using hown, ?_⟩, ownsRow_succ hown⟩
  refine Below.grown (h.below.alloc h.sz _) hg (by have := h.sz; simp; omega) (fun k e => (h.own.lt k e).1)
theorem Col.some {w W : World} {o : Value} {xs : List Int} (h : Col w o xs W) : SomeInts w xs (.returned o) W := someInts_of (base := w.heap.size) h.own h.below
def NotUpto (xs : List Int) (x : Int) (k : Nat) : Prop := ∀ j, j < k → xs[j]?.getD 0 ≠ x
theorem NotUpto.zero (xs : List Int) (x : Int) : NotUpto xs x 0 := fun j h => by omega
theorem NotUpto.succ {xs : List Int} {x : Int} {k : Nat} (h : NotUpto xs x k) (e : xs[k]?.getD 0 ≠ x) : NotUpto xs x (k + 1) := fun j hj => by
  by_cases y : j = k
  · subst y; exact e
  · exact h j (by omega)
end Go.Proofs.YtggeakkofcaklaaGreat
namespace Go.Proofs.YtggeakkofcaklaaGreat
open Go.ChangeShapes Go.WideShapes Go.ChangeAt Go.RowKit Go.Shelf
set_option linter.unusedVariables false
def inG (D : Ds) (k : Nat) (id g : Int) : Bool := (nthE (D.nth k).es id.toNat).ln.g == g
def callStep (id g : Int) (q : Ds × Nat) (k : Nat) : Ds × Nat := if inG q.1 k id g then (q.1.setOwn k (doR 0 (q.1.nth k).es id 3).1, q.2 + 1) else q
def callL (D : Ds) (id g : Int) (ks : List Nat) : Ds × Nat := ks.foldl (callStep id g) (D, 0)
theorem callL_snoc (D : Ds) (id g : Int) (ks : List Nat) (k : Nat) : callL D id g (ks ++ [k]) = callStep id g (callL D id g ks) k := by simp [callL]
def callDV (D : Ds) (fr g : Int) (v : Nat) : (Ds × Nat) × Int :=
  if hasN D.cs.length fr then (callL D (decV v).id g (toL (decV v) fr D.cs.length), 0) else ((D, 0), 130)
theorem callStep_len (id g : Int) (q : Ds × Nat) (k : Nat) : (callStep id g q k).1.cs.length = q.1.cs.length := by
  unfold callStep
  split
  · exact Ds.own_len _ _ _
  · rfl
theorem callL_len (D : Ds) (id g : Int) : ∀ ks : List Nat, (callL D id g ks).1.cs.length = D.cs.length :=
  list_snoc (P := fun ks => (callL D id g ks).1.cs.length = D.cs.length) rfl (fun r k ih => by rw [callL_snoc, callStep_len, ih])
theorem callL_count (D : Ds) (id g : Int) : ∀ ks : List Nat, (callL D id g ks).2 ≤ ks.length :=
  list_snoc (P := fun ks => (callL D id g ks).2 ≤ ks.length) (Nat.le_refl _) (fun r k ih => by
    rw [callL_snoc, List.length_append]
    unfold callStep
    split
    · simpa using ih
    · exact Nat.le_trans ih (Nat.le_add_right _ _))
theorem callStep_ok {id g : Int} {q : Ds × Nat} {k : Nat} (ok : q.1.Ok) (hk : k < q.1.cs.length) : (callStep id g q k).1.Ok := by
  unfold callStep
  split
  · exact ok.setOwn hk (by rw [doR_len]; exact ok.own k hk) (doR_fine (ok.fine k hk))
  · exact ok
theorem callL_ok {D : Ds} (ok : D.Ok) (id g : Int) : ∀ ks : List Nat, (∀ k ∈ ks, k < D.cs.length) → (callL D id g ks).1.Ok :=
  list_snoc (P := fun ks => (∀ k ∈ ks, k < D.cs.length) → (callL D id g ks).1.Ok) (fun _ => ok) (fun r k ih hr => by
    rw [callL_snoc]
    exact callStep_ok (ih (fun x hx => hr x (List.mem_append_left _ hx))) (by rw [callL_len]; exact hr k (by simp)))
theorem toL_in {c : Cl} {fr : Int} {n : Nat} {k : Nat} (h : k ∈ toL c fr n) : k < n := by
  have h1 := ((mem_upto _ _ _).1 h).1
  unfold capN at h1
  omega
theorem callDV_ok {D : Ds} (ok : D.Ok) (fr g : Int) (v : Nat) : (callDV D fr g v).1.1.Ok := by
  unfold callDV
  split
  · exact callL_ok ok _ _ _ (fun k h => toL_in h)
  · exact ok
def NewInts (B : Nat) (a : Option Addr) (xs : List Int) (W : World) : Prop := xs ≠ [] → ∃ g, a = some ⟨g, 0, none⟩ ∧ B ≤ g ∧ Row W g 3 (xs.map (Value.int .i64))
theorem Col.new {w W : World} {o : Value} {xs : List Int} (h : Col w o xs W) : ∃ a cap, o = .slice a xs.length cap ∧ NewInts w.heap.size a xs W := by
  rcases h.own.2 with ⟨e, e2⟩ | ⟨g, cap, cur, e, hb, hg, h1, h2, h3, h4⟩
  · rw [e, e2]
    exact ⟨none, 0, rfl, fun hne => absurd (List.length_eq_zero_iff.1 e2) hne⟩
  · exact ⟨_, _, e, fun _ => ⟨g, rfl, hb, cur, hg, by rw [← h4]; exact List.take_prefix _ _⟩⟩
theorem NewInts.kept {B : Nat} {a : Option Addr} {xs : List Int} {W W' : World} (h : NewInts B a xs W) {bs : Nat → Prop} (k : Kept bs W W') (hb : ∀ i, bs i → i < B) : NewInts B a xs W' := fun hne => by
  obtain ⟨g, e, hg, hr⟩ := h hne
  exact ⟨g, e, hg, hr.kept k (fun q => by have := hb _ q; omega)⟩
theorem NewInts.below {B : Nat} {a : Option Addr} {xs : List Int} {W W' : World} (h : NewInts B a xs W) (k : Below W.heap.size W W') : NewInts B a xs W' := fun hne => by
  obtain ⟨g, e, hg, hr⟩ := h hne
  exact ⟨g, e, hg, hr.below k⟩
end Go.Proofs.YtggeakkofcaklaaGreat
namespace Go.Proofs.YtggeakkofcaklaaGreat
open Go.ChangeShapes Go.WideShapes Go.ChangeAt Go.RowKit Go.Shelf
set_option linter.unusedVariables false
attribute [local go_sem] Oper.semAt_some
section
variable {w : World} {lo hi' : Nat} {b c : Nat → Nat} {D : Ds}
theorem dec_id (v : Nat) : (decV v).id = ((v / 2 ^ 24 % 16 : Nat) : Int) := rfl
end
end Go.Proofs.YtggeakkofcaklaaGreat
