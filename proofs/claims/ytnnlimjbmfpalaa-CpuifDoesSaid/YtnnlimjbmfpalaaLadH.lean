/-
  The law's All and only: what a loop goes through, in a slice of its own.
-/
import Derived.Test.YtnnlimjbmfpalaaLadG
import Derived.Test.YtnnlimjbmfpalaaInts
namespace Go.Proofs.Ytnnlimjbmfpalaa
open Go.ChangeShapes Go.WideShapes Go.ChangeAt Go.RowKit Go.Shelf
set_option linter.unusedVariables false
attribute [local go_sem] Oper.semAt_some

theorem info_i : (Try.prog.info? 3).map (fun i => (i.zero, i.size, i.bytes)) = some (some (.int .i64 0), 1, 8) := by kernel_rfl
theorem cell_two_new (w : World) (x y : Value) (t : TypeId) : ∀ j u, [x, y][j]? = some u → (w.alloc (.cells #[x, y] t)).cell? ((⟨w.heap.size, 0, none⟩ : Addr).add j) = some u := by
  intro j u h
  rw [add_mid_, Nat.zero_add, (CB.new w t #[x, y]).cell]
  match j, h with
  | 0, h => simpa using h
  | 1, h => simpa using h
  | j + 2, h => simp at h
def ints (xs : List Int) : List Value := xs.map (Value.int .i64)
theorem ints_append (a b : List Int) : ints (a ++ b) = ints a ++ ints b := by simp [ints]
theorem ownI_slice {W : World} {base : Nat} {v : Value} {n : Nat} {cs : List Value} (h : W.ownsRow base 3 1 v n cs) : ∃ a c, v = .slice a n c := by
  rcases h.2 with ⟨rfl, h0⟩ | ⟨g, cap, cur, rfl, _⟩
  · exact ⟨_, _, by rw [h0]⟩
  · exact ⟨_, _, rfl⟩
theorem ownI_base {W : World} {base base' : Nat} {v : Value} {n : Nat} {cs : List Value} (h : W.ownsRow base 3 1 v n cs) (hb : base' ≤ base) : W.ownsRow base' 3 1 v n cs := by
  rcases h with ⟨h0, h1 | ⟨g, cap, cur, e, hg, rest⟩⟩
  · exact ⟨h0, .inl h1⟩
  · exact ⟨h0, .inr ⟨g, cap, cur, e, Nat.le_trans hb hg, rest⟩⟩

/-- What a list of places is written as: priorities and groups, in turn. -/
def flat : List Nat → List Int
  | [] => []
  | i :: r => 8 * ((i : Int) / 2) :: (i : Int) % 2 :: flat r
theorem flat_append (a b : List Nat) : flat (a ++ b) = flat a ++ flat b := by
  induction a with
  | nil => rfl
  | cons x r ih => simp [flat, ih]
theorem flat_one (i : Nat) : flat [i] = [8 * ((i : Int) / 2), (i : Int) % 2] := rfl
theorem flat_len : ∀ xs : List Nat, (flat xs).length = 2 * xs.length
  | [] => rfl
  | x :: r => by simp [flat, flat_len r]; omega
def prs (xs : List Nat) : List Int := xs.map fun (i : Nat) => 8 * ((i : Int) / 2)
theorem prs_append (a b : List Nat) : prs (a ++ b) = prs a ++ prs b := by simp [prs]
theorem prs_one (i : Nat) : prs [i] = [8 * ((i : Int) / 2)] := rfl

/-- A row of numbers that grows, held in a box below it. -/
theorem grow_box {W w1 : World} {base b : Nat} {v v' : Value} {k m : Nat} {xs ys : List Value} {tmp : Obj}
    (hv : Boxed W b 90 v) (hrow : W.ownsRow base 3 1 v k xs) (hb : b < base) (hbase : base ≤ W.heap.size)
    (hown' : w1.ownsRow base 3 1 v' m ys) (hgrow : (W.alloc tmp).grownBy w1 v.ownBlock) :
    Boxed w1 b 90 v ∧ Boxed (w1.setCell ⟨b, 0, none⟩ v') b 90 v' ∧ (w1.setCell ⟨b, 0, none⟩ v').ownsRow base 3 1 v' m ys ∧ W.heap.size ≤ (w1.setCell ⟨b, 0, none⟩ v').heap.size ∧
    (∀ i, i < base → i ≠ b → (w1.setCell ⟨b, 0, none⟩ v').heap[i]? = W.heap[i]?) ∧ Below b W (w1.setCell ⟨b, 0, none⟩ v') := by
  have hrg : ∀ j, v.ownBlock = some j → base ≤ j := fun j ej => by
    rcases hrow.2 with ⟨rfl, _⟩ | ⟨g, cap, cur, rfl, hb, _, _⟩
    · simp [Value.ownBlock] at ej
    · obtain rfl : g = j := by simpa [Value.ownBlock] using ej
      exact hb
  have hrg' : ∀ j, v'.ownBlock = some j → base ≤ j := fun j ej => by
    rcases hown'.2 with ⟨rfl, _⟩ | ⟨g, cap, cur, rfl, hb, _, _⟩
    · simp [Value.ownBlock] at ej
    · obtain rfl : g = j := by simpa [Value.ownBlock] using ej
      exact hb
  have K1 : ∀ i, i < W.heap.size → v.ownBlock ≠ some i → w1.heap[i]? = W.heap[i]? := fun i h1 h2 => (hgrow.block i (by simp; omega) h2.symm).trans (Below.heap_alloc W tmp i h1)
  have K2 : ∀ i, i < W.heap.size → i ≠ b → v.ownBlock ≠ some i → (w1.setCell ⟨b, 0, none⟩ v').heap[i]? = W.heap[i]? := fun i h1 h2 h3 => (Below.heap_setCell _ _ _ i h2).trans (K1 i h1 h3)
  have hv1 : Boxed w1 b 90 v := (K1 b (by omega) (fun e => by have := hrg _ e; omega)).trans hv
  have hsz : W.heap.size ≤ w1.heap.size := by have := hgrow.size; simp at this; omega
  exact ⟨hv1, hv1.set v', hown'.kept (grownBy_setCell' w1 b v') (.inr (fun e => by have := hrg' _ e; omega)), by simpa using hsz,
    fun i h1 h2 => K2 i (by omega) h2 (fun e => by have := hrg _ e; omega),
    (((Below.refl b W).alloc (by omega) tmp).grown hgrow (by simp; omega) (fun j e => by have := hrg _ e; omega)).setCell (p := ⟨b, 0, none⟩) (Nat.le_refl _) v'⟩
theorem rowBox_abL {β : Type} (b B w : Nat) (hB : b < B) (k : β → Nat) (f : β → List Value) : AbL B w (fun s W => ∃ v, Boxed W b 90 v ∧ W.ownsRow (B + 2 + w) 3 1 v (k s) (f s)) := fun s A A' row hs hg hr => by
  obtain ⟨v, h1, h2⟩ := hs
  refine ⟨v, h1.kept hg (fun e => by rcases hr b e.symm with ⟨h3, _⟩ | ⟨h3, _⟩ <;> omega), h2.kept hg ?_⟩
  rcases h2.2 with ⟨rfl, _⟩ | ⟨g, cap, cur, rfl, hb, hgb, _⟩
  · exact .inl rfl
  · refine .inr fun e' => ?_
    rcases hr g (by simpa [Value.ownBlock] using e'.symm) with ⟨h3, h4, _⟩ | ⟨h3, h4⟩ <;> omega

/-- A slice that owns these numbers, in a row of the call's own. -/
def OwnsInts (w W' : World) (v : Value) (xs : List Int) : Prop := W'.ownsRow w.heap.size 3 1 v xs.length (ints xs)

theorem KpO.put {c B : Nat} {W : World} {l : Nat} {o' : Obj} (h1 : c + 2 ≤ l) (h2 : l < B) : KpO c B W (W.putObj l o') := ⟨by simp, fun i hi => World.putObj_heap_other (by omega)⟩
theorem onlyL_len (f : Rg) (g : Int) : (onlyL f g).length ≤ 64 := Nat.le_trans (List.length_filter_le _ _) (rungs_len f)

end Go.Proofs.Ytnnlimjbmfpalaa
