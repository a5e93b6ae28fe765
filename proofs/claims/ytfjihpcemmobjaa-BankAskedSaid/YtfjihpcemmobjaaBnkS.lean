/-
  Candidates compared, and sorted: slices.SortFunc by the package's order.
-/
import Derived.Test.YtfjihpcemmobjaaBnkN
import Derived.Test.YtfjihpcemmobjaaSort
namespace Go.Proofs.Ytfjihpcemmobjaa
open Go.ChangeShapes Go.WideShapes Go.ChangeAt Go.RowKit Go.Shelf Go.Lib
open Go.Sort (HoldsK size_putRowK get_flatK size_flatK flatK)
set_option linter.unusedVariables false
attribute [local go_sem] Oper.semAt_some

theorem alloc4 (w : World) (a b c d : Obj) : (((w.alloc a).alloc b).alloc c).alloc d = Go.Sort.grow w #[a, b, c, d] := by
  rw [Go.Sort.alloc_eq_grow, Go.Sort.alloc_eq_grow, Go.Sort.alloc_eq_grow, Go.Sort.alloc_eq_grow, Go.Sort.grow_grow, Go.Sort.grow_grow, Go.Sort.grow_grow]
  rfl
theorem alloc6 (w : World) (a b c d e f : Obj) : (((((w.alloc a).alloc b).alloc c).alloc d).alloc e).alloc f = Go.Sort.grow w #[a, b, c, d, e, f] := by
  rw [alloc4, Go.Sort.alloc_eq_grow, Go.Sort.alloc_eq_grow, Go.Sort.grow_grow, Go.Sort.grow_grow]
  rfl

set_option maxHeartbeats 2000000 in
theorem order_any (x y : Cd) (w : World) : Calls Try.prog 45 #[x.v, y.v] w fun e w' => e = .returned (.int .i64 (ordC x y)) ∧ ∃ os, w' = Go.Sort.grow w os := by
  have H1 := hi (fun W => bef_any x y W)
  have H2 := hi (fun W => bef_any y x W)
  obtain ⟨r, hr⟩ : ∃ r, befC x y = r := ⟨_, rfl⟩
  obtain ⟨s, hs⟩ : ∃ s, befC y x = s := ⟨_, rfl⟩
  have HO := hi (show ordC x y = if r then -1 else if s then 1 else 0 by rw [← hr, ← hs]; rfl)
  rw [hr] at H1
  rw [hs] at H2
  clear hr hs
  obtain ⟨i, p, g, b⟩ := x
  obtain ⟨i2, p2, g2, b2⟩ := y
  have HB := hi (fun W (hW : Below ((w.alloc (.cells #[.int .i64 i, .int .i64 p, .int .i64 g, .bool b] 51)).alloc (.cells #[.int .i64 i2, .int .i64 p2, .int .i64 g2, .bool b2] 51)).heap.size ((w.alloc (.cells #[.int .i64 i, .int .i64 p, .int .i64 g, .bool b] 51)).alloc (.cells #[.int .i64 i2, .int .i64 p2, .int .i64 g2, .bool b2] 51)) W) => box_call2 hW)
  dsimp only [Cd.v, Cd.cs] at *
  cases r
  · go_enter Try.func45, Try.ntmps45
    go_wp2_with (first
      | (go_at_call 42; ((with_reducible refine (H1.out _).mono ?_); rintro e w1 ⟨rfl, rfl⟩; obtain ⟨hb1, hb2, _⟩ := HB.out _ (bal_two _ (.cells #[.int .i64 i, .int .i64 p, .int .i64 g, .bool b] 51) (.cells #[.int .i64 i2, .int .i64 p2, .int .i64 g2, .bool b2] 51)); have a0 := hb1.cell 0; have a1 := hb1.cell 1; have a2 := hb1.cell 2; have a3 := hb1.cell 3; have c0 := hb2.cell 0; have c1 := hb2.cell 1; have c2 := hb2.cell 2; have c3 := hb2.cell 3; clear hb1 hb2))
      | (go_at_call 42; ((with_reducible refine (H2.out _).mono ?_); rintro e w2 ⟨rfl, rfl⟩)))
    · have hq : s = true := by assumption
      go_ret
      exact ⟨by rw [HO.out, hq]; rfl, _, alloc6 _ _ _ _ _ _ _⟩
    · have hq : s = false := by first | assumption | (simpa using (by assumption))
      go_ret
      exact ⟨by rw [HO.out, hq]; rfl, _, alloc6 _ _ _ _ _ _ _⟩
  · go_enter Try.func45, Try.ntmps45
    go_wp2_with (go_at_call 42; ((with_reducible refine (H1.out _).mono ?_); rintro e w1 ⟨rfl, rfl⟩))
    go_ret
    exact ⟨by rw [HO.out]; rfl, _, alloc4 _ _ _ _ _⟩

theorem befC_iff {x y : Cd} : befC x y = true ↔ x.p < y.p ∨ (x.p = y.p ∧ x.id < y.id) := by simp [befC, beforeB]
theorem befC_irr (x : Cd) : befC x x = false := by
  cases h : befC x x
  · rfl
  · rw [befC_iff] at h; omega
theorem befC_trans {x y z : Cd} (h1 : befC x y = true) (h2 : befC y z = true) : befC x z = true := by rw [befC_iff] at *; omega
theorem befC_ntrans {x y z : Cd} (h1 : befC x y = false) (h2 : befC y z = false) : befC x z = false := by
  cases h : befC x z
  · rfl
  · have n1 : ¬ befC x y = true := by simp [h1]
    have n2 : ¬ befC y z = true := by simp [h2]
    rw [befC_iff] at h n1 n2; omega
theorem ltOf_ord (x y : Cd) : ltOf ordC x y = befC x y := by
  unfold ltOf ordC
  cases h : befC x y
  · cases h2 : befC y x <;> simp
  · simp
theorem swo_ord : Go.Sort.SWO (ltOf ordC) where
  irrefl x := by rw [ltOf_ord]; exact befC_irr x
  trans x y z h1 h2 := by rw [ltOf_ord] at *; exact befC_trans h1 h2
  ntrans x y z h1 h2 := by rw [ltOf_ord] at *; exact befC_ntrans h1 h2

def Cd.cl (x : Cd) : List Value := [.int .i64 x.id, .int .i64 x.p, .int .i64 x.g, .bool x.is]
theorem cd_len (x : Cd) : x.cl.length = 4 := rfl
abbrev flC (xs : List Cd) : List Value := flat Cd.cl xs
theorem flC_len (xs : List Cd) : (flC xs).length = xs.length * 4 := flat_len cd_len xs
theorem cd_one (x : Cd) : ∀ v ∈ x.cl, v.oneCell' = true := by
  intro v hv
  simp only [Cd.cl, List.mem_cons, List.not_mem_nil, or_false] at hv
  rcases hv with rfl | rfl | rfl | rfl <;> rfl
theorem cmp_lays (blk off size : Nat) (w : World) : CmpLays Try.prog 45 #[] Cd.cl 4 ordC blk off size w := fun m os dk hs x y =>
  (order_any x y _).mono fun e w' ⟨he, os', hw⟩ => ⟨he, 0, os', hw⟩
theorem agg_cd : ∀ w, (isAgg (Try.laysSlF06_f44_ren.t 24)).run Try.prog w = .ok true w := fun _ => by kernel_rfl
theorem size_cd : ∀ w, (Go.sizeOf (Try.laysSlF06_f44_ren.t 24)).run Try.prog w = .ok 4 w := fun _ => by kernel_rfl

theorem kept_sort {α : Type} [Inhabited α] (enc : α → List Value) (k : Nat) (w : World) (g off m : Nat) (dk : Array α) (os : Array Obj) : Kept (· = g) w (sortWorldK enc k w g off m dk os) := by
  refine ⟨rfl, rfl, rfl, ?_, fun i hi hn => ?_⟩
  · unfold sortWorldK
    rw [Go.Sort.size_grow, size_putRowK]
    exact Nat.le_add_right _ _
  · unfold sortWorldK
    rw [Go.Sort.heap_grow_old _ _ (by rw [size_putRowK]; exact hi)]
    show (w.heap.modify g _)[i]? = _
    rw [Array.getElem?_modify, if_neg (fun e => hn e.symm)]
theorem holdsK_row {W : World} {g : Nat} {t : TypeId} {xs : List Cd} (h : Row W g t (flC xs)) : HoldsK Cd.cl 4 W g 0 xs.toArray := by
  intro t ht
  simp only [size_flatK, List.size_toArray] at ht
  have hj : t / 4 < xs.length := by omega
  refine ⟨?_, h.frozen _⟩
  rw [get_flatK _ _ _ _ (by simpa using ht)]
  have hg : (xs.toArray)[t / 4]! = xs[t / 4] := by simp [hj]
  rw [hg]
  have h4 : t % 4 < 4 := Nat.mod_lt _ (by omega)
  have et : 0 + t = t / 4 * 4 + t % 4 := by omega
  rw [et, h.cell (by rw [flC_len]; omega), flat_get cd_len xs (t / 4) (t % 4) xs[t / 4] h4 (List.getElem?_eq_getElem hj)]
  generalize t % 4 = r at h4
  match r, h4 with
  | 0, _ => rfl
  | 1, _ => rfl
  | 2, _ => rfl
  | 3, _ => rfl
/-- The candidates' cells, in a block. -/
def CdCells (W : World) (g : Nat) (xs : List Cd) : Prop := ∀ j x, xs[j]? = some x →
  W.cell? ⟨g, j * 4, none⟩ = some (.int .i64 x.id) ∧ W.cell? ⟨g, j * 4 + 1, none⟩ = some (.int .i64 x.p) ∧ W.cell? ⟨g, j * 4 + 2, none⟩ = some (.int .i64 x.g) ∧ W.cell? ⟨g, j * 4 + 3, none⟩ = some (.bool x.is)
theorem CdCells.heap {W W' : World} {g : Nat} {xs : List Cd} (h : CdCells W g xs) (e : W'.heap[g]? = W.heap[g]?) : CdCells W' g xs := fun j x hx => by
  obtain ⟨c0, c1, c2, c3⟩ := h j x hx
  exact ⟨(World.cell?_of_block (w := W) (a := ⟨g, j * 4, none⟩) e).trans c0, (World.cell?_of_block (w := W) (a := ⟨g, j * 4 + 1, none⟩) e).trans c1, (World.cell?_of_block (w := W) (a := ⟨g, j * 4 + 2, none⟩) e).trans c2, (World.cell?_of_block (w := W) (a := ⟨g, j * 4 + 3, none⟩) e).trans c3⟩
theorem cdCells_of_holds {W : World} {g : Nat} {d : Array Cd} (h : HoldsK Cd.cl 4 W g 0 d) : CdCells W g d.toList := fun j x hx => by
  obtain ⟨hj, hx'⟩ := List.getElem?_eq_some_iff.1 hx
  have hj' : j < d.size := by simpa using hj
  have hd : d[j]! = x := by
    rw [getElem!_pos d j hj']
    simpa using hx'
  have K : ∀ c, c < 4 → W.cell? ⟨g, 0 + j * 4 + c, none⟩ = some (Cd.cl d[j]!)[c]! := fun c hc => (h.cell hj' hc).1
  rw [hd] at K
  simp only [Nat.zero_add] at K
  exact ⟨K 0 (by omega), K 1 (by omega), K 2 (by omega), K 3 (by omega)⟩

/-- None stands ahead of one that is ahead of it. -/
def SortedC (ys : List Cd) : Prop := ys.Pairwise fun a b => befC b a = false
theorem sortedC_of {ys : List Cd} (h : ∀ i j (hi : i < ys.length) (hj : j < ys.length), i < j → befC ys[j] ys[i] = false) : SortedC ys :=
  List.pairwise_iff_getElem.2 fun i j hi hj hij => h i j hi hj hij

theorem sort_any (g cap n : Nat) (xs : List Cd) (w : World) (h : Row w g 51 (flC xs)) (hn : xs.length = n) (hl : n ≤ 4398046511104) :
    Calls Try.prog 44 #[.slice (some ⟨g, 0, none⟩) n cap, .func (.func 45) #[] #[]] w fun e w' =>
      e = .returned (.tuple #[]) ∧ ∃ ys : List Cd, ys.Perm xs ∧ SortedC ys ∧ CdCells w' g ys ∧ Kept (· = g) w w' := by
  subst hn
  have hH := holdsK_row h
  refine (Try.slices_SortFunc 4 agg_cd size_cd Cd.cl (fun _ => rfl) cd_one ordC swo_ord 45 #[] g 0 cap xs.toArray w (enters_of Try.func45 (by kernel_rfl) rfl) (cmp_lays g 0 _ w) hH h.lt (by simp; omega)).mono ?_
  rintro e w' ⟨rfl, d', n, os, ⟨hsz, _, hperm⟩, hsort, rfl⟩
  have hsz' : d'.size = xs.length := by simpa using hsz
  refine ⟨rfl, d'.toList, ?_, ?_, ?_, kept_sort _ _ _ _ _ _ _ _⟩
  · have e1 : d'.extract 0 xs.toArray.size = d' := by simp [← hsz']
    have e2 : xs.toArray.extract 0 xs.toArray.size = xs.toArray := by simp
    rw [e1, e2] at hperm
    simpa using hperm
  · refine sortedC_of fun i j hi hj hij => ?_
    have := hsort i j (Nat.zero_le _) hij (by simpa [hsz'] using hj)
    rw [ltOf_ord, getElem!_pos d' j (by simpa using hj), getElem!_pos d' i (by simpa using hi)] at this
    simpa using this
  · exact cdCells_of_holds (holdsK_sortWorldK Cd.cl 4 w g 0 n xs.toArray d' os h.lt hH (by simpa using hsz))
theorem sort_none (p : Option Addr) (cap : Nat) (w : World) :
    Calls Try.prog 44 #[.slice p 0 cap, .func (.func 45) #[] #[]] w fun e w' => e = .returned (.tuple #[]) ∧ w' = w :=
  Try.slices_SortFunc_none (α := Cd) p cap _ w

end Go.Proofs.Ytfjihpcemmobjaa
