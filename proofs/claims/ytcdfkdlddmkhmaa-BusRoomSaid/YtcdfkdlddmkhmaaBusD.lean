/-
  slices.SortFunc and SortedFunc at spans, by their base.
-/
import Derived.Test.YtcdfkdlddmkhmaaBusC
namespace Go.Proofs.Ytcdfkdlddmkhmaa
open Go.ChangeShapes Go.WideShapes Go.ChangeAt Go.RowKit Go.Shelf Go.Lib
open Go.Sort (HoldsK size_putRowK get_flatK size_flatK flatK)
set_option linter.unusedVariables false
attribute [local go_sem] Oper.semAt_some

theorem agg_sp : ∀ w, (isAgg (Try.laysSlF06_f37_ren.t 24)).run Try.prog w = .ok true w := fun _ => by kernel_rfl
theorem size_sp : ∀ w, (Go.sizeOf (Try.laysSlF06_f37_ren.t 24)).run Try.prog w = .ok 4 w := fun _ => by kernel_rfl
theorem ltOf_base (x y : Sp) : ltOf (fun x y : Sp => cmpI x.b y.b) x y = decide (x.b < y.b) := by
  unfold ltOf cmpI
  by_cases h1 : x.b < y.b
  · simp [h1]
  · by_cases h2 : y.b < x.b <;> simp [h1, h2]
theorem swo_base : Go.Sort.SWO (ltOf fun x y : Sp => cmpI x.b y.b) where
  irrefl x := by rw [ltOf_base]; simp
  trans x y z h1 h2 := by rw [ltOf_base] at *; simp at *; omega
  ntrans x y z h1 h2 := by rw [ltOf_base] at *; simp at *; omega
theorem cmp_lays (blk off size : Nat) (w : World) : CmpLays Try.prog 26 #[] Sp.cs 4 (fun x y => cmpI x.b y.b) blk off size w := fun m os dk hs x y => by
  refine (byBase_any x y _).mono fun e w' ⟨he, hw⟩ => ⟨he, 0, #[.cells #[.int .i64 x.b, .int .i64 x.s, .int .i64 x.k, .int .i64 x.i] 33] ++ #[.cells #[.int .i64 y.b, .int .i64 y.s, .int .i64 y.k, .int .i64 y.i] 33], ?_⟩
  rw [hw, Go.Sort.alloc_eq_grow, Go.Sort.alloc_eq_grow, Go.Sort.grow_grow]
  rfl

theorem kept_sort {α : Type} [Inhabited α] (enc : α → List Value) (k : Nat) (w : World) (g off m : Nat) (dk : Array α) (os : Array Obj) : Kept (· = g) w (sortWorldK enc k w g off m dk os) := by
  refine ⟨rfl, rfl, rfl, ?_, fun i hi hn => ?_⟩
  · unfold sortWorldK
    rw [Go.Sort.size_grow, size_putRowK]
    exact Nat.le_add_right _ _
  · unfold sortWorldK
    rw [Go.Sort.heap_grow_old _ _ (by rw [size_putRowK]; exact hi)]
    show (w.heap.modify g _)[i]? = _
    rw [Array.getElem?_modify, if_neg (fun e => hn e.symm)]

theorem holdsK_of {W : World} {g : Nat} {xs : List Sp} (hc : SpCells W g 0 xs) (hf : ∀ o, W.frozen? ⟨g, o, none⟩ = false) : HoldsK Sp.cs 4 W g 0 xs.toArray := by
  intro t ht
  simp only [size_flatK, List.size_toArray] at ht
  have hj : t / 4 < xs.length := by omega
  refine ⟨?_, hf _⟩
  rw [get_flatK _ _ _ _ (by simpa using ht)]
  have hg : (xs.toArray)[t / 4]! = xs[t / 4] := by simp [hj]
  rw [hg]
  obtain ⟨c0, c1, c2, c3⟩ := hc (t / 4) xs[t / 4] (List.getElem?_eq_getElem hj)
  have h4 : t % 4 < 4 := Nat.mod_lt _ (by omega)
  have et : 0 + t = 0 + t / 4 * 4 + t % 4 := by omega
  rw [et]
  generalize t % 4 = r at h4
  match r, h4 with
  | 0, _ => exact c0
  | 1, _ => exact c1
  | 2, _ => exact c2
  | 3, _ => exact c3
theorem spCells_of_holds {W : World} {g : Nat} {d : Array Sp} (h : HoldsK Sp.cs 4 W g 0 d) : SpCells W g 0 d.toList := fun j x hx => by
  obtain ⟨hj, hx'⟩ := List.getElem?_eq_some_iff.1 hx
  have hj' : j < d.size := by simpa using hj
  have hd : d[j]! = x := by
    rw [getElem!_pos d j hj']
    simpa using hx'
  have K : ∀ c, c < 4 → W.cell? ⟨g, 0 + j * 4 + c, none⟩ = some (Sp.cs d[j]!)[c]! := fun c hc => (h.cell hj' hc).1
  rw [hd] at K
  exact ⟨K 0 (by omega), K 1 (by omega), K 2 (by omega), K 3 (by omega)⟩

theorem sort_any (g cap : Nat) (xs : List Sp) (w : World) (hc : SpCells w g 0 xs) (hf : ∀ o, w.frozen? ⟨g, o, none⟩ = false) (hg : g < w.heap.size) (hl : xs.length ≤ 4398046511104) :
    Calls Try.prog 37 #[.slice (some ⟨g, 0, none⟩) xs.length cap, .func (.func 26) #[] #[]] w fun e w' =>
      e = .returned (.tuple #[]) ∧ ∃ ys : List Sp, ys.Perm xs ∧ ys.Pairwise Lo ∧ SpCells w' g 0 ys ∧ Kept (· = g) w w' := by
  have hH := holdsK_of hc hf
  refine (Try.slices_SortFunc 4 agg_sp size_sp Sp.cs (fun _ => rfl) (fun x v hv => by simp [Sp.cs] at hv; rcases hv with rfl | rfl | rfl | rfl <;> rfl) (fun x y => cmpI x.b y.b) swo_base 26 #[] g 0 cap xs.toArray w (enters_of Try.func26 (by kernel_rfl) rfl) (cmp_lays g 0 _ w) hH hg (by simp; omega)).mono ?_
  rintro e w' ⟨rfl, d', n, os, ⟨hsz, _, hperm⟩, hsort, rfl⟩
  have hsz' : d'.size = xs.length := by simpa using hsz
  refine ⟨rfl, d'.toList, ?_, ?_, ?_, kept_sort _ _ _ _ _ _ _ _⟩
  · have e1 : d'.extract 0 xs.toArray.size = d' := by simp [← hsz']
    have e2 : xs.toArray.extract 0 xs.toArray.size = xs.toArray := by simp
    rw [e1, e2] at hperm
    simpa using hperm
  · refine sorted_of fun i j hi hj hij => ?_
    have := hsort i j (Nat.zero_le _) hij (by simpa [hsz'] using hj)
    rw [ltOf_base, getElem!_pos d' j (by simpa using hj), getElem!_pos d' i (by simpa using hi)] at this
    have h2 : ¬ d'[j].b < d'[i].b := by simpa using this
    simp only [Array.getElem_toList]
    omega
  · exact spCells_of_holds (holdsK_sortWorldK Sp.cs 4 w g 0 n xs.toArray d' os hg hH (by simpa using hsz))
theorem sort_none (p : Option Addr) (cap : Nat) (w : World) :
    Calls Try.prog 37 #[.slice p 0 cap, .func (.func 26) #[] #[]] w fun e w' => e = .returned (.tuple #[]) ∧ w' = w :=
  Try.slices_SortFunc_none (α := Sp) p cap _ w

def SortedPost (xs : List Sp) (w : World) (e : Ending) (w' : World) : Prop := ∃ (v : Value) (ys : List Sp), e = .returned v ∧ ys.Perm xs ∧ ys.Pairwise Lo ∧ SpIn w.heap.size w'.heap.size w' v ys ∧ Below w.heap.size w w'

set_option maxHeartbeats 2000000 in
theorem sorted_any (Bs lo n₀ : Nat) (sv : Value) (xs : List Sp) (w : World) (hBs : Bs < w.heap.size) (hc : w.cell? ⟨Bs, 0, none⟩ = some sv) (h : SpIn lo n₀ w sv xs) (hn₀ : n₀ ≤ w.heap.size) :
    Calls Try.prog 24 #[.func (.func 38) #[] #[.pointer (some ⟨Bs, 0, none⟩)], .func (.func 26) #[] #[]] w (SortedPost xs w) := by
  have HA := hi (collect_any Bs lo n₀ sv xs w hBs hc h hn₀)
  have hl := h.len
  have hfair := h.fair
  have HF := hi hfair
  have HL := hi hl
  clear hc h hfair hl
  go_enter Try.func24, Try.ntmps24
  go_wp2_with (go_at_call 36; ((with_reducible refine HA.out.mono ?_); rintro e w1 ⟨v, rfl, hr, hb⟩; have HR := hi hr; have HB := hi hb; clear hr hb))
  rcases HR.out.2 with ⟨rfl, h0⟩ | ⟨g, cap, cur, rfl, hgb, hgh, _⟩
  · have hx : xs = [] := List.length_eq_zero_iff.1 h0
    subst hx
    go_wp2_with (go_at_call 37; ((with_reducible refine (sort_none _ _ _).mono ?_); rintro e w2 ⟨rfl, rfl⟩))
    go_ret
    exact ⟨_, [], rfl, List.Perm.refl _, List.Pairwise.nil, ⟨none, 0, rfl, by simp, by simp, fun hne => absurd rfl hne⟩, HB.out⟩
  · have HS := hi (sort_any g cap xs w1 (spCells_of_own HR.out) (fun o => by simp [World.frozen?, hgh]) (Array.getElem?_eq_some_iff.1 hgh).1 HL.out)
    obtain ⟨n, hn⟩ : ∃ n, xs.length = n := ⟨_, rfl⟩
    have HN := hi hn
    rw [hn] at HS ⊢
    clear hn hgh
    go_wp2_with (go_at_call 37; ((with_reducible refine HS.out.mono ?_); rintro e w2 ⟨rfl, ys, hp, hs, hcl, hk⟩; have HP := hi hp; have HC := hi hcl; have HK := hi hk; have HSS := hi hs; clear hp hs hcl hk))
    go_ret
    refine ⟨.slice (some ⟨g, 0, none⟩) n cap, ys, rfl, HP.out, HSS.out, ⟨_, cap, by rw [HP.out.length_eq, HN.out], by rw [HP.out.length_eq]; exact HL.out, fun x hx => HF.out x (HP.out.mem_iff.1 hx), fun hne => ⟨g, 0, rfl, hgb, HC.out.lt hne, HC.out⟩⟩, ?_⟩
    exact HB.out.trans (HK.out.toBelow HB.out.size (fun k (e : k = g) => by omega))

end Go.Proofs.Ytcdfkdlddmkhmaa
