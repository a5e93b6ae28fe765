/-
  Package bank in memory: the bank's block, its entries' row. Has.
-/
import Derived.Test.YtjgamfonpagkbaaBnkA
import Derived.Test.YtjgamfonpagkbaaBnkR
import Derived.Sort.QuietTacIn
namespace Go.Proofs.Ytjgamfonpagkbaa
open Go.ChangeShapes Go.WideShapes Go.ChangeAt Go.RowKit
set_option linter.unusedVariables false

theorem ln_len (x : Ln) : x.cs.length = 7 := rfl
theorem en_len (x : En) : x.cs.length = 8 := rfl
abbrev flE (es : List En) : List Value := flat En.cs es
abbrev flL (es : List En) : List Value := flat (fun x : En => x.ln.cs) es
abbrev flX (es : List En) : List Value := flat (fun x : En => [Value.string x.s]) es
theorem flE_len (es : List En) : (flE es).length = es.length * 8 := flat_len en_len es
theorem flL_len (es : List En) : (flL es).length = es.length * 7 := flat_len (fun x => ln_len x.ln) es
theorem flX_len (es : List En) : (flX es).length = es.length := by rw [flX, flat_len (m := 1) (fun _ => rfl), Nat.mul_one]
theorem en_one (x : En) : ∀ v ∈ x.cs, v.oneCell' = true := by
  intro v hv
  simp only [En.cs, List.mem_cons, List.not_mem_nil, or_false] at hv
  rcases hv with rfl | rfl | rfl | rfl | rfl | rfl | rfl | rfl <;> rfl
theorem ln_one (x : Ln) : ∀ v ∈ x.cs, v.oneCell' = true := by
  intro v hv
  simp only [Ln.cs, List.mem_cons, List.not_mem_nil, or_false] at hv
  rcases hv with rfl | rfl | rfl | rfl | rfl | rfl | rfl <;> rfl

/-- One entry's cells. -/
structure EnC (W : World) (g o : Nat) (x : En) : Prop where
  c0 : W.cell? ⟨g, o, none⟩ = some (.bool x.ln.st.e)
  c1 : W.cell? ⟨g, o + 1, none⟩ = some (.bool x.ln.st.l)
  c2 : W.cell? ⟨g, o + 2, none⟩ = some (.bool x.ln.st.h)
  c3 : W.cell? ⟨g, o + 3, none⟩ = some (.bool x.ln.st.a)
  c4 : W.cell? ⟨g, o + 4, none⟩ = some (.bool x.ln.en)
  c5 : W.cell? ⟨g, o + 5, none⟩ = some (.int .i64 x.ln.g)
  c6 : W.cell? ⟨g, o + 6, none⟩ = some (.int .i64 x.ln.p)
  c7 : W.cell? ⟨g, o + 7, none⟩ = some (.string x.s)
theorem Row.ent {W : World} {g : Nat} {t : TypeId} {es : List En} (h : Row W g t (flE es)) {k : Nat} {x : En} (hk : es[k]? = some x) : EnC W g (k * 8) x := by
  have hl : k < es.length := (List.getElem?_eq_some_iff.1 hk).1
  have K : ∀ c u, c < 8 → x.cs[c]? = some u → W.cell? ⟨g, k * 8 + c, none⟩ = some u := fun c u hc hu => by
    rw [h.cell (by rw [flE_len]; omega), flat_get en_len es k c x hc hk, hu]
  exact ⟨K 0 _ (by decide) rfl, K 1 _ (by decide) rfl, K 2 _ (by decide) rfl, K 3 _ (by decide) rfl, K 4 _ (by decide) rfl, K 5 _ (by decide) rfl, K 6 _ (by decide) rfl, K 7 _ (by decide) rfl⟩
theorem Row.entRange {W : World} {g : Nat} {t : TypeId} {es : List En} (h : Row W g t (flE es)) {k : Nat} {x : En} (hk : es[k]? = some x) : W.rangeAt g (k * 8) x.cs :=
  h.range _ _ (fun j v hv => by rw [flat_get en_len es k j x (by have := (List.getElem?_eq_some_iff.1 hv).1; rwa [en_len] at this) hk, hv])

/-- The bank in block b, its entries in block g. -/
structure BkAt (W : World) (b g cap : Nat) (f : Int) (es : List En) : Prop where
  box : CB W b 86 #[.int .i64 f, .slice (some ⟨g, 0, none⟩) es.length cap]
  row : Row W g 54 (flE es)
  ne : b ≠ g
theorem BkAt.kept {W W' : World} {b g cap : Nat} {f : Int} {es : List En} (h : BkAt W b g cap f es) {bs : Nat → Prop} (k : Kept bs W W') (hb : ¬ bs b) (hg : ¬ bs g) : BkAt W' b g cap f es :=
  ⟨h.box.heap (k.block b h.box.lt hb), h.row.kept k hg, h.ne⟩
theorem BkAt.below {W W' : World} {b g cap : Nat} {f : Int} {es : List En} (h : BkAt W b g cap f es) (k : Below W.heap.size W W') : BkAt W' b g cap f es :=
  ⟨h.box.below k, h.row.below k, h.ne⟩
theorem BkAt.drewN {W : World} {b g cap : Nat} {f : Int} {es : List En} (h : BkAt W b g cap f es) (m : Nat) : BkAt (W.drewN m) b g cap f es := h.below (Below.drewN (Below.refl _ _))
theorem BkAt.drew {W : World} {b g cap : Nat} {f : Int} {es : List En} (h : BkAt W b g cap f es) : BkAt W.drew b g cap f es := ⟨h.box, h.row, h.ne⟩
/-- A number range that a bank may have. -/
structure Fit (f : Int) (n : Nat) : Prop where
  f0 : 0 ≤ f
  n1 : n ≤ 16384
  s1 : f + n ≤ 16384
def Int64 (x : Int) : Prop := -9223372036854775808 ≤ x ∧ x ≤ 9223372036854775807

def hasB (f : Int) (n : Nat) (id : Int) : Bool := decide (f ≤ id) && decide (id - f < n)
theorem hasB_iff {f : Int} {n : Nat} {id : Int} : hasB f n id = true ↔ f ≤ id ∧ id < f + n := by simp [hasB]; omega

theorem has_raw (b g cap n : Nat) (f id : Int) (w : World) (c0 : w.cell? ⟨b, 0, none⟩ = some (.int .i64 f)) (c1 : w.cell? ⟨b, 1, none⟩ = some (.slice (some ⟨g, 0, none⟩) n cap)) (hf : 0 ≤ f) (hi' : Int64 id) :
    Calls Try.prog 17 #[.pointer (some ⟨b, 0, none⟩), .int .i64 id] w fun e w' => e = .returned (.bool (hasB f n id)) ∧ ∃ m, w' = w.drewN m := by
  obtain ⟨h1, h2⟩ := hi'
  by_cases hle : f ≤ id
  · have hw : IntKind.i64.wrap (id - f) = id - f := by rw [IntKind.wrap_i64]; omega
    have hr : hasB f n id = decide (id - f < n) := by simp [hasB, hle]
    rw [hr]
    clear hr
    go_enter Try.func17, Try.ntmps17
    go_wp2
    go_quiet (fail)
    go_wp2
    go_ret
    exact ⟨rfl, _, rfl⟩
  · have hr : hasB f n id = false := by simp [hasB, hle]
    have hd : decide (f ≤ id) = false := by simp; omega
    have hd2 : id < f := by omega
    rw [hr]
    clear hr hle
    go_enter Try.func17, Try.ntmps17
    go_wp2
    go_quiet (fail)
    go_wp2
    go_ret
    exact ⟨rfl, _, rfl⟩

theorem has_any {b g cap : Nat} {f : Int} {es : List En} {id : Int} {w : World} (h : BkAt w b g cap f es) (hf : Fit f es.length) (hi' : Int64 id) :
    Calls Try.prog 17 #[.pointer (some ⟨b, 0, none⟩), .int .i64 id] w fun e w' => e = .returned (.bool (hasB f es.length id)) ∧ ∃ m, w' = w.drewN m :=
  has_raw b g cap es.length f id w (h.box.cell 0) (h.box.cell 1) hf.f0 hi'

end Go.Proofs.Ytjgamfonpagkbaa
