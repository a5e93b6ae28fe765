import Derived.Test.YtieedhdmpabfkaaGreatMg01
import Derived.Deep.MidRow
import Derived.Laws.AppendOwn
import Derived.Test.YtieedhdmpabfkaaGreatMg03
import Derived.Sort.QuietTacIn
import Derived.Test.YtieedhdmpabfkaaGreatMg02
set_option linter.unusedSimpArgs false
namespace Go.Proofs.YtieedhdmpabfkaaGreat
open Go.ChangeShapes Go.WideShapes Go.ChangeAt Go.RowKit
set_option linter.unusedVariables false
theorem splice_nil {α : Type} (L : List α) (o : Nat) : splice L o [] = L := by simp [splice]
theorem splice_right {α : Type} (A B : List α) (o : Nat) (vs : List α) : splice (A ++ B) (A.length + o) vs = A ++ splice B o vs := by
 simp only [splice]
 rw [List.take_append, List.take_of_length_le (by omega), List.drop_append, List.drop_of_length_le (by omega)]
 simp [Nat.add_assoc]
theorem splice_cons {α : Type} (L : List α) (o : Nat) (v : α) (r : List α) (h : o < L.length) : splice L o (v :: r) = splice (L.set o v) (o + 1) r := by
 obtain ⟨A, x, B, rfl, hA⟩ : ∃ A x B, L = A ++ x :: B ∧ A.length = o := ⟨L.take o, L[o], L.drop (o + 1), by simp, by simp; omega⟩
 subst hA
 have h1 := splice_right A (x :: B) 0 (v :: r)
 have h2 := splice_right (A ++ [v]) B 0 r
 rw [Nat.add_zero] at h1 h2
 rw [h1, List.set_append_right _ _ (Nat.le_refl _), Nat.sub_self, List.set_cons_zero, show A ++ v :: B = (A ++ [v]) ++ B by simp, show A.length + 1 = (A ++ [v]).length by simp, h2]
 simp [splice, Nat.add_comm]
theorem splice_left {α : Type} (A B : List α) (o : Nat) (vs : List α) (h : o + vs.length ≤ A.length) : splice (A ++ B) o vs = splice A o vs ++ B := by
 simp only [splice]
 rw [List.take_append_of_le_length (by omega), List.drop_append_of_le_length h]
 simp
theorem splice_all {α : Type} (L vs : List α) (h : L.length = vs.length) : splice L 0 vs = vs := by simp [splice, ← h]
section
variable {α : Type} {enc : α → List Value} {m : Nat}
def flat (enc : α → List Value) (xs : List α) : List Value := xs.flatMap enc
theorem flat_cons (enc : α → List Value) (x : α) (xs : List α) : flat enc (x :: xs) = enc x ++ flat enc xs := rfl
theorem flat_append (xs ys : List α) : flat enc (xs ++ ys) = flat enc xs ++ flat enc ys := by simp [flat]
theorem flat_one (x : α) : flat enc [x] = enc x := by simp [flat]
theorem flat_len (hm : ∀ x, (enc x).length = m) : ∀ xs : List α, (flat enc xs).length = xs.length * m
 | [] => by simp [flat]
 | x :: r => by rw [flat_cons, List.length_append, hm, flat_len hm r, List.length_cons, Nat.add_mul, Nat.one_mul, Nat.add_comm]
theorem flat_get (hm : ∀ x, (enc x).length = m) : ∀ (xs : List α) (k c : Nat) (x : α), c < m → xs[k]? = some x → (flat enc xs)[k * m + c]? = (enc x)[c]?
 | [], k, c, x, _, h => by simp at h
 | y :: r, 0, c, x, hc, h => by
  simp only [List.getElem?_cons_zero, Option.some.injEq] at h
  subst h
  rw [flat_cons, Nat.zero_mul, Nat.zero_add, List.getElem?_append_left (by rw [hm]; exact hc)]
 | y :: r, k + 1, c, x, hc, h => by
  rw [flat_cons, List.getElem?_append_right (by rw [hm, Nat.add_mul]; omega), hm, show (k + 1) * m + c - m = k * m + c by rw [Nat.add_mul]; omega]
  exact flat_get hm r k c x hc (by simpa using h)
theorem flat_set (hm : ∀ x, (enc x).length = m) : ∀ (xs : List α) (k j : Nat) (x y : α) (vs : List Value), xs[k]? = some x → j + vs.length ≤ m → enc y = splice (enc x) j vs → splice (flat enc xs) (k * m + j) vs = flat enc (xs.set k y)
 | [], k, j, x, y, vs, h, _, _ => by simp at h
 | z :: r, 0, j, x, y, vs, h, hj, he => by
  simp only [List.getElem?_cons_zero, Option.some.injEq] at h
  subst h
  rw [flat_cons, Nat.zero_mul, Nat.zero_add, splice_left _ _ _ _ (by rw [hm]; exact hj), List.set_cons_zero, flat_cons, he]
 | z :: r, k + 1, j, x, y, vs, h, hj, he => by
  have ih := flat_set hm r k j x y vs (by simpa using h) hj he
  have e : (k + 1) * m + j = (enc z).length + (k * m + j) := by rw [hm, Nat.add_mul]; omega
  rw [flat_cons, e, splice_right, ih, List.set_cons_succ, flat_cons]
theorem flat_one_cell (h : ∀ x, ∀ v ∈ enc x, v.oneCell' = true) (xs : List α) : ∀ v ∈ flat enc xs, v.oneCell' = true := by
 intro v hv
 simp only [flat, List.mem_flatMap] at hv
 obtain ⟨x, _, hx⟩ := hv
 exact h x v hx
end
theorem Kept.set {bs : Nat → Prop} {A W : World} (h : Kept bs A W) (p : Addr) (v : Value) (hb : bs p.block) : Kept bs A (W.setCell p v) :=
 h.trans (by
  have k := (Below.refl p.block W).setCell (p := p) (Nat.le_refl _) v
  exact ⟨k.os, k.tape, k.output, k.size, fun i hi hn => Below.heap_setCell W p v i (fun e => hn (by rw [e]; exact hb))⟩)
theorem kept_sets {bs : Nat → Prop} {A : World} {b : Nat} (hb : bs b) : ∀ (vs : List Value) (o : Nat) {W : World}, Kept bs A W → Kept bs A (W.setCells b o vs)
 | [], _, _, h => h
 | v :: r, o, W, h => kept_sets hb r (o + 1) (h.set ⟨b, o, none⟩ v hb)
theorem Kept.drewN {bs : Nat → Prop} {A W : World} (h : Kept bs A W) (m : Nat) : Kept bs A (W.drewN m) := ⟨h.os, h.tape, h.output, h.size, h.block⟩
theorem Kept.drew {bs : Nat → Prop} {A W : World} (h : Kept bs A W) : Kept bs A W.drew := ⟨h.os, h.tape, h.output, h.size, h.block⟩
theorem Kept.heap {bs : Nat → Prop} {A W : World} (h : Kept bs A W) {i : Nat} (hi : i < A.heap.size) (hn : ¬ bs i) : W.heap[i]? = A.heap[i]? := h.block i hi hn
theorem CB.heap {W W' : World} {B : Nat} {t : TypeId} {cs : Array Value} (h : CB W B t cs) (e : W'.heap[B]? = W.heap[B]?) : CB W' B t cs := e.trans h
theorem size_sets (b : Nat) : ∀ (vs : List Value) (o : Nat) (W : World), (W.setCells b o vs).heap.size = W.heap.size
 | [], _, _ => rfl
 | v :: r, o, W => by rw [World.setCells, size_sets b r]; simp
theorem heap_sets {b i : Nat} (hne : i ≠ b) : ∀ (vs : List Value) (o : Nat) (W : World), (W.setCells b o vs).heap[i]? = W.heap[i]?
 | [], _, _ => rfl
 | v :: r, o, W => by rw [World.setCells, heap_sets hne r]; exact Below.heap_setCell W ⟨b, o, none⟩ v i hne
def Row (W : World) (g : Nat) (t : TypeId) (cs : List Value) : Prop := ∃ A, CB W g t A ∧ cs <+: A.toList
section
variable {W W' : World} {g : Nat} {t : TypeId} {cs : List Value}
theorem Row.lt (h : Row W g t cs) : g < W.heap.size := by obtain ⟨A, h1, _⟩ := h; exact h1.lt
theorem Row.frozen (h : Row W g t cs) (o : Nat) : W.frozen? ⟨g, o, none⟩ = false := by obtain ⟨A, h1, _⟩ := h; exact h1.frozen o
theorem Row.cell (h : Row W g t cs) {i : Nat} (hi : i < cs.length) : W.cell? ⟨g, i, none⟩ = cs[i]? := by
 obtain ⟨A, h1, B, h2⟩ := h
 rw [h1.cell, ← Array.getElem?_toList, ← h2, List.getElem?_append_left hi]
theorem Row.heap (h : Row W g t cs) (e : W'.heap[g]? = W.heap[g]?) : Row W' g t cs := by obtain ⟨A, h1, h2⟩ := h; exact ⟨A, h1.heap e, h2⟩
theorem Row.below (h : Row W g t cs) (k : Below W.heap.size W W') : Row W' g t cs := h.heap (k.block g h.lt)
theorem Row.kept {bs : Nat → Prop} (h : Row W g t cs) (k : Kept bs W W') (hn : ¬ bs g) : Row W' g t cs := h.heap (k.block g h.lt hn)
theorem Row.range (h : Row W g t cs) (o : Nat) (sub : List Value) (hs : ∀ j v, sub[j]? = some v → cs[o + j]? = some v) : W.rangeAt g o sub := fun j v hv => by
 have h1 := hs j v hv
 rw [h.cell (List.getElem?_eq_some_iff.1 h1).1, h1]
theorem Row.there (h : Row W g t cs) {o n : Nat} (ho : o + n ≤ cs.length) : W.there g o n := fun j hj => by
 rw [h.cell (by omega), List.getElem?_eq_getElem (by omega)]
 exact ⟨rfl, h.frozen _⟩
theorem Row.set (h : Row W g t cs) {o : Nat} (v : Value) (ho : o < cs.length) : Row (W.setCell ⟨g, o, none⟩ v) g t (cs.set o v) := by
 obtain ⟨A, h1, B, h2⟩ := h
 refine ⟨_, h1.set o v, B, ?_⟩
 rw [Array.toList_setIfInBounds, ← h2, List.set_append_left _ _ ho]
theorem Row.sets : ∀ (vs : List Value) (o : Nat) {W : World} {cs : List Value}, Row W g t cs → o + vs.length ≤ cs.length → Row (W.setCells g o vs) g t (splice cs o vs)
 | [], o, W, cs, h, _ => by rw [splice_nil]; exact h
 | v :: r, o, W, cs, h, ho => by
  simp only [List.length_cons] at ho
  rw [splice_cons cs o v r (by omega), World.setCells]
  exact Row.sets r (o + 1) (h.set v (by omega)) (by simp; omega)
theorem Row.own {base n sz : Nat} {cap : Nat} (h : W.ownsRow base t sz (.slice (some ⟨g, 0, none⟩) n cap) n cs) : Row W g t cs := by
 rcases h.2 with ⟨e, _⟩ | ⟨g', c', cur, e, hb, hg, h1, h2, h3, h4⟩
 ·cases e
 ·simp only [Value.slice.injEq, Option.some.injEq, Addr.mk.injEq] at e
  obtain ⟨⟨rfl, _⟩, _, _⟩ := e
  exact ⟨cur, hg, by rw [← h4]; exact List.take_prefix _ _⟩
theorem Row.of (h : CB W g t cs.toArray) : Row W g t cs := ⟨_, h, by simp⟩
end
end Go.Proofs.YtieedhdmpabfkaaGreat
namespace Go.Proofs.YtieedhdmpabfkaaGreat
open Go.ChangeShapes Go.WideShapes Go.ChangeAt Go.RowKit
set_option linter.unusedVariables false
theorem ln_len (x : Ln) : x.cs.length = 7 := rfl
theorem en_len (x : En) : x.cs.length = 9 := rfl
abbrev flE (es : List En) : List Value := flat En.cs es
abbrev flL (es : List En) : List Value := flat (fun x : En => x.ln.cs) es
abbrev flX (es : List En) : List Value := flat (fun _ : En => [Value.string ⟨#[]⟩]) es
theorem flE_len (es : List En) : (flE es).length = es.length * 9 := flat_len en_len es
theorem flL_len (es : List En) : (flL es).length = es.length * 7 := flat_len (fun x => ln_len x.ln) es
theorem en_one (x : En) : ∀ v ∈ x.cs, v.oneCell' = true := by
 intro v hv
 simp only [En.cs, List.mem_cons, List.not_mem_nil, or_false] at hv
 rcases hv with rfl | rfl | rfl | rfl | rfl | rfl | rfl | rfl | rfl <;> rfl
theorem ln_one (x : Ln) : ∀ v ∈ x.cs, v.oneCell' = true := by
 intro v hv
 simp only [Ln.cs, List.mem_cons, List.not_mem_nil, or_false] at hv
 rcases hv with rfl | rfl | rfl | rfl | rfl | rfl | rfl <;> rfl
structure EnC (W : World) (g o : Nat) (x : En) : Prop where
 c0 : W.cell? ⟨g, o, none⟩ = some (.bool x.ln.st.e)
 c1 : W.cell? ⟨g, o + 1, none⟩ = some (.bool x.ln.st.l)
 c2 : W.cell? ⟨g, o + 2, none⟩ = some (.bool x.ln.st.h)
 c3 : W.cell? ⟨g, o + 3, none⟩ = some (.bool x.ln.st.a)
 c4 : W.cell? ⟨g, o + 4, none⟩ = some (.bool x.ln.en)
 c5 : W.cell? ⟨g, o + 5, none⟩ = some (.int .i64 x.ln.g)
 c6 : W.cell? ⟨g, o + 6, none⟩ = some (.int .i64 x.ln.p)
 c7 : W.cell? ⟨g, o + 7, none⟩ = some (.int .i64 x.s.c)
 c8 : W.cell? ⟨g, o + 8, none⟩ = some (.bool x.s.y)
theorem Row.ent {W : World} {g : Nat} {t : TypeId} {es : List En} (h : Row W g t (flE es)) {k : Nat} {x : En} (hk : es[k]? = some x) : EnC W g (k * 9) x := by
 have hl : k < es.length := (List.getElem?_eq_some_iff.1 hk).1
 have K : ∀ c u, c < 9 → x.cs[c]? = some u → W.cell? ⟨g, k * 9 + c, none⟩ = some u := fun c u hc hu => by
  rw [h.cell (by rw [flE_len]; omega), flat_get en_len es k c x hc hk, hu]
 exact ⟨K 0 _ (by decide) rfl, K 1 _ (by decide) rfl, K 2 _ (by decide) rfl, K 3 _ (by decide) rfl, K 4 _ (by decide) rfl, K 5 _ (by decide) rfl, K 6 _ (by decide) rfl, K 7 _ (by decide) rfl, K 8 _ (by decide) rfl⟩
structure BkAt (W : World) (b g cap : Nat) (f : Int) (es : List En) : Prop where
 box : CB W b 132 #[.int .i64 f, .slice (some ⟨g, 0, none⟩) es.length cap]
 row : Row W g 115 (flE es)
 ne : b ≠ g
theorem BkAt.kept {W W' : World} {b g cap : Nat} {f : Int} {es : List En} (h : BkAt W b g cap f es) {bs : Nat → Prop} (k : Kept bs W W') (hb : ¬ bs b) (hg : ¬ bs g) : BkAt W' b g cap f es :=
 ⟨h.box.heap (k.block b h.box.lt hb), h.row.kept k hg, h.ne⟩
theorem BkAt.below {W W' : World} {b g cap : Nat} {f : Int} {es : List En} (h : BkAt W b g cap f es) (k : Below W.heap.size W W') : BkAt W' b g cap f es :=
 ⟨h.box.below k, h.row.below k, h.ne⟩
theorem BkAt.drewN {W : World} {b g cap : Nat} {f : Int} {es : List En} (h : BkAt W b g cap f es) (m : Nat) : BkAt (W.drewN m) b g cap f es := h.below (Below.drewN (Below.refl _ _))
theorem BkAt.drew {W : World} {b g cap : Nat} {f : Int} {es : List En} (h : BkAt W b g cap f es) : BkAt W.drew b g cap f es := ⟨h.box, h.row, h.ne⟩
structure Fit (f : Int) (n : Nat) : Prop where
 f0 : 0 ≤ f
 n1 : n ≤ 16384
 s1 : f + n ≤ 16384
def Int64 (x : Int) : Prop := -9223372036854775808 ≤ x ∧ x ≤ 9223372036854775807
def hasB (f : Int) (n : Nat) (id : Int) : Bool := decide (f ≤ id) && decide (id - f < n)
theorem hasB_iff {f : Int} {n : Nat} {id : Int} : hasB f n id = true ↔ f ≤ id ∧ id < f + n := by simp [hasB]; omega
theorem has_raw (b g cap n : Nat) (f id : Int) (w : World) (c0 : w.cell? ⟨b, 0, none⟩ = some (.int .i64 f)) (c1 : w.cell? ⟨b, 1, none⟩ = some (.slice (some ⟨g, 0, none⟩) n cap)) (hf : 0 ≤ f) (hi' : Int64 id) :
  Calls Tryz.prog 81 #[.pointer (some ⟨b, 0, none⟩), .int .i64 id] w fun e w' => e = .returned (.bool (hasB f n id)) ∧ ∃ m, w' = w.drewN m := by
 obtain ⟨h1, h2⟩ := hi'
 by_cases hle : f ≤ id
 ·have hw : IntKind.i64.wrap (id - f) = id - f := by rw [IntKind.wrap_i64]; omega
  have hr : hasB f n id = decide (id - f < n) := by simp [hasB, hle]
  rw [hr]
  clear hr
  go_enter Tryz.func81, Tryz.ntmps81
  go_wp2
  go_quiet (fail)
  go_wp2
  go_ret
  exact ⟨rfl, _, rfl⟩
 ·have hr : hasB f n id = false := by simp [hasB, hle]
  have hd : decide (f ≤ id) = false := by simp; omega
  have hd2 : id < f := by omega
  rw [hr]
  clear hr hle
  go_enter Tryz.func81, Tryz.ntmps81
  go_wp2
  go_quiet (fail)
  go_wp2
  go_ret
  exact ⟨rfl, _, rfl⟩
theorem has_any {b g cap : Nat} {f : Int} {es : List En} {id : Int} {w : World} (h : BkAt w b g cap f es) (hf : Fit f es.length) (hi' : Int64 id) :
  Calls Tryz.prog 81 #[.pointer (some ⟨b, 0, none⟩), .int .i64 id] w fun e w' => e = .returned (.bool (hasB f es.length id)) ∧ ∃ m, w' = w.drewN m :=
 has_raw b g cap es.length f id w (h.box.cell 0) (h.box.cell 1) hf.f0 hi'
end Go.Proofs.YtieedhdmpabfkaaGreat
namespace Go.Proofs.YtieedhdmpabfkaaGreat
open Go.ChangeShapes Go.WideShapes Go.ChangeAt Go.RowKit
set_option linter.unusedVariables false
theorem fieldBits_any (r : Int) (w : World) : Calls Tryz.prog 140 #[.int .i64 r] w fun e w' => e = .returned (.int .i64 (wideN r : Nat)) ∧ w = w' := by
 go_enter Tryz.func140, Tryz.ntmps140
 go_wp2
 all_goals
  go_ret
  refine ⟨ret_int ?_, rfl⟩
  simp_all [wideN]
theorem rwide_any (r : Int) (w : World) : Calls Tryz.prog 142 #[.int .i64 r] w fun e w' => e = .returned (.int .i64 (wideN r : Nat)) ∧ w = w' := by
 go_enter Tryz.func142, Tryz.ntmps142
 go_wp2
 all_goals
  go_ret
  refine ⟨ret_int ?_, rfl⟩
  simp_all [wideN]
structure Pl where
 r : Int
 f : Int
 c : Int
abbrev Pl.v (p : Pl) : Value := .agg #[.int .i64 p.r, .int .i64 p.f, .int .i64 p.c]
abbrev Pl.cs (p : Pl) : Array Value := #[.int .i64 p.r, .int .i64 p.f, .int .i64 p.c]
theorem wrap_two {n : Nat} (hn : n ≤ 63) : IntKind.u64.wrap (IntKind.u64.wrap ((2 : Int) ^ n) - 1) = ((2 ^ n - 1 : Nat) : Int) := by
 have h1 : (2 : Nat) ^ n ≤ 2 ^ 63 := Nat.pow_le_pow_right (by decide) hn
 have h0 : 0 < (2 : Nat) ^ n := Nat.two_pow_pos n
 have e : (2 : Int) ^ n = ((2 ^ n : Nat) : Int) := by rw [Int.natCast_pow]; rfl
 rw [e]
 revert h1 h0
 generalize (2 : Nat) ^ n = q
 intro h1 h0
 rw [IntKind.wrap_u64, IntKind.wrap_u64]
 omega
theorem pow_min_mod (m : Nat) (q : Nat) : q * 2 ^ min m 64 % 2 ^ 64 = q * 2 ^ m % 2 ^ 64 := by
 by_cases h : m ≤ 64
 ·rw [Nat.min_eq_left h]
 ·rw [Nat.min_eq_right (by omega), show m = (m - 64) + 64 by omega, Nat.pow_add, ← Nat.mul_assoc, Nat.mul_mod_left, Nat.mul_mod_left]
theorem pow_min_div {m x : Nat} (hx : x < 18446744073709551616) : x / 2 ^ min m 64 = x / 2 ^ m := by
 by_cases h : m ≤ 64
 ·rw [Nat.min_eq_left h]
 ·rw [Nat.min_eq_right (by omega), Nat.div_eq_of_lt hx, Nat.div_eq_of_lt (Nat.lt_of_lt_of_le hx (show 2 ^ 64 ≤ 2 ^ m from Nat.pow_le_pow_right (by decide) (by omega)))]
theorem pow_int (m : Nat) : (2 : Int) ^ m = ((2 ^ m : Nat) : Int) := by rw [Int.natCast_pow]; rfl
theorem wrap_shl (q m : Nat) : IntKind.u64.wrap ((q : Int) * 2 ^ min m 64) = ((q * 2 ^ m % 18446744073709551616 : Nat) : Int) := by
 have e : (q : Int) * 2 ^ min m 64 = ((q * 2 ^ min m 64 : Nat) : Int) := by rw [pow_int, Int.natCast_mul]
 rw [e, IntKind.wrap_u64, show (18446744073709551616 : Nat) = 2 ^ 64 from rfl, ← pow_min_mod, Int.natCast_emod]
 rfl
theorem wrap_mask (n m : Nat) : IntKind.u64.wrap (((2 ^ n - 1 : Nat) : Int) * 2 ^ min m 64) = (maskN n m : Nat) := wrap_shl _ _
theorem shr_nat {x : Nat} (m : Nat) (hx : x < 18446744073709551616) : (x : Int) / 2 ^ min m 64 = ((x / 2 ^ m : Nat) : Int) := by
 rw [pow_int, ← Int.natCast_ediv, pow_min_div hx]
theorem mul_le63 {k n : Nat} (hk : k < 64) (hn : n ≤ 63) : k * n ≤ 63 * 63 := Nat.mul_le_mul (by omega) hn
set_option maxHeartbeats 1000000 in
theorem rfield_any (p : Pl) (k : Nat) (w : World) (hk : k < 64) (hc : (k : Int) < p.c) :
  Calls Tryz.prog 126 #[p.v, .int .i64 k] w fun e w' => e = .returned (.tuple #[.int .i64 (k * wideN p.r : Nat), .int .u64 (maskN (wideN p.r) (k * wideN p.r) : Nat)]) ∧ Below w.heap.size w w' := by
 have H := hi (fun W => fieldBits_any p.r W)
 obtain ⟨h1, h2⟩ := wide_pos p.r
 obtain ⟨n, hn⟩ : ∃ n, wideN p.r = n := ⟨_, rfl⟩
 rw [hn] at H h1 h2 ⊢
 have hm := mul_le63 hk h2
 have hw1 := wrap_two h2
 have hw2 := wrap_mask n (k * n)
 have hw0 : IntKind.i64.wrap ((k : Int) * (n : Int)) = ((k * n : Nat) : Int) := by rw [← Int.natCast_mul, IntKind.wrap_i64]; omega
 obtain ⟨m, hm'⟩ : ∃ m, k * n = m := ⟨_, rfl⟩
 rw [hm'] at hm hw0 hw2 ⊢
 obtain ⟨q, hq⟩ : ∃ q, 2 ^ n - 1 = q := ⟨_, rfl⟩
 rw [hq] at hw1 hw2
 obtain ⟨M, hM⟩ : ∃ M, maskN n m = M := ⟨_, rfl⟩
 rw [hM] at hw2 ⊢
 clear hq hM hm' hn
 obtain ⟨r, f, c⟩ := p
 dsimp only at hc H
 dsimp only [Pl.v]
 go_enter Tryz.func126, Tryz.ntmps126
 go_wp2_with (go_at_call 140; ((with_reducible refine (H.out _).mono ?_); rintro e w1 ⟨rfl, rfl⟩))
 go_region
 go_wp2
 go_ret2
 exact ⟨rfl, Below.drewN (m := 1) (bal w _)⟩
theorem shr_mask (v n k : Nat) (hv : v < 18446744073709551616) : bits .and .u64 (v : Int) (maskN n (k * n) : Nat) / 2 ^ min (k * n) 64 = (fieldN n v k : Nat) := by
 rw [u64_and_nat _ _ hv (maskN_lt _ _), ← field_eq n v k hv, shr_nat _ (Nat.lt_of_le_of_lt Nat.and_le_left hv)]
set_option maxHeartbeats 1000000 in
theorem field_any (v : Nat) (p : Pl) (k : Nat) (w : World) (hv : v < 18446744073709551616) (hk : k < 64) (hc : (k : Int) < p.c) :
  Calls Tryz.prog 88 #[.int .u64 v, p.v, .int .i64 k] w fun e w' => e = .returned (.int .u64 (fieldN (wideN p.r) v k : Nat)) ∧ Below w.heap.size w w' := by
 have H := hi (fun W => rfield_any p k W hk hc)
 have hs := shr_mask v (wideN p.r) k hv
 obtain ⟨h1, h2⟩ := wide_pos p.r
 have hm := mul_le63 hk h2
 obtain ⟨m, hm'⟩ : ∃ m, k * wideN p.r = m := ⟨_, rfl⟩
 obtain ⟨x, hx⟩ : ∃ x, fieldN (wideN p.r) v k = x := ⟨_, rfl⟩
 obtain ⟨M, hM⟩ : ∃ M, maskN (wideN p.r) m = M := ⟨_, rfl⟩
 rw [hm', hM] at H
 rw [hm', hM, hx] at hs
 rw [hm'] at hm
 rw [hx]
 clear hx hM hm' h1 h2
 obtain ⟨r, f, c⟩ := p
 dsimp only [Pl.v] at H ⊢
 go_enter Tryz.func88, Tryz.ntmps88
 go_wp2_with (go_at_call 126; ((with_reducible refine (H.out _).mono ?_); rintro e w1 ⟨rfl, hb⟩; have HB := hi ((bal w _).trans (hb.mono (bal w _).size)); clear hb))
 go_ret
 exact ⟨by rw [← hs]; rfl, HB.out⟩
theorem with_words (v n k x : Nat) (hv : v < 18446744073709551616) : bits .or .u64 (bits .andNot .u64 (v : Int) (maskN n (k * n) : Nat)) (bits .and .u64 (IntKind.u64.wrap ((x : Int) * 2 ^ min (k * n) 64)) (maskN n (k * n) : Nat)) = (withN n v k x : Nat) := by
 rw [wrap_shl, u64_andNot_nat _ _ hv (maskN_lt _ _), u64_and_nat _ _ (Nat.mod_lt _ (by decide)) (maskN_lt _ _), u64_or_nat _ _ (Nat.lt_of_le_of_lt Nat.and_le_left hv) (Nat.lt_of_le_of_lt Nat.and_le_left (Nat.mod_lt _ (by decide))), with_eq n v k x hv]
set_option maxHeartbeats 1000000 in
theorem with_any (v : Nat) (p : Pl) (k x : Nat) (w : World) (hv : v < 18446744073709551616) (hk : k < 64) (hc : (k : Int) < p.c) :
  Calls Tryz.prog 115 #[.int .u64 v, p.v, .int .i64 k, .int .u64 x] w fun e w' => e = .returned (.int .u64 (withN (wideN p.r) v k x : Nat)) ∧ Below w.heap.size w w' := by
 have H := hi (fun W => rfield_any p k W hk hc)
 have hs := with_words v (wideN p.r) k x hv
 obtain ⟨h1, h2⟩ := wide_pos p.r
 have hm := mul_le63 hk h2
 obtain ⟨m, hm'⟩ : ∃ m, k * wideN p.r = m := ⟨_, rfl⟩
 obtain ⟨y, hy⟩ : ∃ y, withN (wideN p.r) v k x = y := ⟨_, rfl⟩
 obtain ⟨M, hM⟩ : ∃ M, maskN (wideN p.r) m = M := ⟨_, rfl⟩
 rw [hm', hM] at H
 rw [hm', hM, hy] at hs
 rw [hm'] at hm
 rw [hy]
 clear hy hM hm' h1 h2
 obtain ⟨r, f, c⟩ := p
 dsimp only [Pl.v] at H ⊢
 go_enter Tryz.func115, Tryz.ntmps115
 go_wp2_with (go_at_call 126; ((with_reducible refine (H.out _).mono ?_); rintro e w1 ⟨rfl, hb⟩; have HB := hi ((bal w _).trans (hb.mono (bal w _).size)); clear hb))
 go_ret
 exact ⟨by rw [← hs]; rfl, HB.out⟩
end Go.Proofs.YtieedhdmpabfkaaGreat
namespace Go.Proofs.YtieedhdmpabfkaaGreat
open Go.ChangeShapes Go.WideShapes Go.ChangeAt Go.RowKit
set_option linter.unusedVariables false
theorem add_bit {a j t : Nat} (e : t = a + 2 ^ j) (h : t < 18446744073709551616) (hj : j < 64) : IntKind.u64.wrap ((a : Int) + IntKind.u64.wrap ((2 : Int) ^ j)) = (t : Int) := by
 subst e
 have h1 : (2 : Nat) ^ j < 2 ^ 64 := Nat.pow_lt_pow_right (by decide) hj
 rw [pow_int]
 revert h h1
 generalize (2 : Nat) ^ j = q
 intro h h1
 rw [IntKind.wrap_u64, IntKind.wrap_u64]
 omega
theorem sub_bit {a j : Nat} (h : 2 ^ j ≤ a) (ha : a < 18446744073709551616) : IntKind.u64.wrap ((a : Int) - IntKind.u64.wrap ((2 : Int) ^ j)) = ((a - 2 ^ j : Nat) : Int) := by
 rw [pow_int]
 revert h
 generalize (2 : Nat) ^ j = q
 intro h
 rw [IntKind.wrap_u64, IntKind.wrap_u64]
 omega
set_option maxRecDepth 10000 in
set_option maxHeartbeats 4000000 in
theorem rfieldD_any (v : Nat) (p : Pl) (k : Nat) (w : World) (hv : v < 18446744073709551616) (hk : k < 64) (hc : (k : Int) < p.c) :
  Calls Tryz.prog 129 #[.int .u64 v, p.v, .int .i64 k] w fun e w' => e = .returned (.int .u64 (fieldN (wideN p.r) v k : Nat)) ∧ Below w.heap.size w w' := by
 have H := hi (fun W => rwide_any p.r W)
 obtain ⟨h1, h2⟩ := wide_pos p.r
 obtain ⟨n, hn⟩ : ∃ n, wideN p.r = n := ⟨_, rfl⟩
 rw [hn] at H h1 h2 ⊢
 have hm := mul_le63 hk h2
 rw [Nat.mul_comm] at hm
 have hw0 : IntKind.i64.wrap ((n : Int) * (k : Int)) = ((n * k : Nat) : Int) := by rw [← Int.natCast_mul, IntKind.wrap_i64]; omega
 unfold fieldN
 obtain ⟨m, hm'⟩ : ∃ m, n * k = m := ⟨_, rfl⟩
 rw [hm'] at hm hw0 ⊢
 clear hm' hn
 obtain ⟨r, f, c⟩ := p
 dsimp only at hc H
 dsimp only [Pl.v]
 go_enter Tryz.func129, Tryz.ntmps129
 go_wp2_with (go_at_call 142; ((with_reducible refine (H.out _).mono ?_); rintro e w1 ⟨rfl, rfl⟩))
 go_loop [8, 9] (fun o i => ∃ j : Nat, j ≤ n ∧ i = .int .i64 j ∧ o = .int .u64 (sumB (fun i => v.testBit (m + i)) j : Nat)) (fun _ i => n - (intOf i).toNat)
 case atStart => exact ⟨0, Nat.zero_le _, rfl, rfl⟩
 case round =>
  obtain ⟨j, hj, rfl, rfl⟩ := hrel
  by_cases hlt : j < n
  ·have hs0 : v.testBit (m + j) = false → sumB (fun i => v.testBit (m + i)) (j + 1) = sumB (fun i => v.testBit (m + i)) j := sumB_succ_f (f := fun i => v.testBit (m + i))
   have hs1 : v.testBit (m + j) = true → sumB (fun i => v.testBit (m + i)) (j + 1) = sumB (fun i => v.testBit (m + i)) j + 2 ^ j := sumB_succ_t (f := fun i => v.testBit (m + i))
   have hl := sumB_lt (fun i => v.testBit (m + i)) (j + 1)
   obtain ⟨s0, hs⟩ : ∃ s, sumB (fun i => v.testBit (m + i)) j = s := ⟨_, rfl⟩
   rw [hs] at hs0 hs1 ⊢
   obtain ⟨a, ha⟩ : ∃ a, m + j = a := ⟨_, rfl⟩
   have hwa : IntKind.i64.wrap ((m : Int) + (j : Int)) = (a : Int) := by rw [IntKind.wrap_i64]; omega
   have hb := and_one v a hv
   rw [ha] at hs0 hs1
   by_cases ha64 : a < 64
   ·have hl64 : (2 : Nat) ^ (j + 1) ≤ 2 ^ 64 := Nat.pow_le_pow_right (by decide) (by omega)
    by_cases hbit : v.testBit a = true
    ·have hadd := add_bit (hs1 hbit) (by omega) (by omega)
     obtain ⟨t, ht⟩ : ∃ t, sumB (fun i => v.testBit (m + i)) (j + 1) = t := ⟨_, rfl⟩
     rw [ht] at hadd
     have HS := hi ht
     rw [if_pos hbit] at hb
     clear hs0 hs1 hl hs ha hbit hl64 ht
     go_wp2
     go_round
     case rel => exact ⟨j + 1, by omega, by go_num, by rw [HS.out]⟩
     case measure => simp only [intOf]; omega
    ·have hbit' : v.testBit a = false := by simpa using hbit
     have HS := hi (hs0 hbit')
     rw [if_neg hbit] at hb
     clear hs0 hs1 hl hs ha hbit hl64 hbit'
     go_wp2
     go_round
     case rel => exact ⟨j + 1, by omega, by go_num, by rw [HS.out]⟩
     case measure => simp only [intOf]; omega
   ·have HS := hi (hs0 (bit_big hv (by omega)))
    clear hs0 hs1 hl hs ha hb
    go_wp2
    go_round
    case rel => exact ⟨j + 1, by omega, by go_num, by rw [HS.out]⟩
    case measure => simp only [intOf]; omega
  ·obtain rfl : j = n := by omega
   go_wp2
   go_ret
   exact ⟨rfl, bal w _⟩
theorem withTo_t {n v k x j : Nat} (hj : n * k + j < 64) (hv : v.testBit (n * k + j) = true) (hx : x.testBit j = false) : withTo n v k x (j + 1) = withTo n v k x j - 2 ^ (n * k + j) ∧ 2 ^ (n * k + j) ≤ withTo n v k x j := by
 have := withTo_step n v k x j hj
 rw [hv, hx, if_pos rfl, if_neg (by simp)] at this
 omega
theorem withTo_f {n v k x j : Nat} (hj : n * k + j < 64) (hv : v.testBit (n * k + j) = false) (hx : x.testBit j = true) : withTo n v k x (j + 1) = withTo n v k x j + 2 ^ (n * k + j) := by
 have := withTo_step n v k x j hj
 rw [hv, hx, if_pos rfl, if_neg (by simp)] at this
 omega
theorem withTo_s {n v k x j : Nat} (hj : n * k + j < 64) (h : v.testBit (n * k + j) = x.testBit j) : withTo n v k x (j + 1) = withTo n v k x j := by
 have := withTo_step n v k x j hj
 rw [h] at this
 omega
set_option maxRecDepth 10000 in
set_option maxHeartbeats 8000000 in
theorem rwith_any (v : Nat) (p : Pl) (k x : Nat) (w : World) (hv : v < 18446744073709551616) (hx : x < 18446744073709551616) (hk : k < 64) (hc : (k : Int) < p.c) :
  Calls Tryz.prog 132 #[.int .u64 v, p.v, .int .i64 k, .int .u64 x] w fun e w' => e = .returned (.int .u64 (withN (wideN p.r) v k x : Nat)) ∧ Below w.heap.size w w' := by
 have H := hi (fun W => rwide_any p.r W)
 obtain ⟨h1, h2⟩ := wide_pos p.r
 obtain ⟨n, hn⟩ : ∃ n, wideN p.r = n := ⟨_, rfl⟩
 rw [hn] at H h1 h2 ⊢
 have hm := mul_le63 hk h2
 rw [Nat.mul_comm] at hm
 have hw0 : IntKind.i64.wrap ((n : Int) * (k : Int)) = ((n * k : Nat) : Int) := by rw [← Int.natCast_mul, IntKind.wrap_i64]; omega
 have HT := hi (fun j hj hv hx => withTo_t (n := n) (v := v) (k := k) (x := x) (j := j) hj hv hx)
 have HF := hi (fun j hj hv hx => withTo_f (n := n) (v := v) (k := k) (x := x) (j := j) hj hv hx)
 have HS := hi (fun j hj h => withTo_s (n := n) (v := v) (k := k) (x := x) (j := j) hj h)
 have HO := hi (fun j hj => withTo_over n v k x j hj)
 have HA := hi (fun j hj => withTo_at n v k x j hj)
 have HL := hi (fun j => withTo_lt n v k x j)
 have H0 := hi (withTo_zero n k x hv)
 have HE := hi (withTo_all n v k x)
 obtain ⟨U, hU⟩ : ∃ U, withTo n v k x = U := ⟨_, rfl⟩
 simp only [hU] at HT HF HS HO HA HL H0 HE
 obtain ⟨z, hz⟩ : ∃ z, withN n v k x = z := ⟨_, rfl⟩
 rw [hz] at HE ⊢
 obtain ⟨m, hm'⟩ : ∃ m, n * k = m := ⟨_, rfl⟩
 rw [hm'] at hm hw0 HT HF HS HO HA
 clear hm' hn hz hU
 obtain ⟨r, f, c⟩ := p
 dsimp only at hc H
 dsimp only [Pl.v]
 go_enter Tryz.func132, Tryz.ntmps132
 go_wp2_with (go_at_call 142; ((with_reducible refine (H.out _).mono ?_); rintro e w1 ⟨rfl, rfl⟩))
 go_loop [10, 11] (fun o i => ∃ j : Nat, j ≤ n ∧ i = .int .i64 j ∧ o = .int .u64 (U j : Nat)) (fun _ i => n - (intOf i).toNat)
 case atStart => exact ⟨0, Nat.zero_le _, rfl, by rw [H0.out]⟩
 case round =>
  obtain ⟨j, hj, rfl, rfl⟩ := hrel
  by_cases hlt : j < n
  ·obtain ⟨a, ha⟩ : ∃ a, m + j = a := ⟨_, rfl⟩
   have hwa : IntKind.i64.wrap ((m : Int) + (j : Int)) = (a : Int) := by rw [IntKind.wrap_i64]; omega
   by_cases ha64 : a < 64
   ·have hb := and_one (U j) a (HL.out j)
    have hat := HA.out j (by omega)
    rw [ha] at hat
    rw [hat] at hb
    have hbx := and_one x j hx
    have hT := HT.out j (by omega)
    have hF := HF.out j (by omega)
    have hS := HS.out j (by omega)
    have hlj := HL.out j
    have hl1 := HL.out (j + 1)
    rw [ha] at hT hF hS
    obtain ⟨s0, hs⟩ : ∃ s, U j = s := ⟨_, rfl⟩
    rw [hs] at hb hT hF hS hlj ⊢
    clear hat
    cases hv1 : v.testBit a
    ·rw [hv1] at hb
     cases hx1 : x.testBit j
     ·have HH := hi (hS (by rw [hv1, hx1]))
      rw [hx1] at hbx
      clear hT hF hS hs ha hv1 hx1 hlj hl1
      simp only [Bool.false_eq_true, if_false, Int.cast_ofNat_Int] at hb hbx
      go_wp2
      go_round
      case rel => exact ⟨j + 1, by omega, by go_num, by rw [HH.out]⟩
      case measure => simp only [intOf]; omega
     ·have hadd := add_bit (hF hv1 hx1) hl1 ha64
      obtain ⟨t, ht⟩ : ∃ t, U (j + 1) = t := ⟨_, rfl⟩
      rw [ht] at hadd
      have HH := hi ht
      rw [hx1] at hbx
      clear ht hT hF hS hs ha hv1 hx1 hlj hl1
      simp only [Bool.false_eq_true, if_false, if_true, Int.cast_ofNat_Int] at hb hbx
      go_wp2
      go_round
      case rel => exact ⟨j + 1, by omega, by go_num, by rw [HH.out]⟩
      case measure => simp only [intOf]; omega
    ·rw [hv1] at hb
     cases hx1 : x.testBit j
     ·have HH := hi (hT hv1 hx1).1
      have hsub := sub_bit (a := s0) (j := a) (hT hv1 hx1).2 hlj
      rw [hx1] at hbx
      clear hT hF hS hs ha hv1 hx1 hlj hl1
      simp only [Bool.false_eq_true, if_false, if_true, Int.cast_ofNat_Int] at hb hbx
      go_wp2
      go_round
      case rel => exact ⟨j + 1, by omega, by go_num, by rw [HH.out]⟩
      case measure => simp only [intOf]; omega
     ·have HH := hi (hS (by rw [hv1, hx1]))
      rw [hx1] at hbx
      clear hT hF hS hs ha hv1 hx1 hlj hl1
      simp only [if_true, Int.cast_ofNat_Int] at hb hbx
      go_wp2
      go_round
      case rel => exact ⟨j + 1, by omega, by go_num, by rw [HH.out]⟩
      case measure => simp only [intOf]; omega
   ·have HH := hi (HO.out j (by omega))
    clear ha
    go_wp2
    go_round
    case rel => exact ⟨j + 1, by omega, by go_num, by rw [HH.out]⟩
    case measure => simp only [intOf]; omega
  ·obtain rfl : j = n := by omega
   go_wp2
   go_ret
   exact ⟨by rw [HE.out]; rfl, bal w _⟩
end Go.Proofs.YtieedhdmpabfkaaGreat
