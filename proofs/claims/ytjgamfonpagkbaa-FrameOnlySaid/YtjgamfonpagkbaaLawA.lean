/-
  Get, told of any number; both banks side by side; the law's both.
-/
import Derived.Test.YtjgamfonpagkbaaFrmL
import Derived.Test.YtjgamfonpagkbaaFrmN
namespace Go.Proofs.Ytjgamfonpagkbaa
open Go.ChangeShapes Go.WideShapes Go.ChangeAt Go.RowKit Go.Shelf
set_option linter.unusedVariables false
attribute [local go_sem] Oper.semAt_some

/-! ### Get -/
def getR (f : Int) (es : List En) (id : Int) : En × Int := if hasB f es.length id then (nthE es (id - f).toNat, 0) else (En.zero, 90)
theorem get_any {b g cap : Nat} {f : Int} {es : List En} {id : Int} {w : World} (h : BkAt w b g cap f es) (hf : Fit f es.length) (hi' : Int64 id) :
    Calls Try.prog 19 #[.pointer (some ⟨b, 0, none⟩), .int .i64 id] w fun e w' => e = .returned (.tuple #[(getR f es id).1.v, .int .i64 (getR f es id).2]) ∧ Below w.heap.size w w' := by
  unfold getR
  cases hb : hasB f es.length id
  · exact get_no h hf hi' hb
  · obtain ⟨k, rfl, hk, e1⟩ := has_at hb
    refine (get_yes h hf (nthE_at hk)).mono fun e w' ⟨h1, h2⟩ => ⟨?_, h2⟩
    rw [e1]
    exact h1
theorem getR_len {f : Int} {es es' : List En} (h : es'.length = es.length) (id : Int) : (getR f es' id).2 = (getR f es id).2 := by
  unfold getR
  rw [h]
  split <;> rfl
theorem doR_len (f : Int) (es : List En) (id a : Int) : (doR f es id a).1.length = es.length := by
  unfold doR
  split
  · simp
  · rfl
theorem doR_fine {f : Int} {es : List En} {id a : Int} (h : FineAll es) : FineAll (doR f es id a).1 := by
  unfold doR
  split
  · rename_i h1
    obtain ⟨k, e, hk, e1⟩ := has_at h1
    refine fine_set h ?_
    rw [e1]
    have h2 : Fine (nthE es k).ln := h.nth hk
    exact ⟨h2.g, h2.p0, h2.p1, h2.real⟩
  · exact h
theorem fresh_fine (n : Nat) (s : ByteArray) : FineAll (fresh n s) := fun x hx => by
  obtain rfl := (List.mem_replicate.1 hx).2
  exact fine_zero
theorem writeV_len (p : Pl) (c : Nat) (f0 : Int) (v : Nat) (es : List En) : (writeV p c f0 v es).1.length = es.length := wrL_len _ _ _ _ _
theorem writeV_fine {p : Pl} {c : Nat} {f0 : Int} {v : Nat} {es : List En} (h : FineAll es) : FineAll (writeV p c f0 v es).1 := wrL_fine h

/-- The bank, and the document's, in blocks of their own above a world. -/
structure TwF (w : World) (b g cap rb lg xg : Nat) (la xa : Option Addr) (lc xc : Nat) (f : Int) (es : List En) (W : World) : Prop where
  bk : BkAt W b g cap f es
  rf : RfAt W rb lg xg la xa lc xc f es
  l1 : w.heap.size ≤ b ∧ w.heap.size ≤ g ∧ w.heap.size ≤ rb
  l2 : es ≠ [] → w.heap.size ≤ lg ∧ w.heap.size ≤ xg
  n1 : rb ≠ g ∧ rb ≠ b
  n2 : es ≠ [] → g ≠ lg ∧ g ≠ xg ∧ b ≠ lg ∧ b ≠ xg
  fit : Fit f es.length
  fine : FineAll es
  below : Below w.heap.size w W
/-- The blocks that acts turn. -/
def bs2 (g lg xg : Nat) (es : List En) (i : Nat) : Prop := i = g ∨ (es ≠ [] ∧ (i = lg ∨ i = xg))
section
variable {w W W' : World} {b g cap rb lg xg : Nat} {la xa : Option Addr} {lc xc : Nat} {f : Int} {es es' : List En}
theorem TwF.later (h : TwF w b g cap rb lg xg la xa lc xc f es W) (k : Below W.heap.size W W') : TwF w b g cap rb lg xg la xa lc xc f es W' :=
  ⟨h.bk.below k, h.rf.below k, h.l1, h.l2, h.n1, h.n2, h.fit, h.fine, h.below.trans (k.mono h.below.size)⟩
theorem TwF.both (h : TwF w b g cap rb lg xg la xa lc xc f es W) (hb : BkAt W' b g cap f es') (hr : RfAt W' rb lg xg la xa lc xc f es') (hl : es'.length = es.length) (hR : FineAll es') (k : Kept (bs2 g lg xg es) W W') : TwF w b g cap rb lg xg la xa lc xc f es' W' :=
  have hne : es' ≠ [] → es ≠ [] := fun a e => a (by subst e; exact List.length_eq_zero_iff.1 hl)
  ⟨hb, hr, h.l1, fun a => h.l2 (hne a), h.n1, fun a => h.n2 (hne a), by rw [hl]; exact h.fit, hR, h.below.trans (k.toBelow h.below.size (fun i hi' => by
    rcases hi' with rfl | ⟨a, rfl | rfl⟩
    · exact h.l1.2.1
    · exact (h.l2 a).1
    · exact (h.l2 a).2))⟩
/-- The bank's half of an act, then the document's. -/
theorem TwF.half (h : TwF w b g cap rb lg xg la xa lc xc f es W) (ha : After W b g cap f es' W') : RfAt W' rb lg xg la xa lc xc f es ∧ Kept (bs2 g lg xg es) W W' :=
  ⟨h.rf.kept ha.kept h.n1.1 (fun a => ⟨Ne.symm (h.n2 a).1, Ne.symm (h.n2 a).2.1⟩), ha.kept.mono (fun i e => .inl e)⟩
theorem TwF.done {W2 : World} (h : TwF w b g cap rb lg xg la xa lc xc f es W) (ha : After W b g cap f es' W') (hr : RfAfter W' rb lg xg la xa lc xc f es' W2) (hl : es'.length = es.length) (hR : FineAll es') : TwF w b g cap rb lg xg la xa lc xc f es' W2 ∧ Kept (bs2 g lg xg es) W W2 := by
  have hne : es' ≠ [] → es ≠ [] := fun a e => a (by subst e; exact List.length_eq_zero_iff.1 hl)
  have hk2 : Kept (bs2 g lg xg es) W' W2 := hr.kept.mono (fun i e => .inr ⟨hne e.1, e.2⟩)
  have hb := ha.bk.kept hr.kept (fun e => by have := h.n2 (hne e.1); rcases e.2 with rfl | rfl <;> omega) (fun e => by have := h.n2 (hne e.1); rcases e.2 with rfl | rfl <;> omega)
  have hk := (h.half ha).2.trans hk2
  exact ⟨h.both hb hr.rf hl hR hk, hk⟩
end
/-- A box that acts do not turn. -/
theorem box_not {w W : World} {b g cap rb lg xg : Nat} {la xa : Option Addr} {lc xc : Nat} {f : Int} {es : List En} (h : TwF w b g cap rb lg xg la xa lc xc f es W) : ¬ bs2 g lg xg es W.heap.size := fun e => by
  have h1 := h.bk.row.lt
  rcases e with e | ⟨a, e | e⟩
  · omega
  · have := (h.rf.ne0 a).2.2.1.lt; omega
  · have := (h.rf.ne0 a).2.2.2.1.lt; omega


def xS : ByteArray := ⟨#[120]⟩
/-! ### Both -/
def Both (w : World) (f : Int) (n : Nat) (e : Ending) (w' : World) : Prop :=
  ∃ b g cap rb lg xg la xa lc xc, e = .returned (.tuple #[.pointer (some ⟨b, 0, none⟩), .pointer (some ⟨rb, 0, none⟩)]) ∧ TwF w b g cap rb lg xg la xa lc xc f (fresh n xS) w'

theorem u8_i64 {x : Int} (h0 : 0 ≤ x) (h1 : x < 256) : IntKind.i64.wrap x = x := by rw [IntKind.wrap_i64]; omega
theorem tmod_u8 {x k : Int} (h0 : 0 ≤ x) (hk : 0 < k) : x.tmod k = x % k := Int.tmod_eq_emod_of_nonneg h0
set_option maxHeartbeats 2000000 in
theorem both_any (f n : Int) (w : World) (hf0 : 0 ≤ f) (hf1 : f < 256) (hn0 : 0 ≤ n) (hn1 : n < 256) :
    Calls Try.prog 10 #[.int .u8 f, .int .u8 n] w (Both w (f % 64) (n % 80).toNat) := by
  obtain ⟨m, hm⟩ : ∃ m : Nat, (n % 80).toNat = m := ⟨_, rfl⟩
  have hm' : n.tmod 80 = (m : Int) := by rw [Int.tmod_eq_emod_of_nonneg hn0]; omega
  have hlt : m < 80 := by omega
  obtain ⟨g, hg⟩ : ∃ g : Int, f % 64 = g := ⟨_, rfl⟩
  have hg' : f.tmod 64 = g := by rw [Int.tmod_eq_emod_of_nonneg hf0]; exact hg
  have hg0 : 0 ≤ g ∧ g < 64 := by omega
  have hw1 := u8_i64 (x := g) hg0.1 (by omega)
  have hw2 : IntKind.i64.wrap (m : Int) = m := u8_i64 (by omega) (by omega)
  have hw3 : IntKind.u8.wrap (m : Int) = m := by rw [IntKind.wrap_u8]; omega
  have hw4 : IntKind.u8.wrap g = g := by rw [IntKind.wrap_u8]; omega
  have hok : NewOk g m := ⟨hg0.1, by omega, by omega⟩
  have CN := hi (fun W => new_yes g m xS W hok)
  have CR := hi (fun W => rnew_yes g m xS W hok)
  dsimp only [xS] at CN CR
  rw [hm, hg]
  clear hm hok hg
  go_enter Try.func10, Try.ntmps10
  go_wp2_with (first
    | (go_at_call 24; ((with_reducible refine (CN.out _).mono ?_); rintro e w1 ⟨b, gg, rfl, hb, hg, hbk, hB⟩; have H1 := hi hbk; have HB1 := hi hB; have HLO := hi (And.intro hb hg); clear hb hg hbk hB))
    | (go_at_call 25; ((with_reducible refine (CR.out _).mono ?_); rintro e w2 ⟨rb, lg, xg, la, xa, lc, xc, rfl, hb, hl, hx, hbk, hB⟩; have H2 := hi hbk; have HB2 := hi hB; have HLO2 := hi (And.intro hb (And.intro hl hx)); clear hb hl hx hbk hB)))
  go_ret2
  have hs := HB1.out.size
  have h1 := H1.out.box.lt
  have h2 := H1.out.row.lt
  obtain ⟨q1, q2⟩ := HLO.out
  obtain ⟨q3, q4, q5⟩ := HLO2.out
  exact ⟨b, gg, _, rb, lg, xg, la, xa, lc, xc, rfl, H1.out.below HB2.out, H2.out, ⟨q1, q2, by omega⟩, fun _ => ⟨by omega, by omega⟩, by omega, fun _ => by omega,
    by rw [fresh_len]; exact ⟨by omega, by omega, by omega⟩, fresh_fine _ _, HB1.out.trans (HB2.out.mono hs)⟩

end Go.Proofs.Ytjgamfonpagkbaa
