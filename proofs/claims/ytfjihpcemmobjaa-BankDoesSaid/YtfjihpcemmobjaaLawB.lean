/-
  The law's both, does, played: the bank and the document's, side by side.
-/
import Derived.Test.YtfjihpcemmobjaaLawA
namespace Go.Proofs.Ytfjihpcemmobjaa
open Go.ChangeShapes Go.WideShapes Go.ChangeAt Go.RowKit Go.Shelf
set_option linter.unusedVariables false
attribute [local go_sem] Oper.semAt_some

/-- An act. -/
structure Ac9 where
  d : Int
  id : Int
  ln : Ln
  x : ByteArray
  a : Int
deriving Inhabited
abbrev Ac9.v (x : Ac9) : Value := .agg #[.int .i64 x.d, .int .i64 x.id, .bool x.ln.st.e, .bool x.ln.st.l, .bool x.ln.st.h, .bool x.ln.st.a, .bool x.ln.en, .int .i64 x.ln.g, .int .i64 x.ln.p, .string x.x, .int .i64 x.a]
abbrev Ac9.ca (x : Ac9) : Array Value := #[.int .i64 x.d, .int .i64 x.id, .bool x.ln.st.e, .bool x.ln.st.l, .bool x.ln.st.h, .bool x.ln.st.a, .bool x.ln.en, .int .i64 x.ln.g, .int .i64 x.ln.p, .string x.x, .int .i64 x.a]
def Ac9.ent (x : Ac9) : En := ⟨x.ln, x.x⟩
def actE (f : Int) (es : List En) (x : Ac9) : List En :=
  if x.d = 1 then (putR f es x.id x.ent).1 else if x.d = 2 then (doR f es x.id x.a).1 else if x.d = 3 then es.map En.wipe else es

theorem putR_len (f : Int) (es : List En) (id : Int) (x : En) : (putR f es id x).1.length = es.length := by
  unfold putR
  split
  · split
    · simp
    · rfl
  · rfl
theorem doR_len (f : Int) (es : List En) (id a : Int) : (doR f es id a).1.length = es.length := by
  unfold doR
  split
  · simp
  · rfl
theorem actE_len (f : Int) (es : List En) (x : Ac9) : (actE f es x).length = es.length := by
  unfold actE
  split
  · exact putR_len _ _ _ _
  · split
    · exact doR_len _ _ _ _
    · split
      · simp
      · rfl
def RightAll (es : List En) : Prop := ∀ x ∈ es, x.ln.Right
theorem okB_right {x : Ln} (h : x.okB = true) : x.Right := by
  obtain ⟨st, en, g, p⟩ := x
  exact (okB_true g p st en h).1
theorem Ln.right_real {x : En} (h : x.ln.Right) : (x.real).ln.Right := h
theorem right_set {es : List En} (h : RightAll es) {k : Nat} {y : En} (hy : y.ln.Right) : RightAll (es.set k y) := fun x hx => by
  rcases List.mem_or_eq_of_mem_set hx with h1 | rfl
  · exact h x h1
  · exact hy
theorem putR_right {f : Int} {es : List En} {id : Int} {x : En} (h : RightAll es) : RightAll (putR f es id x).1 := by
  unfold putR
  split
  · split
    · rename_i h1
      exact right_set h (Ln.right_real (okB_right h1))
    · exact h
  · exact h
theorem doR_right {f : Int} {es : List En} {id a : Int} (h : RightAll es) : RightAll (doR f es id a).1 := by
  unfold doR
  split
  · rename_i h1
    obtain ⟨k, e, hk, e1⟩ := has_at h1
    refine right_set h ?_
    rw [e1]
    have h2 : (nthE es k).ln.Right := h _ (List.mem_of_getElem? (nthE_at hk))
    exact h2
  · exact h
theorem actE_right {f : Int} {es : List En} {x : Ac9} (h : RightAll es) : RightAll (actE f es x) := by
  unfold actE
  split
  · exact putR_right h
  · split
    · exact doR_right h
    · split
      · intro y hy
        obtain ⟨z, _, rfl⟩ := List.mem_map.1 hy
        exact .inl rfl
      · exact h
theorem fresh_right (n : Nat) (s : ByteArray) : RightAll (fresh n s) := fun x hx => by
  obtain rfl := (List.mem_replicate.1 hx).2
  exact .inl rfl

/-- The bank, and the document's, in blocks of their own above a world. -/
structure TwB (w : World) (b g cap rb lg xg : Nat) (la xa : Option Addr) (lc xc : Nat) (f : Int) (es : List En) (W : World) : Prop where
  bk : BkAt W b g cap f es
  rf : RfAt W rb lg xg la xa lc xc f es
  l1 : w.heap.size ≤ b ∧ w.heap.size ≤ g ∧ w.heap.size ≤ rb
  l2 : es ≠ [] → w.heap.size ≤ lg ∧ w.heap.size ≤ xg
  n1 : rb ≠ g ∧ rb ≠ b
  n2 : es ≠ [] → g ≠ lg ∧ g ≠ xg ∧ b ≠ lg ∧ b ≠ xg
  fit : Fit f es.length
  right : RightAll es
  below : Below w.heap.size w W
/-- The blocks that acts turn. -/
def bs2 (g lg xg : Nat) (es : List En) (i : Nat) : Prop := i = g ∨ (es ≠ [] ∧ (i = lg ∨ i = xg))
section
variable {w W W' : World} {b g cap rb lg xg : Nat} {la xa : Option Addr} {lc xc : Nat} {f : Int} {es es' : List En}
theorem TwB.later (h : TwB w b g cap rb lg xg la xa lc xc f es W) (k : Below W.heap.size W W') : TwB w b g cap rb lg xg la xa lc xc f es W' :=
  ⟨h.bk.below k, h.rf.below k, h.l1, h.l2, h.n1, h.n2, h.fit, h.right, h.below.trans (k.mono h.below.size)⟩
theorem TwB.both (h : TwB w b g cap rb lg xg la xa lc xc f es W) (hb : BkAt W' b g cap f es') (hr : RfAt W' rb lg xg la xa lc xc f es') (hl : es'.length = es.length) (hR : RightAll es') (k : Kept (bs2 g lg xg es) W W') : TwB w b g cap rb lg xg la xa lc xc f es' W' :=
  have hne : es' ≠ [] → es ≠ [] := fun a e => a (by subst e; exact List.length_eq_zero_iff.1 hl)
  ⟨hb, hr, h.l1, fun a => h.l2 (hne a), h.n1, fun a => h.n2 (hne a), by rw [hl]; exact h.fit, hR, h.below.trans (k.toBelow h.below.size (fun i hi' => by
    rcases hi' with rfl | ⟨a, rfl | rfl⟩
    · exact h.l1.2.1
    · exact (h.l2 a).1
    · exact (h.l2 a).2))⟩
/-- The bank's half of an act, then the document's. -/
theorem TwB.half (h : TwB w b g cap rb lg xg la xa lc xc f es W) (ha : After W b g cap f es' W') : RfAt W' rb lg xg la xa lc xc f es ∧ Kept (bs2 g lg xg es) W W' :=
  ⟨h.rf.kept ha.kept h.n1.1 (fun a => ⟨Ne.symm (h.n2 a).1, Ne.symm (h.n2 a).2.1⟩), ha.kept.mono (fun i e => .inl e)⟩
theorem TwB.done {W2 : World} (h : TwB w b g cap rb lg xg la xa lc xc f es W) (ha : After W b g cap f es' W') (hr : RfAfter W' rb lg xg la xa lc xc f es' W2) (hl : es'.length = es.length) (hR : RightAll es') : TwB w b g cap rb lg xg la xa lc xc f es' W2 ∧ Kept (bs2 g lg xg es) W W2 := by
  have hne : es' ≠ [] → es ≠ [] := fun a e => a (by subst e; exact List.length_eq_zero_iff.1 hl)
  have hk2 : Kept (bs2 g lg xg es) W' W2 := hr.kept.mono (fun i e => .inr ⟨hne e.1, e.2⟩)
  have hb := ha.bk.kept hr.kept (fun e => by have := h.n2 (hne e.1); rcases e.2 with rfl | rfl <;> omega) (fun e => by have := h.n2 (hne e.1); rcases e.2 with rfl | rfl <;> omega)
  have hk := (h.half ha).2.trans hk2
  exact ⟨h.both hb hr.rf hl hR hk, hk⟩
end
theorem CB.keptB {W W' : World} {B : Nat} {t : TypeId} {cs : Array Value} {bs : Nat → Prop} (h : CB W B t cs) (k : Kept bs W W') (hn : ¬ bs B) : CB W' B t cs := h.heap (k.block B h.lt hn)

/-- What an act leaves. -/
def Did (w : World) (b g cap rb lg xg : Nat) (la xa : Option Addr) (lc xc : Nat) (f : Int) (es es' : List En) (W : World) (e : Ending) (w' : World) : Prop :=
  e = .returned (.bool true) ∧ TwB w b g cap rb lg xg la xa lc xc f es' w' ∧ Kept (bs2 g lg xg es) W w'
/-- A box that acts do not turn. -/
theorem box_not {w W : World} {b g cap rb lg xg : Nat} {la xa : Option Addr} {lc xc : Nat} {f : Int} {es : List En} (h : TwB w b g cap rb lg xg la xa lc xc f es W) : ¬ bs2 g lg xg es W.heap.size := fun e => by
  have h1 := h.bk.row.lt
  rcases e with e | ⟨a, e | e⟩
  · omega
  · have := (h.rf.ne0 a).2.2.1.lt; omega
  · have := (h.rf.ne0 a).2.2.2.1.lt; omega

set_option maxRecDepth 100000 in
set_option maxHeartbeats 8000000 in
theorem does_put {w W : World} {b g cap rb lg xg : Nat} {la xa : Option Addr} {lc xc : Nat} {f : Int} {es : List En} {x : Ac9} (h : TwB w b g cap rb lg xg la xa lc xc f es W) (hid : Int64 x.id) (hd : x.d = 1) :
    Calls Try.prog 14 #[.pointer (some ⟨b, 0, none⟩), .pointer (some ⟨rb, 0, none⟩), x.v] W (Did w b g cap rb lg xg la xa lc xc f es (putR f es x.id x.ent).1 W) := by
  have C1 := hi (fun V (hV : BkAt V b g cap f es) => put_any (x := x.ent) hV h.fit hid)
  have C2 := hi (fun V (hV : RfAt V rb lg xg la xa lc xc f es) => rput_any (id := x.id) (x := x.ent) hV h.fit)
  have HLEN := hi (putR_len f es x.id x.ent)
  have HRT := hi (putR_right (f := f) (id := x.id) (x := x.ent) h.right)
  have H := hi h
  obtain ⟨r1, hr1⟩ : ∃ r, (putR f es x.id x.ent).1 = r := ⟨_, rfl⟩
  obtain ⟨r2, hr2⟩ : ∃ r, (putR f es x.id x.ent).2 = r := ⟨_, rfl⟩
  rw [hr1, hr2] at C1 C2
  rw [hr1] at HLEN HRT ⊢
  clear hr1 hr2 h hid
  obtain ⟨d, id, ⟨⟨e, l, q, a'⟩, en, gr, p⟩, s, a⟩ := x
  obtain rfl : d = 1 := hd
  dsimp only [Ac9.ent, En.v, Ln.v] at C1 C2
  go_enter Try.func14, Try.ntmps14
  go_wp2
  obtain ⟨Wb, hWb⟩ : ∃ Wb, W.alloc (.cells (Ac9.ca ⟨1, id, ⟨⟨e, l, q, a'⟩, en, gr, p⟩, s, a⟩) 35) = Wb := ⟨_, rfl⟩
  have hT1 := H.out.later (bal W (.cells (Ac9.ca ⟨1, id, ⟨⟨e, l, q, a'⟩, en, gr, p⟩, s, a⟩) 35))
  have hX1 := CB.new W 35 (Ac9.ca ⟨1, id, ⟨⟨e, l, q, a'⟩, en, gr, p⟩, s, a⟩)
  have hnb := box_not H.out
  rw [hWb] at hT1 hX1 ⊢
  have hbW : Below W.heap.size W Wb := by rw [← hWb]; exact bal W _
  clear hWb
  have hTD := hT1.later (Below.drewN (m := 1) (Below.refl _ _))
  have hXD : CB Wb.drew W.heap.size 35 (Ac9.ca ⟨1, id, ⟨⟨e, l, q, a'⟩, en, gr, p⟩, s, a⟩) := hX1.drew
  have HTD := hi hTD
  clear hT1
  refine wp_region_noPanic ?_
  refine wp_region_held_drew (S := fun w' => CB w' W.heap.size 35 (Ac9.ca ⟨1, id, ⟨⟨e, l, q, a'⟩, en, gr, p⟩, s, a⟩)) (by kernel_rfl) hXD (fun hHeld => ?_)
  (try simp only [Array.replicate_succ, Array.replicate_zero, List.push_toArray, List.nil_append, List.cons_append])
  obtain ⟨Wd, hWd⟩ : ∃ Wd, Wb.drew = Wd := ⟨_, rfl⟩
  have hbD : Below W.heap.size W Wd := by rw [← hWd]; exact Below.drewN (m := 1) hbW
  have HTD2 : Hi (TwB w b g cap rb lg xg la xa lc xc f es Wd) := by rw [← hWd]; exact HTD
  rw [hWd] at hXD hHeld ⊢
  clear hWd HTD hTD hX1
  refine wpAnyH_take (i := 0) (v := ?_) rfl (by kernel_rfl) (by kernel_rfl) (by kernel_rfl) (fun _ _ _ h => h) (Or.inl ⟨by rfl, ?_⟩) (by assumption) ?_
  rotate_left
  · intro w' hSw; have q0 := CB.cell hSw 0; have q1 := CB.cell hSw 1; have q2 := CB.cell hSw 2; have q3 := CB.cell hSw 3; have q4 := CB.cell hSw 4; have q5 := CB.cell hSw 5; have q6 := CB.cell hSw 6; have q7 := CB.cell hSw 7; have q8 := CB.cell hSw 8; have q9 := CB.cell hSw 9; have q10 := CB.cell hSw 10; (try clear hSw); go_simp; (try with_reducible rfl)
  (try simp only [Act.put, List.getElem_toArray, List.getElem_cons_zero, List.setIfInBounds_toArray, List.set_cons_zero, List.set_cons_succ])
  refine wpAnyH_take (i := 1) (v := ?_) rfl (by kernel_rfl) (by kernel_rfl) (by kernel_rfl) (fun _ _ _ h => h) (Or.inl ⟨by rfl, ?_⟩) (by assumption) ?_
  rotate_left
  · intro w' hSw; have q0 := CB.cell hSw 0; have q1 := CB.cell hSw 1; have q2 := CB.cell hSw 2; have q3 := CB.cell hSw 3; have q4 := CB.cell hSw 4; have q5 := CB.cell hSw 5; have q6 := CB.cell hSw 6; have q7 := CB.cell hSw 7; have q8 := CB.cell hSw 8; have q9 := CB.cell hSw 9; have q10 := CB.cell hSw 10; (try clear hSw); go_simp; (try with_reducible rfl)
  (try simp only [Act.put, List.getElem_toArray, List.getElem_cons_zero, List.getElem_cons_succ, List.setIfInBounds_toArray, List.set_cons_zero, List.set_cons_succ])
  refine wpAnyH_take (i := 2) (v := ?_) rfl (by kernel_rfl) (by kernel_rfl) (by kernel_rfl) (fun _ _ _ h => h) (Or.inl ⟨by rfl, ?_⟩) (by assumption) ?_
  rotate_left
  · intro w' hSw; have q0 := CB.cell hSw 0; have q1 := CB.cell hSw 1; have q2 := CB.cell hSw 2; have q3 := CB.cell hSw 3; have q4 := CB.cell hSw 4; have q5 := CB.cell hSw 5; have q6 := CB.cell hSw 6; have q7 := CB.cell hSw 7; have q8 := CB.cell hSw 8; have q9 := CB.cell hSw 9; have q10 := CB.cell hSw 10; (try clear hSw); go_simp; (try with_reducible rfl)
  (try simp only [Act.put, List.getElem_toArray, List.getElem_cons_zero, List.getElem_cons_succ, List.setIfInBounds_toArray, List.set_cons_zero, List.set_cons_succ])
  refine wpAnyH_take (i := 3) (v := ?_) rfl (by kernel_rfl) (by kernel_rfl) (by kernel_rfl) (fun _ _ _ h => h) (Or.inl ⟨by rfl, ?_⟩) (by assumption) ?_
  rotate_left
  · intro w' hSw; have q0 := CB.cell hSw 0; have q1 := CB.cell hSw 1; have q2 := CB.cell hSw 2; have q3 := CB.cell hSw 3; have q4 := CB.cell hSw 4; have q5 := CB.cell hSw 5; have q6 := CB.cell hSw 6; have q7 := CB.cell hSw 7; have q8 := CB.cell hSw 8; have q9 := CB.cell hSw 9; have q10 := CB.cell hSw 10; (try clear hSw); go_simp; (try with_reducible rfl)
  (try simp only [Act.put, List.getElem_toArray, List.getElem_cons_zero, List.getElem_cons_succ, List.setIfInBounds_toArray, List.set_cons_zero, List.set_cons_succ])
  refine wpAnyH_take (i := 4) (v := ?_) rfl (by kernel_rfl) (by kernel_rfl) (by kernel_rfl) (fun _ _ _ h => h) (Or.inl ⟨by rfl, ?_⟩) (by assumption) ?_
  rotate_left
  · intro w' hSw; have q0 := CB.cell hSw 0; have q1 := CB.cell hSw 1; have q2 := CB.cell hSw 2; have q3 := CB.cell hSw 3; have q4 := CB.cell hSw 4; have q5 := CB.cell hSw 5; have q6 := CB.cell hSw 6; have q7 := CB.cell hSw 7; have q8 := CB.cell hSw 8; have q9 := CB.cell hSw 9; have q10 := CB.cell hSw 10; (try clear hSw); go_simp; (try with_reducible rfl)
  (try simp only [Act.put, List.getElem_toArray, List.getElem_cons_zero, List.getElem_cons_succ, List.setIfInBounds_toArray, List.set_cons_zero, List.set_cons_succ])
  refine wpAnyH_take (i := 5) (v := ?_) rfl (by kernel_rfl) (by kernel_rfl) (by kernel_rfl) (fun _ _ _ h => h) (Or.inl ⟨by rfl, ?_⟩) (by assumption) ?_
  rotate_left
  · intro w' hSw; have q0 := CB.cell hSw 0; have q1 := CB.cell hSw 1; have q2 := CB.cell hSw 2; have q3 := CB.cell hSw 3; have q4 := CB.cell hSw 4; have q5 := CB.cell hSw 5; have q6 := CB.cell hSw 6; have q7 := CB.cell hSw 7; have q8 := CB.cell hSw 8; have q9 := CB.cell hSw 9; have q10 := CB.cell hSw 10; (try clear hSw); go_simp; (try with_reducible rfl)
  (try simp only [Act.put, List.getElem_toArray, List.getElem_cons_zero, List.getElem_cons_succ, List.setIfInBounds_toArray, List.set_cons_zero, List.set_cons_succ])
  refine wpAnyH_take (i := 6) (v := ?_) rfl (by kernel_rfl) (by kernel_rfl) (by kernel_rfl) (fun _ _ _ h => h) (Or.inl ⟨by rfl, ?_⟩) (by assumption) ?_
  rotate_left
  · intro w' hSw; have q0 := CB.cell hSw 0; have q1 := CB.cell hSw 1; have q2 := CB.cell hSw 2; have q3 := CB.cell hSw 3; have q4 := CB.cell hSw 4; have q5 := CB.cell hSw 5; have q6 := CB.cell hSw 6; have q7 := CB.cell hSw 7; have q8 := CB.cell hSw 8; have q9 := CB.cell hSw 9; have q10 := CB.cell hSw 10; (try clear hSw); go_simp; (try with_reducible rfl)
  (try simp only [Act.put, List.getElem_toArray, List.getElem_cons_zero, List.getElem_cons_succ, List.setIfInBounds_toArray, List.set_cons_zero, List.set_cons_succ])
  refine wpAnyH_take (i := 7) (v := ?_) rfl (by kernel_rfl) (by kernel_rfl) (by kernel_rfl) (fun _ _ _ h => h) (Or.inl ⟨by rfl, ?_⟩) (by assumption) ?_
  rotate_left
  · intro w' hSw; have q0 := CB.cell hSw 0; have q1 := CB.cell hSw 1; have q2 := CB.cell hSw 2; have q3 := CB.cell hSw 3; have q4 := CB.cell hSw 4; have q5 := CB.cell hSw 5; have q6 := CB.cell hSw 6; have q7 := CB.cell hSw 7; have q8 := CB.cell hSw 8; have q9 := CB.cell hSw 9; have q10 := CB.cell hSw 10; (try clear hSw); go_simp; (try with_reducible rfl)
  (try simp only [Act.put, List.getElem_toArray, List.getElem_cons_zero, List.getElem_cons_succ, List.setIfInBounds_toArray, List.set_cons_zero, List.set_cons_succ])
  refine wpAnyH_take (i := 9) (v := ?_) rfl (by kernel_rfl) (by kernel_rfl) (by kernel_rfl) (fun _ _ _ h => h) (Or.inl ⟨by rfl, ?_⟩) (by assumption) ?_
  rotate_left
  · intro w' hSw; have q0 := CB.cell hSw 0; have q1 := CB.cell hSw 1; have q2 := CB.cell hSw 2; have q3 := CB.cell hSw 3; have q4 := CB.cell hSw 4; have q5 := CB.cell hSw 5; have q6 := CB.cell hSw 6; have q7 := CB.cell hSw 7; have q8 := CB.cell hSw 8; have q9 := CB.cell hSw 9; have q10 := CB.cell hSw 10; (try clear hSw); go_simp; (try with_reducible rfl)
  (try simp only [Act.put, List.getElem_toArray, List.getElem_cons_zero, List.getElem_cons_succ, List.setIfInBounds_toArray, List.set_cons_zero, List.set_cons_succ])
  refine wpAnyH_take (i := 10) (v := ?_) rfl (by kernel_rfl) (by kernel_rfl) (by kernel_rfl) (fun _ _ _ h => h) (Or.inl ⟨by rfl, ?_⟩) (by assumption) ?_
  rotate_left
  · intro w' hSw; have q0 := CB.cell hSw 0; have q1 := CB.cell hSw 1; have q2 := CB.cell hSw 2; have q3 := CB.cell hSw 3; have q4 := CB.cell hSw 4; have q5 := CB.cell hSw 5; have q6 := CB.cell hSw 6; have q7 := CB.cell hSw 7; have q8 := CB.cell hSw 8; have q9 := CB.cell hSw 9; have q10 := CB.cell hSw 10; (try clear hSw); go_simp; (try with_reducible rfl)
  (try simp only [Act.put, List.getElem_toArray, List.getElem_cons_zero, List.getElem_cons_succ, List.setIfInBounds_toArray, List.set_cons_zero, List.set_cons_succ])
  refine wpAnyH_take (i := 11) (v := ?_) rfl (by kernel_rfl) (by kernel_rfl) (by kernel_rfl) (fun _ _ _ h => h) (Or.inl ⟨by rfl, ?_⟩) (by assumption) ?_
  rotate_left
  · intro w' hSw; have q0 := CB.cell hSw 0; have q1 := CB.cell hSw 1; have q2 := CB.cell hSw 2; have q3 := CB.cell hSw 3; have q4 := CB.cell hSw 4; have q5 := CB.cell hSw 5; have q6 := CB.cell hSw 6; have q7 := CB.cell hSw 7; have q8 := CB.cell hSw 8; have q9 := CB.cell hSw 9; have q10 := CB.cell hSw 10; (try clear hSw); go_simp; (try with_reducible rfl)
  (try simp only [Act.put, List.getElem_toArray, List.getElem_cons_zero, List.getElem_cons_succ, List.setIfInBounds_toArray, List.set_cons_zero, List.set_cons_succ])
  refine wpAnyH_take (i := 12) (v := ?_) rfl (by kernel_rfl) (by kernel_rfl) (by kernel_rfl) (fun _ _ _ h => h) (Or.inl ⟨by rfl, ?_⟩) (by assumption) ?_
  rotate_left
  · intro w' hSw; have q0 := CB.cell hSw 0; have q1 := CB.cell hSw 1; have q2 := CB.cell hSw 2; have q3 := CB.cell hSw 3; have q4 := CB.cell hSw 4; have q5 := CB.cell hSw 5; have q6 := CB.cell hSw 6; have q7 := CB.cell hSw 7; have q8 := CB.cell hSw 8; have q9 := CB.cell hSw 9; have q10 := CB.cell hSw 10; (try clear hSw); go_simp; (try with_reducible rfl)
  (try simp only [Act.put, List.getElem_toArray, List.getElem_cons_zero, List.getElem_cons_succ, List.setIfInBounds_toArray, List.set_cons_zero, List.set_cons_succ])
  refine wpAnyH_take (i := 13) (v := ?_) rfl (by kernel_rfl) (by kernel_rfl) (by kernel_rfl) (fun _ _ _ h => h) (Or.inl ⟨by rfl, ?_⟩) (by assumption) ?_
  rotate_left
  · intro w' hSw; have q0 := CB.cell hSw 0; have q1 := CB.cell hSw 1; have q2 := CB.cell hSw 2; have q3 := CB.cell hSw 3; have q4 := CB.cell hSw 4; have q5 := CB.cell hSw 5; have q6 := CB.cell hSw 6; have q7 := CB.cell hSw 7; have q8 := CB.cell hSw 8; have q9 := CB.cell hSw 9; have q10 := CB.cell hSw 10; (try clear hSw); go_simp; (try with_reducible rfl)
  (try simp only [Act.put, List.getElem_toArray, List.getElem_cons_zero, List.getElem_cons_succ, List.setIfInBounds_toArray, List.set_cons_zero, List.set_cons_succ])
  refine wpAnyH_take (i := 14) (v := ?_) rfl (by kernel_rfl) (by kernel_rfl) (by kernel_rfl) (fun _ _ _ h => h) (Or.inl ⟨by rfl, ?_⟩) (by assumption) ?_
  rotate_left
  · intro w' hSw; have q0 := CB.cell hSw 0; have q1 := CB.cell hSw 1; have q2 := CB.cell hSw 2; have q3 := CB.cell hSw 3; have q4 := CB.cell hSw 4; have q5 := CB.cell hSw 5; have q6 := CB.cell hSw 6; have q7 := CB.cell hSw 7; have q8 := CB.cell hSw 8; have q9 := CB.cell hSw 9; have q10 := CB.cell hSw 10; (try clear hSw); go_simp; (try with_reducible rfl)
  (try simp only [Act.put, List.getElem_toArray, List.getElem_cons_zero, List.getElem_cons_succ, List.setIfInBounds_toArray, List.set_cons_zero, List.set_cons_succ])
  refine wpAnyH_take (i := 15) (v := ?_) rfl (by kernel_rfl) (by kernel_rfl) (by kernel_rfl) (fun _ _ _ h => h) (Or.inl ⟨by rfl, ?_⟩) (by assumption) ?_
  rotate_left
  · intro w' hSw; have q0 := CB.cell hSw 0; have q1 := CB.cell hSw 1; have q2 := CB.cell hSw 2; have q3 := CB.cell hSw 3; have q4 := CB.cell hSw 4; have q5 := CB.cell hSw 5; have q6 := CB.cell hSw 6; have q7 := CB.cell hSw 7; have q8 := CB.cell hSw 8; have q9 := CB.cell hSw 9; have q10 := CB.cell hSw 10; (try clear hSw); go_simp; (try with_reducible rfl)
  (try simp only [Act.put, List.getElem_toArray, List.getElem_cons_zero, List.getElem_cons_succ, List.setIfInBounds_toArray, List.set_cons_zero, List.set_cons_succ])
  refine wpAnyH_ready (rs := [8]) (by kernel_rfl) (by simp) ?_
  refine AllReadyH.cons rfl (fun KK hKK => ?_) AllReadyH.nil
  go_simp
  ((with_reducible refine (C1.out _ HTD2.out.bk).mono ?_); rintro e' w2 ⟨rfl, hA⟩; have hX2 := hXD.keptB hA.kept (fun e9 => hnb (.inl e9)); have hRf := (HTD2.out.half hA).1)
  (try go_simp)
  refine hKK.out _ _ hX2 (fun hHeld => ?_)
  clear hKK KK
  (try simp only [Act.put, List.getElem_toArray, List.getElem_cons_zero, List.getElem_cons_succ, List.setIfInBounds_toArray, List.set_cons_zero, List.set_cons_succ])
  refine wpAnyH_ready (rs := [16]) (by kernel_rfl) (by simp) ?_
  refine AllReadyH.cons rfl (fun KK hKK => ?_) AllReadyH.nil
  go_simp
  ((with_reducible refine (C2.out _ hRf).mono ?_); rintro e' w3 ⟨rfl, hR⟩; obtain ⟨hT3, hK3⟩ := HTD2.out.done hA hR HLEN.out HRT.out; have hX3 := hXD.keptB hK3 hnb)
  (try go_simp)
  refine hKK.out _ _ hX3 (fun hHeld => ?_)
  clear hKK KK
  (try simp only [Act.put, List.getElem_toArray, List.getElem_cons_zero, List.getElem_cons_succ, List.setIfInBounds_toArray, List.set_cons_zero, List.set_cons_succ])
  refine wpAnyH_take (i := 17) (v := ?_) rfl (by kernel_rfl) (by kernel_rfl) (by kernel_rfl) (fun _ _ _ h => h) (Or.inl ⟨by rfl, ?_⟩) (by assumption) ?_
  rotate_left
  · intro w' hSw; have q0 := CB.cell hSw 0; have q1 := CB.cell hSw 1; have q2 := CB.cell hSw 2; have q3 := CB.cell hSw 3; have q4 := CB.cell hSw 4; have q5 := CB.cell hSw 5; have q6 := CB.cell hSw 6; have q7 := CB.cell hSw 7; have q8 := CB.cell hSw 8; have q9 := CB.cell hSw 9; have q10 := CB.cell hSw 10; (try clear hSw); go_simp; (try with_reducible rfl)
  (try simp only [Act.put, List.getElem_toArray, List.getElem_cons_zero, List.getElem_cons_succ, List.setIfInBounds_toArray, List.set_cons_zero, List.set_cons_succ])
  refine wpAnyH_take (i := 18) (v := ?_) rfl (by kernel_rfl) (by kernel_rfl) (by kernel_rfl) (fun _ _ _ h => h) (Or.inl ⟨by rfl, ?_⟩) (by assumption) ?_
  rotate_left
  · intro w' hSw; have q0 := CB.cell hSw 0; have q1 := CB.cell hSw 1; have q2 := CB.cell hSw 2; have q3 := CB.cell hSw 3; have q4 := CB.cell hSw 4; have q5 := CB.cell hSw 5; have q6 := CB.cell hSw 6; have q7 := CB.cell hSw 7; have q8 := CB.cell hSw 8; have q9 := CB.cell hSw 9; have q10 := CB.cell hSw 10; (try clear hSw); go_simp; (try with_reducible rfl)
  (try simp only [Act.put, List.getElem_toArray, List.getElem_cons_zero, List.getElem_cons_succ, List.setIfInBounds_toArray, List.set_cons_zero, List.set_cons_succ])
  refine wpAnyH_done (by kernel_rfl) ?_ _
  refine NoPanic.normal ?_
  clear hHeld
  have HT3 := hi hT3
  have HK3 := hi hK3
  clear hA hRf hR hT3 hK3 hX2 hX3 hXD
  go_wp2
  go_ret
  exact ⟨rfl, HT3.out, (Kept.of hbD).trans HK3.out⟩

set_option maxRecDepth 100000 in
set_option maxHeartbeats 8000000 in
theorem does_do {w W : World} {b g cap rb lg xg : Nat} {la xa : Option Addr} {lc xc : Nat} {f : Int} {es : List En} {x : Ac9} (h : TwB w b g cap rb lg xg la xa lc xc f es W) (hid : Int64 x.id) (hd : x.d = 2) :
    Calls Try.prog 14 #[.pointer (some ⟨b, 0, none⟩), .pointer (some ⟨rb, 0, none⟩), x.v] W (Did w b g cap rb lg xg la xa lc xc f es (doR f es x.id x.a).1 W) := by
  have C1 := hi (fun V (hV : BkAt V b g cap f es) => do_any (a := x.a) hV h.fit hid)
  have C2 := hi (fun V (hV : RfAt V rb lg xg la xa lc xc f es) => rdo_any (id := x.id) (a := x.a) hV h.fit)
  have HLEN := hi (doR_len f es x.id x.a)
  have HRT := hi (doR_right (f := f) (id := x.id) (a := x.a) h.right)
  have H := hi h
  obtain ⟨r1, hr1⟩ : ∃ r, (doR f es x.id x.a).1 = r := ⟨_, rfl⟩
  obtain ⟨r2, hr2⟩ : ∃ r, (doR f es x.id x.a).2 = r := ⟨_, rfl⟩
  rw [hr1, hr2] at C1 C2
  rw [hr1] at HLEN HRT ⊢
  clear hr1 hr2 h hid
  obtain ⟨d, id, ⟨⟨e, l, q, a'⟩, en, gr, p⟩, s, a⟩ := x
  obtain rfl : d = 2 := hd
  dsimp only at C1 C2
  go_enter Try.func14, Try.ntmps14
  go_wp2
  obtain ⟨Wb, hWb⟩ : ∃ Wb, W.alloc (.cells (Ac9.ca ⟨2, id, ⟨⟨e, l, q, a'⟩, en, gr, p⟩, s, a⟩) 35) = Wb := ⟨_, rfl⟩
  have hT1 := H.out.later (bal W (.cells (Ac9.ca ⟨2, id, ⟨⟨e, l, q, a'⟩, en, gr, p⟩, s, a⟩) 35))
  have hX1 := CB.new W 35 (Ac9.ca ⟨2, id, ⟨⟨e, l, q, a'⟩, en, gr, p⟩, s, a⟩)
  have hnb := box_not H.out
  rw [hWb] at hT1 hX1 ⊢
  have hbW : Below W.heap.size W Wb := by rw [← hWb]; exact bal W _
  clear hWb
  have hTD := hT1.later (Below.drewN (m := 1) (Below.refl _ _))
  have hXD : CB Wb.drew W.heap.size 35 (Ac9.ca ⟨2, id, ⟨⟨e, l, q, a'⟩, en, gr, p⟩, s, a⟩) := hX1.drew
  have HTD := hi hTD
  clear hT1
  refine wp_region_noPanic ?_
  refine wp_region_held_drew (S := fun w' => CB w' W.heap.size 35 (Ac9.ca ⟨2, id, ⟨⟨e, l, q, a'⟩, en, gr, p⟩, s, a⟩)) (by kernel_rfl) hXD (fun hHeld => ?_)
  (try simp only [Array.replicate_succ, Array.replicate_zero, List.push_toArray, List.nil_append, List.cons_append])
  obtain ⟨Wd, hWd⟩ : ∃ Wd, Wb.drew = Wd := ⟨_, rfl⟩
  have hbD : Below W.heap.size W Wd := by rw [← hWd]; exact Below.drewN (m := 1) hbW
  have HTD2 : Hi (TwB w b g cap rb lg xg la xa lc xc f es Wd) := by rw [← hWd]; exact HTD
  rw [hWd] at hXD hHeld ⊢
  clear hWd HTD hTD hX1
  refine wpAnyH_take (i := 0) (v := ?_) rfl (by kernel_rfl) (by kernel_rfl) (by kernel_rfl) (fun _ _ _ h => h) (Or.inl ⟨by rfl, ?_⟩) (by assumption) ?_
  rotate_left
  · intro w' hSw; have q0 := CB.cell hSw 0; have q1 := CB.cell hSw 1; have q2 := CB.cell hSw 2; have q3 := CB.cell hSw 3; have q4 := CB.cell hSw 4; have q5 := CB.cell hSw 5; have q6 := CB.cell hSw 6; have q7 := CB.cell hSw 7; have q8 := CB.cell hSw 8; have q9 := CB.cell hSw 9; have q10 := CB.cell hSw 10; (try clear hSw); go_simp; (try with_reducible rfl)
  (try simp only [Act.put, List.getElem_toArray, List.getElem_cons_zero, List.setIfInBounds_toArray, List.set_cons_zero, List.set_cons_succ])
  refine wpAnyH_take (i := 1) (v := ?_) rfl (by kernel_rfl) (by kernel_rfl) (by kernel_rfl) (fun _ _ _ h => h) (Or.inl ⟨by rfl, ?_⟩) (by assumption) ?_
  rotate_left
  · intro w' hSw; have q0 := CB.cell hSw 0; have q1 := CB.cell hSw 1; have q2 := CB.cell hSw 2; have q3 := CB.cell hSw 3; have q4 := CB.cell hSw 4; have q5 := CB.cell hSw 5; have q6 := CB.cell hSw 6; have q7 := CB.cell hSw 7; have q8 := CB.cell hSw 8; have q9 := CB.cell hSw 9; have q10 := CB.cell hSw 10; (try clear hSw); go_simp; (try with_reducible rfl)
  (try simp only [Act.put, List.getElem_toArray, List.getElem_cons_zero, List.getElem_cons_succ, List.setIfInBounds_toArray, List.set_cons_zero, List.set_cons_succ])
  refine wpAnyH_take (i := 2) (v := ?_) rfl (by kernel_rfl) (by kernel_rfl) (by kernel_rfl) (fun _ _ _ h => h) (Or.inl ⟨by rfl, ?_⟩) (by assumption) ?_
  rotate_left
  · intro w' hSw; have q0 := CB.cell hSw 0; have q1 := CB.cell hSw 1; have q2 := CB.cell hSw 2; have q3 := CB.cell hSw 3; have q4 := CB.cell hSw 4; have q5 := CB.cell hSw 5; have q6 := CB.cell hSw 6; have q7 := CB.cell hSw 7; have q8 := CB.cell hSw 8; have q9 := CB.cell hSw 9; have q10 := CB.cell hSw 10; (try clear hSw); go_simp; (try with_reducible rfl)
  (try simp only [Act.put, List.getElem_toArray, List.getElem_cons_zero, List.getElem_cons_succ, List.setIfInBounds_toArray, List.set_cons_zero, List.set_cons_succ])
  refine wpAnyH_take (i := 3) (v := ?_) rfl (by kernel_rfl) (by kernel_rfl) (by kernel_rfl) (fun _ _ _ h => h) (Or.inl ⟨by rfl, ?_⟩) (by assumption) ?_
  rotate_left
  · intro w' hSw; have q0 := CB.cell hSw 0; have q1 := CB.cell hSw 1; have q2 := CB.cell hSw 2; have q3 := CB.cell hSw 3; have q4 := CB.cell hSw 4; have q5 := CB.cell hSw 5; have q6 := CB.cell hSw 6; have q7 := CB.cell hSw 7; have q8 := CB.cell hSw 8; have q9 := CB.cell hSw 9; have q10 := CB.cell hSw 10; (try clear hSw); go_simp; (try with_reducible rfl)
  (try simp only [Act.put, List.getElem_toArray, List.getElem_cons_zero, List.getElem_cons_succ, List.setIfInBounds_toArray, List.set_cons_zero, List.set_cons_succ])
  refine wpAnyH_take (i := 4) (v := ?_) rfl (by kernel_rfl) (by kernel_rfl) (by kernel_rfl) (fun _ _ _ h => h) (Or.inl ⟨by rfl, ?_⟩) (by assumption) ?_
  rotate_left
  · intro w' hSw; have q0 := CB.cell hSw 0; have q1 := CB.cell hSw 1; have q2 := CB.cell hSw 2; have q3 := CB.cell hSw 3; have q4 := CB.cell hSw 4; have q5 := CB.cell hSw 5; have q6 := CB.cell hSw 6; have q7 := CB.cell hSw 7; have q8 := CB.cell hSw 8; have q9 := CB.cell hSw 9; have q10 := CB.cell hSw 10; (try clear hSw); go_simp; (try with_reducible rfl)
  (try simp only [Act.put, List.getElem_toArray, List.getElem_cons_zero, List.getElem_cons_succ, List.setIfInBounds_toArray, List.set_cons_zero, List.set_cons_succ])
  refine wpAnyH_take (i := 6) (v := ?_) rfl (by kernel_rfl) (by kernel_rfl) (by kernel_rfl) (fun _ _ _ h => h) (Or.inl ⟨by rfl, ?_⟩) (by assumption) ?_
  rotate_left
  · intro w' hSw; have q0 := CB.cell hSw 0; have q1 := CB.cell hSw 1; have q2 := CB.cell hSw 2; have q3 := CB.cell hSw 3; have q4 := CB.cell hSw 4; have q5 := CB.cell hSw 5; have q6 := CB.cell hSw 6; have q7 := CB.cell hSw 7; have q8 := CB.cell hSw 8; have q9 := CB.cell hSw 9; have q10 := CB.cell hSw 10; (try clear hSw); go_simp; (try with_reducible rfl)
  (try simp only [Act.put, List.getElem_toArray, List.getElem_cons_zero, List.getElem_cons_succ, List.setIfInBounds_toArray, List.set_cons_zero, List.set_cons_succ])
  refine wpAnyH_take (i := 7) (v := ?_) rfl (by kernel_rfl) (by kernel_rfl) (by kernel_rfl) (fun _ _ _ h => h) (Or.inl ⟨by rfl, ?_⟩) (by assumption) ?_
  rotate_left
  · intro w' hSw; have q0 := CB.cell hSw 0; have q1 := CB.cell hSw 1; have q2 := CB.cell hSw 2; have q3 := CB.cell hSw 3; have q4 := CB.cell hSw 4; have q5 := CB.cell hSw 5; have q6 := CB.cell hSw 6; have q7 := CB.cell hSw 7; have q8 := CB.cell hSw 8; have q9 := CB.cell hSw 9; have q10 := CB.cell hSw 10; (try clear hSw); go_simp; (try with_reducible rfl)
  (try simp only [Act.put, List.getElem_toArray, List.getElem_cons_zero, List.getElem_cons_succ, List.setIfInBounds_toArray, List.set_cons_zero, List.set_cons_succ])
  refine wpAnyH_take (i := 8) (v := ?_) rfl (by kernel_rfl) (by kernel_rfl) (by kernel_rfl) (fun _ _ _ h => h) (Or.inl ⟨by rfl, ?_⟩) (by assumption) ?_
  rotate_left
  · intro w' hSw; have q0 := CB.cell hSw 0; have q1 := CB.cell hSw 1; have q2 := CB.cell hSw 2; have q3 := CB.cell hSw 3; have q4 := CB.cell hSw 4; have q5 := CB.cell hSw 5; have q6 := CB.cell hSw 6; have q7 := CB.cell hSw 7; have q8 := CB.cell hSw 8; have q9 := CB.cell hSw 9; have q10 := CB.cell hSw 10; (try clear hSw); go_simp; (try with_reducible rfl)
  (try simp only [Act.put, List.getElem_toArray, List.getElem_cons_zero, List.getElem_cons_succ, List.setIfInBounds_toArray, List.set_cons_zero, List.set_cons_succ])
  refine wpAnyH_take (i := 9) (v := ?_) rfl (by kernel_rfl) (by kernel_rfl) (by kernel_rfl) (fun _ _ _ h => h) (Or.inl ⟨by rfl, ?_⟩) (by assumption) ?_
  rotate_left
  · intro w' hSw; have q0 := CB.cell hSw 0; have q1 := CB.cell hSw 1; have q2 := CB.cell hSw 2; have q3 := CB.cell hSw 3; have q4 := CB.cell hSw 4; have q5 := CB.cell hSw 5; have q6 := CB.cell hSw 6; have q7 := CB.cell hSw 7; have q8 := CB.cell hSw 8; have q9 := CB.cell hSw 9; have q10 := CB.cell hSw 10; (try clear hSw); go_simp; (try with_reducible rfl)
  (try simp only [Act.put, List.getElem_toArray, List.getElem_cons_zero, List.getElem_cons_succ, List.setIfInBounds_toArray, List.set_cons_zero, List.set_cons_succ])
  refine wpAnyH_take (i := 10) (v := ?_) rfl (by kernel_rfl) (by kernel_rfl) (by kernel_rfl) (fun _ _ _ h => h) (Or.inl ⟨by rfl, ?_⟩) (by assumption) ?_
  rotate_left
  · intro w' hSw; have q0 := CB.cell hSw 0; have q1 := CB.cell hSw 1; have q2 := CB.cell hSw 2; have q3 := CB.cell hSw 3; have q4 := CB.cell hSw 4; have q5 := CB.cell hSw 5; have q6 := CB.cell hSw 6; have q7 := CB.cell hSw 7; have q8 := CB.cell hSw 8; have q9 := CB.cell hSw 9; have q10 := CB.cell hSw 10; (try clear hSw); go_simp; (try with_reducible rfl)
  (try simp only [Act.put, List.getElem_toArray, List.getElem_cons_zero, List.getElem_cons_succ, List.setIfInBounds_toArray, List.set_cons_zero, List.set_cons_succ])
  refine wpAnyH_ready (rs := [5]) (by kernel_rfl) (by simp) ?_
  refine AllReadyH.cons rfl (fun KK hKK => ?_) AllReadyH.nil
  go_simp
  ((with_reducible refine (C1.out _ HTD2.out.bk).mono ?_); rintro e' w2 ⟨rfl, hA⟩; have hX2 := hXD.keptB hA.kept (fun e9 => hnb (.inl e9)); have hRf := (HTD2.out.half hA).1)
  (try go_simp)
  refine hKK.out _ _ hX2 (fun hHeld => ?_)
  clear hKK KK
  (try simp only [Act.put, List.getElem_toArray, List.getElem_cons_zero, List.getElem_cons_succ, List.setIfInBounds_toArray, List.set_cons_zero, List.set_cons_succ])
  refine wpAnyH_ready (rs := [11]) (by kernel_rfl) (by simp) ?_
  refine AllReadyH.cons rfl (fun KK hKK => ?_) AllReadyH.nil
  go_simp
  ((with_reducible refine (C2.out _ hRf).mono ?_); rintro e' w3 ⟨rfl, hR⟩; obtain ⟨hT3, hK3⟩ := HTD2.out.done hA hR HLEN.out HRT.out; have hX3 := hXD.keptB hK3 hnb)
  (try go_simp)
  refine hKK.out _ _ hX3 (fun hHeld => ?_)
  clear hKK KK
  (try simp only [Act.put, List.getElem_toArray, List.getElem_cons_zero, List.getElem_cons_succ, List.setIfInBounds_toArray, List.set_cons_zero, List.set_cons_succ])
  refine wpAnyH_take (i := 12) (v := ?_) rfl (by kernel_rfl) (by kernel_rfl) (by kernel_rfl) (fun _ _ _ h => h) (Or.inl ⟨by rfl, ?_⟩) (by assumption) ?_
  rotate_left
  · intro w' hSw; have q0 := CB.cell hSw 0; have q1 := CB.cell hSw 1; have q2 := CB.cell hSw 2; have q3 := CB.cell hSw 3; have q4 := CB.cell hSw 4; have q5 := CB.cell hSw 5; have q6 := CB.cell hSw 6; have q7 := CB.cell hSw 7; have q8 := CB.cell hSw 8; have q9 := CB.cell hSw 9; have q10 := CB.cell hSw 10; (try clear hSw); go_simp; (try with_reducible rfl)
  (try simp only [Act.put, List.getElem_toArray, List.getElem_cons_zero, List.getElem_cons_succ, List.setIfInBounds_toArray, List.set_cons_zero, List.set_cons_succ])
  refine wpAnyH_take (i := 13) (v := ?_) rfl (by kernel_rfl) (by kernel_rfl) (by kernel_rfl) (fun _ _ _ h => h) (Or.inl ⟨by rfl, ?_⟩) (by assumption) ?_
  rotate_left
  · intro w' hSw; have q0 := CB.cell hSw 0; have q1 := CB.cell hSw 1; have q2 := CB.cell hSw 2; have q3 := CB.cell hSw 3; have q4 := CB.cell hSw 4; have q5 := CB.cell hSw 5; have q6 := CB.cell hSw 6; have q7 := CB.cell hSw 7; have q8 := CB.cell hSw 8; have q9 := CB.cell hSw 9; have q10 := CB.cell hSw 10; (try clear hSw); go_simp; (try with_reducible rfl)
  (try simp only [Act.put, List.getElem_toArray, List.getElem_cons_zero, List.getElem_cons_succ, List.setIfInBounds_toArray, List.set_cons_zero, List.set_cons_succ])
  refine wpAnyH_done (by kernel_rfl) ?_ _
  refine NoPanic.normal ?_
  clear hHeld
  have HT3 := hi hT3
  have HK3 := hi hK3
  clear hA hRf hR hT3 hK3 hX2 hX3 hXD
  go_wp2
  go_ret
  exact ⟨rfl, HT3.out, (Kept.of hbD).trans HK3.out⟩

set_option maxRecDepth 100000 in
set_option maxHeartbeats 8000000 in
theorem does_reset {w W : World} {b g cap rb lg xg : Nat} {la xa : Option Addr} {lc xc : Nat} {f : Int} {es : List En} {x : Ac9} (h : TwB w b g cap rb lg xg la xa lc xc f es W) (hd : x.d = 3) :
    Calls Try.prog 14 #[.pointer (some ⟨b, 0, none⟩), .pointer (some ⟨rb, 0, none⟩), x.v] W (Did w b g cap rb lg xg la xa lc xc f es (es.map En.wipe) W) := by
  have C1 := hi (fun V (hV : TwB w b g cap rb lg xg la xa lc xc f es V) => reset_any hV.bk hV.fit)
  have HLW := hi (fun k => wipeTo_len es k)
  have HAW := hi (fun k (hk : k < es.length) => wipeTo_at hk)
  have HSU := hi (fun k (hk : k < es.length) => wipeTo_succ hk)
  have HEA := hi (wipeTo_all es)
  have HZ := hi (wipeTo_zero es)
  have HRT := hi (show RightAll (es.map En.wipe) from fun y hy => by obtain ⟨z, _, rfl⟩ := List.mem_map.1 hy; exact .inl rfl)
  have H := hi h
  have hn1 := h.fit.n1
  have hbw := h.rf.box.lt
  obtain ⟨n, hn⟩ : ∃ n, es.length = n := ⟨_, rfl⟩
  have HN := hi hn
  rw [hn] at HLW HAW HSU HEA hn1
  clear h hn
  obtain ⟨d, id, ⟨⟨e, l, q, a'⟩, en, gr, p⟩, s, a⟩ := x
  obtain rfl : d = 3 := hd
  have HT1 := hi (H.out.later (bal W (.cells (Ac9.ca ⟨3, id, ⟨⟨e, l, q, a'⟩, en, gr, p⟩, s, a⟩) 35)))
  go_enter Try.func14, Try.ntmps14
  go_wp2_with (go_at_call 13; ((with_reducible refine (C1.out _ HT1.out).mono ?_); rintro e' w2 ⟨rfl, hA⟩; have HA := hi hA; clear hA))
  have H0 := hi (show RfAt w2 rb lg xg la xa lc xc f (wipeTo es 0) ∧ BkAt w2 b g cap f (es.map En.wipe) ∧ Kept (bs2 g lg xg es) W w2 from ⟨by rw [HZ.out]; exact (HT1.out.half HA.out).1, HA.out.bk, (Kept.of (bal W _)).trans (HT1.out.half HA.out).2⟩)
  clear HA C1
  go_loopw [7] (fun i wr => ∃ k : Nat, k ≤ n ∧ i = .int .i64 k ∧ Hi (RfAt wr rb lg xg la xa lc xc f (wipeTo es k) ∧ BkAt wr b g cap f (es.map En.wipe) ∧ Kept (bs2 g lg xg es) W wr)) (fun i _ => n - (intOf i).toNat)
  case atStart => exact ⟨0, Nat.zero_le _, rfl, H0⟩
  case round =>
    obtain ⟨k, hk, rfl, HX⟩ := hrel
    clear H0
    have r1 := HX.out.1.box.cell 1
    rw [HLW.out k] at r1
    by_cases hlt : k < n
    · have hwne : wipeTo es k ≠ [] := fun e9 => by have h9 := congrArg List.length e9; rw [HLW.out k, List.length_nil] at h9; omega
      have hene : es ≠ [] := fun e9 => by have h9 := congrArg List.length e9; rw [HN.out, List.length_nil] at h9; omega
      obtain ⟨rfl, rfl, hlr, hxr, hb1, hb2, hb3⟩ := HX.out.1.ne0 hwne
      have HTH := hi (show wr.there lg (k * 7) (#[Value.bool false, .bool false, .bool false, .bool false, .bool false, .int .i64 0, .int .i64 0] : Array Value).size from fun j hj => (hlr.lnThere (by rw [HLW.out k]; exact hlt)) j (Nat.lt_of_lt_of_le hj (by decide)))
      have HNE := hi hene
      clear hlr hxr
      go_wp2_with (first
        | (refine wpList_store_mid rfl 32 (.tmp 64) (.tmp 63) rfl lg (k * 7) #[.bool false, .bool false, .bool false, .bool false, .bool false, .int .i64 0, .int .i64 0] rfl rfl ?_ size_ln (by simp [Value.oneCell']) ?_; · exact HTH.out))
      go_roundw
      case rel =>
        have hks : Kept (bs2 g lg xg es) W (wr.setCells lg (k * 7) [.bool false, .bool false, .bool false, .bool false, .bool false, .int .i64 0, .int .i64 0]) := kept_sets (bs := bs2 g lg xg es) (b := lg) (.inr ⟨HNE.out, .inl rfl⟩) _ _ HX.out.2.2
        refine ⟨k + 1, by omega, by go_num, hi ⟨?_, ?_, hks⟩⟩
        · rw [← HSU.out k hlt]
          exact HX.out.1.setLn (HAW.out k hlt) Ln.zero
        · have hnn := H.out.n2 HNE.out
          exact ⟨HX.out.2.1.box.heap (heap_sets (show b ≠ lg by omega) _ _ _), HX.out.2.1.row.heap (heap_sets (show g ≠ lg by omega) _ _ _), HX.out.2.1.ne⟩
      case measure => simp only [intOf]; omega
    · obtain rfl : k = n := by omega
      go_wp2
      go_ret
      have h1 := HX.out.1
      rw [HEA.out] at h1
      exact ⟨rfl, H.out.both HX.out.2.1 h1 (by simp) HRT.out HX.out.2.2, HX.out.2.2⟩

theorem does_other {w W : World} {b g cap rb lg xg : Nat} {la xa : Option Addr} {lc xc : Nat} {f : Int} {es : List En} {x : Ac9} (h : TwB w b g cap rb lg xg la xa lc xc f es W) (h1 : x.d ≠ 1) (h2 : x.d ≠ 2) (h3 : x.d ≠ 3) :
    Calls Try.prog 14 #[.pointer (some ⟨b, 0, none⟩), .pointer (some ⟨rb, 0, none⟩), x.v] W (Did w b g cap rb lg xg la xa lc xc f es es W) := by
  have H := hi h
  obtain ⟨d, id, ⟨⟨e, l, q, a'⟩, en, gr, p⟩, s, a⟩ := x
  dsimp only at h1 h2 h3
  have q1 : (d == 1) = false := by simpa using h1
  have q2 : (d == 2) = false := by simpa using h2
  have q3 : (d == 3) = false := by simpa using h3
  clear h h1 h2 h3
  go_enter Try.func14, Try.ntmps14
  go_wp2
  go_ret
  exact ⟨rfl, H.out.later (bal W _), Kept.of (bal W _)⟩

theorem does_any {w W : World} {b g cap rb lg xg : Nat} {la xa : Option Addr} {lc xc : Nat} {f : Int} {es : List En} {x : Ac9} (h : TwB w b g cap rb lg xg la xa lc xc f es W) (hid : Int64 x.id) :
    Calls Try.prog 14 #[.pointer (some ⟨b, 0, none⟩), .pointer (some ⟨rb, 0, none⟩), x.v] W (Did w b g cap rb lg xg la xa lc xc f es (actE f es x) W) := by
  unfold actE
  by_cases h1 : x.d = 1
  · rw [if_pos h1]; exact does_put h hid h1
  · rw [if_neg h1]
    by_cases h2 : x.d = 2
    · rw [if_pos h2]; exact does_do h hid h2
    · rw [if_neg h2]
      by_cases h3 : x.d = 3
      · rw [if_pos h3]; exact does_reset h h3
      · rw [if_neg h3]; exact does_other h h1 h2 h3

end Go.Proofs.Ytfjihpcemmobjaa
