/-
  The law's ids, once more: the numbers in a row of its own.
-/
import Derived.Test.YtfjihpcemmobjaaLawH
namespace Go.Proofs.Ytfjihpcemmobjaa
open Go.ChangeShapes Go.WideShapes Go.ChangeAt Go.RowKit Go.Shelf
set_option linter.unusedVariables false
attribute [local go_sem] Oper.semAt_some

/-- The slice that comes holds the numbers, in a row of the call's own. -/
def OwnInts (w : World) (xs : List Int) (e : Ending) (W' : World) : Prop := ∃ a cap, e = .returned (.slice a xs.length cap) ∧ W'.ownsRow w.heap.size 3 1 (.slice a xs.length cap) xs.length (ints xs) ∧ Below w.heap.size w W'
theorem ownInts_of {w W' : World} {xs : List Int} {o : Value} (h : W'.ownsRow w.heap.size 3 1 o xs.length (ints xs)) (hb : Below w.heap.size w W') : OwnInts w xs (.returned o) W' := by
  obtain ⟨a, cap, rfl⟩ := own_slice h
  exact ⟨a, cap, rfl, h, hb⟩
theorem own_heap {W W' : World} {base sz n : Nat} {te : TypeId} {v : Value} {cs : List Value} (h : W.ownsRow base te sz v n cs) (hs : ∀ j, v.ownBlock = some j → W'.heap[j]? = W.heap[j]?) : W'.ownsRow base te sz v n cs := by
  rcases h with ⟨h0, h1 | ⟨g, cap, cur, e, hg, hc, rest⟩⟩
  · exact ⟨h0, .inl h1⟩
  · subst e
    exact ⟨h0, .inr ⟨g, cap, cur, rfl, hg, (hs g (by simp [Value.ownBlock])).trans hc, rest⟩⟩
theorem kept_grown {A A' : World} {row : Option Nat} (hg : A.grownBy A' row) : Kept (fun i => row = some i) A A' :=
  ⟨hg.os, hg.tape, hg.output, hg.size, fun i hi' hn => hg.block i hi' (fun e => hn e.symm)⟩
theorem Kept.kw {bs : Nat → Prop} {B : Nat} {V V' : World} (k : Kept bs V V') (hn : ∀ i, bs i → i < B) : KW B V V' :=
  ⟨k.size, fun i o h1 _ h3 _ => (k.block i (Array.getElem?_eq_some_iff.1 h3).1 (fun e => by have := hn i e; omega)).trans h3⟩

set_option maxRecDepth 100000 in
set_option maxHeartbeats 4000000 in
theorem ids_own {lo hi' k : Nat} {fv : Value} {xs : List It} {w : World} (h : Iter lo hi' k fv xs w) (hl : xs.length ≤ 20000) :
    Calls Try.prog 20 #[fv] w (OwnInts w (idsOf xs)) := by
  obtain ⟨i0, hi2, hz0, hz1, hz2⟩ := info_parts info_i
  obtain ⟨w3, hw3⟩ : ∃ w3, w.alloc (.cells #[.slice none 0 0] 43) = w3 := ⟨_, rfl⟩
  have hz3 : w3.heap.size = w.heap.size + 1 := by rw [← hw3]; simp
  have hB3 : Below w.heap.size w w3 := by rw [← hw3]; exact bal w _
  have hC3 : CB w3 w.heap.size 43 #[.slice none 0 0] := by rw [← hw3]; exact CB.new w _ _
  have hhi := h.hi_le
  obtain ⟨gf, lb, rfl, eg, hh3, hq⟩ := h.below hB3
  have hst := hq w3 (Nat.le_refl _) (fun _ _ _ => rfl)
  have HB3 := hi hB3
  have HC3 := hi hC3
  clear hq h hB3 hC3
  subst hw3
  refine (callsIn_wide (n := 6)).1 ?_
  refine callsIn_of_wp_marks Try.func20 rfl trivial ?_ rfl
  simp only [Try.ntmps20, List.size_toArray, List.length_cons, List.length_nil, Nat.reduceAdd, Nat.reduceSub, Array.replicate_succ, Array.replicate_zero, List.push_toArray, List.append_toArray, List.nil_append, List.cons_append]
  gi_wp2
  obtain ⟨w3, hw3⟩ : ∃ w3, w.alloc (.cells #[.slice none 0 0] 43) = w3 := ⟨_, rfl⟩
  rw [hw3] at hz3 hst hh3 HB3 HC3 ⊢
  clear hw3
  refine range_win (n := 6) (by omega) (gf := gf) (lb := lb) rfl eg
    hst (fun a b => KpX.trans a b) (fun V l o o' h1 h2 h3 h4 => kpx_put (by omega) (by omega)) (Below.refl _ _) (fun _ => rfl)
    (fun pre V => (∃ v, Boxed V w.heap.size 43 v ∧ V.ownsRow (w3.heap.size + 2 + k) 3 1 v pre.length (ints (idsOf pre))) ∧ Below w.heap.size w V)
    (fun cd pre V => False)
    (AbL.and (rowBox_abL 43 3 1 w.heap.size w3.heap.size k (by omega) (fun pre => List.length pre) (fun pre => ints (idsOf pre))) (AbL.below (Nat.le_refl _) (by omega)))
    (fun _ _ _ _ _ hs _ _ => hs)
    ⟨⟨_, HC3.out, World.ownsRow_nil _ _ _ _⟩, HB3.out⟩
    (fun x a' V => a' = { tmps := #[.func (.func gf) #[] lb, undef, .slice none 0 0, .pointer (some ⟨w.heap.size, 0, none⟩), .int .i64 x.1, .func (.func gf) #[] lb, .int .i64 x.1, x.2.v, undef, undef, undef, undef, undef, undef, undef, undef], defers := [] })
    (fun x a' => AbL.pure _ _ _)
    ?assign ?body ?done ?stop
  case assign =>
    rintro l' pre x V K h hsz hK
    gi_wp2
    exact hK _ _ (KW.refl _ _) (KpX.refl _ _ _ _ _) h rfl
  case body =>
    rintro l' pre x a' V hsz ⟨⟨v, hv, hrow⟩, hB⟩ rfl hpx
    have hlt : pre.length < xs.length := by have := hpx.length_le; simp at this; omega
    clear hpx
    have hcv := hv.cell
    have hWs := hB.size
    obtain ⟨q, hq⟩ : ∃ q, ints (idsOf pre) = q := ⟨_, rfl⟩
    obtain ⟨m, hm⟩ : ∃ m, pre.length = m := ⟨_, rfl⟩
    rw [hq, hm] at hrow
    rw [hm] at hlt
    have hmb : m + 1 ≤ 20000 := by omega
    have HQ := hi hq
    have HM := hi hm
    have HB := hi hB
    clear hq hm hB
    obtain ⟨va, vc, rfl⟩ := own_slice hrow
    gi_wp2_with (first
      | (gi_at_builtin; refine wpListIn_append_own _ rfl _ _ 43 rfl (w3.heap.size + 2 + k) 3 i0 (.int .i64 0) 1 8 Try.underlying43 hi2 hz0 hz1 hz2 rfl (by decide) _ _ _ rfl (hrow.alloc _) ⟨V.heap.size, 0, none⟩ 1 1 [.int .i64 x.1] rfl rfl (cell_one_new _ _ _) (by simp [Value.oneCell']) (by unfold maxLen; omega) (by omega) (by simp; omega) ?_; intro v' w9 hown' hgrow _; obtain ⟨g', cap', rfl⟩ := ownsRow_succ hown'; obtain ⟨hv1, hv2, hr2, hs2, hk2, hp2⟩ := grow_box hv hrow (by omega) (by omega) hown' hgrow; have hc1 := hv1.cell; have hf1 := hv1.frozen; have hc2 := hv2.cell)
      | gi_in)
    exact ⟨⟨hs2, fun i o h1 h2 h3 _ => (hk2 i (by omega) (by omega)).trans h3⟩, ⟨hs2, fun i q => hk2 i (by omega) (by omega)⟩, ⟨_, hv2, by rw [idsOf_append, show idsOf [x] = [x.1] from rfl, ints_append, HQ.out, show (pre ++ [x]).length = m + 1 by have := HM.out; simp; omega]; exact hr2⟩, HB.out.trans (hp2.mono (by omega))⟩
  case done =>
    rintro ys V rfl ⟨⟨v, hv, hrow⟩, hB⟩ hK _
    have hcv := hv.cell
    obtain ⟨va, vc, rfl⟩ := own_slice hrow
    gi_wp2
    refine ⟨by simp, .inl ⟨_, _, rfl, run_takeDeferred hK, ?_⟩⟩
    refine ⟨_, results_tmp rfl _ _ _, ?_⟩
    refine ownInts_of ?_ (below_put hB _ hB.size (by omega))
    rw [idsOf_len]
    exact own_base (ownsRow_putObj hrow _ hK rfl) (by omega)
  case stop =>
    rintro c pre V _ h _ _
    exact h.elim

end Go.Proofs.Ytfjihpcemmobjaa
