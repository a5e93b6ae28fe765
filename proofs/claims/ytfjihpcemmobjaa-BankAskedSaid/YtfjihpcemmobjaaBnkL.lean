/-
  Package bank: Count over any iterator; the law's ids.
-/
import Derived.Test.YtfjihpcemmobjaaBnkK
import Derived.Test.YtfjihpcemmobjaaInts
namespace Go.Proofs.Ytfjihpcemmobjaa
open Go.ChangeShapes Go.WideShapes Go.ChangeAt Go.RowKit Go.Shelf
set_option linter.unusedVariables false
attribute [local go_sem] Oper.semAt_some

theorem zip_two (i j : Nat) (u v : Value) (t : Array Value) : Array.foldl (fun t x => t.setIfInBounds x.fst x.snd) t ((#[i, j] : Array Nat).zip #[u, v]) = (t.setIfInBounds i u).setIfInBounds j v := by simp
theorem kpx_put {lo hi k B : Nat} {W : World} {l : Nat} {o' : Obj} (h1 : hi ≤ l) (h2 : l < B) : KpX lo hi k B W (W.putObj l o') := ⟨by simp, fun i q => World.putObj_heap_other (by omega)⟩
theorem kpx_set {lo hi k B : Nat} {W : World} {b o : Nat} {v : Value} (h1 : hi ≤ b ∨ b < lo) (h2 : b < B) : KpX lo hi k B W (W.setCell ⟨b, o, none⟩ v) := ⟨by simp, fun i q => Below.heap_setCell W ⟨b, o, none⟩ v i (show i ≠ b by omega)⟩

set_option maxRecDepth 100000 in
set_option maxHeartbeats 2000000 in
theorem count_any {lo hi' k : Nat} {fv : Value} {xs : List It} {w : World} (h : Iter lo hi' k fv xs w) (hl : xs.length ≤ 20000) :
    Calls Try.prog 24 #[fv] w fun e w' => e = .returned (.int .i64 xs.length) ∧ Below w.heap.size w w' := by
  obtain ⟨w3, hw3⟩ : ∃ w3, w.alloc (.cells #[.int .i64 0] 3) = w3 := ⟨_, rfl⟩
  have hz3 : w3.heap.size = w.heap.size + 1 := by rw [← hw3]; simp
  have hB3 : Below w.heap.size w w3 := by rw [← hw3]; exact bal w _
  have hC3 : CB w3 w.heap.size 3 #[.int .i64 0] := by rw [← hw3]; exact CB.new w _ _
  have hhi := h.hi_le
  obtain ⟨gf, lb, rfl, eg, hh3, hq⟩ := h.below hB3
  have hst := hq w3 (Nat.le_refl _) (fun _ _ _ => rfl)
  have HB3 := hi hB3
  have HC3 := hi hC3
  clear hq h hB3 hC3
  subst hw3
  refine (callsIn_wide (n := 6)).1 ?_
  refine callsIn_of_wp_marks Try.func24 rfl trivial ?_ rfl
  simp only [Try.ntmps24, List.size_toArray, List.length_cons, List.length_nil, Nat.reduceAdd, Nat.reduceSub, Array.replicate_succ, Array.replicate_zero, List.push_toArray, List.append_toArray, List.nil_append, List.cons_append]
  gi_wp2
  obtain ⟨w3, hw3⟩ : ∃ w3, w.alloc (.cells #[.int .i64 0] 3) = w3 := ⟨_, rfl⟩
  rw [hw3] at hz3 hst hh3 HB3 HC3 ⊢
  clear hw3
  refine range_win (n := 6) (by omega) (gf := gf) (lb := lb) rfl eg
    hst (fun a b => KpX.trans a b) (fun V l o o' h1 h2 h3 h4 => kpx_put (by omega) (by omega)) (Below.refl _ _) (fun _ => rfl)
    (fun pre V => CB V w.heap.size 3 #[.int .i64 pre.length] ∧ Below w.heap.size w V)
    (fun cd pre V => False)
    (AbL.of (m := 2 + k) (fun s A A' row hs hg hr => ⟨hs.1.kept hg (fun e => by have := hr _ e.symm; omega), hs.2.grown hg hs.2.size (fun r e => by have := hr _ e; omega)⟩) rfl)
    (fun _ _ _ _ _ hs _ _ => hs)
    ⟨HC3.out, HB3.out⟩
    (fun x a' V => a' = { tmps := #[.func (.func gf) #[] lb, undef, .int .i64 0, .pointer (some ⟨w.heap.size, 0, none⟩), .func (.func gf) #[] lb, .int .i64 x.1, x.2.v, undef, undef, undef], defers := [] })
    (fun x a' => AbL.pure _ _ _)
    ?assign ?body ?done ?stop
  case assign =>
    rintro l' pre x V K h hsz hK
    gi_wp2
    exact hK _ _ (KW.refl _ _) (KpX.refl _ _ _ _ _) h (by rw [zip_two]; rfl)
  case body =>
    rintro l' pre x a' V hsz ⟨hC, hB⟩ rfl hpx
    have hlt : pre.length + 1 ≤ xs.length := by have := hpx.length_le; simpa using this
    have c0 := hC.cell 0
    have f0 := hC.frozen 0
    have HC := hi hC
    obtain ⟨m, hm⟩ : ∃ m, pre.length = m := ⟨_, rfl⟩
    rw [hm] at c0 hlt
    have HM := hi hm
    have hmb : m + 1 ≤ 20000 := by omega
    have HBX := hi hB
    clear hC hpx hm hB
    gi_wp2
    refine ⟨KW.set _ _ _, kpx_set (by omega) (by omega), ?_, below_set HBX.out (Nat.le_refl _) _⟩
    have h2 := HC.out.set 0 (.int .i64 ((m : Int) + 1))
    rw [List.length_append, HM.out]
    exact h2
  case done =>
    rintro ys V rfl ⟨hC, hB⟩ hK _
    have c0 := hC.cell 0
    gi_wp2
    refine ⟨by simp, .inl ⟨_, _, rfl, run_takeDeferred hK, ?_⟩⟩
    exact ⟨_, results_tmp rfl _ _ _, rfl, hB.trans ⟨rfl, rfl, rfl, by simp, fun i hi' => World.putObj_heap_other (by omega)⟩⟩
  case stop =>
    rintro c pre V _ h _ _
    exact h.elim

end Go.Proofs.Ytfjihpcemmobjaa
