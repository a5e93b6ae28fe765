/-
  A slice of acts that lies in given blocks; slices.Clone at it; Play.
-/
import Derived.Test.YtjcgcnghjcbkeaaIrqG
import Derived.Test.YtjcgcnghjcbkeaaWin
import Derived.Laws.AppendOwn
import Derived.Maps.AppendAt
import Derived.Shelf.Abstract
import Derived.OwnWalkIn
import Derived.TacticsInMore
import Derived.LoopNIn
import Derived.LoopIn
namespace Go.Proofs.Ytjcgcnghjcbkeaa
open Go.ChangeShapes Go.WideShapes Go.ChangeAt Go.RowKit Go.Shelf
set_option linter.unusedVariables false
attribute [local go_sem] Oper.semAt_some

theorem info_act : (Try.prog.info? 30).map (fun i => (i.zero, i.size, i.bytes)) = some (some (.int .i64 0), 1, 8) := by kernel_rfl

/-- The slice v holds the ints xs, in a block from lo up to hi. -/
def IntsIn (lo hi : Nat) (W : World) (v : Value) (xs : List Int) : Prop :=
  ∃ (a : Option Addr) (cap : Nat), v = .slice a xs.length cap ∧ (xs ≠ [] → ∃ b off : Nat, a = some ⟨b, off, none⟩ ∧ lo ≤ b ∧ b < hi ∧ ∀ j, j < xs.length → W.cell? ⟨b, off + j, none⟩ = some (.int .i64 (xs[j]?.getD 0)))
theorem IntsIn.kept {lo hi : Nat} {A W : World} {v : Value} {xs : List Int} (h : IntsIn lo hi A v xs) (k : ∀ i, lo ≤ i → i < hi → W.heap[i]? = A.heap[i]?) : IntsIn lo hi W v xs := by
  obtain ⟨a, cap, rfl, hcs⟩ := h
  refine ⟨a, cap, rfl, fun hne => ?_⟩
  obtain ⟨g, o, rfl, h1, h2, hc⟩ := hcs hne
  exact ⟨g, o, rfl, h1, h2, fun j hj => (World.cell?_of_block (w := A) (a := ⟨g, o + j, none⟩) (k g h1 h2)).trans (hc j hj)⟩
theorem IntsIn.mono {lo hi lo' hi' : Nat} {A : World} {v : Value} {xs : List Int} (h : IntsIn lo hi A v xs) (h1 : lo' ≤ lo) (h2 : hi ≤ hi') : IntsIn lo' hi' A v xs := by
  obtain ⟨a, cap, rfl, hcs⟩ := h
  refine ⟨a, cap, rfl, fun hne => ?_⟩
  obtain ⟨g, o, rfl, x1, x2, hc⟩ := hcs hne
  exact ⟨g, o, rfl, by omega, by omega, hc⟩
theorem IntsIn.slice {lo hi : Nat} {W : World} {v : Value} {xs : List Int} (h : IntsIn lo hi W v xs) : ∃ a cap, v = .slice a xs.length cap := by obtain ⟨a, cap, e, _⟩ := h; exact ⟨a, cap, e⟩
theorem IntsIn.read {lo hi : Nat} {W : World} {a : Option Addr} {n cap : Nat} {xs : List Int} (h : IntsIn lo hi W (.slice a n cap) xs) {k : Nat} (hk : k < n) : ∃ b o : Nat, a = some ⟨b, o, none⟩ ∧ W.cell? ⟨b, o + k, none⟩ = some (.int .i64 (nth xs k)) := by
  obtain ⟨a', cap', e, hc⟩ := h
  injection e with e1 e2 e3
  subst e1; subst e2
  obtain ⟨b, o, ha, _, _, hcs⟩ := hc (fun e => by simp [e] at hk)
  exact ⟨b, o, ha, hcs k hk⟩
theorem intsIn_own {W : World} {base : Nat} {v : Value} {xs : List Int} (h : W.ownsRow base 30 1 v xs.length (xs.map (Value.int .i64))) : IntsIn base W.heap.size W v xs := by
  rcases h.2 with ⟨rfl, h0⟩ | ⟨g, cap, cur, rfl, hb, hg, h1, h2, h3, h4⟩
  · exact ⟨none, 0, by rw [h0], fun hx => absurd (List.length_eq_zero_iff.1 h0) hx⟩
  · refine ⟨some ⟨g, 0, none⟩, cap, rfl, fun _ => ⟨g, 0, rfl, hb, (Array.getElem?_eq_some_iff.1 hg).1, fun j hj => ?_⟩⟩
    have hc : cur.toList[j]? = some (.int .i64 (xs[j]?.getD 0)) := by
      have h5 : (cur.toList.take (xs.length * 1))[j]? = (xs.map (Value.int .i64))[j]? := by rw [h4]
      rw [List.getElem?_take_of_lt (by omega)] at h5
      rw [h5]
      simp [hj]
    simp only [World.cell?, hg]
    simpa using hc

theorem addr_add (b o c : Nat) : (⟨b, o, none⟩ : Addr).add c = ⟨b, o + c, none⟩ := by
  unfold Addr.add
  split <;> simp_all

set_option maxHeartbeats 2000000 in
theorem clone_any (ks : List Int) (v : Value) (w : World) (h : IntsAt w v ks) (hl : ks.length ≤ 17592186044416) :
    Calls Try.prog 26 #[v] w fun e w' => ∃ v', e = .returned v' ∧ IntsIn w.heap.size w'.heap.size w' v' ks ∧ Below w.heap.size w w' := by
  obtain ⟨i0, hi2, hz0, hz1, hz2⟩ := info_parts info_act
  obtain ⟨a, cap, rfl, _, hc⟩ := h
  cases a with
  | none =>
    have hk : ks = [] := by
      rcases ks with _ | ⟨k, r⟩
      · rfl
      · obtain ⟨b, o, e, _⟩ := hc (by simp); cases e
    subst hk
    clear hc hl
    dsimp only [List.length_nil]
    have hnil : ∀ W, (binOp .eql 24 (.slice none 0 cap) (.slice none 0 0)).run Try.prog W = .ok (.bool true) W := fun W => Lib.run_eql_slice_nil W _ _ none 0 cap 0 0 Try.underlying24
    go_enter Try.func26, Try.ntmps26
    go_wp2
    go_ret
    exact ⟨_, rfl, ⟨none, 0, rfl, fun h => absurd rfl h⟩, Below.refl _ _⟩
  | some ad =>
    have hnil : ∀ W, (binOp .eql 24 (.slice (some ad) ks.length cap) (.slice none 0 0)).run Try.prog W = .ok (.bool false) W := fun W => Lib.run_eql_slice_nil W _ _ (some ad) ks.length cap 0 0 Try.underlying24
    have hcs : ∀ (j : Nat) (u : Value), (ks.map (Value.int .i64))[j]? = some u → (w.alloc (.cells #[] 30)).cell? (ad.add j) = some u := by
      intro j u hu
      have hj : j < ks.length := by have := (List.getElem?_eq_some_iff.1 hu).1; simpa using this
      obtain ⟨b, o, e, hcc⟩ := hc (by intro e; rw [e] at hj; simp at hj)
      cases e
      have h1 := hcc j hj
      rw [addr_add, World.cell?_alloc_lt _ _ _ (World.block_lt_of_cell? w _ h1), h1]
      simp [hj] at hu
      simp [hj, hu]
    have HCS := hi hcs
    clear hcs hc
    have hown : (w.alloc (.cells #[] 30)).ownsRow w.heap.size 30 1 (.slice (some ⟨w.heap.size, 0, none⟩) 0 0) 0 [] :=
      ⟨rfl, .inr ⟨w.heap.size, 0, #[], rfl, Nat.le_refl _, World.alloc_heap_new w _, Nat.le_refl _, by unfold maxLen; omega, rfl, rfl⟩⟩
    have HO := hi hown
    clear hown
    obtain ⟨n, hn⟩ : ∃ n, ks.length = n := ⟨_, rfl⟩
    have HN := hi hn
    rw [hn] at hl hnil ⊢
    clear hn
    go_enter Try.func26, Try.ntmps26
    go_wp2_with (first
      | (at_builtin; refine wpList_append_own _ rfl _ _ 24 rfl w.heap.size 30 i0 (.int .i64 0) 1 8 Try.underlying24 hi2 hz0 hz1 hz2 rfl (by decide) _ _ _ rfl HO.out ad n cap (ks.map (Value.int .i64)) rfl (by simp [HN.out]) HCS.out (by simp [Value.oneCell']) (by unfold maxLen; omega) (by omega) (by simp) ?_; intro v9 w9 hown9 hgrow9 _; have HW := hi hown9; have HG := hi hgrow9; clear hown9 hgrow9))
    go_ret
    have hb : Below w.heap.size w w9 := (bal w _).grown HG.out (by simp) (fun k e => by cases e; exact Nat.le_refl _)
    refine ⟨_, rfl, ?_, hb⟩
    have h2 := HW.out
    rw [List.nil_append, Nat.zero_add, ← HN.out] at h2
    have h3 := intsIn_own h2
    exact h3

end Go.Proofs.Ytjcgcnghjcbkeaa
