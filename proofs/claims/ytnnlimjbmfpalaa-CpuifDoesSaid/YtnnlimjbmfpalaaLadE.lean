/-
  Package ladder: Running, Drop, Len: loops over All that are left at once, or count.
-/
import Derived.Test.YtnnlimjbmfpalaaLadD
namespace Go.Proofs.Ytnnlimjbmfpalaa
open Go.ChangeShapes Go.WideShapes Go.ChangeAt Go.RowKit Go.Shelf
set_option linter.unusedVariables false
attribute [local go_sem] Oper.semAt_some

theorem AbL.cb {β : Type} {B k : Nat} (b : Nat) (t : TypeId) (f : β → Array Value) (hb : b < B) : AbL B k (fun s W => CB W b t (f s)) := AbL.of (m := 2 + k) (fun s A A' row hs hg hr => hs.kept hg (fun e => by have := hr b e.symm; omega)) rfl
theorem CB.putO {W : World} {b : Nat} {t : TypeId} {cs : Array Value} (h : CB W b t cs) {l : Nat} (o : Obj) (hne : b ≠ l) : CB (W.putObj l o) b t cs := (World.putObj_heap_other hne).trans h
theorem below_put {n : Nat} {w W : World} (h : Below n w W) {l : Nat} (o : Obj) (hn : n ≤ W.heap.size) (hl : n ≤ l) : Below n w (W.putObj l o) := h.grown (grownBy_putObj' W l o) hn (fun k e => by cases e; exact hl)

theorem results_ii {fn : Func} {c d : Tmp} (h : fn.results = #[.cell c 3, .cell d 3]) (tmps : Array Value) (w : World) (b b2 : Nat) (x y : Value) (hp : tmps.getD c undef = .pointer (some ⟨b, 0, none⟩)) (hq : tmps.getD d undef = .pointer (some ⟨b2, 0, none⟩))
    (hb : CB w b 3 #[x]) (hb2 : CB w b2 3 #[y]) : (results fn tmps).run Try.prog w = .ok (.tuple #[x, y]) w := by
  have hp' : tmps[c]?.getD undef = .pointer (some ⟨b, 0, none⟩) := by simpa using hp
  have hq' : tmps[d]?.getD undef = .pointer (some ⟨b2, 0, none⟩) := by simpa using hq
  have h0 := hb.cell 0
  have h1 := hb2.cell 0
  simp [results, h, go_sem, hp', hq', h0, h1]
theorem results_drop {fn : Func} {c d : Tmp} (h : fn.results = #[.cell c 27, .cell d 4]) (tmps : Array Value) (w : World) (b b2 : Nat) (x y z : Value) (hp : tmps.getD c undef = .pointer (some ⟨b, 0, none⟩)) (hq : tmps.getD d undef = .pointer (some ⟨b2, 0, none⟩))
    (hb : CB w b 27 #[x, y]) (hb2 : CB w b2 4 #[z]) : (results fn tmps).run Try.prog w = .ok (.tuple #[.agg #[x, y], z]) w := by
  have hp' : tmps[c]?.getD undef = .pointer (some ⟨b, 0, none⟩) := by simpa using hp
  have hq' : tmps[d]?.getD undef = .pointer (some ⟨b2, 0, none⟩) := by simpa using hq
  have h0 := hb.cell 0
  have h1 := hb.cell 1
  have h2 := hb2.cell 0
  simp [results, h, go_sem, hp', hq', h0, h1, h2]

theorem heap_set_two (W : World) (b c i : Nat) (u v : Value) (h1 : i ≠ b) (h2 : i ≠ c) : ((W.setCell ⟨b, 0, none⟩ u).setCell ⟨c, 0, none⟩ v).heap[i]? = W.heap[i]? := (Below.heap_setCell _ ⟨c, 0, none⟩ _ i h2).trans (Below.heap_setCell _ ⟨b, 0, none⟩ _ i h1)

/-- The first place where something runs. -/
def top (f : Rg) : Option Nat := (rungs f).head?
def runV (f : Rg) : Int × Int := match top f with
  | some i => (8 * ((i : Int) / 2), ((i : Int) % 2))
  | none => (255, 0)
def dropR (f : Rg) : Rg := match top f with
  | some i => put f i false
  | none => f
def dropB (f : Rg) : Bool := (top f).isSome
theorem runV_some {f : Rg} {i : Nat} (h : top f = some i) : runV f = (8 * ((i : Int) / 2), ((i : Int) % 2)) := by rw [runV, h]
theorem runV_none {f : Rg} (h : top f = none) : runV f = (255, 0) := by rw [runV, h]
theorem dropR_some {f : Rg} {i : Nat} (h : top f = some i) : dropR f = put f i false := by rw [dropR, h]
theorem dropR_none {f : Rg} (h : top f = none) : dropR f = f := by rw [dropR, h]
theorem top_one {f : Rg} {i : Nat} (h : [i] <+: rungs f) : top f = some i := by
  obtain ⟨r, hr⟩ := h
  rw [top, ← hr]; rfl
theorem top_nil {f : Rg} (h : rungs f = []) : top f = none := by rw [top, h]; rfl
theorem top_lt {f : Rg} {i : Nat} (h : top f = some i) : i < 64 ∧ f i = true := by
  have : i ∈ rungs f := List.mem_of_mem_head? h
  exact (mem_upto f i 64).1 this
theorem plc_top {i : Nat} (hi : i < 64) : plc ((i : Int) % 2) (8 * ((i : Int) / 2)) = i := by
  have h := plc_at (i / 2) (i % 2) (by omega) (by omega)
  rw [show ((i : Int) / 2) = ((i / 2 : Nat) : Int) by omega, show ((i : Int) % 2) = ((i % 2 : Nat) : Int) by omega, h]; omega

set_option maxRecDepth 100000 in
set_option maxHeartbeats 4000000 in
theorem running_any (f : Rg) (w : World) : Calls Try.prog 48 #[lv f] w fun e w' => e = .returned (.tuple #[.int .i64 (runV f).1, .int .i64 (runV f).2]) ∧ Below w.heap.size w w' := by
  obtain ⟨w3, hw3⟩ : ∃ w3, ((w.alloc (.cells (lcs f) 27)).alloc (.cells #[.int .i64 0] 3)).alloc (.cells #[.int .i64 0] 3) = w3 := ⟨_, rfl⟩
  have hz3 : w3.heap.size = w.heap.size + 3 := by rw [← hw3]; simp
  have hB3 : Below w.heap.size w w3 := by rw [← hw3]; exact ((bal w _).alloc (by simp) _).alloc (by simp; omega) _
  have q0 : CB w3 w.heap.size 27 (lcs f) := by rw [← hw3]; exact ((CB.new w _ _).alloc _).alloc _
  have q1 : CB w3 (w.heap.size + 1) 3 #[.int .i64 0] := by rw [← hw3]; exact cb_second.alloc _
  have q2 : CB w3 (w.heap.size + 2) 3 #[.int .i64 0] := by rw [← hw3]; have := CB.new ((w.alloc (.cells (lcs f) 27)).alloc (.cells #[.int .i64 0] 3)) 3 #[.int .i64 0]; simpa using this
  have HA := hi (all_any f w3)
  rw [hz3] at HA
  obtain ⟨w4, hw4⟩ : ∃ w4, w3.alloc (.cells (lcs f) 27) = w4 := ⟨_, rfl⟩
  have hz4 : w4.heap.size = w.heap.size + 4 := by rw [← hw4]; simp; omega
  have hB4 : Below w.heap.size w w4 := by rw [← hw4]; exact hB3.alloc hB3.size _
  have hc4 : CB w4 (w.heap.size + 3) 27 (lcs f) := by rw [← hw4, ← hz3]; exact CB.new w3 _ _
  have p1 : CB w4 (w.heap.size + 1) 3 #[.int .i64 0] := by rw [← hw4]; exact q1.alloc _
  have p2 : CB w4 (w.heap.size + 2) 3 #[.int .i64 0] := by rw [← hw4]; exact q2.alloc _
  rw [hw4] at HA
  have hst := all_stops (w.heap.size + 3) f w4 hc4
  have s0 := q0.cell 0
  have s1 := q0.cell 1
  have HP1 := hi p1
  have HP2 := hi p2
  have HB4 := hi hB4
  clear hw4 q1 q2 hc4 p1 p2 hB4 hB3 q0
  obtain ⟨a, ha⟩ : ∃ a, wd f 0 = a := ⟨_, rfl⟩
  obtain ⟨b, hb'⟩ : ∃ b, wd f 1 = b := ⟨_, rfl⟩
  unfold lv lcs at *
  rw [ha, hb'] at HA hw3 s0 s1 ⊢
  clear ha hb'
  refine (callsIn_wide (n := 6)).1 ?_
  refine callsIn_of_wp_marks Try.func48 rfl trivial ?_ rfl
  simp only [Try.ntmps48, List.size_toArray, List.length_cons, List.length_nil, Nat.reduceAdd, Nat.reduceSub, Array.replicate_succ, Array.replicate_zero, List.push_toArray, List.append_toArray, List.nil_append, List.cons_append]
  gi_wp2_with (first
    | (refine ⟨trivial, ?_⟩; gi_at_call 44; ((with_reducible refine (callsIn_wide.2 HA.out).mono ?_); rintro e' w5 ⟨rfl, rfl⟩))
    | gi_in)
  clear hw3 s0 s1
  refine range_win (n := 6) (by omega) (gf := 56) (lb := #[.pointer (some ⟨w.heap.size + 3, 0, none⟩)]) rfl (enters_of Try.func56 (by kernel_rfl) rfl)
    hst (fun a b => Stays.trans a b) (fun W l o o' h1 h2 h3 h4 => stays_put (by omega)) (Below.refl _ _) (fun _ => rfl)
    (fun pre V => (pre = [] ∧ CB V (w.heap.size + 1) 3 #[.int .i64 0] ∧ CB V (w.heap.size + 2) 3 #[.int .i64 0]) ∧ Below w.heap.size w V)
    (fun cd pre V => (cd = .ret ∧ ∃ x : Nat, pre = [x] ∧ CB V (w.heap.size + 1) 3 #[.int .i64 (8 * ((x : Int) / 2))] ∧ CB V (w.heap.size + 2) 3 #[.int .i64 ((x : Int) % 2)]) ∧ Below w.heap.size w V)
    (AbL.and (AbL.of (m := 2) (fun s A A' row hs hg hr => ⟨hs.1, hs.2.1.kept hg (fun e => by have := hr _ e.symm; omega), hs.2.2.kept hg (fun e => by have := hr _ e.symm; omega)⟩) rfl) (AbL.below (Nat.le_refl _) (by omega)))
    (fun cd => AbL.and (AbL.of (m := 2) (fun s A A' row hs hg hr => by obtain ⟨e, x, e2, h1, h2⟩ := hs; exact ⟨e, x, e2, h1.kept hg (fun e => by have := hr _ e.symm; omega), h2.kept hg (fun e => by have := hr _ e.symm; omega)⟩) rfl) (AbL.below (Nat.le_refl _) (by omega)))
    ⟨⟨rfl, HP1.out, HP2.out⟩, HB4.out⟩
    (fun x a' V => a' = { tmps := #[.agg #[.int .u32 a, .int .u32 b], .pointer (some ⟨w.heap.size, 0, none⟩), .pointer (some ⟨w.heap.size + 1, 0, none⟩), .pointer (some ⟨w.heap.size + 2, 0, none⟩), .int .i64 (8 * ((x : Int) / 2)), .int .i64 ((x : Int) % 2), .agg #[.int .u32 a, .int .u32 b], .func (.func 56) #[] #[.pointer (some ⟨w.heap.size + 3, 0, none⟩)], .int .i64 (8 * ((x : Int) / 2)), .int .i64 ((x : Int) % 2), undef, undef], defers := [] })
    (fun x a' => AbL.pure _ _ _)
    ?assign ?body ?done ?stop
  case assign =>
    rintro l' pre x V K h hsz hK
    gi_wp2
    exact hK _ _ (KW.refl _ _) (Stays.refl _ _ _) h rfl
  case body =>
    rintro l' pre x a' V hsz ⟨⟨rfl, h1, h2⟩, hB⟩ rfl hpx
    have f1 := h1.frozen
    have f2 := h2.frozen
    have c1 := h1.cell 0
    have c2 := h2.cell 0
    gi_wp2
    exact ⟨(KW.set _ _ _).trans (KW.set _ _ _), (stays_set (by omega)).trans (stays_set (by omega)), ⟨rfl, x, rfl, (h1.set 0 _).other _ _ _ (by omega), (h2.other _ _ _ (by omega)).set 0 _⟩, below_set (below_set hB (by omega) _) (by omega) _⟩
  case done =>
    rintro ys V rfl ⟨⟨hn, h1, h2⟩, hB⟩ hK hs2
    have f1 := h1.frozen
    have f2 := h2.frozen
    have c1 := h1.cell 0
    have c2 := h2.cell 0
    have HK := hi ((heap_set_two V (w.heap.size + 1) (w.heap.size + 2) w5.heap.size (.int .i64 255) (.int .i64 0) (by omega) (by omega)).trans hK)
    have HR := hi (runV_none (top_nil hn))
    have g1 := hi ((h1.set 0 (.int .i64 255)).other (w.heap.size + 2) 0 (.int .i64 0) (by omega))
    have g2 := hi ((h2.other (w.heap.size + 1) 0 (.int .i64 255) (by omega)).set 0 (.int .i64 0))
    have HB := hi hB
    clear hn h1 h2 hB hK
    gi_wp2
    refine ⟨by simp, .inl ⟨_, _, rfl, run_takeDeferred HK.out, ?_⟩⟩
    exact ⟨_, results_ii rfl _ _ (w.heap.size + 1) (w.heap.size + 2) _ _ rfl rfl (g1.out.putO _ (by omega)) (g2.out.putO _ (by omega)), by rw [HR.out], below_put (below_set (below_set HB.out (by omega) _) (by omega) _) _ (by have := HB.out.size; simp; omega) (by omega)⟩
  case stop =>
    rintro cd pre V hpre ⟨⟨rfl, x, rfl, h1, h2⟩, hB⟩ hK hs2
    have HR := hi (runV_some (top_one hpre))
    gi_wp2
    refine ⟨by simp, .inl ⟨_, _, rfl, run_takeDeferred hK, ?_⟩⟩
    exact ⟨_, results_ii rfl _ _ (w.heap.size + 1) (w.heap.size + 2) _ _ rfl rfl (h1.putO _ (by omega)) (h2.putO _ (by omega)), by rw [HR.out], below_put hB _ hB.size (by omega)⟩

end Go.Proofs.Ytnnlimjbmfpalaa
