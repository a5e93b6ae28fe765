/-
  Package ladder: Only and its iterator, for every loop body: the places of one group where something runs, rising.
-/
import Derived.Test.YthfcgedlpnbojaaLadF
namespace Go.Proofs.Ythfcgedlpnbojaa
open Go.ChangeShapes Go.WideShapes Go.ChangeAt Go.RowKit Go.Shelf
set_option linter.unusedVariables false
attribute [local go_sem] Oper.semAt_some

/-- Those of a list that lie in a group. -/
def inG (g : Int) (xs : List Nat) : List Nat := xs.filter fun i => decide ((i : Int) % 2 = g)
theorem inG_yes {g : Int} {x : Nat} (xs : List Nat) (h : (x : Int) % 2 = g) : inG g (xs ++ [x]) = inG g xs ++ [x] := by simp [inG, h]
theorem inG_no {g : Int} {x : Nat} (xs : List Nat) (h : ¬ (x : Int) % 2 = g) : inG g (xs ++ [x]) = inG g xs := by simp [inG, h]
theorem inG_pre {g : Int} {pre xs : List Nat} (h : pre <+: xs) : inG g pre <+: inG g xs := by
  obtain ⟨r, rfl⟩ := h
  unfold inG
  rw [List.filter_append]
  exact List.prefix_append _ _
def onlyL (f : Rg) (g : Int) : List Nat := inG g (rungs f)
abbrev enc1 (i : Nat) : Array Value := #[.int .i64 (8 * ((i : Int) / 2))]

theorem only_any (f : Rg) (g : Int) (w : World) : Calls Try.prog 31 #[lv f, .int .i64 g] w fun e w' => e = .returned (.func (.func 33) #[] #[.pointer (some ⟨w.heap.size, 0, none⟩), .pointer (some ⟨w.heap.size + 1, 0, none⟩)]) ∧
    w' = (w.alloc (.cells (lcs f) 27)).alloc (.cells #[.int .i64 g] 3) := by
  unfold lv lcs
  obtain ⟨a, ha⟩ : ∃ a, wd f 0 = a := ⟨_, rfl⟩
  obtain ⟨b, hb⟩ : ∃ b, wd f 1 = b := ⟨_, rfl⟩
  rw [ha, hb]
  go_enter Try.func31, Try.ntmps31
  go_wp2
  go_ret
  exact ⟨rfl, rfl⟩

/-- What a round over one group's places keeps. -/
structure KpO (c B : Nat) (W W' : World) : Prop where
  size : W.heap.size ≤ W'.heap.size
  same : ∀ i, (c ≤ i ∧ i < c + 2) ∨ (B ≤ i ∧ i < B + 4) → W'.heap[i]? = W.heap[i]?
theorem KpO.trans {c B : Nat} {X Y Z : World} (h : KpO c B X Y) (k : KpO c B Y Z) : KpO c B X Z := ⟨Nat.le_trans h.size k.size, fun i hi => (k.same i hi).trans (h.same i hi)⟩
theorem KpO.of_below {c B : Nat} {W W' : World} (h : Below W.heap.size W W') (hc : c + 2 ≤ W.heap.size) (hB : B + 4 ≤ W.heap.size) : KpO c B W W' := ⟨h.size, fun i hi => h.block i (by omega)⟩
theorem KpO.refl (c B : Nat) (W : World) : KpO c B W W := ⟨Nat.le_refl _, fun _ _ => rfl⟩

/-- The iterator's own box, and the group that it has captured. -/
structure OB (l c B : Nat) (g : Int) (V : World) : Prop where
  y : CB V B 69 #[.func (.yield l) #[] #[]]
  g : CB V (c + 1) 3 #[.int .i64 g]
theorem OB.kept {l c B : Nat} {g : Int} {V V' : World} (h : OB l c B g V) (k : ∀ i, (c ≤ i ∧ i < c + 2) ∨ (B ≤ i ∧ i < B + 4) → V'.heap[i]? = V.heap[i]?) : OB l c B g V' :=
  ⟨(k _ (by omega)).trans h.y, (k _ (by omega)).trans h.g⟩

set_option maxRecDepth 100000 in
set_option maxHeartbeats 4000000 in
theorem only1_any (l c : Nat) (f : Rg) (g : Int) (J Jx : List Nat → World → Prop) (W : World) (hc : c + 2 ≤ W.heap.size) (hJ : AbW W.heap.size 4 J) (hJx : AbW W.heap.size 4 Jx)
    (hY : ∀ (pre : List Nat) (x : Nat) (W1 : World), J pre W1 → pre ++ [x] <+: onlyL f g → W.heap.size + 4 ≤ W1.heap.size → ∀ m, YieldAt Fence.wide m Try.prog l (enc1 x) W1 fun e W' =>
      (e = .returned (.bool true) ∧ J (pre ++ [x]) W' ∧ KpO c W.heap.size W1 W') ∨ (e = .returned (.bool false) ∧ Jx (pre ++ [x]) W' ∧ KpO c W.heap.size W1 W'))
    (b0 : CB W c 27 (lcs f)) (b1 : CB W (c + 1) 3 #[.int .i64 g]) (h0 : J [] W) :
    Calls Try.prog 33 #[.func (.yield l) #[] #[], .pointer (some ⟨c, 0, none⟩), .pointer (some ⟨c + 1, 0, none⟩)] W fun e W' => (∃ v, e = .returned v) ∧
      ((∃ ys, ys = onlyL f g ∧ J ys W') ∨ (∃ pre, pre <+: onlyL f g ∧ Jx pre W')) := by
  have hB2 : Below W.heap.size W (W.alloc (.cells #[.func (.yield l) #[] #[]] 69)) := bal W _
  have HA := hi (all_any f (W.alloc (.cells #[.func (.yield l) #[] #[]] 69)))
  obtain ⟨w3, hw3⟩ : ∃ w3, (W.alloc (.cells #[.func (.yield l) #[] #[]] 69)).alloc (.cells (lcs f) 27) = w3 := ⟨_, rfl⟩
  have hz3 : w3.heap.size = W.heap.size + 2 := by rw [← hw3]; simp
  have hB3 : Below W.heap.size W w3 := by rw [← hw3]; exact bal_two _ _ _
  rw [hw3, World.size_alloc] at HA
  have hc3 : CB w3 (W.heap.size + 1) 27 (lcs f) := by rw [← hw3]; exact cb_second
  have hOB : OB l c W.heap.size g w3 := ⟨by rw [← hw3]; exact (CB.new W _ _).alloc _, b1.below hB3⟩
  have hst := all_stops (W.heap.size + 1) f w3 hc3
  have hJ3 : J [] w3 := by rw [← hw3]; exact hJ.alloc _ (hJ.alloc _ h0)
  have z0 := b0.cell 0
  have z1 := b0.cell 1
  have hcl : c < W.heap.size := by omega
  have HYY := hi hY
  have HJ := hi hJ
  have HJX := hi hJx
  have HOB := hi hOB
  have HJ3 := hi hJ3
  clear hw3 hc3 b0 b1 h0 hY hJ hJx hOB hJ3 hB2 hB3
  obtain ⟨a, ha⟩ : ∃ a, wd f 0 = a := ⟨_, rfl⟩
  obtain ⟨b, hb'⟩ : ∃ b, wd f 1 = b := ⟨_, rfl⟩
  unfold lv lcs at *
  rw [ha, hb'] at HA z0 z1
  clear ha hb'
  refine (callsIn_wide (n := 6)).1 ?_
  refine callsIn_of_wp_marks Try.func33 rfl trivial ?_ rfl
  simp only [Try.ntmps33, List.size_toArray, List.length_cons, List.length_nil, Nat.reduceAdd, Nat.reduceSub, Array.replicate_succ, Array.replicate_zero, List.push_toArray, List.append_toArray, List.nil_append, List.cons_append]
  gi_wp2_with (first
    | (refine ⟨trivial, ?_⟩; gi_at_call 30; ((with_reducible refine (callsIn_wide.2 HA.out).mono ?_); rintro e' w5 ⟨rfl, rfl⟩))
    | gi_in)
  refine range_win (n := 6) (by omega) (gf := 32) (lb := #[.pointer (some ⟨W.heap.size + 1, 0, none⟩)]) rfl (enters_of Try.func32 (by kernel_rfl) rfl)
    hst (fun a b => Stays.trans a b) (fun W l o o' h1 h2 h3 h4 => stays_put (by omega)) (Below.refl _ _) (fun _ => rfl)
    (fun pre V => (J (inG g pre) V ∧ OB l c W.heap.size g V) ∧ W.heap.size + 2 ≤ V.heap.size)
    (fun cd pre V => cd = .ret ∧ ∃ gs, gs <+: onlyL f g ∧ Jx gs V)
    (AbL.of (m := 2) (fun s A A' row hs hg hr => ⟨⟨HJ.out _ A A' row hs.1.1 hg (fun r e => by have := hr r e; omega), hs.1.2.y.kept hg (fun e => by have := hr _ e.symm; omega), hs.1.2.g.kept hg (fun e => by have := hr _ e.symm; omega)⟩, Nat.le_trans hs.2 hg.size⟩) rfl)
    (fun cd => AbL.of (m := 2) (fun s A A' row hs hg hr => ⟨hs.1, by obtain ⟨gs, e1, e2⟩ := hs.2; exact ⟨gs, e1, HJX.out _ A A' row e2 hg (fun r e => by have := hr r e; omega)⟩⟩) rfl)
    ⟨⟨HJ3.out, HOB.out⟩, by omega⟩
    (fun x a' V => a' = { tmps := #[.func (.yield l) #[] #[], .pointer (some ⟨c, 0, none⟩), .pointer (some ⟨c + 1, 0, none⟩), .pointer (some ⟨W.heap.size, 0, none⟩), .int .i64 (8 * ((x : Int) / 2)), .int .i64 ((x : Int) % 2), .agg #[.int .u32 a, .int .u32 b], .func (.func 32) #[] #[.pointer (some ⟨W.heap.size + 1, 0, none⟩)], .int .i64 (8 * ((x : Int) / 2)), .int .i64 ((x : Int) % 2), undef, undef, undef, undef, undef, undef, undef, undef, undef], defers := [] })
    (fun x a' => AbL.pure _ _ _)
    ?assign ?body ?done ?stop
  case assign =>
    rintro l' pre x V K h hsz hK
    gi_wp2
    exact hK _ _ (KW.refl _ _) (Stays.refl _ _ _) h rfl
  case body =>
    rintro l' pre x a' V hsz ⟨⟨hj, hO⟩, hs⟩ rfl hpx
    have zy := hO.y.cell 0
    have zg := hO.g.cell 0
    have HO := hi hO
    have HJV := hi hj
    have hp2 := inG_pre (g := g) hpx
    by_cases h2 : (x : Int) % 2 = g
    · have t2 : ((x : Int) % 2 == g) = true := by simpa using h2
      have e2 := inG_yes pre h2
      rw [e2] at hp2
      have HPG := hi hp2
      have HE2 := hi e2
      obtain ⟨fn, tmps, assign, body, hy, hRd⟩ := HYY.out _ x V hj hp2 (by omega) (6 - 1 - 1 - 1)
      clear h2 e2 hp2 hO hj hpx
      gi_wp2
      refine hRd.mono ?_
      rintro e W3 (⟨rfl, hJ3, hk3⟩ | ⟨rfl, hJx3, hk3⟩)
      · gi_wp2
        have hKW : KW w5.heap.size V W3 := ⟨hk3.size, fun i o a b h h' => (hk3.same i (by omega)).trans h⟩
        exact ⟨hKW, ⟨hk3.size, fun i h1 h2 => hk3.same i (by omega)⟩, ⟨by rw [HE2.out]; exact hJ3, HO.out.kept hk3.same⟩, Nat.le_trans hs hk3.size⟩
      · gi_wp2
        have hKW : KW w5.heap.size V W3 := ⟨hk3.size, fun i o a b h h' => (hk3.same i (by omega)).trans h⟩
        exact ⟨hKW, ⟨hk3.size, fun i h1 h2 => hk3.same i (by omega)⟩, rfl, _, HPG.out, hJx3⟩
    · have t2 : ((x : Int) % 2 == g) = false := by simpa using h2
      have e2 := inG_no pre h2
      have HE2 := hi e2
      clear h2 e2 hp2 hO hj hpx
      gi_wp2
      refine ⟨fun _ h => (by cases h), ?_⟩
      gi_wp2
      exact ⟨KW.refl _ _, Stays.refl _ _ _, ⟨by rw [HE2.out]; exact HJV.out, HO.out⟩, hs⟩
  case done =>
    rintro ys V rfl ⟨⟨hj, hO⟩, hs⟩ hK hs2
    gi_wp2
    refine ⟨by simp, .inl ⟨_, _, rfl, run_takeDeferred hK, ?_⟩⟩
    exact ⟨_, results_none rfl _ _ _, ⟨_, rfl⟩, .inl ⟨_, rfl, HJ.out.put _ hj (by omega) (by omega)⟩⟩
  case stop =>
    rintro cd pre V hpre ⟨rfl, gs, hg, hx⟩ hK _
    gi_wp2
    refine ⟨by simp, .inl ⟨_, _, rfl, run_takeDeferred hK, ?_⟩⟩
    exact ⟨_, results_none rfl _ _ _, ⟨_, rfl⟩, .inr ⟨gs, hg, HJX.out.put _ hx (by omega) (by omega)⟩⟩

theorem only_stops (c : Nat) (f : Rg) (g : Int) (w : World) (hc : c + 2 ≤ w.heap.size) (b0 : CB w c 27 (lcs f)) (b1 : CB w (c + 1) 3 #[.int .i64 g]) :
    SeqW 4 Try.prog 33 #[.pointer (some ⟨c, 0, none⟩), .pointer (some ⟨c + 1, 0, none⟩)] enc1 (KpO c) (fun ys => ys = onlyL f g) (fun pre => pre <+: onlyL f g) (fun pre x => pre ++ [x] <+: onlyL f g) w := fun l J Jx W hW hJ hJx hY h0 =>
  only1_any l c f g J Jx W (by have := hW.size; omega) hJ hJx hY (b0.below hW) (b1.below hW) h0

end Go.Proofs.Ythfcgedlpnbojaa
