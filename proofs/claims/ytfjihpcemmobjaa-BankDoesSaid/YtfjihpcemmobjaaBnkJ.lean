/-
  Package bank: Ready and its iterator, over any iterator; All as an iterator value.
-/
import Derived.Test.YtfjihpcemmobjaaBnkI
namespace Go.Proofs.Ytfjihpcemmobjaa
open Go.ChangeShapes Go.WideShapes Go.ChangeAt Go.RowKit Go.Shelf
set_option linter.unusedVariables false
attribute [local go_sem] Oper.semAt_some

theorem all_iter {lo hi' pf pb g cap : Nat} {f : Int} {es : List En} {W : World} (h : ItAt lo hi' W pf pb g cap f es) (hf : Fit f es.length) (hh : hi' ≤ W.heap.size) :
    Iter lo hi' 0 (.func (.func 48) #[] #[.pointer (some ⟨pb, 0, none⟩), .pointer (some ⟨pf, 0, none⟩)]) (items f es) W :=
  ⟨_, _, rfl, enters_of Try.func48 (by kernel_rfl) rfl, hh, fun W' hs hk l J Jx W2 hW hJ hJx hY h0 =>
    all1_any lo hi' l pf pb g cap f es J Jx W2 hJ hf ((h.heap hk).below hW) hY h0⟩

/-- What is yielded of All, of Ready, of Of. -/
def Yields (w : World) (k : Nat) (xs : List It) (e : Ending) (w' : World) : Prop := ∃ fv, e = .returned fv ∧ Iter w.heap.size w'.heap.size k fv xs w' ∧ Below w.heap.size w w'
theorem all_it {b g cap : Nat} {f : Int} {es : List En} {w : World} (h : BkAt w b g cap f es) (hf : Fit f es.length) :
    Calls Try.prog 32 #[.pointer (some ⟨b, 0, none⟩)] w (Yields w 0 (items f es)) :=
  (all_any h hf).mono fun e w' ⟨pf, pb, g', cap', he, hA, hB⟩ => ⟨_, he, all_iter hA hf (Nat.le_refl _), hB⟩

def rdyB (g0 g1 : Bool) (x : It) : Bool := x.2.ln.en && (x.2.ln.st.ready && (if x.2.ln.g = 0 then g0 else g1))
theorem filter_yes {p : It → Bool} {x : It} (pre : List It) (h : p x = true) : (pre ++ [x]).filter p = pre.filter p ++ [x] := by simp [h]
theorem filter_no {p : It → Bool} {x : It} (pre : List It) (h : p x = false) : (pre ++ [x]).filter p = pre.filter p := by simp [h]
theorem filter_pre {p : It → Bool} {pre xs : List It} (h : pre <+: xs) : pre.filter p <+: xs.filter p := by
  obtain ⟨r, rfl⟩ := h
  rw [List.filter_append]
  exact List.prefix_append _ _
/-- Every group is 0 or 1. -/
def Grp (xs : List It) : Prop := ∀ x ∈ xs, x.2.ln.Right

theorem noFn : ∀ (f : FuncId), none = some f → Fence.wide.fn f := fun _ h => by cases h
/-- The iterator's own box, and the groups that it has captured. -/
structure OB (l c B : Nat) (g0 g1 : Bool) (V : World) : Prop where
  y : CB V B 84 #[.func (.yield l) #[] #[]]
  g : CB V c 23 #[.bool g0, .bool g1]
theorem OB.heap {l c B : Nat} {g0 g1 : Bool} {V V' : World} (h : OB l c B g0 g1 V) (h1 : V'.heap[B]? = V.heap[B]?) (h2 : V'.heap[c]? = V.heap[c]?) : OB l c B g0 g1 V' := ⟨h.y.heap h1, h.g.heap h2⟩

/-- Ready's blocks: its iterator value, its groups; what the value stands on lies among them. -/
structure RdAt (lo hi lo2 hi2 k2 : Nat) (ci cg : Nat) (g0 g1 : Bool) (fv : Value) (xs : List It) (W : World) : Prop where
  it : Iter lo2 hi2 k2 fv xs W
  bi : CB W ci 48 #[fv]
  bg : CB W cg 23 #[.bool g0, .bool g1]
  li : lo ≤ ci ∧ ci < hi
  lg : lo ≤ cg ∧ cg < hi
  l2 : lo ≤ lo2
  h2 : hi2 ≤ hi
theorem RdAt.heap {lo hi lo2 hi2 k2 : Nat} {ci cg : Nat} {g0 g1 : Bool} {fv : Value} {xs : List It} {W W' : World} (h : RdAt lo hi lo2 hi2 k2 ci cg g0 g1 fv xs W) (hs : W.heap.size ≤ W'.heap.size) (hk : ∀ i, lo ≤ i → i < hi → W'.heap[i]? = W.heap[i]?) : RdAt lo hi lo2 hi2 k2 ci cg g0 g1 fv xs W' :=
  ⟨h.it.heap hs (fun i a b => hk i (Nat.le_trans h.l2 a) (Nat.lt_of_lt_of_le b h.h2)), h.bi.heap (hk _ h.li.1 h.li.2), h.bg.heap (hk _ h.lg.1 h.lg.2), h.li, h.lg, h.l2, h.h2⟩

set_option maxRecDepth 100000 in
set_option maxHeartbeats 8000000 in
theorem ready1_any (lo hi' lo2 hi2 k2 ci cg l : Nat) (g0 g1 : Bool) (fv : Value) (xs : List It) (J Jx : List It → World → Prop) (W : World) (hg01 : Grp xs) (hh : hi' ≤ W.heap.size)
    (hA : RdAt lo hi' lo2 hi2 k2 ci cg g0 g1 fv xs W) (hJ : AbW W.heap.size (3 + k2) J) (hJx : AbW W.heap.size (3 + k2) Jx)
    (hY : ∀ (pre : List It) (x : It) (W1 : World), J pre W1 → pre ++ [x] <+: xs.filter (rdyB g0 g1) → W.heap.size + (3 + k2) ≤ W1.heap.size → ∀ m, YieldAt Fence.wide m Try.prog l (encI x) W1 fun e W' =>
      (e = .returned (.bool true) ∧ J (pre ++ [x]) W' ∧ KpX lo hi' (3 + k2) W.heap.size W1 W') ∨ (e = .returned (.bool false) ∧ Jx (pre ++ [x]) W' ∧ KpX lo hi' (3 + k2) W.heap.size W1 W'))
    (h0 : J [] W) :
    Calls Try.prog 39 #[.func (.yield l) #[] #[], .pointer (some ⟨ci, 0, none⟩), .pointer (some ⟨cg, 0, none⟩)] W fun e W' => (∃ v, e = .returned v) ∧
      ((∃ ys, ys = xs.filter (rdyB g0 g1) ∧ J ys W') ∨ (∃ pre, pre <+: xs.filter (rdyB g0 g1) ∧ Jx pre W')) := by
  obtain ⟨w3, hw3⟩ : ∃ w3, W.alloc (.cells #[.func (.yield l) #[] #[]] 84) = w3 := ⟨_, rfl⟩
  have hz3 : w3.heap.size = W.heap.size + 1 := by rw [← hw3]; simp
  have hB3 : Below W.heap.size W w3 := by rw [← hw3]; exact bal W _
  have hOB : OB l cg W.heap.size g0 g1 w3 := ⟨by rw [← hw3]; exact CB.new W _ _, hA.bg.below hB3⟩
  have hit := hA.it.below hB3
  have hJ3 : J [] w3 := by rw [← hw3]; exact hJ.alloc _ h0
  have z0 := hA.bi.cell 0
  have hcl : ci < W.heap.size := hA.bi.lt
  have hcg : cg < W.heap.size := hA.bg.lt
  obtain ⟨hgl1, hgl2⟩ := hA.lg
  have hl2 := hA.l2
  have hh2 := hA.h2
  obtain ⟨gf, lb, rfl, eg, hh3, hq⟩ := hit
  have hst := hq w3 (Nat.le_refl _) (fun _ _ _ => rfl)
  have HYY := hi hY
  have HJ := hi hJ
  have HJX := hi hJx
  have HOB := hi hOB
  have HJ3 := hi hJ3
  have HG := hi hg01
  have HB3 := hi hB3
  clear hY hJ hJx hOB hJ3 hA hq h0 hg01 hB3
  subst hw3
  refine (callsIn_wide (n := 6)).1 ?_
  refine callsIn_of_wp_marks Try.func39 rfl trivial ?_ rfl
  simp only [Try.ntmps39, List.size_toArray, List.length_cons, List.length_nil, Nat.reduceAdd, Nat.reduceSub, Array.replicate_succ, Array.replicate_zero, List.push_toArray, List.append_toArray, List.nil_append, List.cons_append]
  gi_wp2
  obtain ⟨w3, hw3⟩ : ∃ w3, W.alloc (.cells #[.func (.yield l) #[] #[]] 84) = w3 := ⟨_, rfl⟩
  rw [hw3] at hz3 hst hh3 HOB HJ3 HB3 ⊢
  clear hw3
  refine range_win (n := 6) (by omega) (gf := gf) (lb := lb) rfl eg
    hst (fun a b => KpX.trans a b) (fun V l o o' h1 h2 h3 h4 => ⟨by simp, fun i hi' => World.putObj_heap_other (by omega)⟩) (Below.refl _ _) (fun _ => rfl)
    (fun pre V => (J (pre.filter (rdyB g0 g1)) V ∧ OB l cg W.heap.size g0 g1 V) ∧ W.heap.size + 1 ≤ V.heap.size)
    (fun cd pre V => cd = .ret ∧ ∃ gs, gs <+: xs.filter (rdyB g0 g1) ∧ Jx gs V)
    (AbL.of (m := 2 + k2) (fun s A A' row hs hg hr => ⟨⟨HJ.out _ A A' row hs.1.1 hg (fun r e => by have := hr r e; omega), hs.1.2.heap (hg.block _ hs.1.2.y.lt (fun e => by have := hr _ e.symm; omega)) (hg.block _ hs.1.2.g.lt (fun e => by have := hr _ e.symm; omega))⟩, Nat.le_trans hs.2 hg.size⟩) rfl)
    (fun cd => AbL.of (m := 2 + k2) (fun s A A' row hs hg hr => ⟨hs.1, by obtain ⟨gs, e1, e2⟩ := hs.2; exact ⟨gs, e1, HJX.out _ A A' row e2 hg (fun r e => by have := hr r e; omega)⟩⟩) rfl)
    ⟨⟨HJ3.out, HOB.out⟩, by omega⟩
    (fun x a' V => ∃ Bx, w3.heap.size + 2 + k2 ≤ Bx ∧ CB V Bx 62 x.2.ca ∧ a' = { tmps := #[.func (.yield l) #[] #[], .pointer (some ⟨ci, 0, none⟩), .pointer (some ⟨cg, 0, none⟩), .pointer (some ⟨W.heap.size, 0, none⟩), .int .i64 x.1, .pointer (some ⟨Bx, 0, none⟩), .func (.func gf) #[] lb, .int .i64 x.1, x.2.v, undef, undef, undef, undef, undef, undef, undef, undef, undef, undef, undef, undef, undef, undef, undef, undef, undef, undef, undef, undef, undef, undef, undef], defers := [] })
    (fun x a' => AbL.of (m := 2 + k2) (fun s A A' row hs hg hr => by obtain ⟨Bx, e1, e2, e3⟩ := hs; exact ⟨Bx, e1, e2.kept hg (fun e => by have := hr _ e.symm; omega), e3⟩) rfl)
    ?assign ?body ?done ?stop
  case assign =>
    rintro l' pre ⟨id, ⟨⟨⟨e, lb', q, a⟩, en, gr, p⟩, s⟩⟩ V K h hsz hK
    gi_wp2
    refine hK _ _ (KW.of_below (bal V _)) (KpX.of_below (bal V _) (by omega) hsz) ⟨⟨HJ.out.alloc _ h.1.1, h.1.2.heap ((bal V _).block _ h.1.2.y.lt) ((bal V _).block _ h.1.2.g.lt)⟩, Nat.le_trans h.2 (bal V _).size⟩ ⟨V.heap.size, hsz, CB.new _ _ _, rfl⟩
  case body =>
    rintro l' pre ⟨id, ⟨⟨⟨e, lb', q, a⟩, en, gr, p⟩, s⟩⟩ a' V hsz ⟨⟨hj, hO⟩, hs⟩ ⟨Bx, hBx, hbx, rfl⟩ hpx
    have hright := HG.out _ (hpx.subset (List.mem_append_right pre (List.mem_singleton.2 rfl)))
    have hp2 := filter_pre (p := rdyB g0 g1) hpx
    have HR := hi (fun V => ready_any ⟨e, lb', q, a⟩ V)
    obtain ⟨rd, hrd⟩ : ∃ rd, St.ready ⟨e, lb', q, a⟩ = rd := ⟨_, rfl⟩
    rw [hrd] at HR
    dsimp only [St.v] at HR
    -- CASES
    have HO := hi hO
    have HBX := hi hbx
    have HJV := hi hj
    obtain ⟨d0, d1, d2, d3, d4, d5, d6, d7⟩ := CB.ent hbx
    dsimp only at d0 d1 d2 d3 d4 d5 d6 d7
    have zy := hO.y.cell 0
    clear hO hbx hj hpx
    by_cases hen : en = true
    · subst hen
      by_cases hr1 : rd = true
      · subst hr1
        dsimp only [Ln.Right] at hright
        rcases hright with rfl | rfl
        · by_cases hg : g0 = true
          · subst hg
            have hb : rdyB true g1 (id, ⟨⟨⟨e, lb', q, a⟩, true, 0, p⟩, s⟩) = true := by simp [rdyB, hrd]
            have HE := hi (filter_yes pre hb)
            rw [HE.out] at hp2
            have HPG := hi hp2
            clear hb hp2 hrd
            gi_wp2_with (first
              | (refine ⟨trivial, ?_⟩; gi_at_call 40; ((with_reducible refine (CallsIn.inRound l' (callsIn_wide.2 (HR.out _))).mono ?_); rintro e' V1 ⟨rfl, hb⟩; have HB1 := hi hb; have hbx1 := HBX.out.below hb; have hO1 := HO.out.heap (hb.block _ HO.out.y.lt) (hb.block _ HO.out.g.lt); have hvs := hb.size; obtain ⟨fn, tmps, assign, body, hy, hRd⟩ := HYY.out _ _ V1 (HJ.out.grow HJV.out (Below.grew hb)) HPG.out (by omega) (6 - 1 - 1 - 1); dsimp only [encI, En.v] at hy; obtain ⟨d0, d1, d2, d3, d4, d5, d6, d7⟩ := CB.ent hbx1; dsimp only at d0 d1 d2 d3 d4 d5 d6 d7; have zy := hO1.y.cell 0; have zg0 := hO1.g.cell 0; have zg1 := hO1.g.cell 1; have HO1 := hi hO1; clear hb hbx1 hO1))
              | gi_in)
            refine hRd.mono ?_
            rintro e3 W3 (⟨rfl, hJ3, hk3⟩ | ⟨rfl, hJx3, hk3⟩)
            · have hk := hk3.size
              have hKW : KW w3.heap.size V W3 := ⟨by omega, fun i o a b h h' => ((hk3.same i (by omega)).trans (HB1.out.block i (by omega))).trans h⟩
              have hKP : KpX lo2 hi2 k2 (w3.heap.size + 2) V W3 := ⟨by omega, fun i q => (hk3.same i (by omega)).trans (HB1.out.block i (by omega))⟩
              gi_wp2
              exact ⟨hKW, hKP, ⟨by rw [HE.out]; exact hJ3, HO1.out.heap (hk3.same _ (by omega)) (hk3.same _ (by omega))⟩, by omega⟩
            · have hk := hk3.size
              have hKW : KW w3.heap.size V W3 := ⟨by omega, fun i o a b h h' => ((hk3.same i (by omega)).trans (HB1.out.block i (by omega))).trans h⟩
              have hKP : KpX lo2 hi2 k2 (w3.heap.size + 2) V W3 := ⟨by omega, fun i q => (hk3.same i (by omega)).trans (HB1.out.block i (by omega))⟩
              gi_wp2
              exact ⟨hKW, hKP, rfl, _, HPG.out, hJx3⟩
          · obtain rfl : g0 = false := by simpa using hg
            have hb : rdyB false g1 (id, ⟨⟨⟨e, lb', q, a⟩, true, 0, p⟩, s⟩) = false := by simp [rdyB]
            have HE := hi (filter_no pre hb)
            clear hb hp2 hrd hg
            gi_wp2_with (first
              | (refine ⟨trivial, ?_⟩; gi_at_call 40; ((with_reducible refine (CallsIn.inRound l' (callsIn_wide.2 (HR.out _))).mono ?_); rintro e' V1 ⟨rfl, hb⟩; have HB1 := hi hb; have hbx1 := HBX.out.below hb; have hO1 := HO.out.heap (hb.block _ HO.out.y.lt) (hb.block _ HO.out.g.lt); have d5 := hbx1.cell 5; have zg0 := hO1.g.cell 0; have zg1 := hO1.g.cell 1; have HO1 := hi hO1; clear hb hbx1 hO1))
              | gi_in)
            refine ⟨noFn, ?_⟩
            gi_wp2
            exact ⟨KW.of_below HB1.out, KpX.of_below HB1.out (by omega) hsz, ⟨by rw [HE.out]; exact HJ.out.grow HJV.out (Below.grew HB1.out), HO.out.heap (HB1.out.block _ HO.out.y.lt) (HB1.out.block _ HO.out.g.lt)⟩, Nat.le_trans hs HB1.out.size⟩
        · by_cases hg : g1 = true
          · subst hg
            have hb : rdyB g0 true (id, ⟨⟨⟨e, lb', q, a⟩, true, 1, p⟩, s⟩) = true := by simp [rdyB, hrd]
            have HE := hi (filter_yes pre hb)
            rw [HE.out] at hp2
            have HPG := hi hp2
            clear hb hp2 hrd
            gi_wp2_with (first
              | (refine ⟨trivial, ?_⟩; gi_at_call 40; ((with_reducible refine (CallsIn.inRound l' (callsIn_wide.2 (HR.out _))).mono ?_); rintro e' V1 ⟨rfl, hb⟩; have HB1 := hi hb; have hbx1 := HBX.out.below hb; have hO1 := HO.out.heap (hb.block _ HO.out.y.lt) (hb.block _ HO.out.g.lt); have hvs := hb.size; obtain ⟨fn, tmps, assign, body, hy, hRd⟩ := HYY.out _ _ V1 (HJ.out.grow HJV.out (Below.grew hb)) HPG.out (by omega) (6 - 1 - 1 - 1); dsimp only [encI, En.v] at hy; obtain ⟨d0, d1, d2, d3, d4, d5, d6, d7⟩ := CB.ent hbx1; dsimp only at d0 d1 d2 d3 d4 d5 d6 d7; have zy := hO1.y.cell 0; have zg0 := hO1.g.cell 0; have zg1 := hO1.g.cell 1; have HO1 := hi hO1; clear hb hbx1 hO1))
              | gi_in)
            refine hRd.mono ?_
            rintro e3 W3 (⟨rfl, hJ3, hk3⟩ | ⟨rfl, hJx3, hk3⟩)
            · have hk := hk3.size
              have hKW : KW w3.heap.size V W3 := ⟨by omega, fun i o a b h h' => ((hk3.same i (by omega)).trans (HB1.out.block i (by omega))).trans h⟩
              have hKP : KpX lo2 hi2 k2 (w3.heap.size + 2) V W3 := ⟨by omega, fun i q => (hk3.same i (by omega)).trans (HB1.out.block i (by omega))⟩
              gi_wp2
              exact ⟨hKW, hKP, ⟨by rw [HE.out]; exact hJ3, HO1.out.heap (hk3.same _ (by omega)) (hk3.same _ (by omega))⟩, by omega⟩
            · have hk := hk3.size
              have hKW : KW w3.heap.size V W3 := ⟨by omega, fun i o a b h h' => ((hk3.same i (by omega)).trans (HB1.out.block i (by omega))).trans h⟩
              have hKP : KpX lo2 hi2 k2 (w3.heap.size + 2) V W3 := ⟨by omega, fun i q => (hk3.same i (by omega)).trans (HB1.out.block i (by omega))⟩
              gi_wp2
              exact ⟨hKW, hKP, rfl, _, HPG.out, hJx3⟩
          · obtain rfl : g1 = false := by simpa using hg
            have hb : rdyB g0 false (id, ⟨⟨⟨e, lb', q, a⟩, true, 1, p⟩, s⟩) = false := by simp [rdyB]
            have HE := hi (filter_no pre hb)
            clear hb hp2 hrd hg
            gi_wp2_with (first
              | (refine ⟨trivial, ?_⟩; gi_at_call 40; ((with_reducible refine (CallsIn.inRound l' (callsIn_wide.2 (HR.out _))).mono ?_); rintro e' V1 ⟨rfl, hb⟩; have HB1 := hi hb; have hbx1 := HBX.out.below hb; have hO1 := HO.out.heap (hb.block _ HO.out.y.lt) (hb.block _ HO.out.g.lt); have d5 := hbx1.cell 5; have zg0 := hO1.g.cell 0; have zg1 := hO1.g.cell 1; have HO1 := hi hO1; clear hb hbx1 hO1))
              | gi_in)
            refine ⟨noFn, ?_⟩
            gi_wp2
            exact ⟨KW.of_below HB1.out, KpX.of_below HB1.out (by omega) hsz, ⟨by rw [HE.out]; exact HJ.out.grow HJV.out (Below.grew HB1.out), HO.out.heap (HB1.out.block _ HO.out.y.lt) (HB1.out.block _ HO.out.g.lt)⟩, Nat.le_trans hs HB1.out.size⟩
      · obtain rfl : rd = false := by simpa using hr1
        have hb : rdyB g0 g1 (id, ⟨⟨⟨e, lb', q, a⟩, true, gr, p⟩, s⟩) = false := by simp [rdyB, hrd]
        have HE := hi (filter_no pre hb)
        clear hb hp2 hrd hr1
        gi_wp2_with (first
          | (refine ⟨trivial, ?_⟩; gi_at_call 40; ((with_reducible refine (CallsIn.inRound l' (callsIn_wide.2 (HR.out _))).mono ?_); rintro e' V1 ⟨rfl, hb⟩; have HB1 := hi hb; have hbx1 := HBX.out.below hb; have hO1 := HO.out.heap (hb.block _ HO.out.y.lt) (hb.block _ HO.out.g.lt); have d5 := hbx1.cell 5; have zg0 := hO1.g.cell 0; have zg1 := hO1.g.cell 1; have HO1 := hi hO1; clear hb hbx1 hO1))
          | gi_in)
        refine ⟨noFn, ?_⟩
        gi_wp2
        exact ⟨KW.of_below HB1.out, KpX.of_below HB1.out (by omega) hsz, ⟨by rw [HE.out]; exact HJ.out.grow HJV.out (Below.grew HB1.out), HO.out.heap (HB1.out.block _ HO.out.y.lt) (HB1.out.block _ HO.out.g.lt)⟩, Nat.le_trans hs HB1.out.size⟩
    · obtain rfl : en = false := by simpa using hen
      have hb : rdyB g0 g1 (id, ⟨⟨⟨e, lb', q, a⟩, false, gr, p⟩, s⟩) = false := by simp [rdyB]
      have HE := hi (filter_no pre hb)
      clear hb hp2 hrd hen
      gi_wp2
      refine ⟨trivial, ?_⟩
      gi_wp2
      refine ⟨noFn, ?_⟩
      gi_wp2
      exact ⟨KW.refl _ _, KpX.refl _ _ _ _ _, ⟨by rw [HE.out]; exact HJV.out, HO.out⟩, hs⟩
  case done =>
    rintro ys V rfl ⟨⟨hj, hO⟩, hs⟩ hK hs2
    gi_wp2
    refine ⟨by simp, .inl ⟨_, _, rfl, run_takeDeferred hK, ?_⟩⟩
    exact ⟨_, results_none rfl _ _ _, ⟨_, rfl⟩, .inl ⟨_, rfl, HJ.out.put _ hj (by omega) (by omega)⟩⟩
  case stop =>
    rintro cd pre V hpre ⟨rfl, gs, hg, hx⟩ hK _
    gi_wp2
    refine ⟨by simp, .inl ⟨_, _, rfl, run_takeDeferred hK, ?_⟩⟩
    exact ⟨_, results_none rfl _ _ _, ⟨_, rfl⟩, .inr ⟨gs, hg, HJX.out.put _ hx (by omega) (by omega)⟩⟩

theorem ready_iter {lo hi' lo2 hi2 k2 ci cg : Nat} {g0 g1 : Bool} {fv : Value} {xs : List It} {W : World} (h : RdAt lo hi' lo2 hi2 k2 ci cg g0 g1 fv xs W) (hg : Grp xs) (hh : hi' ≤ W.heap.size) :
    Iter lo hi' (3 + k2) (.func (.func 39) #[] #[.pointer (some ⟨ci, 0, none⟩), .pointer (some ⟨cg, 0, none⟩)]) (xs.filter (rdyB g0 g1)) W :=
  ⟨_, _, rfl, enters_of Try.func39 (by kernel_rfl) rfl, hh, fun W' hs hk l J Jx W2 hW hJ hJx hY h0 =>
    ready1_any lo hi' lo2 hi2 k2 ci cg l g0 g1 fv xs J Jx W2 hg (by have := hW.size; omega) ((h.heap hs hk).heap hW.size (fun i a b => hW.block i (by omega))) hJ hJx hY h0⟩

theorem grp_items {f : Int} {es : List En} (h : ∀ x ∈ es, x.ln.Right) : Grp (items f es) := by
  induction es generalizing f with
  | nil => intro x hx; cases hx
  | cons y r ih =>
    intro x hx
    rw [items, List.mem_cons] at hx
    rcases hx with rfl | hx
    · exact h y (by simp)
    · exact ih (fun z hz => h z (by simp [hz])) x hx
theorem Grp.filter {xs : List It} (h : Grp xs) (p : It → Bool) : Grp (xs.filter p) := fun x hx => h x (List.mem_filter.1 hx).1

theorem run_store_fn {P : Program} (w : World) (a : Addr) (g : Nat) (lb : Array Value) {v : Value} (h : w.cell? a = some v) (hf : w.frozen? a = false) : (store a (.func (.func g) #[] lb)).run P w = .ok () (w.setCell a (.func (.func g) #[] lb)) := by
  rw [run_store P w a _ _ rfl, h]
  simp [hf]
def readyL (f : Int) (es : List En) (g0 g1 : Bool) : List It := (items f es).filter (rdyB g0 g1)
set_option maxHeartbeats 1000000 in
theorem ready_it {b g cap : Nat} {f : Int} {es : List En} {w : World} (g0 g1 : Bool) (h : BkAt w b g cap f es) (hf : Fit f es.length) (hg : ∀ x ∈ es, x.ln.Right) :
    Calls Try.prog 21 #[.pointer (some ⟨b, 0, none⟩), .agg #[.bool g0, .bool g1]] w (Yields w 3 (readyL f es g0 g1)) := by
  have HA := hi (fun W (hW : Below w.heap.size w W) => all_it (h.below hW) hf)
  have HG := hi (grp_items (f := f) hg)
  clear h hf hg
  go_enter Try.func21, Try.ntmps21
  go_wp2_with (go_at_call 32; ((with_reducible refine (HA.out _ (bal _ _)).mono ?_); rintro e w2 ⟨fv, rfl, hit, hb⟩; have hfv := hit; obtain ⟨gf, lb, rfl, _, _, _⟩ := hfv; have hsf := run_store_fn (P := Try.prog) (w2.alloc (.cells #[.nilFunc] 48)) ⟨w2.heap.size, 0, none⟩ gf lb (v := .nilFunc) ((CB.new w2 _ _).cell 0) ((CB.new w2 _ _).frozen 0); have HIT := hi hit; have HB := hi hb; clear hit hb))
  go_ret
  have hB2 : Below w.heap.size w w2 := (bal w _).trans (HB.out.mono (by simp))
  have hs := HB.out.size
  simp only [World.size_alloc] at hs
  refine ⟨_, rfl, ready_iter (lo2 := (w.alloc (.cells #[.bool g0, .bool g1] 23)).heap.size) (hi2 := w2.heap.size) (fv := .func (.func gf) #[] lb) ⟨HIT.out.below (bal _ _), CB.new _ _ _, ((CB.new w _ _).below HB.out).below (bal _ _), ?_, ?_, ?_, ?_⟩ HG.out (Nat.le_refl _), hB2.alloc hB2.size _⟩
  all_goals simp only [World.size_alloc]; omega

end Go.Proofs.Ytfjihpcemmobjaa
