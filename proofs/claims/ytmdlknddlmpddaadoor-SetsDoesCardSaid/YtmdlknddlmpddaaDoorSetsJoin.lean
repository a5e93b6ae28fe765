/-
  SetsJoin: for every two lists of numbers: what is in one of two sets, in both, and in the first alone is what the document says, and they stay as they were (the law answers true). Asked: the library's table lies in its variable.
-/
import Derived.Test.YtmdlknddlmpddaaDoorJoin
namespace Go.Proofs.YtmdlknddlmpddaaDoor
open Go.ChangeShapes Go.WideShapes Go.ChangeAt Go.RowKit Go.Shelf
set_option linter.unusedVariables false

/-- A new set behind all that lies. -/
def NewAt (w : World) (J : Words) (W : World) (e : Ending) (W' : World) : Prop := ∃ B : Nat, e = .returned (.pointer (some ⟨B, 0, none⟩)) ∧ Good w B J W' ∧ Below W.heap.size W W' ∧ W.heap.size ≤ B
theorem newAt {w W : World} {B : Nat} {S J : Words} (h : Good w B S W) {e : Ending} {W' : World} (hn : NewSet J W e W') : NewAt w J W e W' :=
  ⟨_, hn.1, ⟨hn.2.1, h.2.1.trans (hn.2.2.mono h.2.1.size), h.2.2.1.below hn.2.2, h.2.1.size, h.2.2.2.2⟩, hn.2.2, Nat.le_refl _⟩
theorem union_new (w W : World) (B C : Nat) (S T J : Words) (h : Good w B S W) (g : Good w C T W) (e : joinTo orG S T 256 = J) :
    Calls Tryd.prog 25 #[.pointer (some ⟨B, 0, none⟩), .pointer (some ⟨C, 0, none⟩)] W (NewAt w J W) := e ▸ (union_any B C S T W h.1 g.1).mono fun _ _ hn => newAt h hn
theorem meet_new (w W : World) (B C : Nat) (S T J : Words) (h : Good w B S W) (g : Good w C T W) (e : joinTo meetG S T 256 = J) :
    Calls Tryd.prog 26 #[.pointer (some ⟨B, 0, none⟩), .pointer (some ⟨C, 0, none⟩)] W (NewAt w J W) := e ▸ (meet_any B C S T W h.1 g.1).mono fun _ _ hn => newAt h hn
theorem less_new (w W : World) (B C : Nat) (S T J : Words) (h : Good w B S W) (g : Good w C T W) (e : joinTo lessG S T 256 = J) :
    Calls Tryd.prog 27 #[.pointer (some ⟨B, 0, none⟩), .pointer (some ⟨C, 0, none⟩)] W (NewAt w J W) := e ▸ (less_any B C S T W h.1 g.1).mono fun _ _ hn => newAt h hn
theorem of_at (xs : List Int) (a : Option Addr) (cap : Nat) (w W : World) (hb : Below w.heap.size w W) (hT : TabW W) (h0 : 0 < w.heap.size) (hv : IntsAt w (.slice a xs.length cap) xs) (hl : xs.length ≤ 9223372036854775806) (J : Words) (e : putAll S0 xs = J) :
    Calls Tryd.prog 10 #[.slice a xs.length cap] W (NewAt w J W) :=
  (of_new xs a cap w W hb hT h0 hv hl J e).mono fun _ _ h => h
theorem ref_of (xs : List Int) (a : Option Addr) (cap : Nat) (w W : World) (hb : Below w.heap.size w W) (hv : IntsAt w (.slice a xs.length cap) xs) (hl : xs.length ≤ 20000) (l : List Int) (e : ofL xs = l) :
    Calls Tryd.prog 11 #[.slice a xs.length cap] W fun e W' => ∃ a' c', e = .returned (.slice a' l.length c') ∧ Col w (.slice a' l.length c') l W' ∧ Below W.heap.size W W' :=
  e ▸ (ofL_any xs a cap W (intsAt_grew hv hb) hl).mono fun _ _ ⟨a', c', he, hc⟩ => ⟨a', c', he, hc.base hb, hc.below⟩

theorem ref_union (x y l : List Int) (a b : Option Addr) (ca cb : Nat) (W : World) (hx : IntsAt W (.slice a x.length ca) x) (hy : IntsAt W (.slice b y.length cb) y) (lx : x.length ≤ 16384) (ly : y.length ≤ 16384) (e : unionL x y = l) :
    Calls Tryd.prog 28 #[.slice a x.length ca, .slice b y.length cb] W fun e W' => ∃ a' c', e = .returned (.slice a' l.length c') ∧ IntsAt W' (.slice a' l.length c') l ∧ Below W.heap.size W W' :=
  e ▸ (unionL_any x a ca y b cb W hx (by omega) hy (by omega)).mono fun _ _ ⟨a', c', he, hc⟩ => ⟨a', c', he, hc.ints, hc.below⟩
theorem ref_meet (x y l : List Int) (a b : Option Addr) (ca cb : Nat) (W : World) (hx : IntsAt W (.slice a x.length ca) x) (hy : IntsAt W (.slice b y.length cb) y) (lx : x.length ≤ 16384) (ly : y.length ≤ 16384) (e : x.filter (fun z => isIn y z) = l) :
    Calls Tryd.prog 29 #[.slice a x.length ca, .slice b y.length cb] W fun e W' => ∃ a' c', e = .returned (.slice a' l.length c') ∧ IntsAt W' (.slice a' l.length c') l ∧ Below W.heap.size W W' :=
  e ▸ (meetL_any x a ca y b cb W hx (by omega) hy (by omega)).mono fun _ _ ⟨a', c', he, hc⟩ => ⟨a', c', he, hc.ints, hc.below⟩
theorem ref_less (x y l : List Int) (a b : Option Addr) (ca cb : Nat) (W : World) (hx : IntsAt W (.slice a x.length ca) x) (hy : IntsAt W (.slice b y.length cb) y) (lx : x.length ≤ 16384) (ly : y.length ≤ 16384) (e : x.filter (fun z => (!isIn y z)) = l) :
    Calls Tryd.prog 30 #[.slice a x.length ca, .slice b y.length cb] W fun e W' => ∃ a' c', e = .returned (.slice a' l.length c') ∧ IntsAt W' (.slice a' l.length c') l ∧ Below W.heap.size W W' :=
  e ▸ (lessL_any x a ca y b cb W hx (by omega) hy (by omega)).mono fun _ _ ⟨a', c', he, hc⟩ => ⟨a', c', he, hc.ints, hc.below⟩
theorem same_is (bs bt : Nat) (S T : Words) (r : Bool) (w : World) (hR : RowAt 58 w bs S) (hR' : RowAt 58 w bt T) (e : sameW S T = r) :
    Calls Tryd.prog 31 #[.pointer (some ⟨bs, 0, none⟩), .pointer (some ⟨bt, 0, none⟩)] w fun e w' => e = .returned (.bool r) ∧ Below w.heap.size w w' :=
  e ▸ (same_sets bs bt S T w hR hR').mono fun _ _ ⟨he, m, hm⟩ => ⟨he, by rw [hm]; exact below_drewN (Below.refl _ _) m⟩
theorem sameB_is (x y : List Int) (a b : Option Addr) (ca cb : Nat) (r : Bool) (w : World) (hx : IntsAt w (.slice a x.length ca) x) (hy : IntsAt w (.slice b y.length cb) y) (lx : x.length ≤ 16384) (ly : y.length ≤ 16384) (e : sameB x y = r) :
    Calls Tryd.prog 22 #[.slice a x.length ca, .slice b y.length cb] w fun e w' => e = .returned (.bool r) ∧ Below w.heap.size w w' :=
  e ▸ (same_any x y _ _ w hx hy (by omega) (by omega)).mono fun _ _ ⟨he, m, hm⟩ => ⟨he, by rw [hm]; exact below_drewN (Below.refl _ _) m⟩

/-- Two sets and their lists. -/
structure J (w : World) (bs bt : Nat) (S T : Words) (vx vy : Value) (x y : List Int) (W : World) : Prop where
  s : Good w bs S W
  t : Good w bt T W
  x : Col w vx x W
  y : Col w vy y W
theorem J.below {w W W' : World} {bs bt : Nat} {S T : Words} {vx vy : Value} {x y : List Int} (h : J w bs bt S T vx vy x y W) (k : Below W.heap.size W W') : J w bs bt S T vx vy x y W' :=
  ⟨h.s.below k, h.t.below k, h.x.later k, h.y.later k⟩
theorem J.turned {w W W' : World} {bs bt b : Nat} {S T U : Words} {vx vy : Value} {x y : List Int} (h : J w bs bt S T vx vy x y W) (hR : RowAt 58 W b U) (hg : W.grownBy W' (some b)) (h1 : bs < b) (h2 : bt < b) : J w bs bt S T vx vy x y W' :=
  have hb : w.heap.size ≤ b := Nat.le_trans h.s.2.2.2.1 (Nat.le_of_lt h1)
  ⟨h.s.far hg (by omega) hb, h.t.far hg (by omega) hb, h.x.turned hR hg hb, h.y.turned hR hg hb⟩

set_option maxRecDepth 100000 in
set_option maxHeartbeats 4000000 in
theorem setsJoin_walk (xs ys : List Int) (a o : Option Addr) (ca co : Nat) (w : World) (S T U M D : Words) (lx ly lu lm ld : List Int) (r : Bool) (HT : Hi (TabW w)) (HM : Hi (IntsAt w (.slice a xs.length ca) xs)) (HO : Hi (IntsAt w (.slice o ys.length co) ys)) (i1 : (xs.length : Int) ≤ 2000) (i2 : (ys.length : Int) ≤ 2000) (L1 : Hi (xs.length ≤ 2000)) (L2 : Hi (ys.length ≤ 2000))
    (ES : Hi (putAll S0 xs = S)) (ET : Hi (putAll S0 ys = T)) (EX : Hi (ofL xs = lx)) (EY : Hi (ofL ys = ly)) (EU : Hi (joinTo orG S T 256 = U)) (EM : Hi (joinTo meetG S T 256 = M)) (ED : Hi (joinTo lessG S T 256 = D)) (LX : Hi (Lists S lx)) (LY : Hi (Lists T ly)) (LU : Hi (Lists U lu)) (LM : Hi (Lists M lm)) (LD : Hi (Lists D ld))
    (QU : Hi (unionL lx ly = lu)) (QM : Hi (lx.filter (fun z => isIn ly z) = lm)) (QD : Hi (lx.filter (fun z => (!isIn ly z)) = ld)) (Q1 : Hi (sameW S T = r)) (Q2 : Hi (sameB lx ly = r)) :
    Calls Tryd.prog 4 #[.slice a xs.length ca, .slice o ys.length co] w fun e w' => e = .returned (.bool true) ∧ Below w.heap.size w w' := by
  go_enter Tryd.func4, Tryd.ntmps4
  go_wp2_with (first
    | (go_at_call 9; refine (awake_any w HT.out).mono ?_; rintro e w1 ⟨rfl, hb⟩; have HB := hi hb; clear hb)
    | (go_at_call 10; ((with_reducible refine (of_at xs a ca w _ HB.out (HT.out.below HB.out) HT.out.lt HM.out (by have := L1.out; omega) S ES.out).mono ?_); rintro e w2 ⟨bs, rfl, g, hb, hs⟩; replace HB := hi (HB.out.trans (hb.mono HB.out.size)); have GS := hi g; have hbs := g.1.lt; clear g hb hs))
    | (go_at_call 10; ((with_reducible refine (of_at ys o co w _ HB.out (HT.out.below HB.out) HT.out.lt HO.out (by have := L2.out; omega) T ET.out).mono ?_); rintro e w3 ⟨bt, rfl, g, hb, hs⟩; replace HB := hi (HB.out.trans (hb.mono HB.out.size)); replace GS := hi (GS.out.below hb); have GT := hi g; have hst : bs < bt := Nat.lt_of_lt_of_le hbs hs; clear g hb hs hbs))
    | (go_at_call 11; ((with_reducible refine (ref_of xs a ca w _ HB.out HM.out (by have := L1.out; omega) lx EX.out).mono ?_); rintro e w4 ⟨ax, cx, rfl, hc, hb⟩; replace HB := hi (HB.out.trans (hb.mono HB.out.size)); replace GS := hi (GS.out.below hb); replace GT := hi (GT.out.below hb); have CX := hi hc; clear hc hb))
    | (go_at_call 11; ((with_reducible refine (ref_of ys o co w _ HB.out HO.out (by have := L2.out; omega) ly EY.out).mono ?_); rintro e w5 ⟨ay, cy, rfl, hc, hb⟩; have HJ := hi (show J w bs bt S T (.slice ax lx.length cx) (.slice ay ly.length cy) lx ly w5 from ⟨GS.out.below hb, GT.out.below hb, CX.out.later hb, hc⟩); clear hc hb GS GT CX HB))
    | (go_at_call 25; ((with_reducible refine (union_new w _ _ _ S T U HJ.out.s HJ.out.t EU.out).mono ?_); rintro e w6 ⟨bU, rfl, g, hb, hs⟩; have hU : bt < bU := Nat.lt_of_lt_of_le HJ.out.t.1.lt hs; replace HJ := hi (HJ.out.below hb); have GU := hi g; clear g hb hs))
    | (go_at_call 26; ((with_reducible refine (meet_new w _ _ _ S T M HJ.out.s HJ.out.t EM.out).mono ?_); rintro e w7 ⟨bM, rfl, g, hb, hs⟩; have hM : bU < bM := Nat.lt_of_lt_of_le GU.out.1.lt hs; replace HJ := hi (HJ.out.below hb); replace GU := hi (GU.out.below hb); have GM := hi g; clear g hb hs))
    | (go_at_call 27; ((with_reducible refine (less_new w _ _ _ S T D HJ.out.s HJ.out.t ED.out).mono ?_); rintro e w8 ⟨bD, rfl, g, hb, hs⟩; have hD : bM < bD := Nat.lt_of_lt_of_le GM.out.1.lt hs; replace HJ := hi (HJ.out.below hb); replace GU := hi (GU.out.below hb); replace GM := hi (GM.out.below hb); have GD := hi g; clear g hb hs))
    | (go_at_call 28; ((with_reducible refine (ref_union lx ly lu _ _ _ _ _ HJ.out.x.ints HJ.out.y.ints LX.out.len LY.out.len QU.out).mono ?_); rintro e w9 ⟨a9, c9, rfl, hc, hb⟩; replace HJ := hi (HJ.out.below hb); replace GU := hi (GU.out.below hb); replace GM := hi (GM.out.below hb); replace GD := hi (GD.out.below hb); have hi9 := hc; clear hc hb))
    | (go_at_call 12; ((with_reducible refine (alike_any bU U lu _ _ _ GU.out.row GU.out.tab hi9 LU.out).mono ?_); rintro e w10 ⟨rfl, hb⟩; replace HJ := hi (HJ.out.below hb); replace GU := hi (GU.out.below hb); replace GM := hi (GM.out.below hb); replace GD := hi (GD.out.below hb); clear hb hi9))
    | (go_at_call 29; ((with_reducible refine (ref_meet lx ly lm _ _ _ _ _ HJ.out.x.ints HJ.out.y.ints LX.out.len LY.out.len QM.out).mono ?_); rintro e w11 ⟨a11, c11, rfl, hc, hb⟩; replace HJ := hi (HJ.out.below hb); replace GU := hi (GU.out.below hb); replace GM := hi (GM.out.below hb); replace GD := hi (GD.out.below hb); have hi11 := hc; clear hc hb))
    | (go_at_call 12; ((with_reducible refine (alike_any bM M lm _ _ _ GM.out.row GM.out.tab hi11 LM.out).mono ?_); rintro e w12 ⟨rfl, hb⟩; replace HJ := hi (HJ.out.below hb); replace GU := hi (GU.out.below hb); replace GM := hi (GM.out.below hb); replace GD := hi (GD.out.below hb); clear hb hi11))
    | (go_at_call 30; ((with_reducible refine (ref_less lx ly ld _ _ _ _ _ HJ.out.x.ints HJ.out.y.ints LX.out.len LY.out.len QD.out).mono ?_); rintro e w13 ⟨a13, c13, rfl, hc, hb⟩; replace HJ := hi (HJ.out.below hb); replace GU := hi (GU.out.below hb); replace GM := hi (GM.out.below hb); replace GD := hi (GD.out.below hb); have hi13 := hc; clear hc hb))
    | (go_at_call 12; ((with_reducible refine (alike_any bD D ld _ _ _ GD.out.row GD.out.tab hi13 LD.out).mono ?_); rintro e w14 ⟨rfl, hb⟩; replace HJ := hi (HJ.out.below hb); replace GU := hi (GU.out.below hb); replace GM := hi (GM.out.below hb); replace GD := hi (GD.out.below hb); clear hb hi13))
    | (go_at_call 15; ((with_reducible refine (put_any _ bU _ _ _ GU.out.row).mono ?_); rintro e w15 ⟨rfl, hR, hg⟩; replace HJ := hi (HJ.out.turned GU.out.row hg (by omega) (by omega)); replace GM := hi (GM.out.far hg (by omega) GU.out.2.2.2.1); replace GD := hi (GD.out.far hg (by omega) GU.out.2.2.2.1); clear hR hg GU))
    | (go_at_call 15; ((with_reducible refine (put_any _ bM _ _ _ GM.out.row).mono ?_); rintro e w16 ⟨rfl, hR, hg⟩; replace HJ := hi (HJ.out.turned GM.out.row hg (by omega) (by omega)); replace GD := hi (GD.out.far hg (by omega) GM.out.2.2.2.1); clear hR hg GM))
    | (go_at_call 15; ((with_reducible refine (put_any _ bD _ _ _ GD.out.row).mono ?_); rintro e w17 ⟨rfl, hR, hg⟩; replace HJ := hi (HJ.out.turned GD.out.row hg (by omega) (by omega)); clear hR hg GD))
    | (go_at_call 12; ((with_reducible refine (alike_any bs S lx _ _ _ HJ.out.s.row HJ.out.s.tab HJ.out.x.ints LX.out).mono ?_); rintro e w18 ⟨rfl, hb⟩; replace HJ := hi (HJ.out.below hb); clear hb))
    | (go_at_call 12; ((with_reducible refine (alike_any bt T ly _ _ _ HJ.out.t.row HJ.out.t.tab HJ.out.y.ints LY.out).mono ?_); rintro e w19 ⟨rfl, hb⟩; replace HJ := hi (HJ.out.below hb); clear hb))
    | (go_at_call 31; ((with_reducible refine (same_is bs bt S T r _ HJ.out.s.row HJ.out.t.row Q1.out).mono ?_); rintro e w20 ⟨rfl, hb⟩; replace HJ := hi (HJ.out.below hb); clear hb))
    | (go_at_call 22; ((with_reducible refine (sameB_is lx ly _ _ _ _ r _ HJ.out.x.ints HJ.out.y.ints LX.out.len LY.out.len Q2.out).mono ?_); rintro e w21 ⟨rfl, hb⟩; replace HJ := hi (HJ.out.below hb); clear hb)))
  go_ret
  exact ⟨by simp, HJ.out.s.2.1⟩

theorem setsJoin_in (xs ys : List Int) (a o : Option Addr) (ca co : Nat) (w : World) (hT : TabW w) (hm : IntsAt w (.slice a xs.length ca) xs) (ho : IntsAt w (.slice o ys.length co) ys) (l1 : xs.length ≤ 2000) (l2 : ys.length ≤ 2000) :
    Calls Tryd.prog 4 #[.slice a xs.length ca, .slice o ys.length co] w fun e w' => e = .returned (.bool true) ∧ Below w.heap.size w w' := by
  have hS := putAll_lt xs s0_lt
  have hT' := putAll_lt ys s0_lt
  have LX := Lists.of xs
  have LY := Lists.of ys
  exact setsJoin_walk xs ys a o ca co w _ _ _ _ _ _ _ _ _ _ _ (hi hT) (hi hm) (hi ho) (by omega) (by omega) (hi l1) (hi l2) (hi rfl) (hi rfl) (hi rfl) (hi rfl) (hi rfl) (hi rfl) (hi rfl) (hi LX) (hi LY) (hi (LX.union LY hS hT')) (hi (LX.meet LY hS hT')) (hi (LX.less LY hS hT')) (hi rfl) (hi rfl) (hi rfl) (hi rfl) (hi (same_lists LX LY hS hT').symm)

set_option maxRecDepth 100000 in
set_option maxHeartbeats 1000000 in
theorem setsJoin_any (ms odd : List Int) (a o : Option Addr) (ca co : Nat) (w : World) (hT : TabW w) (hm : IntsAt w (.slice a ms.length ca) ms) (ho : IntsAt w (.slice o odd.length co) odd) :
    Calls Tryd.prog 4 #[.slice a ms.length ca, .slice o odd.length co] w fun e w' => e = .returned (.bool true) ∧ Below w.heap.size w w' := by
  by_cases l1 : ms.length ≤ 2000
  · by_cases l2 : odd.length ≤ 2000
    · exact setsJoin_in ms odd a o ca co w hT hm ho l1 l2
    · have HT := hi hT
      have i1 : (ms.length : Int) ≤ 2000 := by omega
      have i2 : (2000 : Int) < (odd.length : Int) := by omega
      clear hT hm ho l1 l2
      go_enter Tryd.func4, Tryd.ntmps4
      go_wp2_with (go_at_call 9; refine (awake_any w HT.out).mono ?_; rintro e w1 ⟨rfl, hb⟩)
      go_ret
      exact ⟨rfl, hb⟩
  · have HT := hi hT
    have i1 : (2000 : Int) < (ms.length : Int) := by omega
    clear hT hm ho l1
    go_enter Tryd.func4, Tryd.ntmps4
    go_wp2_with (go_at_call 9; refine (awake_any w HT.out).mono ?_; rintro e w1 ⟨rfl, hb⟩)
    go_ret
    exact ⟨rfl, hb⟩

end Go.Proofs.YtmdlknddlmpddaaDoor
