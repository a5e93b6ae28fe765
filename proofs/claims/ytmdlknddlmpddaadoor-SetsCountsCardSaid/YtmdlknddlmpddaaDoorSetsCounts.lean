/-
  SetsCounts: for every two lists of numbers: the set that has all of both, and the one of what is in both, have together as many members as both (the law answers true). Asked: the library's table lies in its variable.
-/
import Derived.Test.YtmdlknddlmpddaaDoorSetL
import Derived.Test.YtmdlknddlmpddaaDoorHi
namespace Go.Proofs.YtmdlknddlmpddaaDoor
open Go.ChangeShapes Go.WideShapes Go.ChangeAt Go.RowKit Go.Shelf
set_option linter.unusedVariables false

set_option maxRecDepth 100000 in
set_option maxHeartbeats 1000000 in
theorem setsCounts_walk (xs ys : List Int) (a o : Option Addr) (ca co : Nat) (w : World) (S T U M D V1 V2 : Words) (nu nm ns nt nd : Nat) (HT : Hi (TabW w)) (HM : Hi (IntsAt w (.slice a xs.length ca) xs)) (HO : Hi (IntsAt w (.slice o ys.length co) ys)) (i1 : (xs.length : Int) ≤ 2000) (i2 : (ys.length : Int) ≤ 2000) (L1 : Hi (xs.length ≤ 2000)) (L2 : Hi (ys.length ≤ 2000)) (ES : Hi (putAll S0 xs = S)) (ET : Hi (putAll S0 ys = T)) (EU : Hi (joinTo orG S T 256 = U)) (EM : Hi (joinTo meetG S T 256 = M)) (ED : Hi (joinTo lessG S T 256 = D)) (EV1 : Hi (joinTo orG D M 256 = V1)) (EV2 : Hi (joinTo orG T S 256 = V2)) (Q1 : Hi (sameW V1 S = true)) (Q2 : Hi (sameW V2 U = true)) (NU : Hi (lenTo U 256 = nu)) (NM : Hi (lenTo M 256 = nm)) (NS : Hi (lenTo S 256 = ns)) (NT : Hi (lenTo T 256 = nt)) (ND : Hi (lenTo D 256 = nd)) (j1 : (nu : Int) ≤ 16384) (j2 : (nm : Int) ≤ 16384) (j3 : (ns : Int) ≤ 16384) (j4 : (nt : Int) ≤ 16384) (j5 : (nd : Int) ≤ 16384) (T1 : ((nu : Int) + (nm : Int) == (ns : Int) + (nt : Int)) = true) (T2 : ((nd : Int) + (nm : Int) == (ns : Int)) = true) :
    Calls Tryd.prog 8 #[.slice a xs.length ca, .slice o ys.length co] w fun e w' => e = .returned (.bool true) ∧ Below w.heap.size w w' := by
  go_enter Tryd.func8, Tryd.ntmps8
  go_wp2_with (first
    | (go_at_call 9; refine (awake_any w HT.out).mono ?_; rintro e w1 ⟨rfl, hb⟩; have HB := hi hb; clear hb)
    | (go_at_call 10; ((with_reducible refine (of_made xs a ca w _ HB.out (HT.out.below HB.out) HT.out.lt HM.out (by have := L1.out; omega) S ES.out).mono ?_); rintro e w2 ⟨B, rfl, g, hb⟩; replace HB := hi (HB.out.trans (hb.mono HB.out.size)); have GS := hi g; clear g hb))
    | (go_at_call 10; ((with_reducible refine (of_made ys o co w _ HB.out (HT.out.below HB.out) HT.out.lt HO.out (by have := L2.out; omega) T ET.out).mono ?_); rintro e w2 ⟨C, rfl, g, hb⟩; replace GS := hi (GS.out.below hb); have GT := hi g; clear g hb))
    | (go_at_call 25; ((with_reducible refine (union_made w _ _ _ _ _ U GS.out GT.out EU.out).mono ?_); rintro e w2 ⟨bU, rfl, g, hb⟩; replace GS := hi (GS.out.below hb); replace GT := hi (GT.out.below hb); have GU := hi g; clear g hb))
    | (go_at_call 26; ((with_reducible refine (meet_made w _ _ _ _ _ M GS.out GT.out EM.out).mono ?_); rintro e w2 ⟨bM, rfl, g, hb⟩; replace GS := hi (GS.out.below hb); replace GT := hi (GT.out.below hb); replace GU := hi (GU.out.below hb); have GM := hi g; clear g hb))
    | (go_at_call 27; ((with_reducible refine (less_made w _ _ _ _ _ D GS.out GT.out ED.out).mono ?_); rintro e w2 ⟨bD, rfl, g, hb⟩; replace GS := hi (GS.out.below hb); replace GT := hi (GT.out.below hb); replace GU := hi (GU.out.below hb); replace GM := hi (GM.out.below hb); have GD := hi g; clear g hb))
    | (go_at_call 32; ((with_reducible refine (len_good w _ nu _ _ GU.out NU.out).mono ?_); rintro e w2 ⟨rfl, rfl⟩))
    | (go_at_call 32; ((with_reducible refine (len_good w _ nm _ _ GM.out NM.out).mono ?_); rintro e w2 ⟨rfl, rfl⟩))
    | (go_at_call 32; ((with_reducible refine (len_good w _ ns _ _ GS.out NS.out).mono ?_); rintro e w2 ⟨rfl, rfl⟩))
    | (go_at_call 32; ((with_reducible refine (len_good w _ nt _ _ GT.out NT.out).mono ?_); rintro e w2 ⟨rfl, rfl⟩))
    | (go_at_call 32; ((with_reducible refine (len_good w _ nd _ _ GD.out ND.out).mono ?_); rintro e w2 ⟨rfl, rfl⟩))
    | (go_at_call 25; ((with_reducible refine (union_made w _ _ _ _ _ V1 GD.out GM.out EV1.out).mono ?_); rintro e w2 ⟨bV, rfl, g, hb⟩; replace GS := hi (GS.out.below hb); replace GT := hi (GT.out.below hb); replace GU := hi (GU.out.below hb); replace GM := hi (GM.out.below hb); replace GD := hi (GD.out.below hb); have GV := hi g; clear g hb))
    | (go_at_call 31; ((with_reducible refine (same_made w _ _ _ _ _ GV.out GS.out Q1.out).mono ?_); rintro e w2 ⟨rfl, hb⟩; replace GS := hi (GS.out.below hb); replace GT := hi (GT.out.below hb); replace GU := hi (GU.out.below hb); replace GM := hi (GM.out.below hb); replace GD := hi (GD.out.below hb); clear hb))
    | (go_at_call 25; ((with_reducible refine (union_made w _ _ _ _ _ V2 GT.out GS.out EV2.out).mono ?_); rintro e w2 ⟨bV2, rfl, g, hb⟩; replace GS := hi (GS.out.below hb); replace GT := hi (GT.out.below hb); replace GU := hi (GU.out.below hb); replace GM := hi (GM.out.below hb); replace GD := hi (GD.out.below hb); have GV2 := hi g; clear g hb))
    | (go_at_call 31; ((with_reducible refine (same_made w _ _ _ _ _ GV2.out GU.out Q2.out).mono ?_); rintro e w2 ⟨rfl, hb⟩; replace GS := hi (GS.out.below hb); clear hb)))
  go_ret
  exact ⟨rfl, GS.out.2.1⟩

set_option maxRecDepth 100000 in
set_option maxHeartbeats 1000000 in
theorem setsCounts_in (xs ys : List Int) (a o : Option Addr) (ca co : Nat) (w : World) (hT : TabW w) (hm : IntsAt w (.slice a xs.length ca) xs) (ho : IntsAt w (.slice o ys.length co) ys) (l1 : xs.length ≤ 2000) (l2 : ys.length ≤ 2000) :
    Calls Tryd.prog 8 #[.slice a xs.length ca, .slice o ys.length co] w fun e w' => e = .returned (.bool true) ∧ Below w.heap.size w w' := by
  have hlS := putAll_lt xs s0_lt
  have hlT := putAll_lt ys s0_lt
  obtain ⟨S, eS⟩ : ∃ S, putAll S0 xs = S := ⟨_, rfl⟩
  obtain ⟨T, eT⟩ : ∃ S, putAll S0 ys = S := ⟨_, rfl⟩
  rw [eS] at hlS
  rw [eT] at hlT
  obtain ⟨U, eU⟩ : ∃ J, joinTo orG S T 256 = J := ⟨_, rfl⟩
  obtain ⟨M, eM⟩ : ∃ J, joinTo meetG S T 256 = J := ⟨_, rfl⟩
  obtain ⟨D, eD⟩ : ∃ J, joinTo lessG S T 256 = J := ⟨_, rfl⟩
  obtain ⟨V1, eV1⟩ : ∃ J, joinTo orG D M 256 = J := ⟨_, rfl⟩
  obtain ⟨V2, eV2⟩ : ∃ J, joinTo orG T S 256 = J := ⟨_, rfl⟩
  have q1 : sameW V1 S = true := sameW_of fun i hi => by
    rw [← eV1, ← eD, ← eM]
    simp only [joinTo, if_pos hi, orG, lessG, meetG]
    exact less_or (hlS i) (hlT i)
  have q2 : sameW V2 U = true := sameW_of fun i hi => by
    rw [← eV2, ← eU]
    simp only [joinTo, if_pos hi, orG]
    exact Nat.or_comm _ _
  have c1 := len_or S T 256 256 (Nat.le_refl _)
  have c2 := len_less S T hlS hlT 256 256 (Nat.le_refl _)
  rw [eU, eM] at c1
  rw [eD, eM] at c2
  have b1 := lenTo_le U 256
  have b2 := lenTo_le M 256
  have b3 := lenTo_le S 256
  have b4 := lenTo_le T 256
  have b5 := lenTo_le D 256
  obtain ⟨nu, enu⟩ : ∃ n, lenTo U 256 = n := ⟨_, rfl⟩
  obtain ⟨nm, enm⟩ : ∃ n, lenTo M 256 = n := ⟨_, rfl⟩
  obtain ⟨ns, ens⟩ : ∃ n, lenTo S 256 = n := ⟨_, rfl⟩
  obtain ⟨nt, ent⟩ : ∃ n, lenTo T 256 = n := ⟨_, rfl⟩
  obtain ⟨nd, end'⟩ : ∃ n, lenTo D 256 = n := ⟨_, rfl⟩
  rw [enu] at c1 b1
  rw [enm] at c1 c2 b2
  rw [ens] at c1 c2 b3
  rw [ent] at c1 b4
  rw [end'] at c2 b5
  have j1 : (nu : Int) ≤ 16384 := by omega
  have j2 : (nm : Int) ≤ 16384 := by omega
  have j3 : (ns : Int) ≤ 16384 := by omega
  have j4 : (nt : Int) ≤ 16384 := by omega
  have j5 : (nd : Int) ≤ 16384 := by omega
  have T1 : ((nu : Int) + (nm : Int) == (ns : Int) + (nt : Int)) = true := by rw [beq_iff_eq]; omega
  have T2 : ((nd : Int) + (nm : Int) == (ns : Int)) = true := by rw [beq_iff_eq]; omega
  exact setsCounts_walk xs ys a o ca co w S T U M D V1 V2 nu nm ns nt nd (hi hT) (hi hm) (hi ho) (by omega) (by omega) (hi l1) (hi l2) (hi eS) (hi eT) (hi eU) (hi eM) (hi eD) (hi eV1) (hi eV2) (hi q1) (hi q2) (hi enu) (hi enm) (hi ens) (hi ent) (hi end') j1 j2 j3 j4 j5 T1 T2

set_option maxRecDepth 100000 in
set_option maxHeartbeats 1000000 in
theorem setsCounts_any (ms odd : List Int) (a o : Option Addr) (ca co : Nat) (w : World) (hT : TabW w) (hm : IntsAt w (.slice a ms.length ca) ms) (ho : IntsAt w (.slice o odd.length co) odd) :
    Calls Tryd.prog 8 #[.slice a ms.length ca, .slice o odd.length co] w fun e w' => e = .returned (.bool true) ∧ Below w.heap.size w w' := by
  by_cases l1 : ms.length ≤ 2000
  · by_cases l2 : odd.length ≤ 2000
    · exact setsCounts_in ms odd a o ca co w hT hm ho l1 l2
    · have HT := hi hT
      have i1 : (ms.length : Int) ≤ 2000 := by omega
      have i2 : (2000 : Int) < (odd.length : Int) := by omega
      clear hT hm ho l1 l2
      go_enter Tryd.func8, Tryd.ntmps8
      go_wp2_with (go_at_call 9; refine (awake_any w HT.out).mono ?_; rintro e w1 ⟨rfl, hb⟩)
      go_ret
      exact ⟨rfl, hb⟩
  · have HT := hi hT
    have i1 : (2000 : Int) < (ms.length : Int) := by omega
    clear hT hm ho l1
    go_enter Tryd.func8, Tryd.ntmps8
    go_wp2_with (go_at_call 9; refine (awake_any w HT.out).mono ?_; rintro e w1 ⟨rfl, hb⟩)
    go_ret
    exact ⟨rfl, hb⟩

end Go.Proofs.YtmdlknddlmpddaaDoor
