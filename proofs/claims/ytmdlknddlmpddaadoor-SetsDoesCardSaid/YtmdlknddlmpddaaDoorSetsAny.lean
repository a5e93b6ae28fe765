/-
  SetsAny: for every two lists of numbers: a set hangs on its members alone (the law answers true). Asked: the library's table lies in its variable.
-/
import Derived.Test.YtmdlknddlmpddaaDoorSetJ
namespace Go.Proofs.YtmdlknddlmpddaaDoor
open Go.ChangeShapes Go.WideShapes Go.ChangeAt Go.RowKit Go.Shelf
set_option linter.unusedVariables false

/-- Two sets, in blocks of the call's own. -/
def Two (w : World) (B C : Nat) (S T : Words) (W : World) : Prop := Good w B S W ∧ Good w C T W ∧ B ≠ C
theorem RowAt.far {T : TypeId} {W W' : World} {b c : Nat} {S : Words} (h : RowAt T W b S) (hg : W.grownBy W' (some c)) (hne : b ≠ c) : RowAt T W' b S := ⟨(hg.block b h.lt (fun e => by cases e; exact hne rfl)).trans h.1, h.2⟩
theorem Good.far {w W W' : World} {B C : Nat} {S : Words} (h : Good w B S W) (hg : W.grownBy W' (some C)) (hne : B ≠ C) (hC : w.heap.size ≤ C) : Good w B S W' :=
  ⟨h.1.far hg hne, Below.grown h.2.1 hg h.2.1.size (fun k e => by cases e; exact hC), h.2.2.1.turned hg (by have := h.2.2.2.2; omega), h.2.2.2⟩
theorem Two.below {w W W' : World} {B C : Nat} {S T : Words} (h : Two w B C S T W) (k : Below W.heap.size W W') : Two w B C S T W' := ⟨h.1.below k, h.2.1.below k, h.2.2⟩

theorem Two.l {w W : World} {B C : Nat} {S T : Words} (h : Two w B C S T W) : Good w B S W := h.1
theorem Two.r {w W : World} {B C : Nat} {S T : Words} (h : Two w B C S T W) : Good w C T W := h.2.1
theorem Good.row {w W : World} {B : Nat} {S : Words} (h : Good w B S W) : RowAt 58 W B S := h.1
theorem Good.tab {w W : World} {B : Nat} {S : Words} (h : Good w B S W) : TabW W := h.2.2.1

theorem two_put (w : World) (B C : Nat) (S T : Words) (x : Int) (W : World) (h : Two w B C S T W) :
    Calls Tryd.prog 15 #[.pointer (some ⟨C, 0, none⟩), .int .i64 x] W fun e W' => (∃ v, e = .returned v) ∧ Two w B C S (putS T x) W' :=
  (put_any _ C T x W h.2.1.1).mono fun e W' ⟨he, hR, hg⟩ => ⟨⟨_, he⟩, h.1.far hg h.2.2 h.2.1.2.2.2.1, h.2.1.turn hR hg, h.2.2⟩
theorem two_take (w : World) (B C : Nat) (S T : Words) (x : Int) (W : World) (h : Two w B C S T W) :
    Calls Tryd.prog 16 #[.pointer (some ⟨C, 0, none⟩), .int .i64 x] W fun e W' => (∃ v, e = .returned v) ∧ Two w B C S (takeS T x) W' :=
  (take_any _ C T x W h.2.1.1).mono fun e W' ⟨he, hR, hg⟩ => ⟨⟨_, he⟩, h.1.far hg h.2.2 h.2.1.2.2.2.1, h.2.1.turn hR hg, h.2.2⟩
theorem two_has (w : World) (B C : Nat) (S T : Words) (x : Int) (b : Bool) (W : World) (h : Two w B C S T W) (e : memZ S x = b) :
    Calls Tryd.prog 21 #[.pointer (some ⟨B, 0, none⟩), .int .i64 x] W fun e w' => e = .returned (.bool b) ∧ W = w' := e ▸ setHas_any _ B S x W h.1.1

theorem drop_rev (xs : List Int) {q : Nat} (h : q < xs.length) : (xs.drop q).reverse = (xs.drop (q + 1)).reverse ++ [xs[q]?.getD 0] := by
  rw [List.drop_eq_getElem_cons h, List.reverse_cons]; simp [h]

/-- The value of a slice's number. -/
theorem intsAt_at {w W : World} {a : Option Addr} {cap k : Nat} {xs : List Int} (h : IntsAt w (.slice a xs.length cap) xs) (hb : Below w.heap.size w W) (hk : k < xs.length) :
    ∃ b off : Nat, a = some ⟨b, off, none⟩ ∧ W.cell? ⟨b, off + k, none⟩ = some (.int .i64 (xs[k]?.getD 0)) := by
  obtain ⟨a', cap', e, hcap, hcs⟩ := intsAt_grew h hb
  simp only [Value.slice.injEq, true_and] at e
  obtain ⟨rfl, rfl⟩ := e
  obtain ⟨b, off, rfl, hc⟩ := hcs (fun e => by simp [e] at hk)
  exact ⟨b, off, rfl, hc k hk⟩

theorem of_two1 (xs : List Int) (a : Option Addr) (cap : Nat) (w W : World) (hb : Below w.heap.size w W) (hT : TabW W) (h0 : 0 < w.heap.size) (hv : IntsAt w (.slice a xs.length cap) xs) (hl : xs.length ≤ 9223372036854775806) :
    Calls Tryd.prog 10 #[.slice a xs.length cap] W fun e W' => ∃ B : Nat, e = .returned (.pointer (some ⟨B, 0, none⟩)) ∧ Good w B (putAll S0 xs) W' ∧ B < W'.heap.size :=
  (of_any xs a cap W (intsAt_grew hv hb) hl).mono fun e W' ⟨he, hR, hB⟩ => ⟨_, he, ⟨hR, hb.trans (hB.mono hb.size), hT.below hB, hb.size, h0⟩, hR.lt⟩
theorem of_two2 (w W : World) (B : Nat) (S : Words) (h : Good w B S W) :
    Calls Tryd.prog 10 #[.slice none 0 0] W fun e W' => ∃ C : Nat, e = .returned (.pointer (some ⟨C, 0, none⟩)) ∧ Two w B C S S0 W' :=
  (of_any [] none 0 W ⟨none, 0, rfl, ⟨by simp, by unfold maxLen; omega⟩, fun h => absurd rfl h⟩ (by simp)).mono fun e W' ⟨he, hR, hB⟩ =>
    ⟨_, he, h.below hB, ⟨hR, h.2.1.trans (hB.mono h.2.1.size), h.2.2.1.below hB, h.2.1.size, h.2.2.2.2⟩, by have := h.1.lt; omega⟩

/-- A value that hangs on what is not told. -/
def SomePtr1 (w : World) (S : Words) (e : Ending) (W' : World) : Prop := ∃ B : Nat, e = .returned (.pointer (some ⟨B, 0, none⟩)) ∧ Good w B S W' ∧ B < W'.heap.size
def SomePtr2 (w : World) (B : Nat) (S : Words) (e : Ending) (W' : World) : Prop := ∃ C : Nat, e = .returned (.pointer (some ⟨C, 0, none⟩)) ∧ Two w B C S S0 W'

theorem same_two (w : World) (B C : Nat) (S T : Words) (W : World) (h : Two w B C S T W) (e : sameW S T = true) :
    Calls Tryd.prog 31 #[.pointer (some ⟨B, 0, none⟩), .pointer (some ⟨C, 0, none⟩)] W fun e W' => e = .returned (.bool true) ∧ Two w B C S T W' :=
  (same_sets B C S T W h.1.1 h.2.1.1).mono fun e' W' ⟨he, m, hm⟩ => ⟨by rw [he, e], by rw [hm]; exact h.below (below_drewN (Below.refl _ _) m)⟩
theorem same_two' (w : World) (B C : Nat) (S T : Words) (W : World) (h : Two w B C S T W) (e : sameW T S = true) :
    Calls Tryd.prog 31 #[.pointer (some ⟨C, 0, none⟩), .pointer (some ⟨B, 0, none⟩)] W fun e W' => e = .returned (.bool true) ∧ Two w B C S T W' :=
  (same_sets C B T S W h.2.1.1 h.1.1).mono fun e' W' ⟨he, m, hm⟩ => ⟨by rw [he, e], by rw [hm]; exact h.below (below_drewN (Below.refl _ _) m)⟩
theorem same_x (xs : List Int) (a b : Option Addr) (cap cap' : Nat) (w : World) (hx : xs.length ≤ 9223372036854775806) (ha : IntsAt w (.slice a xs.length cap) xs) (hb : IntsAt w (.slice b xs.length cap') xs) :
    Calls Tryd.prog 22 #[.slice a xs.length cap, .slice b xs.length cap'] w fun e w' => e = .returned (.bool true) ∧ Below w.heap.size w w' :=
  (same_any xs xs _ _ w ha hb hx hx).mono fun e w' ⟨h1, m, h2⟩ => ⟨by rw [h1]; simp [sameB], by rw [h2]; exact below_drewN (Below.refl _ _) m⟩

set_option maxRecDepth 100000 in
set_option maxHeartbeats 4000000 in
theorem setsAny_in (ms odd : List Int) (a o : Option Addr) (ca co : Nat) (w : World) (hT : TabW w) (hm : IntsAt w (.slice a ms.length ca) ms) (ho : IntsAt w (.slice o odd.length co) odd) (l1 : ms.length ≤ 2000) (l2 : odd.length ≤ 2000) :
    Calls Tryd.prog 5 #[.slice a ms.length ca, .slice o odd.length co] w fun e w' => e = .returned (.bool true) ∧ Below w.heap.size w w' := by
  have HT := Lib.hid hT
  have HM := Lib.hid hm
  have HO := Lib.hid ho
  have i1 : (ms.length : Int) ≤ 2000 := by omega
  have i2 : (odd.length : Int) ≤ 2000 := by omega
  have L1 := Lib.hid l1
  have L2 := Lib.hid l2
  clear hT hm ho l1 l2
  go_enter Tryd.func5, Tryd.ntmps5
  go_wp2_with (first
    | (go_at_call 9; refine (awake_any w HT.out).mono ?_; rintro e w1 ⟨rfl, hb⟩; have HB := Lib.hid hb; clear hb)
    | (go_at_call 10; ((with_reducible refine (of_two1 ms a ca w _ HB.out (HT.out.below HB.out) HT.out.lt HM.out (by have := L1.out; omega)).mono ?_); rintro e w2 ⟨B, rfl, g, hlt⟩; have G := Lib.hid g; clear g hlt))
    | (go_at_call 10; ((with_reducible refine (of_two2 w _ B _ G.out).mono ?_); rintro e w3 ⟨C, rfl, g⟩; have G2 := Lib.hid g; clear g)))
  -- the first loop: the odd ones are put
  go_loopw [8] (fun i wr => ∃ k : Nat, i = .int .i64 k ∧ Hid (k ≤ odd.length ∧ Two w B C (putAll S0 ms) (putAll S0 (odd.take k)) wr)) (fun i _ => odd.length - (intOf i).toNat)
  case atStart => exact ⟨0, rfl, Lib.hid ⟨Nat.zero_le _, G2.out⟩⟩
  case round =>
    obtain ⟨k, rfl, HH⟩ := hrel
    by_cases hlt : k < odd.length
    · obtain ⟨b, off, rfl, hx⟩ := intsAt_at HO.out HH.out.2.1.2.1 hlt
      obtain ⟨x, ex⟩ : ∃ x, odd[k]?.getD 0 = x := ⟨_, rfl⟩
      rw [ex] at hx
      have EX := Lib.hid ex
      have hki : (k : Int) < (odd.length : Int) := by omega
      have HLT := Lib.hid hlt
      clear ex hlt
      go_wp2_with (go_at_call 15; refine (two_put w B C _ _ x _ HH.out.2).mono ?_; rintro e w4 ⟨⟨v, rfl⟩, g⟩; have G3 := Lib.hid g; clear g)
      go_roundw
      case rel => exact ⟨k + 1, by go_num, Lib.hid ⟨HLT.out, by rw [take_snoc odd HLT.out, putAll_snoc, EX.out]; exact G3.out⟩⟩
      case measure => have := HLT.out; simp only [intOf]; omega
    · have ek : k = odd.length := by have := HH.out.1; omega
      subst ek
      have g := HH.out.2
      rw [List.take_length] at g
      have G4 := Lib.hid g
      clear g hlt HH
      go_wp2
      -- the second loop: the members, from the last one on
      go_loopw [9] (fun i wr => ∃ r : Nat, i = .int .i64 ((r : Int) - 1) ∧ Hid (r ≤ ms.length ∧ Two w B C (putAll S0 ms) (putAll (putAll S0 odd) (ms.drop r).reverse) wr)) (fun i _ => ((intOf i) + 1).toNat)
      case atStart => exact ⟨ms.length, rfl, Lib.hid ⟨Nat.le_refl _, by rw [List.drop_length]; exact G4.out⟩⟩
      case round =>
        obtain ⟨r, rfl, HH⟩ := hrel
        rcases Nat.eq_zero_or_pos r with hr | hr
        · subst hr
          have g := HH.out.2
          rw [List.drop_zero] at g
          have G5 := Lib.hid g
          clear g HH
          rw [show ((0 : Nat) : Int) - 1 = -1 from rfl]
          go_wp2
          -- the third loop: what is no member is taken out
          go_loopw [10] (fun i wr => ∃ k : Nat, i = .int .i64 k ∧ Hid (k ≤ odd.length ∧ Two w B C (putAll S0 ms) (takeAll (putAll S0 ms) (putAll (putAll S0 odd) ms.reverse) (odd.take k)) wr)) (fun i _ => odd.length - (intOf i).toNat)
          case atStart => exact ⟨0, rfl, Lib.hid ⟨Nat.zero_le _, G5.out⟩⟩
          case round =>
            obtain ⟨k, rfl, HH⟩ := hrel
            by_cases hlt : k < odd.length
            · obtain ⟨b, off, rfl, hx⟩ := intsAt_at HO.out HH.out.2.1.2.1 hlt
              obtain ⟨x, ex⟩ : ∃ x, odd[k]?.getD 0 = x := ⟨_, rfl⟩
              rw [ex] at hx
              have EX := Lib.hid ex
              have hki : (k : Int) < (odd.length : Int) := by omega
              have HLT := Lib.hid hlt
              clear ex hlt
              cases hz : memZ (putAll S0 ms) x
              · have HZ := Lib.hid hz
                clear hz
                go_wp2_with (first
                  | (go_at_call 21; refine (two_has w B C _ _ x false _ HH.out.2 HZ.out).mono ?_; rintro e w4 ⟨rfl, rfl⟩)
                  | (go_at_call 16; refine (two_take w B C _ _ x _ HH.out.2).mono ?_; rintro e w4 ⟨⟨v, rfl⟩, g⟩; have G6 := Lib.hid g; clear g))
                go_roundw
                case rel => exact ⟨k + 1, by go_num, Lib.hid ⟨HLT.out, by rw [take_snoc odd HLT.out, takeAll_snoc, EX.out, HZ.out]; exact G6.out⟩⟩
                case measure => have := HLT.out; simp only [intOf]; omega
              · have HZ := Lib.hid hz
                clear hz
                go_wp2_with (go_at_call 21; refine (two_has w B C _ _ x true _ HH.out.2 HZ.out).mono ?_; rintro e w4 ⟨rfl, rfl⟩)
                go_roundw
                case rel => exact ⟨k + 1, by go_num, Lib.hid ⟨HLT.out, by rw [take_snoc odd HLT.out, takeAll_snoc, EX.out, HZ.out]; exact HH.out.2⟩⟩
                case measure => have := HLT.out; simp only [intOf]; omega
            · have ek : k = odd.length := by have := HH.out.1; omega
              subst ek
              have g := HH.out.2
              rw [List.take_length] at g
              have G6 := Lib.hid g
              have hlS := G6.out.1.1.2
              have hlT := G6.out.2.1.1.2
              obtain ⟨T, eT⟩ : ∃ T, takeAll (putAll S0 ms) (putAll (putAll S0 odd) ms.reverse) odd = T := ⟨_, rfl⟩
              obtain ⟨SM, eS⟩ : ∃ SM, putAll S0 ms = SM := ⟨_, rfl⟩
              have hmem : ∀ j, memS T j = memS SM j := fun j => by rw [← eT, ← eS]; exact any_members ms odd j
              have g := G6.out
              rw [eT, eS] at g
              rw [eT] at hlT
              rw [eS] at hlS
              have G7 := Lib.hid g
              have hw := words_ext (S := SM) (S' := T) (fun j _ => (hmem j).symm) hlS hlT
              have es1 := Lib.hid (sameW_of hw)
              have es2 := Lib.hid (sameW_of fun i hi => (hw i hi).symm)
              obtain ⟨n, en⟩ : ∃ n, lenTo SM 256 = n := ⟨_, rfl⟩
              have EN1 := Lib.hid en
              have EN2 := Lib.hid ((lenTo_congr 256 fun i hi => (hw i hi).symm).trans en)
              obtain ⟨xs, hxs⟩ := memFrom_ex SM 16384 0 (by omega) (by omega)
              have HX1 := Lib.hid hxs
              have HX2 := Lib.hid (memFrom_congr (S' := T) (fun j _ => (hmem j).symm) hxs)
              have HXL := Lib.hid (memFrom_len hxs)
              clear g hlt HH hlS hlT eT eS hmem hw en hxs G6
              go_wp2_with (first
                | (go_at_call 31; ((with_reducible refine (same_two w B C _ _ _ G7.out es1.out).mono ?_); rintro e w4 ⟨rfl, g⟩; replace G7 := Lib.hid g; clear g))
                | (go_at_call 31; ((with_reducible refine (same_two' w B C _ _ _ G7.out es2.out).mono ?_); rintro e w4 ⟨rfl, g⟩; replace G7 := Lib.hid g; clear g))
                | (go_at_call 32; ((with_reducible refine (len_good w B n _ _ G7.out.l EN1.out).mono ?_); rintro e w4 ⟨rfl, rfl⟩))
                | (go_at_call 32; ((with_reducible refine (len_good w C n _ _ G7.out.r EN2.out).mono ?_); rintro e w4 ⟨rfl, rfl⟩))
                | (go_at_call 33; ((with_reducible refine (list_ints B _ xs _ G7.out.l.row G7.out.l.tab HX1.out).mono ?_); rintro e w4 ⟨a4, c4, rfl, hi4, hb4⟩; replace G7 := Lib.hid (G7.out.below hb4); clear hb4))
                | (go_at_call 33; ((with_reducible refine (list_ints C _ xs _ G7.out.r.row G7.out.r.tab HX2.out).mono ?_); rintro e w5 ⟨a5, c5, rfl, hi5, hb5⟩; replace G7 := Lib.hid (G7.out.below hb5); replace hi4 := intsAt_grew hi4 hb5; clear hb5))
                | (go_at_call 22; ((with_reducible refine (same_x xs _ _ _ _ _ (by have := HXL.out; omega) hi4 hi5).mono ?_); rintro e w6 ⟨rfl, hb6⟩; replace G7 := Lib.hid (G7.out.below hb6); clear hb6)))
              go_ret
              exact ⟨rfl, G7.out.1.2.1⟩
        · obtain ⟨q, rfl⟩ : ∃ q, r = q + 1 := ⟨r - 1, by omega⟩
          have hq : q < ms.length := by have := HH.out.1; omega
          rw [show ((q + 1 : Nat) : Int) - 1 = (q : Int) by omega]
          obtain ⟨b, off, rfl, hx⟩ := intsAt_at HM.out HH.out.2.1.2.1 hq
          obtain ⟨x, ex⟩ : ∃ x, ms[q]?.getD 0 = x := ⟨_, rfl⟩
          rw [ex] at hx
          have EX := Lib.hid ex
          have hki : (q : Int) < (ms.length : Int) := by omega
          have HQ := Lib.hid hq
          clear ex hq hr
          go_wp2_with (go_at_call 15; refine (two_put w B C _ _ x _ HH.out.2).mono ?_; rintro e w4 ⟨⟨v, rfl⟩, g⟩; have G6 := Lib.hid g; clear g)
          go_roundw
          case rel => exact ⟨q, rfl, Lib.hid ⟨by have := HQ.out; omega, by rw [drop_rev ms HQ.out, putAll_snoc, EX.out]; exact G6.out⟩⟩
          case measure => simp only [intOf]; omega

set_option maxRecDepth 100000 in
set_option maxHeartbeats 1000000 in
theorem setsAny_any (ms odd : List Int) (a o : Option Addr) (ca co : Nat) (w : World) (hT : TabW w) (hm : IntsAt w (.slice a ms.length ca) ms) (ho : IntsAt w (.slice o odd.length co) odd) :
    Calls Tryd.prog 5 #[.slice a ms.length ca, .slice o odd.length co] w fun e w' => e = .returned (.bool true) ∧ Below w.heap.size w w' := by
  by_cases l1 : ms.length ≤ 2000
  · by_cases l2 : odd.length ≤ 2000
    · exact setsAny_in ms odd a o ca co w hT hm ho l1 l2
    · have HT := Lib.hid hT
      have i1 : (ms.length : Int) ≤ 2000 := by omega
      have i2 : (2000 : Int) < (odd.length : Int) := by omega
      clear hT hm ho l1 l2
      go_enter Tryd.func5, Tryd.ntmps5
      go_wp2_with (go_at_call 9; refine (awake_any w HT.out).mono ?_; rintro e w1 ⟨rfl, hb⟩)
      go_ret
      exact ⟨rfl, hb⟩
  · have HT := Lib.hid hT
    have i1 : (2000 : Int) < (ms.length : Int) := by omega
    clear hT hm ho l1
    go_enter Tryd.func5, Tryd.ntmps5
    go_wp2_with (go_at_call 9; refine (awake_any w HT.out).mono ?_; rintro e w1 ⟨rfl, hb⟩)
    go_ret
    exact ⟨rfl, hb⟩

end Go.Proofs.YtmdlknddlmpddaaDoor
