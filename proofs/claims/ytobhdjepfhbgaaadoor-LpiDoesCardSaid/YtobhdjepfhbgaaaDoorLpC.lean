/-
  Package lpi: how many there are, whose a number is, bytes and bits of the tables, whether one waits, and that it does or not.
-/
import Derived.Test.YtobhdjepfhbgaaaDoorLpB
namespace Go.Proofs.YtobhdjepfhbgaaaDoor
open Go.ChangeShapes Go.WideShapes Go.ChangeAt Go.RowKit Go.Shelf
set_option linter.unusedVariables false
set_option linter.unusedSimpArgs false

theorem many_any (l s c cap : Nat) (S : Words) (x : St) (w : World) (h : LpH w l s c cap S x) : Calls Tryd.prog 23 #[.pointer (some ⟨l, 0, none⟩)] w fun e w' => e = .returned (.int .i64 x.n) ∧ w = w' := by
  obtain ⟨_, _, _, _, _, _, c6⟩ := h.cells
  clear h
  go_enter Tryd.func23, Tryd.ntmps23
  go_wp2
  go_ret
  exact ⟨rfl, rfl⟩
theorem on_any (l s c cap : Nat) (S : Words) (x : St) (w : World) (h : LpH w l s c cap S x) : Calls Tryd.prog 22 #[.pointer (some ⟨l, 0, none⟩)] w fun e w' => e = .returned (.bool x.on) ∧ w = w' := by
  obtain ⟨c0, _⟩ := h.cells
  clear h
  go_enter Tryd.func22, Tryd.ntmps22
  go_wp2
  go_ret
  exact ⟨rfl, rfl⟩
set_option maxHeartbeats 1000000 in
theorem owns_any (l s c cap : Nat) (S : Words) (x : St) (hn : x.n ≤ 512) (id : Int) (w : World) (h : LpH w l s c cap S x) : Calls Tryd.prog 46 #[.pointer (some ⟨l, 0, none⟩), .int .i64 id] w fun e w' => e = .returned (.bool (ownB x id)) ∧ w = w' := by
  have HM := hi (fun W hW => many_any l s c cap S x W hW)
  have H := hi h
  have hw : IntKind.i64.wrap (8192 + (x.n : Int)) = 8192 + (x.n : Int) := by rw [IntKind.wrap_i64]; omega
  clear h
  by_cases h0 : 8192 ≤ id
  · have e : ownB x id = decide (id < 8192 + (x.n : Int)) := by unfold ownB; rw [decide_eq_decide]; omega
    rw [e]
    clear e
    go_enter Tryd.func46, Tryd.ntmps46
    go_wp2_with (go_at_call 23; ((with_reducible refine (HM.out _ H.out).mono ?_); rintro e w1 ⟨rfl, rfl⟩))
    go_ret
    exact ⟨rfl, rfl⟩
  · have e : ownB x id = false := by unfold ownB; rw [decide_eq_false]; omega
    have h1 : id < 8192 := by omega
    rw [e]
    clear e h0
    go_enter Tryd.func46, Tryd.ntmps46
    go_wp2
    go_ret
    exact ⟨rfl, rfl⟩
theorem owns_is (l s c cap : Nat) (S : Words) (x : St) (hn : x.n ≤ 512) (id : Int) (b : Bool) (hb : ownB x id = b) (w : World) (h : LpH w l s c cap S x) : Calls Tryd.prog 46 #[.pointer (some ⟨l, 0, none⟩), .int .i64 id] w fun e w' => e = .returned (.bool b) ∧ w = w' := hb ▸ owns_any l s c cap S x hn id w h

theorem acc1 {n A S o : Nat} (h : A + S ≤ n) (ho : o + 1 ≤ S) (hn : n ≤ 131072) : accE n (A : Int) (S : Int) (o : Int) 1 = 0 := by
  have h1 : holdsB n (A : Int) (S : Int) = true := by simp only [holdsB, decide_eq_true_eq]; omega
  rw [accE, if_pos h1]
  exact mayE_one S o ho (by omega)
theorem rd1 {bs : List Nat} {A S o : Nat} (h : A + S ≤ bs.length) (ho : o + 1 ≤ S) (hn : bs.length ≤ 131072) : rdE bs (A : Int) (S : Int) (o : Int) 1 = bs[A + o]?.getD 0 := by
  rw [rdE, if_pos (acc1 h ho hn)]
  have hl : A + o < bs.length := by omega
  have e : bs[A + o]? = some (bs[A + o]?.getD 0) := by rw [List.getElem?_eq_getElem hl]; rfl
  exact sub_one bs (A + o) _ e
theorem wr1 {bs : List Nat} {A S o v : Nat} (h : A + S ≤ bs.length) (ho : o + 1 ≤ S) (hn : bs.length ≤ 131072) (hv : v < 256) : wrB bs (A : Int) (S : Int) (o : Int) 1 v = bs.set (A + o) v := by
  rw [wrB, if_pos (acc1 h ho hn)]
  have h1 := splice_set bs [] (A + o) v (by simp; omega)
  rw [splice_nil] at h1
  have h2 : le 1 v = [v] := by simp [le]; omega
  show splice bs (A + o) (le 1 v) = _
  rw [h2]
  exact h1.symm

set_option maxHeartbeats 1000000 in
theorem load_any (p g cp : Nat) (bs : List Nat) (A Z o : Nat) (hA : A + Z ≤ bs.length) (ho : o + 1 ≤ Z) (w : World) (hM : MemAt 96 w p g cp bs) :
    Calls Tryd.prog 71 #[.pointer (some ⟨p, 0, none⟩), .agg #[.int .i64 A, .int .i64 Z], .int .i64 o] w fun e w' => e = .returned (.int .u8 ((bs[A + o]?.getD 0 : Nat) : Int)) ∧ Below w.heap.size w w' := by
  have hlen := hM.len
  have hb := getD_lt hM.bytes.2 (A + o)
  have HR := hi (read_E p g cp bs A Z o 1 _ 0 (rd1 hA ho hlen) (acc1 hA ho hlen) (w.alloc (.cells #[.int .i64 A, .int .i64 Z] 49)) (hM.below (bal w _)) (by omega) (by omega) (by omega) (by omega))
  obtain ⟨v, hv⟩ : ∃ v, bs[A + o]?.getD 0 = v := ⟨_, rfl⟩
  rw [hv] at HR hb ⊢
  have hw : IntKind.u8.wrap (v : Int) = (v : Int) := by rw [IntKind.wrap_u8]; omega
  clear hM hA ho hlen hv
  go_enter Tryd.func71, Tryd.ntmps71
  go_wp2_with (go_at_call 36; ((with_reducible refine HR.out.mono ?_); rintro e w1 ⟨rfl, hb1⟩))
  go_ret
  exact ⟨by simp, (bal w _).more hb1⟩

theorem u8_and : ∀ b < 256, ∀ j < 8, (bits .and .u8 ((b : Nat) : Int) ((2 ^ j : Nat) : Int) != 0) = b.testBit j := by decide +kernel
theorem u8_clear : ∀ b < 256, ∀ j < 8, bits .andNot .u8 ((b : Nat) : Int) ((2 ^ j : Nat) : Int) = ((sb b j false : Nat) : Int) := by decide +kernel
theorem u8_set : ∀ b < 256, ∀ j < 8, bits .or .u8 ((sb b j false : Nat) : Int) ((2 ^ j : Nat) : Int) = ((sb b j true : Nat) : Int) := by decide +kernel

theorem LpB.apart {W : World} {l s c cap p g cp : Nat} {S : Words} {x : St} {bs : List Nat} (h : LpB W l s c cap S x) (m : MemAt 96 W p g cp bs) : l ≠ g ∧ s ≠ g ∧ p ≠ s ∧ p ≠ c ∧ p ≠ l := by
  obtain ⟨⟨r, h2⟩, _⟩ := m.bytes
  obtain ⟨⟨r3, h3⟩, _⟩ := h.cfg
  have h1 := h.box; have h4 := h.set.1; have h5 := m.box
  unfold CB at h1
  refine ⟨fun e => ?_, fun e => ?_, fun e => ?_, fun e => ?_, fun e => ?_⟩
  · rw [e, h2] at h1; simp only [Option.some.injEq, Obj.cells.injEq] at h1; exact absurd h1.2.1 (by decide)
  · rw [e, h2] at h4; simp only [Option.some.injEq, Obj.cells.injEq] at h4; exact absurd h4.2.1 (by decide)
  · rw [e, h4] at h5; simp only [Option.some.injEq, Obj.cells.injEq] at h5; exact absurd h5.2.1 (by decide)
  · rw [e, h3] at h5; simp only [Option.some.injEq, Obj.cells.injEq] at h5; exact absurd h5.2.1 (by decide)
  · rw [e, h1] at h5; simp only [Option.some.injEq, Obj.cells.injEq] at h5; exact absurd h5.2.1 (by decide)

set_option maxHeartbeats 1000000 in
theorem marked_any (l s c cap p g cp : Nat) (S : Words) (x : St) (bs : List Nat) (hx : x.Ok bs.length) (k : Nat) (hk : k < x.n) (w : World) (h : LpH w l s c cap S x) (hM : MemAt 96 w p g cp bs) :
    Calls Tryd.prog 61 #[.pointer (some ⟨l, 0, none⟩), .pointer (some ⟨p, 0, none⟩), .int .i64 ((8192 + k : Nat) : Int)] w fun e w' => e = .returned (.bool (bitB bs x.qa k)) ∧ Below w.heap.size w w' := by
  have hq := hx.qk hk
  have n5 := hx.n5
  have HP := hi (place_any k (by omega) w)
  have H := hi (And.intro h hM)
  have HL := hi (fun W hW => load_any p g cp bs x.qa x.qs (k / 8) hx.qw (by omega) W hW)
  have hb := getD_lt hM.bytes.2 (x.qa + k / 8)
  have hU := u8_and _ hb (k % 8) (by omega)
  have hV : bitB bs x.qa k = (bs[x.qa + k / 8]?.getD 0).testBit (k % 8) := rfl
  rw [hV, ← hU]
  obtain ⟨v, hv⟩ : ∃ v, bs[x.qa + k / 8]?.getD 0 = v := ⟨_, rfl⟩
  obtain ⟨o, ho⟩ : ∃ o, k / 8 = o := ⟨_, rfl⟩
  obtain ⟨t, ht⟩ : ∃ t, 2 ^ (k % 8) = t := ⟨_, rfl⟩
  obtain ⟨z, hz⟩ : ∃ z : Int, ((8192 + k : Nat) : Int) = z := ⟨_, rfl⟩
  rw [hv] at HL ⊢
  rw [ho, ht, hz] at HP
  rw [ho] at HL
  rw [ht, hz]
  clear h hM hU hV hb hq hv ho ht hz
  go_enter Tryd.func61, Tryd.ntmps61
  go_wp2_with (first
    | (go_at_call 78; ((with_reducible refine HP.out.mono ?_); rintro e w1 ⟨rfl, m, hw1⟩; have HB := hi (show Below w.heap.size w w1 from by rw [hw1]; exact Below.drewN (Below.refl _ _)); clear hw1; obtain ⟨_, _, _, q3, q4, _, _⟩ := (H.out.1.below HB.out).cells))
    | (go_at_call 71; ((with_reducible refine (HL.out _ (H.out.2.below HB.out)).mono ?_); rintro e w2 ⟨rfl, hb2⟩)))
  go_ret
  exact ⟨rfl, HB.out.more hb2⟩

end Go.Proofs.YtobhdjepfhbgaaaDoor
