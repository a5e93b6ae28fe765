/-
  The document's examples, as the statements of sets run them (awake): it answers true, and nothing that lay has turned.
-/
import Derived.Test.YtmdlknddlmpddaaDoorSetH
namespace Go.Proofs.YtmdlknddlmpddaaDoor
open Go.ChangeShapes Go.WideShapes Go.ChangeAt Go.RowKit Go.Shelf
set_option linter.unusedVariables false

theorem below_drewN {B : Nat} {a w : World} (h : Below B a w) (n : Nat) : Below B a (w.drewN n) := ⟨h.os, h.tape, h.output, h.size, h.block⟩
theorem intsAt_grew {W W' : World} {v : Value} {xs : List Int} (h : IntsAt W v xs) (hb : Below W.heap.size W W') : IntsAt W' v xs := by
  obtain ⟨a, cap, hv, hcap, hc⟩ := h
  refine ⟨a, cap, hv, hcap, fun hx => ?_⟩
  obtain ⟨b, off, ha, hcs⟩ := hc hx
  exact ⟨b, off, ha, fun j hj => cell_kept (hcs j hj) (Below.grew hb) (fun r e => by cases e)⟩

/-- A set in block B, laid since w; the library's table lies. -/
def Good (w : World) (B : Nat) (S : Words) (W : World) : Prop := RowAt 58 W B S ∧ Below w.heap.size w W ∧ TabW W ∧ w.heap.size ≤ B ∧ 0 < w.heap.size
theorem TabW.turned {W W' : World} {B : Nat} (h : TabW W) (hg : W.grownBy W' (some B)) (hB : 0 < B) : TabW W' := h.stays (fun i _ h2 => hg.block i (by have := h.lt; omega) (fun e => by cases e; omega))
theorem Good.turn {w W W' : World} {B : Nat} {S S' : Words} (h : Good w B S W) (hR : RowAt 58 W' B S') (hg : W.grownBy W' (some B)) : Good w B S' W' :=
  ⟨hR, Below.grown h.2.1 hg h.2.1.size (fun k e => by cases e; exact h.2.2.2.1), h.2.2.1.turned hg (by have := h.2.2.2.2; have := h.2.2.2.1; omega), h.2.2.2⟩
theorem Good.below {w W W' : World} {B : Nat} {S : Words} (h : Good w B S W) (k : Below W.heap.size W W') : Good w B S W' :=
  ⟨h.1.below k, h.2.1.trans (k.mono h.2.1.size), h.2.2.1.below k, h.2.2.2⟩

theorem put_good (w : World) (B : Nat) (S : Words) (m : Int) (W : World) (h : Good w B S W) :
    Calls Tryd.prog 15 #[.pointer (some ⟨B, 0, none⟩), .int .i64 m] W fun e W' => e = .returned (.bool (okM m && !memS S m.toNat)) ∧ Good w B (putS S m) W' :=
  (put_any _ B S m W h.1).mono fun e W' ⟨he, hR, hg⟩ => ⟨he, h.turn hR hg⟩
theorem take_good (w : World) (B : Nat) (S : Words) (m : Int) (W : World) (h : Good w B S W) :
    Calls Tryd.prog 16 #[.pointer (some ⟨B, 0, none⟩), .int .i64 m] W fun e W' => e = .returned (.bool (memZ S m)) ∧ Good w B (takeS S m) W' :=
  (take_any _ B S m W h.1).mono fun e W' ⟨he, hR, hg⟩ => ⟨he, h.turn hR hg⟩

/-- The slice that comes is some value that holds the numbers. -/
def SomeInts (w : World) (xs : List Int) (e : Ending) (W' : World) : Prop := ∃ a cap, e = .returned (.slice a xs.length cap) ∧ IntsAt W' (.slice a xs.length cap) xs ∧ Below w.heap.size w W'
theorem list_ints (b : Nat) (S : Words) (xs : List Int) (w : World) (hR : RowAt 58 w b S) (hT : TabW w) (hxs : MemFrom S 0 xs) :
    Calls Tryd.prog 33 #[.pointer (some ⟨b, 0, none⟩)] w (SomeInts w xs) :=
  (callsIn_wide.1 (list_in 3 (Nat.le_refl _) b S xs w hR hT hxs)).mono fun e W' ⟨o, he, ho, hb⟩ => by
    obtain ⟨a, cap, rfl, hcap, hc⟩ := intsAt_row ho.1
    exact ⟨a, cap, he, ⟨a, cap, rfl, hcap, hc⟩, hb⟩

def SA : Words := putAll S0 [5, 3, 5, -1, 16384]
def SB : Words := takeS SA 3
theorem sa_len : lenTo SA 256 = 2 := by decide +kernel
theorem sa_put : (okM 3 && !memS SA (3 : Int).toNat) = false := by decide +kernel
theorem sa_put' : putS SA 3 = SA := by
  unfold putS; rw [if_neg]
  have : memS SA (3 : Int).toNat = true := by decide +kernel
  rw [this]; simp
theorem sa_take : memZ SA 3 = true := by decide +kernel
theorem sb_5 : IsNx (memS SB) 0 5 := by
  refine ⟨by omega, by omega, ?_, fun _ => by decide +kernel⟩
  have : ∀ j < 5, memS SB j = false := by decide +kernel
  exact fun j _ h => this j h
theorem sb_6 : IsNx (memS SB) 6 16384 := by
  refine ⟨by omega, by omega, ?_, fun h => by omega⟩
  have h1 : ∀ i < 256, 1 ≤ i → SB i = 0 := by decide +kernel
  have h2 : ∀ j < 64, 6 ≤ j → memS SB j = false := by decide +kernel
  intro j h3 h4
  by_cases h : j < 64
  · exact h2 j h h3
  · unfold memS
    rw [h1 (j / 64) (by omega) (by omega)]
    simp
theorem sb_list : MemFrom SB 0 [5] := ⟨5, rfl, by omega, sb_5, sb_6⟩

theorem aw_lit (w : World) : IntsAt (w.alloc (.cells #[.int .i64 5, .int .i64 3, .int .i64 5, .int .i64 (-1), .int .i64 16384] 3)) (.slice (some ⟨w.heap.size, 0, none⟩) ([5, 3, 5, -1, 16384] : List Int).length 5) [5, 3, 5, -1, 16384] := by
  refine ⟨_, 5, rfl, ⟨by simp, by unfold maxLen; omega⟩, fun _ => ⟨w.heap.size, 0, rfl, fun j hj => ?_⟩⟩
  match j, hj with
  | 0, _ => simp
  | 1, _ => simp
  | 2, _ => simp
  | 3, _ => simp
  | 4, _ => simp
  | j + 5, hj => exact absurd hj (by simp)

theorem aw_of (w : World) (hT : TabW w) : Calls Tryd.prog 10 #[.slice (some ⟨w.heap.size, 0, none⟩) 5 5] (w.alloc (.cells #[.int .i64 5, .int .i64 3, .int .i64 5, .int .i64 (-1), .int .i64 16384] 3))
    fun e w' => e = .returned (.pointer (some ⟨w.heap.size + 1, 0, none⟩)) ∧ Good w (w.heap.size + 1) SA w' := by
  have hb : Below w.heap.size w (w.alloc (.cells #[.int .i64 5, .int .i64 3, .int .i64 5, .int .i64 (-1), .int .i64 16384] 3)) := (Below.refl _ _).alloc (Nat.le_refl _) _
  have h := of_any [5, 3, 5, -1, 16384] _ 5 _ (aw_lit w) (by simp)
  refine h.mono fun e w' hn => ?_
  obtain ⟨he, hR, hB⟩ := hn
  rw [World.size_alloc] at he hR
  exact ⟨he, hR, hb.trans (hB.mono (by simp)), (hT.below hb).below hB, by omega, hT.lt⟩

theorem len_good (w : World) (B n : Nat) (S : Words) (W : World) (h : Good w B S W) (e : lenTo S 256 = n) :
    Calls Tryd.prog 32 #[.pointer (some ⟨B, 0, none⟩)] W fun e w' => e = .returned (.int .i64 (n : Int)) ∧ W = w' := e ▸ len_any B S W h.1
theorem aw_put (w : World) (B : Nat) (W : World) (h : Good w B SA W) :
    Calls Tryd.prog 15 #[.pointer (some ⟨B, 0, none⟩), .int .i64 3] W fun e W' => e = .returned (.bool false) ∧ Good w B SA W' := by
  have := put_good w B SA 3 W h
  rwa [sa_put, sa_put'] at this
theorem aw_take (w : World) (B : Nat) (W : World) (h : Good w B SA W) :
    Calls Tryd.prog 16 #[.pointer (some ⟨B, 0, none⟩), .int .i64 3] W fun e W' => e = .returned (.bool true) ∧ Good w B SB W' := by
  have := take_good w B SA 3 W h
  rwa [sa_take] at this
theorem aw_least (w : World) (B : Nat) (W : World) (h : Good w B SB W) :
    Calls Tryd.prog 36 #[.pointer (some ⟨B, 0, none⟩)] W fun e w' => e = .returned (.tuple #[.int .i64 5, .bool true]) ∧ W = w' :=
  least_some B SB 5 W h.1 h.2.2.1 sb_5 (by omega)
theorem aw_list (w : World) (B : Nat) (W : World) (h : Good w B SB W) : Calls Tryd.prog 33 #[.pointer (some ⟨B, 0, none⟩)] W (SomeInts W [5]) :=
  list_ints B SB [5] W h.1 h.2.2.1 sb_list
theorem aw_lit1 (W : World) : IntsAt (W.alloc (.cells #[.int .i64 5] 3)) (.slice (some ⟨W.heap.size, 0, none⟩) 1 1) [5] := by
  refine ⟨_, 1, rfl, ⟨by simp, by unfold maxLen; omega⟩, fun _ => ⟨W.heap.size, 0, rfl, fun j hj => ?_⟩⟩
  match j, hj with
  | 0, _ => simp
  | j + 1, hj => exact absurd hj (by simp)
theorem aw_same (a : Option Addr) (cap : Nat) (W : World) (h : IntsAt W (.slice a 1 cap) [5]) :
    Calls Tryd.prog 22 #[.slice a 1 cap, .slice (some ⟨W.heap.size, 0, none⟩) 1 1] (W.alloc (.cells #[.int .i64 5] 3)) fun e w' => e = .returned (.bool true) ∧ Below W.heap.size W w' := by
  have hb : Below W.heap.size W (W.alloc (.cells #[.int .i64 5] 3)) := (Below.refl _ _).alloc (Nat.le_refl _) _
  refine (same_any [5] [5] _ _ _ (intsAt_grew h hb) (aw_lit1 W) (by decide) (by decide)).mono ?_
  rintro e w' ⟨rfl, m, rfl⟩
  exact ⟨by simp [sameB], below_drewN hb m⟩

set_option maxRecDepth 100000 in
set_option maxHeartbeats 1000000 in
theorem awake_any (w : World) (hT : TabW w) : Calls Tryd.prog 9 #[] w fun e w' => e = .returned (.bool true) ∧ Below w.heap.size w w' := by
  have HT := Lib.hid hT
  clear hT
  go_enter Tryd.func9, Tryd.ntmps9
  go_wp2_with (first
    | (go_at_call 10; refine (aw_of w HT.out).mono ?_; rintro e w1 ⟨rfl, g⟩; have G := Lib.hid g; clear g)
    | (go_at_call 32; refine (len_good w _ 2 SA _ G.out sa_len).mono ?_; rintro e w2 ⟨rfl, rfl⟩)
    | (go_at_call 15; refine (aw_put w _ _ G.out).mono ?_; rintro e w2 ⟨rfl, g⟩; replace G := Lib.hid g; clear g)
    | (go_at_call 16; refine (aw_take w _ _ G.out).mono ?_; rintro e w2 ⟨rfl, g⟩; replace G := Lib.hid g; clear g)
    | (go_at_call 36; refine (aw_least w _ _ G.out).mono ?_; rintro e w2 ⟨rfl, rfl⟩)
    | (go_at_call 33; refine (aw_list w _ _ G.out).mono ?_; rintro e w5 ⟨a5, cap5, rfl, hi5, hb5⟩; replace G := Lib.hid (G.out.below hb5); clear hb5))
  refine (aw_same a5 cap5 w5 hi5).mono ?_
  rintro e w6 ⟨rfl, hb6⟩
  go_wp2
  go_ret
  exact ⟨rfl, G.out.2.1.trans (hb6.mono G.out.2.1.size)⟩

end Go.Proofs.YtmdlknddlmpddaaDoor
