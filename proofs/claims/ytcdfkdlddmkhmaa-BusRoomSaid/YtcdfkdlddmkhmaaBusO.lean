/-
  The law's head: the document's examples.
-/
import Derived.Test.YtcdfkdlddmkhmaaBusN
namespace Go.Proofs.Ytcdfkdlddmkhmaa
open Go.ChangeShapes Go.WideShapes Go.ChangeAt Go.RowKit
set_option linter.unusedVariables false

theorem find_any (lo hi' p : Nat) (sv : Value) (xs : List Sp) (addr width : Int) (w : World) (hb : BusAt lo hi' w p sv xs) (hh : hi' ≤ w.heap.size) (hok : ∀ x ∈ xs, x.Ok) :
    Calls Try.prog 13 #[.pointer (some ⟨p, 0, none⟩), .int .i64 addr, .int .i64 width] w fun e w' => e = .returned (findV xs addr width) ∧ Below w.heap.size w w' := by
  unfold findV
  by_cases h : mayE 1099511627776 addr width = 0
  · rw [if_pos h]; exact find_ok lo hi' p sv xs addr width w hb hh hok h
  · rw [if_neg h]; exact find_err p addr width w h

/-- A bus that was made since w. -/
structure BS (w : World) (p : Nat) (sv : Value) (xs : List Sp) (W : World) : Prop where
  bus : BusAt w.heap.size W.heap.size W p sv xs
  below : Below w.heap.size w W
theorem BS.later {w : World} {p : Nat} {sv : Value} {xs : List Sp} {W W' : World} (h : BS w p sv xs W) (k : Below W.heap.size W W') : BS w p sv xs W' :=
  ⟨(h.bus.below k (Nat.le_refl _)).mono (Nat.le_refl _) k.size, h.below.trans (k.mono h.below.size)⟩

def exA : Sp := ⟨256, 64, 1, 0⟩
def exB : Sp := ⟨0, 16, 2, 0⟩
theorem exR : Row [exB, exA] := by
  have : Row (sortB [exA, exB]) := row_of_new (by decide)
  exact this
theorem ex312 : findV [exB, exA] 312 8 = tup exA 56 0 := by
  have h : mayE 1099511627776 312 8 = 0 := mayE0 (by omega) (by simp) ⟨by omega, by simp only [wrap64]; omega⟩
  unfold findV
  rw [if_pos h]
  rfl
theorem ex16 : findV [exB, exA] 16 8 = tup Sp.zero 0 42 := by
  have h : mayE 1099511627776 16 8 = 0 := mayE0 (by omega) (by simp) ⟨by omega, by simp only [wrap64]; omega⟩
  unfold findV
  rw [if_pos h]
  rfl
theorem aw0 (w : World) (W : World) (hW : W.heap.size = w.heap.size + 1) (hb : Below w.heap.size w W) (h : SpIn w.heap.size W.heap.size W (.slice (some ⟨w.heap.size, 0, none⟩) 2 2) [exA, exB]) :
    Calls Try.prog 10 #[.slice (some ⟨w.heap.size, 0, none⟩) 2 2] W fun e w' => ∃ p sv, e = .returned (.tuple #[.pointer (some ⟨p, 0, none⟩), .int .i64 0]) ∧ BS w p sv [exB, exA] w' := by
  refine (new_any _ _ _ _ W h (Nat.le_refl _)).mono ?_
  rintro e w' ⟨hk, ⟨h0, _⟩ | ⟨_, p, sv, rfl, hB⟩⟩
  · exact absurd (show newE [exA, exB] = 0 by decide) h0
  · exact ⟨p, sv, rfl, hB.mono (by omega) (Nat.le_refl _), hb.trans (hk.mono (by omega))⟩
theorem aw1 (w : World) (p : Nat) (sv : Value) (W : World) (h : BS w p sv [exB, exA] W) :
    Calls Try.prog 13 #[.pointer (some ⟨p, 0, none⟩), .int .i64 312, .int .i64 8] W fun e w' => e = .returned (.tuple #[.agg #[.int .i64 256, .int .i64 64, .int .i64 1, .int .i64 0], .int .i64 56, .int .i64 0]) ∧ Below W.heap.size W w' :=
  (find_any _ _ p sv [exB, exA] 312 8 W h.bus (Nat.le_refl _) exR.ok).mono fun e w' ⟨h1, h2⟩ => ⟨by rw [h1, ex312]; rfl, h2⟩
theorem aw2 (w : World) (p : Nat) (sv : Value) (W : World) (h : BS w p sv [exB, exA] W) :
    Calls Try.prog 13 #[.pointer (some ⟨p, 0, none⟩), .int .i64 16, .int .i64 8] W fun e w' => e = .returned (.tuple #[.agg #[.int .i64 0, .int .i64 0, .int .i64 0, .int .i64 0], .int .i64 0, .int .i64 42]) ∧ Below W.heap.size W w' :=
  (find_any _ _ p sv [exB, exA] 16 8 W h.bus (Nat.le_refl _) exR.ok).mono fun e w' ⟨h1, h2⟩ => ⟨by rw [h1, ex16]; rfl, h2⟩
theorem aw3 (w : World) (p : Nat) (sv : Value) (W : World) (h : BS w p sv [exB, exA] W) :
    Calls Try.prog 16 #[.pointer (some ⟨p, 0, none⟩), .int .i64 100, .int .i64 64, .int .i64 1000] W fun e w' => e = .returned (.tuple #[.int .i64 64, .int .i64 0]) ∧ Below W.heap.size W w' :=
  place_any _ _ p sv [exB, exA] 100 64 1000 W h.bus (Nat.le_refl _) exR
theorem aw4 (w : World) (p : Nat) (sv : Value) (W : World) (h : BS w p sv [exB, exA] W) :
    Calls Try.prog 19 #[.pointer (some ⟨p, 0, none⟩), .int .i64 300] W fun e w' => ∃ v, e = .returned v ∧ w'.ownsRow W.heap.size 3 1 v 2 [.int .i64 16, .int .i64 240] ∧ Below W.heap.size W w' :=
  lfree_any _ _ p sv [exB, exA] 300 W h.bus (Nat.le_refl _) exR (by omega) (by omega)
theorem aw5 (base : Nat) (v : Value) (W : World) (h : W.ownsRow base 3 1 v 2 [.int .i64 16, .int .i64 240]) :
    Calls Try.prog 18 #[v, .slice (some ⟨W.heap.size, 0, none⟩) 2 2] (W.alloc (.cells #[.int .i64 16, .int .i64 240] 3)) fun e w' => e = .returned (.bool true) ∧ ∃ m, w' = (W.alloc (.cells #[.int .i64 16, .int .i64 240] 3)).drewN m :=
  sameI_any [16, 240] [16, 240] v _ _ (intsAt_row (base := base) (ownI_later h (bal _ _))) ⟨some ⟨W.heap.size, 0, none⟩, 2, rfl, ⟨Nat.le_refl _, by unfold maxLen; omega⟩, fun _ => ⟨W.heap.size, 0, rfl, fun j hj => by
    match j, hj with
    | 0, _ => simp
    | 1, _ => simp
    | j + 2, hj => simp at hj; omega⟩⟩ (by simp) (by simp)
theorem aw_in (w : World) : SpIn w.heap.size (w.alloc (.cells #[.int .i64 256, .int .i64 64, .int .i64 1, .int .i64 0, .int .i64 0, .int .i64 16, .int .i64 2, .int .i64 0] 33)).heap.size (w.alloc (.cells #[.int .i64 256, .int .i64 64, .int .i64 1, .int .i64 0, .int .i64 0, .int .i64 16, .int .i64 2, .int .i64 0] 33)) (.slice (some ⟨w.heap.size, 0, none⟩) 2 2) [exA, exB] := by
  refine ⟨some ⟨w.heap.size, 0, none⟩, 2, rfl, by simp, fun x hx => ?_, fun _ => ⟨w.heap.size, 0, rfl, Nat.le_refl _, by simp, fun j x hx => ?_⟩⟩
  · simp at hx
    rcases hx with rfl | rfl <;> (constructor <;> decide)
  · match j, hx with
    | 0, hx => simp at hx; subst hx; simp [exA]
    | 1, hx => simp at hx; subst hx; simp [exB]
    | j + 2, hx => simp at hx

set_option maxRecDepth 100000 in
set_option maxHeartbeats 4000000 in
theorem awake_any (w : World) :
    Calls Try.prog 9 #[] w fun e w' => e = .returned (.bool true) ∧ Below w.heap.size w w' := by
  go_enter Try.func9, Try.ntmps9
  go_wp2_with (first
    | (go_at_call 10; ((with_reducible refine (aw0 w _ (by simp) (bal w _) (aw_in w)).mono ?_); rintro e w1 ⟨p, sv, rfl, hs1⟩; replace hs1 := hi hs1))
    | (go_at_call 13; ((with_reducible refine (aw1 w p sv _ hs1.out).mono ?_); rintro e w2 ⟨rfl, hb2⟩; have hs2 := hi (hs1.out.later hb2); clear hb2))
    | (go_at_call 13; ((with_reducible refine (aw2 w p sv _ (hs2.out.later (bal _ _))).mono ?_); rintro e w3 ⟨rfl, hb3⟩; have hs3 := hi ((hs2.out.later (bal _ _)).later hb3); have hlt3 : w2.heap.size < w3.heap.size := (by have := hb3.size; simp at this; omega); have hc3 : w3.cell? ⟨w2.heap.size, 0, none⟩ = some (.int .i64 256) := (hb3.cell (p := ⟨w2.heap.size, 0, none⟩) (by simp)).trans (by simp); clear hb3))
    | (go_at_call 16; ((with_reducible refine (aw3 w p sv _ (hs3.out.later (bal _ _))).mono ?_); rintro e w4 ⟨rfl, hb4⟩; have hs4 := hi ((hs3.out.later (bal _ _)).later hb4); have hc4 : w4.cell? ⟨w2.heap.size, 0, none⟩ = some (.int .i64 256) := (hb4.cell (p := ⟨w2.heap.size, 0, none⟩) (by simp; omega)).trans (((bal w3 _).cell (p := ⟨w2.heap.size, 0, none⟩) hlt3).trans hc3); clear hb4))
    | (go_at_call 19; ((with_reducible refine (aw4 w p sv _ hs4.out).mono ?_); rintro e w5 ⟨v, rfl, hr5, hb5⟩; obtain ⟨va, vc, rfl⟩ := ownI_slice hr5; have HR5 := hi hr5; have hs5 := hi (hs4.out.later hb5); clear hr5 hb5))
    | (go_at_call 18; ((with_reducible refine (aw5 _ _ _ HR5.out).mono ?_); rintro e w6 ⟨rfl, m6, rfl⟩)))
  go_ret
  exact ⟨rfl, hs5.out.below.trans ((bald _ _ _).mono hs5.out.below.size)⟩

end Go.Proofs.Ytcdfkdlddmkhmaa
