/-
  Package bank: New.
-/
import Derived.Test.YtjgamfonpagkbaaBnkU
namespace Go.Proofs.Ytjgamfonpagkbaa
open Go.ChangeShapes Go.WideShapes Go.ChangeAt Go.RowKit Go.Shelf
set_option linter.unusedVariables false
attribute [local go_sem] Oper.semAt_some

/-- Which banks there may be. -/
def NewOk (f n : Int) : Prop := 0 ≤ f ∧ 0 ≤ n ∧ f + n ≤ 16384
def fresh (n : Nat) (s : ByteArray) : List En := List.replicate n ⟨Ln.zero, s⟩

set_option maxHeartbeats 1000000 in
theorem new_no (f n : Int) (s : ByteArray) (w : World) (hf : Int64 f) (hn : Int64 n) (h : ¬ NewOk f n) :
    Calls Try.prog 24 #[.int .i64 f, .int .i64 n, .string s] w fun e w' => e = .returned (.tuple #[.pointer none, .int .i64 1]) ∧ w = w' := by
  obtain ⟨f1, f2⟩ := hf
  obtain ⟨n1, n2⟩ := hn
  unfold NewOk at h
  by_cases h1 : f < 0
  · clear h
    go_enter Try.func24, Try.ntmps24
    go_wp2
    go_ret2
    exact ⟨rfl, rfl⟩
  · by_cases h2 : n < 0
    · have hd1 : decide (f < 0) = false := by simp; omega
      clear h
      go_enter Try.func24, Try.ntmps24
      go_wp2
      go_ret2
      exact ⟨rfl, rfl⟩
    · have hd1 : decide (f < 0) = false := by simp; omega
      have hd2 : decide (n < 0) = false := by simp; omega
      have hw : IntKind.i64.wrap (16384 - f) = 16384 - f := by rw [IntKind.wrap_i64]; omega
      have h3 : 16384 - f < n := by omega
      clear h
      go_enter Try.func24, Try.ntmps24
      go_wp2
      go_ret2
      exact ⟨rfl, rfl⟩

/-- What New leaves. -/
def Made (w : World) (f : Int) (n : Nat) (s : ByteArray) (e : Ending) (w' : World) : Prop :=
  ∃ b g, e = .returned (.tuple #[.pointer (some ⟨b, 0, none⟩), .int .i64 0]) ∧ w.heap.size ≤ b ∧ w.heap.size ≤ g ∧ BkAt w' b g n f (fresh n s) ∧ Below w.heap.size w w'
set_option maxHeartbeats 2000000 in
theorem new_yes (f : Int) (n : Nat) (s : ByteArray) (w : World) (h : NewOk f n) :
    Calls Try.prog 24 #[.int .i64 f, .int .i64 n, .string s] w (Made w f n s) := by
  obtain ⟨f1, n1, hs⟩ := h
  have hd1 : decide (f < 0) = false := by simp; omega
  have hd2 : decide ((n : Int) < 0) = false := by simp
  have hw : IntKind.i64.wrap (16384 - f) = 16384 - f := by rw [IntKind.wrap_i64]; omega
  have h3 : decide (16384 - f < (n : Int)) = false := by simp; omega
  have HR := hi (repeat_any w.heap.size 1 n ⟨Ln.zero, s⟩ (w.alloc (.cells (En.ca ⟨Ln.zero, s⟩) 54)) (CB.ent (CB.new w _ _)) (by simp) (by omega))
  dsimp only [En.ca, Ln.zero, St.zero] at HR
  go_enter Try.func24, Try.ntmps24
  go_wp2_with (go_at_call 43; ((with_reducible refine HR.out.mono ?_); rintro e w1 ⟨g', rfl, hg, hr, hb⟩; have HG := hi hg; have HRR := hi hr; have HB := hi hb; clear hg hr hb))
  go_ret2
  have hB : Below w.heap.size w w1 := (bal w _).trans (HB.out.mono (by simp))
  have hg := HG.out
  rw [World.size_alloc] at hg
  have hgl := HRR.out.lt
  refine ⟨w1.heap.size, g', rfl, hB.size, by omega, ⟨?_, HRR.out.below (bal _ _), by omega⟩, hB.alloc hB.size _⟩
  rw [show (fresh n s).length = n by simp [fresh]]
  exact CB.new _ _ _

end Go.Proofs.Ytjgamfonpagkbaa
