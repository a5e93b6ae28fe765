/-
  Acts in memory; the law's played.
-/
import Derived.Test.YtjgamfonpagkbaaLawD
namespace Go.Proofs.Ytjgamfonpagkbaa
open Go.ChangeShapes Go.WideShapes Go.ChangeAt Go.RowKit Go.Shelf
set_option linter.unusedVariables false
attribute [local go_sem] Oper.semAt_some

structure AcC (W : World) (b o : Nat) (x : Ac11) : Prop where
  c0 : W.cell? ⟨b, o, none⟩ = some (.int .i64 x.d)
  c1 : W.cell? ⟨b, o + 1, none⟩ = some (.int .i64 x.off)
  c2 : W.cell? ⟨b, o + 2, none⟩ = some (.int .i64 x.id)
  c3 : W.cell? ⟨b, o + 3, none⟩ = some (.int .u64 x.v)
  c4 : W.cell? ⟨b, o + 4, none⟩ = some (.int .i64 x.a)
theorem AcC.below {w W : World} {b o : Nat} {x : Ac11} (h : AcC w b o x) (k : Below w.heap.size w W) (hb : b < w.heap.size) : AcC W b o x :=
  have K : ∀ j v, w.cell? ⟨b, j, none⟩ = some v → W.cell? ⟨b, j, none⟩ = some v := fun j v e => (k.cell (p := ⟨b, j, none⟩) hb).trans e
  ⟨K _ _ h.c0, K _ _ h.c1, K _ _ h.c2, K _ _ h.c3, K _ _ h.c4⟩
def nthA (xs : List Ac11) (k : Nat) : Ac11 := xs[k]?.getD default
/-- The slice value v holds these acts. -/
def ActsAt (W : World) (v : Value) (xs : List Ac11) : Prop :=
  ∃ (a : Option Addr) (cap : Nat), v = .slice a xs.length cap ∧ (xs ≠ [] → ∃ b off : Nat, a = some ⟨b, off, none⟩ ∧ b < W.heap.size ∧ ∀ j, j < xs.length → AcOk (nthA xs j) ∧ AcC W b (off + j * 5) (nthA xs j))
theorem ActsAt.slice {W : World} {v : Value} {xs : List Ac11} (h : ActsAt W v xs) : ∃ a cap, v = .slice a xs.length cap := by obtain ⟨a, cap, e, _⟩ := h; exact ⟨a, cap, e⟩
theorem ActsAt.below {w W : World} {v : Value} {xs : List Ac11} (h : ActsAt w v xs) (k : Below w.heap.size w W) : ActsAt W v xs := by
  obtain ⟨a, cap, e, hc⟩ := h
  exact ⟨a, cap, e, fun hne => by
    obtain ⟨b, o, ha, hb, hcs⟩ := hc hne
    exact ⟨b, o, ha, Nat.lt_of_lt_of_le hb k.size, fun j hj => ⟨(hcs j hj).1, (hcs j hj).2.below k hb⟩⟩⟩
/-- One act, in every world that keeps what lay. -/
theorem ActsAt.read {w : World} {a : Option Addr} {n cap : Nat} {xs : List Ac11} (h : ActsAt w (.slice a n cap) xs) {k : Nat} (hk : k < n) :
    ∃ b o : Nat, a = some ⟨b, o, none⟩ ∧ AcOk (nthA xs k) ∧ ∀ W, Below w.heap.size w W → AcC W b (o + k * 5) (nthA xs k) := by
  obtain ⟨a', cap', e, hc⟩ := h
  injection e with e1 e2 e3
  subst e1; subst e2
  obtain ⟨b, o, ha, hb, hcs⟩ := hc (fun e => by simp [e] at hk)
  obtain ⟨h0, h1⟩ := hcs k hk
  exact ⟨b, o, ha, h0, fun W hW => h1.below hW hb⟩

def Played (w : World) (e : Ending) (w' : World) : Prop := ∃ b g cap f es, e = .returned (.pointer (some ⟨b, 0, none⟩)) ∧ BkF w b g cap f es w'

set_option maxRecDepth 100000 in
set_option maxHeartbeats 4000000 in
theorem played_any (f n : Int) (v : Value) (xs : List Ac11) (w : World) (hf0 : 0 ≤ f) (hf1 : f < 256) (hn0 : 0 ≤ n) (hn1 : n < 256) (h : ActsAt w v xs) (hl : xs.length ≤ 9223372036854775806) :
    Calls Try.prog 16 #[.int .u8 f, .int .u8 n, v] w (Played w) := by
  obtain ⟨a0, cap, rfl⟩ := h.slice
  have CB0 := hi (both_any f n w hf0 hf1 hn0 hn1)
  obtain ⟨f6, hf6⟩ : ∃ f6, f % 64 = f6 := ⟨_, rfl⟩
  rw [hf6] at CB0
  have HFEW := hi (show (fresh (n % 80).toNat xS).length < 80 by rw [fresh_len]; omega)
  have HACT := hi h
  have CD := hi (fun b g cap rb lg xg la xa lc xc es W x (h : TwF w b g cap rb lg xg la xa lc xc f6 es W) (hx : AcOk x) => does_any h hx)
  obtain ⟨k9, hk9⟩ : ∃ k, xs.length = k := ⟨_, rfl⟩
  rw [hk9] at HACT hl ⊢
  clear h hk9 hf6
  go_enter Try.func16, Try.ntmps16
  go_wp2_with (go_at_call 10; ((with_reducible refine CB0.out.mono ?_); rintro e w1 ⟨b, g, cap', rb, lg, xg, la, xa, lc, xc, rfl, hT⟩; have HT0 := hi hT; clear hT))
  go_loopw [9] (fun i wr => ∃ k : Nat, k ≤ k9 ∧ i = .int .i64 k ∧ ∃ es : List En, es.length < 80 ∧ Hi (TwF w b g cap' rb lg xg la xa lc xc f6 es wr)) (fun i _ => k9 - (intOf i).toNat)
  case atStart => exact ⟨0, Nat.zero_le _, rfl, _, HFEW.out, HT0⟩
  case round =>
    obtain ⟨k, hk, rfl, es, hfew, HX⟩ := hrel
    clear HT0
    by_cases hlt : k < k9
    · obtain ⟨ab, o, rfl, hok, hc⟩ := HACT.out.read hlt
      obtain ⟨x, hx⟩ : ∃ x, nthA xs k = x := ⟨_, rfl⟩
      rw [hx] at hok hc
      have C1 := hi (CD.out b g cap' rb lg xg la xa lc xc es wr x HX.out hok)
      obtain ⟨c0, c1, c2, c3, c4⟩ := hc _ HX.out.below
      clear hc hx hok
      dsimp only [Ac11.w] at C1
      go_wp2_with (go_at_call 11; ((with_reducible refine C1.out.mono ?_); rintro e w2 ⟨es2, hl2, rfl, hT, hK⟩; have HT2 := hi hT; have HL2 := hi hl2; clear hT hK hl2))
      go_roundw
      case rel => exact ⟨k + 1, by omega, by go_num, es2, by rw [HL2.out]; exact hfew, HT2⟩
      case measure => simp only [intOf]; omega
    · obtain rfl : k = k9 := by omega
      go_wp2
      go_ret
      exact ⟨b, g, cap', f6, es, rfl, HX.out.bk, HX.out.l1.1, HX.out.l1.2.1, HX.out.fit, hfew, HX.out.fine, HX.out.below⟩

end Go.Proofs.Ytjgamfonpagkbaa
