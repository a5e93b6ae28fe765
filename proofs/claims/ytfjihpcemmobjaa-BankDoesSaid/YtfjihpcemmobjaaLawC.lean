/-
  The law's both and played: two banks side by side, behind some acts.
-/
import Derived.Test.YtfjihpcemmobjaaLawB
namespace Go.Proofs.Ytfjihpcemmobjaa
open Go.ChangeShapes Go.WideShapes Go.ChangeAt Go.RowKit Go.Shelf
set_option linter.unusedVariables false
attribute [local go_sem] Oper.semAt_some

/-! ### Acts in memory -/
structure AcC (W : World) (b o : Nat) (x : Ac9) : Prop where
  c0 : W.cell? ⟨b, o, none⟩ = some (.int .i64 x.d)
  c1 : W.cell? ⟨b, o + 1, none⟩ = some (.int .i64 x.id)
  c2 : W.cell? ⟨b, o + 2, none⟩ = some (.bool x.ln.st.e)
  c3 : W.cell? ⟨b, o + 3, none⟩ = some (.bool x.ln.st.l)
  c4 : W.cell? ⟨b, o + 4, none⟩ = some (.bool x.ln.st.h)
  c5 : W.cell? ⟨b, o + 5, none⟩ = some (.bool x.ln.st.a)
  c6 : W.cell? ⟨b, o + 6, none⟩ = some (.bool x.ln.en)
  c7 : W.cell? ⟨b, o + 7, none⟩ = some (.int .i64 x.ln.g)
  c8 : W.cell? ⟨b, o + 8, none⟩ = some (.int .i64 x.ln.p)
  c9 : W.cell? ⟨b, o + 9, none⟩ = some (.string x.x)
  c10 : W.cell? ⟨b, o + 10, none⟩ = some (.int .i64 x.a)
theorem AcC.below {w W : World} {b o : Nat} {x : Ac9} (h : AcC w b o x) (k : Below w.heap.size w W) (hb : b < w.heap.size) : AcC W b o x :=
  have K : ∀ j v, w.cell? ⟨b, j, none⟩ = some v → W.cell? ⟨b, j, none⟩ = some v := fun j v e => (k.cell (p := ⟨b, j, none⟩) hb).trans e
  ⟨K _ _ h.c0, K _ _ h.c1, K _ _ h.c2, K _ _ h.c3, K _ _ h.c4, K _ _ h.c5, K _ _ h.c6, K _ _ h.c7, K _ _ h.c8, K _ _ h.c9, K _ _ h.c10⟩
def nthA (xs : List Ac9) (k : Nat) : Ac9 := xs[k]?.getD default
/-- The slice value v holds these acts. -/
def ActsAt (W : World) (v : Value) (xs : List Ac9) : Prop :=
  ∃ (a : Option Addr) (cap : Nat), v = .slice a xs.length cap ∧ (xs ≠ [] → ∃ b off : Nat, a = some ⟨b, off, none⟩ ∧ b < W.heap.size ∧ ∀ j, j < xs.length → Int64 (nthA xs j).id ∧ AcC W b (off + j * 11) (nthA xs j))
theorem ActsAt.slice {W : World} {v : Value} {xs : List Ac9} (h : ActsAt W v xs) : ∃ a cap, v = .slice a xs.length cap := by obtain ⟨a, cap, e, _⟩ := h; exact ⟨a, cap, e⟩
theorem ActsAt.below {w W : World} {v : Value} {xs : List Ac9} (h : ActsAt w v xs) (k : Below w.heap.size w W) : ActsAt W v xs := by
  obtain ⟨a, cap, e, hc⟩ := h
  exact ⟨a, cap, e, fun hne => by
    obtain ⟨b, o, ha, hb, hcs⟩ := hc hne
    exact ⟨b, o, ha, Nat.lt_of_lt_of_le hb k.size, fun j hj => ⟨(hcs j hj).1, (hcs j hj).2.below k hb⟩⟩⟩
/-- One act, in every world that keeps what lay. -/
theorem ActsAt.read {w : World} {a : Option Addr} {n cap : Nat} {xs : List Ac9} (h : ActsAt w (.slice a n cap) xs) {k : Nat} (hk : k < n) :
    ∃ b o : Nat, a = some ⟨b, o, none⟩ ∧ Int64 (nthA xs k).id ∧ ∀ W, Below w.heap.size w W → AcC W b (o + k * 11) (nthA xs k) := by
  obtain ⟨a', cap', e, hc⟩ := h
  injection e with e1 e2 e3
  subst e1; subst e2
  obtain ⟨b, o, ha, hb, hcs⟩ := hc (fun e => by simp [e] at hk)
  obtain ⟨h0, h1⟩ := hcs k hk
  exact ⟨b, o, ha, h0, fun W hW => h1.below hW hb⟩

/-! ### Both -/
def Both (w : World) (f : Int) (n : Nat) (e : Ending) (w' : World) : Prop :=
  ∃ b g cap rb lg xg la xa lc xc, e = .returned (.tuple #[.pointer (some ⟨b, 0, none⟩), .pointer (some ⟨rb, 0, none⟩)]) ∧ TwB w b g cap rb lg xg la xa lc xc f (fresh n xS) w'

theorem u8_i64 {x : Int} (h0 : 0 ≤ x) (h1 : x < 256) : IntKind.i64.wrap x = x := by rw [IntKind.wrap_i64]; omega
set_option maxHeartbeats 2000000 in
theorem both_any (f n : Int) (w : World) (hf0 : 0 ≤ f) (hf1 : f < 256) (hn0 : 0 ≤ n) (hn1 : n < 256) :
    Calls Try.prog 10 #[.int .u8 f, .int .u8 n] w (Both w f (n % 64).toNat) := by
  obtain ⟨m, hm⟩ : ∃ m : Nat, (n % 64).toNat = m := ⟨_, rfl⟩
  have hm' : n.tmod 64 = (m : Int) := by rw [Int.tmod_eq_emod_of_nonneg hn0]; omega
  have hlt : m < 64 := by omega
  have hw1 := u8_i64 hf0 hf1
  have hw2 : IntKind.i64.wrap (m : Int) = m := u8_i64 (by omega) (by omega)
  have hw3 : IntKind.u8.wrap (m : Int) = m := by rw [IntKind.wrap_u8]; omega
  have hok : NewOk f m := ⟨hf0, by omega, by omega⟩
  have CN := hi (fun W => new_yes f m xS W hok)
  have CR := hi (fun W => rnew_yes f m xS W hok)
  dsimp only [xS] at CN CR
  rw [hm]
  clear hm hok
  go_enter Try.func10, Try.ntmps10
  go_wp2_with (first
    | (go_at_call 27; ((with_reducible refine (CN.out _).mono ?_); rintro e w1 ⟨b, g, rfl, hb, hg, hbk, hB⟩; have H1 := hi hbk; have HB1 := hi hB; have HLO := hi (And.intro hb hg); clear hb hg hbk hB))
    | (go_at_call 28; ((with_reducible refine (CR.out _).mono ?_); rintro e w2 ⟨rb, lg, xg, la, xa, lc, xc, rfl, hb, hl, hx, hbk, hB⟩; have H2 := hi hbk; have HB2 := hi hB; have HLO2 := hi (And.intro hb (And.intro hl hx)); clear hb hl hx hbk hB)))
  go_ret2
  have hs := HB1.out.size
  have h1 := H1.out.box.lt
  have h2 := H1.out.row.lt
  obtain ⟨q1, q2⟩ := HLO.out
  obtain ⟨q3, q4, q5⟩ := HLO2.out
  exact ⟨b, g, _, rb, lg, xg, la, xa, lc, xc, rfl, H1.out.below HB2.out, H2.out, ⟨q1, q2, by omega⟩, fun _ => ⟨by omega, by omega⟩, by omega, fun _ => by omega,
    by rw [fresh_len]; exact ⟨hf0, by omega, by omega⟩, fresh_right _ _, HB1.out.trans (HB2.out.mono hs)⟩

/-! ### Played -/
/-- A bank in blocks of its own, behind acts. -/
structure Bank9 (w : World) (b g cap : Nat) (f : Int) (es : List En) (W : World) : Prop where
  bk : BkAt W b g cap f es
  lb : w.heap.size ≤ b
  lg : w.heap.size ≤ g
  fit : Fit f es.length
  few : es.length < 64
  right : RightAll es
  below : Below w.heap.size w W
def Played (w : World) (e : Ending) (w' : World) : Prop := ∃ b g cap f es, e = .returned (.pointer (some ⟨b, 0, none⟩)) ∧ Bank9 w b g cap f es w'

set_option maxRecDepth 100000 in
set_option maxHeartbeats 4000000 in
theorem played_any (f n : Int) (v : Value) (xs : List Ac9) (w : World) (hf0 : 0 ≤ f) (hf1 : f < 256) (hn0 : 0 ≤ n) (hn1 : n < 256) (h : ActsAt w v xs) (hl : xs.length ≤ 9223372036854775806) :
    Calls Try.prog 30 #[.int .u8 f, .int .u8 n, v] w (Played w) := by
  obtain ⟨a0, cap, rfl⟩ := h.slice
  have CB0 := hi (both_any f n w hf0 hf1 hn0 hn1)
  have HFEW := hi (show (fresh (n % 64).toNat xS).length < 64 by rw [fresh_len]; omega)
  have HACT := hi h
  have CD := hi (fun b g cap rb lg xg la xa lc xc es W x (h : TwB w b g cap rb lg xg la xa lc xc f es W) (hid : Int64 x.id) => does_any (x := x) h hid)
  obtain ⟨k9, hk9⟩ : ∃ k, xs.length = k := ⟨_, rfl⟩
  rw [hk9] at HACT hl ⊢
  clear h hk9
  go_enter Try.func30, Try.ntmps30
  go_wp2_with (go_at_call 10; ((with_reducible refine CB0.out.mono ?_); rintro e w1 ⟨b, g, cap', rb, lg, xg, la, xa, lc, xc, rfl, hT⟩; have HT0 := hi hT; clear hT))
  go_loopw [9] (fun i wr => ∃ k : Nat, k ≤ k9 ∧ i = .int .i64 k ∧ ∃ es : List En, es.length < 64 ∧ Hi (TwB w b g cap' rb lg xg la xa lc xc f es wr)) (fun i _ => k9 - (intOf i).toNat)
  case atStart => exact ⟨0, Nat.zero_le _, rfl, _, HFEW.out, HT0⟩
  case round =>
    obtain ⟨k, hk, rfl, es, hfew, HX⟩ := hrel
    clear HT0
    by_cases hlt : k < k9
    · obtain ⟨ab, o, rfl, hid, hc⟩ := HACT.out.read hlt
      obtain ⟨x, hx⟩ : ∃ x, nthA xs k = x := ⟨_, rfl⟩
      rw [hx] at hid hc
      have C1 := hi (CD.out b g cap' rb lg xg la xa lc xc es wr x HX.out hid)
      have HL := hi (actE_len f es x)
      obtain ⟨c0, c1, c2, c3, c4, c5, c6, c7, c8, c9, c10⟩ := hc _ HX.out.below
      clear hc hx hid
      dsimp only [Ac9.v] at C1
      go_wp2_with (go_at_call 14; ((with_reducible refine C1.out.mono ?_); rintro e w2 ⟨rfl, hT, hK⟩; have HT2 := hi hT; clear hT hK))
      go_roundw
      case rel => exact ⟨k + 1, by omega, by go_num, _, by rw [HL.out]; exact hfew, HT2⟩
      case measure => simp only [intOf]; omega
    · obtain rfl : k = k9 := by omega
      go_wp2
      go_ret
      exact ⟨b, g, cap', f, es, rfl, HX.out.bk, HX.out.l1.1, HX.out.l1.2.1, HX.out.fit, hfew, HX.out.right, HX.out.below⟩

end Go.Proofs.Ytfjihpcemmobjaa
