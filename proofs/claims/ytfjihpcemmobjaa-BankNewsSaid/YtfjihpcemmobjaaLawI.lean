/-
  The law BankNews at every input.
-/
import Derived.Test.YtfjihpcemmobjaaLawH
import Derived.Test.YtfjihpcemmobjaaLawD
namespace Go.Proofs.Ytfjihpcemmobjaa
open Go.ChangeShapes Go.WideShapes Go.ChangeAt Go.RowKit Go.Shelf
set_option linter.unusedVariables false
attribute [local go_sem] Oper.semAt_some

/-- Both banks, made one behind the other. -/
theorem twB_of {w w1 w2 : World} {b g cap rb lg xg n : Nat} {la xa : Option Addr} {lc xc : Nat} {f : Int} {s : ByteArray} (hok : NewOk f n) (hb : w.heap.size ≤ b) (hg : w.heap.size ≤ g) (hbk : BkAt w1 b g cap f (fresh n s)) (hB : Below w.heap.size w w1)
    (hrb : w1.heap.size ≤ rb) (hl : w1.heap.size ≤ lg) (hx : w1.heap.size ≤ xg) (hrf : RfAt w2 rb lg xg la xa lc xc f (fresh n s)) (hB2 : Below w1.heap.size w1 w2) : TwB w b g cap rb lg xg la xa lc xc f (fresh n s) w2 := by
  have hs := hB.size
  have h1 := hbk.box.lt
  have h2 := hbk.row.lt
  obtain ⟨k1, k2, k3⟩ := hok
  exact ⟨hbk.below hB2, hrf, ⟨hb, hg, by omega⟩, fun _ => ⟨by omega, by omega⟩, by omega, fun _ => by omega, by rw [fresh_len]; exact ⟨k1, by omega, by omega⟩, fresh_right _ _, hB.trans (hB2.mono hs)⟩

def NWalk (f n : Int) (s : ByteArray) (id : Int) (w : World) : Prop :=
  Calls Try.prog 4 #[.int .i64 f, .int .i64 n, .string s, .int .i64 id] w fun e w' => e = .returned (.bool true) ∧ Below w.heap.size w w'

set_option maxHeartbeats 2000000 in
theorem news_many (f n : Int) (s : ByteArray) (id : Int) (w : World) (h : 3000 < n) : NWalk f n s id w := by
  unfold NWalk
  have hd : decide (3000 < n) = true := by simpa using h
  go_enter Try.func4, Try.ntmps4
  go_wp2_with (go_at_call 9; ((with_reducible refine (awake_any _).mono ?_); rintro e' w0 ⟨rfl, hb⟩; have HB0 := hi hb; clear hb))
  go_ret
  exact ⟨rfl, HB0.out⟩

set_option maxHeartbeats 4000000 in
theorem news_no (f n : Int) (s : ByteArray) (id : Int) (w : World) (hf : Int64 f) (hn : Int64 n) (h : n ≤ 3000) (hok : ¬ NewOk f n) : NWalk f n s id w := by
  unfold NWalk
  have hd : decide (3000 < n) = false := by simp; omega
  have CN := hi (fun W => new_no f n s W hf hn hok)
  have CR := hi (fun W => rnew_no f n s W hf hn hok)
  clear hok h hf hn
  go_enter Try.func4, Try.ntmps4
  go_wp2_with (first
    | (go_at_call 9; ((with_reducible refine (awake_any _).mono ?_); rintro e' w0 ⟨rfl, hb⟩; have HB0 := hi hb; clear hb))
    | (go_at_call 27; ((with_reducible refine (CN.out _).mono ?_); rintro e' w1 ⟨rfl, rfl⟩))
    | (go_at_call 28; ((with_reducible refine (CR.out _).mono ?_); rintro e' w2 ⟨rfl, rfl⟩)))
  go_ret
  exact ⟨rfl, HB0.out⟩

set_option maxRecDepth 100000 in
set_option maxHeartbeats 8000000 in
theorem news_yes (f : Int) (n : Nat) (s : ByteArray) (id : Int) (w : World) (hid : Int64 id) (h : n ≤ 3000) (hok : NewOk f n) : NWalk f n s id w := by
  unfold NWalk
  have hd : decide (3000 < (n : Int)) = false := by simp; omega
  have CN := hi (fun W => new_yes f n s W hok)
  have CR := hi (fun W => rnew_yes f n s W hok)
  have HOK := hi hok
  have hfit : Fit f (fresh n s).length := by rw [fresh_len]; obtain ⟨k1, k2, k3⟩ := hok; exact ⟨k1, by omega, by omega⟩
  have CG := hi (fun b g cap W (hW : BkAt W b g cap f (fresh n s)) => get_any (id := id) hW hfit hid)
  have CH := hi (fun b g cap W (hW : BkAt W b g cap f (fresh n s)) => has_any (id := id) hW hfit hid)
  have CA := hi (fun b lg xg la xa lc xc W (hW : RfAt W b lg xg la xa lc xc f (fresh n s)) => at_any (id := id) hW hfit)
  have HC : ∃ (y : En) (c ai : Int) (hh : Bool), getR f (fresh n s) id = (y, c) ∧ atI f (fresh n s).length id = ai ∧ hasB f (fresh n s).length id = hh ∧ (c == 0) = hh ∧ decide (0 ≤ ai) = hh := by
    unfold getR atI
    cases hh : hasB f (fresh n s).length id
    · exact ⟨En.zero, 90, -1, false, if_neg (by simp), if_neg (by simp), rfl, rfl, rfl⟩
    · rw [hasB_iff] at hh
      exact ⟨_, 0, id - f, true, if_pos rfl, if_pos rfl, rfl, rfl, by simp; omega⟩
  obtain ⟨y, c, ai, hh, e1, e2, e3, e4, e5⟩ := HC
  obtain ⟨⟨⟨ye, yl, yq, ya⟩, yen, yg, yp⟩, ys⟩ := y
  rw [e1] at CG
  rw [e2] at CA
  rw [e3] at CH
  dsimp only [En.v] at CG
  clear e1 e2 e3 h hok hid hfit
  go_enter Try.func4, Try.ntmps4
  go_wp2_with (first
    | (go_at_call 9; ((with_reducible refine (awake_any _).mono ?_); rintro e' w0 ⟨rfl, hb⟩; have HB0 := hi hb; clear hb))
    | (go_at_call 27; ((with_reducible refine (CN.out _).mono ?_); rintro e' w1 ⟨b, g, rfl, hb, hg, hbk, hB⟩; have H1 := hi hbk; have HB1 := hi hB; have HL1 := hi (And.intro hb hg); clear hb hg hbk hB))
    | (go_at_call 28; ((with_reducible refine (CR.out _).mono ?_); rintro e' w2 ⟨rb, lg, xg, la, xa, lc, xc, rfl, hrb, hl, hx, hrf, hB2⟩; have HT := hi (twB_of HOK.out HL1.out.1 HL1.out.2 H1.out HB1.out hrb hl hx hrf hB2); have HB2 := hi (HB0.out.trans (HT.out.below.mono HB0.out.size)); clear hrb hl hx hrf hB2))
    | (go_at_call 29; ((with_reducible refine (CG.out _ _ _ _ HT.out.bk).mono ?_); rintro e' w3 ⟨rfl, hB⟩; have HT3 := hi ((HT.out.later hB).later (bal w3 (.cells #[.bool ye, .bool yl, .bool yq, .bool ya, .bool yen, .int .i64 yg, .int .i64 yp, .string ys] 62))); have HB3 := hi ((HB2.out.trans (hB.mono HB2.out.size)).alloc (Nat.le_trans HB2.out.size hB.size) (.cells #[.bool ye, .bool yl, .bool yq, .bool ya, .bool yen, .int .i64 yg, .int .i64 yp, .string ys] 62)); clear hB))
    | (go_at_call 15; ((with_reducible refine (alike_any HT3.out).mono ?_); rintro e' w4 ⟨rfl, hB⟩; have HT4 := hi (HT3.out.later hB); have HB4 := hi (HB3.out.trans (hB.mono HB3.out.size)); clear hB))
    | (go_at_call 16; ((with_reducible refine (CH.out _ _ _ _ HT4.out.bk).mono ?_); rintro e' w5 ⟨rfl, m, rfl⟩; have HT5 := hi (HT4.out.later (Below.drewN (m := m) (Below.refl _ _))); have HB5 := hi (Below.drewN (m := m) HB4.out)))
    | (go_at_call 17; ((with_reducible refine (CA.out _ _ _ _ _ _ _ _ HT5.out.rf).mono ?_); rintro e' w6 ⟨rfl, rfl⟩)))
  go_ret
  exact ⟨rfl, HB5.out⟩

theorem lawNews_any (f n : Int) (s : ByteArray) (id : Int) (w : World) (hf : Int64 f) (hn : Int64 n) (hid : Int64 id) : NWalk f n s id w := by
  by_cases h : 3000 < n
  · exact news_many f n s id w h
  · by_cases hok : NewOk f n
    · obtain ⟨k, rfl⟩ := Int.eq_ofNat_of_zero_le hok.2.1
      exact news_yes f k s id w hid (by omega) hok
    · exact news_no f n s id w hf hn (by omega) hok

end Go.Proofs.Ytfjihpcemmobjaa
