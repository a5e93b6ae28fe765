/-
  The document's part: Enable, Disable.
-/
import Derived.Test.YtobhdjepfhbgaaaDoorLqC
namespace Go.Proofs.YtobhdjepfhbgaaaDoor
open Go.ChangeShapes Go.WideShapes Go.ChangeAt Go.RowKit Go.Shelf
set_option linter.unusedVariables false
set_option linter.unusedSimpArgs false

theorem ints_next {B : Nat → Bool} {k : Nat} (hk : k < 512) (hb : B k = true) : insL (ints (lst B k)) (k : Int) = ints (lst B (k + 1)) := by
  have h1 := ints_put (fun j => decide (j < k) && B j) (k + 1) k (by omega) (by omega)
  have e1 : lst (fun j => decide (j < k) && B j) (k + 1) = lst B k := by
    rw [lst_succ, if_neg (by simp)]
    exact lst_congr (fun j hj => by simp [hj])
  have e2 : lst (updP (fun j => decide (j < k) && B j) k true) (k + 1) = lst B (k + 1) := by
    refine lst_congr (fun j hj => ?_)
    unfold updP
    by_cases e : j = k
    · rw [if_pos e, e, hb]
    · rw [if_neg e]
      have : j < k := by omega
      simp [this]
  rw [e1, e2] at h1
  exact h1
theorem ints_nil (W : World) : IntsAt W (.slice none 0 0) (ints (lst (fun _ => false) 0)) := ⟨none, 0, rfl, ⟨Nat.zero_le _, Nat.zero_le _⟩, fun h => absurd rfl h⟩
theorem yb_nil : ∀ b, ¬ Yb (.slice none 0 0) b := by rintro b ⟨_, _, _, e⟩; cases e
/-- The part on its way on. -/
structure EnJ (w : World) (d f capf q h cq : Nat) (x : St) (bs : List Nat) (k : Nat) (yv : Value) (W : World) : Prop where
  box : CB W d 86 (ldCs x false f capf yv)
  cfg : BytesAt W f x.cfg
  ws : IntsAt W yv (ints (lst (bitB bs x.qa) k))
  y : ∀ b, Yb yv b → w.heap.size ≤ b
  yl : ∀ b, Yb yv b → b < W.heap.size
  mem : MemAt 107 W q h cq (clearTo bs x.qa k)
  kept : Kept (fun b => b = d ∨ b = h) w W

set_option maxRecDepth 100000 in
set_option maxHeartbeats 4000000 in
theorem renable_lpi (d f capf q h cq : Nat) (yv : Value) (x : St) (bs : List Nat) (hx : x.Ok bs.length) (w : World) (a : LdB w d f capf yv x) (m : MemAt 107 w q h cq bs) (n : LdN d f h yv) (hyf : ∀ b, Yb yv b → b ≠ f) :
    Calls Tryd.prog 52 #[.pointer (some ⟨d, 0, none⟩), .pointer (some ⟨q, 0, none⟩)] w fun e w' => (∃ v, e = .returned v) ∧ (∃ yv', LdB w' d f capf yv' (enS bs x).2 ∧ ∀ b, Yb yv' b → Yb yv b ∨ (w.heap.size ≤ b ∧ b < w'.heap.size)) ∧ MemAt 107 w' q h cq (enS bs x).1 ∧ Kept (fun b => b = d ∨ b = h ∨ b = f) w w' := by
  obtain ⟨a1, a2, a3⟩ := a.apart m
  have hdlt := a.box.lt
  have hflt := a.cfg.lt
  have hhlt := m.bytes.lt
  have hqlt := m.plt
  have hn5 := hx.n5
  obtain ⟨on, hon⟩ : ∃ b, x.on = b := ⟨_, rfl⟩
  have hbox := a.box
  rw [hon] at hbox
  obtain ⟨c0, c1, _, _, _, _, _, c7⟩ := ldCells hbox
  cases on
  · have hdf := a.df
    have hk1 := kept_setCell w d 7 (.slice none 0 0)
    have HE0 := hi (show EnJ w d f capf q h cq x bs 0 (.slice none 0 0) (w.setCell ⟨d, 7, none⟩ (.slice none 0 0)) from
      ⟨hbox.set 7 (.slice none 0 0), a.cfg.of_block (hk1.block f hflt (fun e => hdf e.symm)), ⟨none, 0, rfl, ⟨Nat.zero_le _, Nat.zero_le _⟩, fun h => absurd rfl h⟩, fun b hb => (yb_nil b hb).elim, fun b hb => (yb_nil b hb).elim, m.kept hk1 (fun e => a2 e) (fun e => a1 e.symm), hk1.mono (fun _ e => .inl e)⟩)
    have qf := hbox.frozen
    have HA := hi (And.intro a1 (And.intro a2 (And.intro a3 (And.intro n.fh (And.intro hdf (And.intro a.len a.cap))))))
    have hlm := m.bytes.2
    have e1 : enS bs x = (clearTo bs x.qa x.n, invTo (clearTo bs x.qa x.n) { x with on := true, P := enP bs x } x.n) := by rw [enS, if_neg (by rw [hon]; simp)]
    rw [e1]
    have hqk := fun j (hj : j < x.n) => (hx.qk hj).2
    clear a m n hyf hbox hk1 e1 a1 a2 a3
    go_enter Tryd.func52, Tryd.ntmps52
    go_wp2
    go_loopw [4] (fun i wr => ∃ (k : Nat) (yv' : Value), k ≤ x.n ∧ i = .int .i64 k ∧ Hi (EnJ w d f capf q h cq x bs k yv' wr)) (fun i _ => x.n - (intOf i).toNat)
    case atStart => exact ⟨0, _, Nat.zero_le _, rfl, HE0⟩
    case round =>
      obtain ⟨k, yv', hk, rfl, HJ⟩ := hrel
      obtain ⟨ya, yc, hyv, _⟩ := HJ.out.ws
      subst hyv
      obtain ⟨c0, c1, _, _, _, _, _, c7⟩ := ldCells HJ.out.box
      have qf := HJ.out.box.frozen
      have qz := HJ.out.box.lt
      by_cases hlt : k < x.n
      · have x1 : (k : Int) < (x.n : Int) := by omega
        obtain ⟨bb, hbb⟩ : ∃ b, bitB bs x.qa k = b := ⟨_, rfl⟩
        have hb2 : bitB (clearTo bs x.qa k) x.qa k = bb := by rw [clearTo_bit k (fun i hi => hqk i (by omega)) k (Nat.le_refl _), hbb]
        have hxk : x.Ok (clearTo bs x.qa k).length := by rw [clearTo_len]; exact hx
        have HBIT := hi (rbit_is d f capf _ x false q h cq (clearTo bs x.qa k) hxk k hlt bb hb2 wr HJ.out.box HJ.out.mem)
        have HPUT := hi (fun (y : Value) (W : World) (hb : CB W d 86 (ldCs x false f capf y)) (hm : MemAt 107 W q h cq (clearTo bs x.qa k)) => show Calls Tryd.prog 84 #[.pointer (some ⟨d, 0, none⟩), .pointer (some ⟨q, 0, none⟩), .int .i64 k, .bool false] W fun e w' => (∃ v, e = .returned v) ∧ MemAt 107 w' q h cq (clearTo bs x.qa (k + 1)) ∧ Kept (· = h) W w' from rputbit_any d f capf y x false q h cq (clearTo bs x.qa k) hxk k hlt false W hb hm)
        have hmax : (ints (lst (bitB bs x.qa) k)).length ≤ 20000 := by rw [ints_len]; have := lst_len (bitB bs x.qa) k; omega
        cases bb
        · have HL := hi (lst_no (P := bitB bs x.qa) hbb)
          clear hb2 hxk hmax hbb c0 c7
          obtain ⟨c0, _⟩ := ldCells HJ.out.box
          go_wp2_with (first
            | (go_at_call 63; ((with_reducible refine HBIT.out.mono ?_); rintro e w1 ⟨rfl, hb1⟩; have HB := hi hb1; clear hb1))
            | (go_at_call 84; ((with_reducible refine (HPUT.out _ _ (HJ.out.box.below HB.out) (HJ.out.mem.below HB.out)).mono ?_); rintro e w2 ⟨⟨v, rfl⟩, hm2, hk2⟩; have HR := hi (And.intro hm2 hk2); clear hm2 hk2)))
          go_roundw
          case rel => exact ⟨k + 1, _, by omega, by go_num, hi ⟨(HJ.out.box.below HB.out).keptB HR.out.2 HA.out.1, (HJ.out.cfg.of_block ((HB.out.block f (Nat.lt_of_lt_of_le hflt HJ.out.kept.size)))).of_block (HR.out.2.block f (Nat.lt_of_lt_of_le hflt (Nat.le_trans HJ.out.kept.size HB.out.size)) HA.out.2.2.2.1), by rw [HL.out]; exact (intsAt_later HJ.out.ws HB.out).keptY HR.out.2 (fun b hb e => by have := HJ.out.y b hb; omega), HJ.out.y, (fun b hb => Nat.lt_of_lt_of_le (HJ.out.yl b hb) (Nat.le_trans HB.out.size HR.out.2.size)), HR.out.1, (HJ.out.kept.trans (Kept.of HB.out)).trans (HR.out.2.mono (fun _ e => .inr e))⟩⟩
          case measure => simp [intOf]; omega
        · have hins := ints_next (B := bitB bs x.qa) (k := k) (by omega) hbb
          have HINS := hi (fun W hW => ins_any (ints (lst (bitB bs x.qa) k)) (k : Int) (.slice ya (ints (lst (bitB bs x.qa) k)).length yc) W hW hmax)
          rw [hins] at HINS
          clear hb2 hxk hmax hbb c0 c7 c1 qf hins
          obtain ⟨c0, _⟩ := ldCells HJ.out.box
          go_wp2_with (first
            | (go_at_call 63; ((with_reducible refine HBIT.out.mono ?_); rintro e w1 ⟨rfl, hb1⟩; have HB := hi hb1; clear hb1 c0; have c7 := (HJ.out.box.below HB.out).cell 7))
            | (go_at_call 83; ((with_reducible refine (HINS.out _ (intsAt_later HJ.out.ws HB.out)).mono ?_); rintro e w2 ⟨v1, rfl, hi1, hb2, hy1⟩; have HB2 := hi (HB.out.more hb2); have HY := hi (show ∀ b, Yb v1 b → w.heap.size ≤ b from fun b hb => by rcases hy1 b hb with h1 | h1; (exact HJ.out.y b h1); (have h2 := HB.out.size; have h3 := HJ.out.kept.size; omega)); have HYL := hi (show ∀ b, Yb v1 b → b < w2.heap.size from fun b hb => by rcases hy1 b hb with h1 | h1; (exact Nat.lt_of_lt_of_le (HJ.out.yl b h1) (Nat.le_trans HB.out.size hb2.size)); (exact h1.2)); clear c7; have q7 := (HJ.out.box.below HB2.out).cell 7; have qf := (HJ.out.box.below HB2.out).frozen; have qz := (HJ.out.box.below HB2.out).lt; have HI := hi hi1; obtain ⟨za, zc, rfl, _, _⟩ := hi1; have HBX := hi (show CB (w2.setCell ⟨d, 7, none⟩ (.slice za (ints (lst (bitB bs x.qa) (k + 1))).length zc)) d 86 (ldCs x false f capf (.slice za (ints (lst (bitB bs x.qa) (k + 1))).length zc)) from (HJ.out.box.below HB2.out).set 7 (.slice za (ints (lst (bitB bs x.qa) (k + 1))).length zc)); have HST := hi (kept_setCell w2 d 7 (.slice za (ints (lst (bitB bs x.qa) (k + 1))).length zc)); clear hb2 hy1))
            | (go_at_call 84; ((with_reducible refine (HPUT.out _ _ HBX.out ((HJ.out.mem.below HB2.out).kept HST.out (fun e => absurd e HA.out.2.1) (fun e => absurd e.symm HA.out.1))).mono ?_); rintro e w3 ⟨⟨v, rfl⟩, hm3, hk3⟩; have HR := hi (And.intro hm3 hk3); clear hm3 hk3)))
          go_roundw
          case rel =>
            refine ⟨k + 1, .slice za (ints (lst (bitB bs x.qa) (k + 1))).length zc, by omega, by go_num, hi ⟨HBX.out.keptB HR.out.2 HA.out.1, ?_, ?_, HY.out, (fun b hb => Nat.lt_of_lt_of_le (HYL.out b hb) (Nat.le_trans HST.out.size HR.out.2.size)), HR.out.1, ((HJ.out.kept.trans (Kept.of HB2.out)).trans (HST.out.mono (fun _ e => .inl e))).trans (HR.out.2.mono (fun _ e => .inr e))⟩⟩
            · exact (((HJ.out.cfg.of_block (HB2.out.block f (Nat.lt_of_lt_of_le hflt HJ.out.kept.size))).of_block (HST.out.block f (Nat.lt_of_lt_of_le hflt (Nat.le_trans HJ.out.kept.size HB2.out.size)) (fun e => HA.out.2.2.2.2.1 e.symm)))).of_block (HR.out.2.block f (by simp [World.setCell]; exact Nat.lt_of_lt_of_le hflt (Nat.le_trans HJ.out.kept.size HB2.out.size)) HA.out.2.2.2.1)
            · exact (HI.out.keptY HST.out (fun b hb e => by have := HY.out b hb; omega)).keptY HR.out.2 (fun b hb e => by have := HY.out b hb; omega)
          case measure => simp [intOf]; omega
      · obtain rfl : k = x.n := by omega
        have x1 : ¬ (x.n : Int) < (x.n : Int) := by omega
        have hk3 := kept_setCell wr d 1 (.bool true)
        have hX := enX_ok (bs := bs) hx
        have hPP : lst (enP bs x) x.n = lst (bitB bs x.qa) x.n := lst_congr (fun j hj => by simp [enP, hj])
        have hB3 : LdB (wr.setCell ⟨d, 1, none⟩ (.bool true)) d f capf (.slice ya (ints (lst (bitB bs x.qa) x.n)).length yc) { x with on := true, P := enP bs x } :=
          ⟨HJ.out.box.set 1 (.bool true), HJ.out.cfg.of_block (hk3.block f HJ.out.cfg.lt (fun e => HA.out.2.2.2.2.1 e.symm)), HA.out.2.2.2.2.2.1, HA.out.2.2.2.2.2.2, by
            show IntsAt _ _ (ints (lst (enP bs x) x.n))
            rw [hPP]
            exact HJ.out.ws.keptY hk3 (fun b hb e => by have := HJ.out.y b hb; omega)⟩
        have hM3 := HJ.out.mem.kept hk3 (fun e => HA.out.2.1 e) (fun e => HA.out.1 e.symm)
        have HINV := hi (rinvAll_lpi d f capf q h cq _ { x with on := true, P := enP bs x } (clearTo bs x.qa x.n) (by rw [clearTo_len]; exact hX) _ hB3 hM3 ⟨fun b hb e => by have := HJ.out.y b hb; omega, fun b hb e => by have := HJ.out.y b hb; omega, HA.out.2.2.2.1⟩ (fun b hb e => by have := HJ.out.y b hb; omega))
        have HM3 := hi hM3
        have HK3 := hi (HJ.out.kept.trans (hk3.mono (fun _ e => .inl e)))
        clear hk3 hB3 hX hM3 hPP
        go_wp2_with (go_at_call 56; ((with_reducible refine HINV.out.mono ?_); rintro e w3 ⟨⟨v, rfl⟩, hb3, hk3⟩; have HD := hi (And.intro hb3 hk3); clear hb3 hk3))
        go_end0
        exact ⟨⟨_, rfl⟩, ⟨_, HD.out.1, fun b hb => .inr ⟨HJ.out.y b hb, Nat.lt_of_lt_of_le (HJ.out.yl b hb) (Nat.le_trans (kept_setCell wr d 1 (.bool true)).size HD.out.2.size)⟩⟩, HM3.out.kept HD.out.2 (fun e => HA.out.2.2.1 e) (fun e => HA.out.2.2.2.1 e.symm), (HK3.out.mono (fun _ e => e.elim .inl (fun e => .inr (.inl e)))).trans (HD.out.2.mono (fun _ e => .inr (.inr e)))⟩
  · have e1 : enS bs x = (bs, x) := by rw [enS, if_pos hon]
    rw [e1]
    have H := hi (And.intro a m)
    clear a m n hyf e1 hbox
    go_enter Tryd.func52, Tryd.ntmps52
    go_wp2
    refine bodyPost_ret (results_none rfl _ _ _) rfl ?_
    exact ⟨⟨_, rfl⟩, ⟨yv, H.out.1, fun b hb => .inl hb⟩, H.out.2, Kept.refl _ _⟩

end Go.Proofs.YtobhdjepfhbgaaaDoor
