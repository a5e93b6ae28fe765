/-
  The document's part: Disable, Waiting, Best.
-/
import Derived.Test.YtobhdjepfhbgaaaDoorLqD
namespace Go.Proofs.YtobhdjepfhbgaaaDoor
open Go.ChangeShapes Go.WideShapes Go.ChangeAt Go.RowKit Go.Shelf
set_option linter.unusedVariables false
set_option linter.unusedSimpArgs false

theorem ints_at (l : List Nat) (j : Nat) (h : j < l.length) : (ints l)[j]?.getD 0 = ((l[j]?.getD 0 : Nat) : Int) := by simp [ints, h]
theorem lst_at {P : Nat → Bool} {n j : Nat} (h : j < (lst P n).length) : (lst P n)[j]?.getD 0 < n := by
  have := List.getElem_mem h
  rw [List.getElem?_eq_getElem h]
  exact (lst_mem.1 this).1
theorem markL_take (bs : List Nat) (q : Nat) (l : List Nat) (j : Nat) (h : j < l.length) : markL bs q (l.take (j + 1)) = putB (markL bs q (l.take j)) q (l[j]?.getD 0) true := by
  rw [List.take_succ_eq_append_getElem h, markL_snoc, List.getElem?_eq_getElem h]; rfl

set_option maxRecDepth 100000 in
set_option maxHeartbeats 4000000 in
theorem rdisable_lpi (d f capf q h cq : Nat) (yv : Value) (x : St) (bs : List Nat) (hx : x.Ok bs.length) (w : World) (a : LdB w d f capf yv x) (m : MemAt 107 w q h cq bs) (n : LdN d f h yv) :
    Calls Tryd.prog 53 #[.pointer (some ⟨d, 0, none⟩), .pointer (some ⟨q, 0, none⟩)] w fun e w' => (∃ v, e = .returned v) ∧ (∃ yv', LdB w' d f capf yv' (disS bs x).2 ∧ ∀ b, Yb yv' b → Yb yv b ∨ (w.heap.size ≤ b ∧ b < w'.heap.size)) ∧ MemAt 107 w' q h cq (disS bs x).1 ∧ Kept (fun b => b = d ∨ b = h) w w' := by
  obtain ⟨a1, a2, a3⟩ := a.apart m
  have hdf := a.df
  have hn5 := hx.n5
  obtain ⟨on, hon⟩ : ∃ b, x.on = b := ⟨_, rfl⟩
  have hbox := a.box
  rw [hon] at hbox
  obtain ⟨c0, c1, _, _, _, _, _, c7⟩ := ldCells hbox
  cases on
  · have e1 : disS bs x = (bs, x) := by rw [disS, if_neg (by rw [hon]; simp)]
    rw [e1]
    have H := hi (And.intro a m)
    clear a m n e1 hbox
    go_enter Tryd.func53, Tryd.ntmps53
    go_wp2
    refine bodyPost_ret (results_none rfl _ _ _) rfl ?_
    exact ⟨⟨_, rfl⟩, ⟨yv, H.out.1, fun b hb => .inl hb⟩, H.out.2, Kept.refl _ _⟩
  · have e1 : disS bs x = (markL bs x.qa (lst x.P x.n), { x with on := false, P := fun _ => false }) := by rw [disS, if_pos hon]
    rw [e1]
    have H := hi (And.intro a (And.intro m n))
    have HA := hi (And.intro a1 (And.intro a2 (And.intro a3 hdf)))
    have HAT := hi (fun j (h : j < (lst x.P x.n).length) => lst_at h)
    have hmax : (lst x.P x.n).length ≤ 512 := Nat.le_trans (lst_len _ _) hn5
    have HWS := hi a.ws
    obtain ⟨ya, yc, hyv, _⟩ := a.ws
    rw [ints_len] at hyv
    obtain ⟨L, hL⟩ : ∃ L, lst x.P x.n = L := ⟨_, rfl⟩
    rw [hL] at HAT hyv hmax HWS ⊢
    have HPUT := hi (fun (k : Nat) (hk : k < x.n) (b2 : List Nat) (hb2 : b2.length = bs.length) (W : World) (hb : CB W d 86 (ldCs x true f capf yv)) (hm : MemAt 107 W q h cq b2) => rputbit_any d f capf yv x true q h cq b2 (by rw [hb2]; exact hx) k hk true W hb hm)
    subst hyv
    have HBX := hi hbox
    clear a m n e1 hbox a1 a2 a3 hdf hL c0 c7
    go_enter Tryd.func53, Tryd.ntmps53
    go_wp2
    go_loopw [4] (fun i wr => ∃ j : Nat, j ≤ L.length ∧ i = .int .i64 j ∧ Hi (MemAt 107 wr q h cq (markL bs x.qa (L.take j)) ∧ Kept (· = h) w wr)) (fun i _ => L.length - (intOf i).toNat)
    case atStart => exact ⟨0, Nat.zero_le _, rfl, hi ⟨H.out.2.1, Kept.refl _ _⟩⟩
    case round =>
      obtain ⟨j, hj, rfl, HP⟩ := hrel
      have hb2 := HBX.out.keptB HP.out.2 (fun e => absurd e HA.out.1)
      have c7 := (ldCells hb2).2.2.2.2.2.2.2
      by_cases hlt : j < L.length
      · have x1 : (j : Int) < (L.length : Int) := by omega
        have hws2 : IntsAt wr (.slice ya L.length yc) (ints L) := HWS.out.keptY HP.out.2 (fun b hb e => absurd e (H.out.2.2.yh b hb))
        obtain ⟨b, off, hya, hbl, hx0, hxx⟩ := intsAt_read (k := j) (a := ya) (cap := yc) (xs := ints L) (by rw [ints_len]; exact hws2) (Below.refl _ _) (by rw [ints_len]; exact hlt)
        subst hya
        rw [ints_at L j hlt] at hx0 hxx
        have hkn := HAT.out j hlt
        have hmt := markL_take bs x.qa L j hlt
        obtain ⟨k, hk⟩ : ∃ k, L[j]?.getD 0 = k := ⟨_, rfl⟩
        rw [hk] at hx0 hxx hkn hmt
        have HC := hi (HPUT.out k hkn (markL bs x.qa (L.take j)) (markL_len _ _ _) wr hb2 HP.out.1)
        rw [← hmt] at HC
        clear hws2 hk hmt hb2 hx0 hbl
        go_wp2_with (go_at_call 84; ((with_reducible refine HC.out.mono ?_); rintro e w2 ⟨⟨v, rfl⟩, hm2, hk2⟩; have HR := hi (And.intro hm2 hk2); clear hm2 hk2))
        go_roundw
        case rel => exact ⟨j + 1, by omega, by go_num, hi ⟨HR.out.1, HP.out.2.trans HR.out.2⟩⟩
        case measure => simp [intOf]; omega
      · obtain rfl : j = L.length := by omega
        have x1 : ¬ (L.length : Int) < (L.length : Int) := by omega
        have qf := hb2.frozen
        have qz := hb2.lt
        have h7 := hb2.set 7 (.slice none 0 0)
        have q1 : (wr.setCell ⟨d, 7, none⟩ (.slice none 0 0)).cell? ⟨d, 1, none⟩ = some (.bool true) := h7.cell 1
        have f1 := h7.frozen
        have z1 := h7.lt
        have h71 := h7.set 1 (.bool false)
        have hst := (kept_setCell wr d 7 (.slice none 0 0)).trans (kept_setCell _ d 1 (.bool false))
        have hP := HP.out
        rw [List.take_length] at hP
        have HF := hi (And.intro h71 (And.intro hst hP))
        clear h7 h71 hst hP hb2
        go_wp2
        go_end0
        have hcf := H.out.1.cfg
        refine ⟨⟨_, rfl⟩, ⟨.slice none 0 0, ⟨HF.out.1, ?_, H.out.1.len, H.out.1.cap, ?_⟩, fun b hb => (yb_nil b hb).elim⟩, HF.out.2.2.1.kept HF.out.2.1 (fun e => absurd e HA.out.2.1) (fun e => absurd e.symm HA.out.1), (HF.out.2.2.2.mono (fun _ e => .inr e)).trans (HF.out.2.1.mono (fun _ e => .inl e))⟩
        · exact (hcf.of_block (HF.out.2.2.2.block f hcf.lt H.out.2.2.fh)).of_block (HF.out.2.1.block f (Nat.lt_of_lt_of_le hcf.lt HF.out.2.2.2.size) (fun e => absurd e.symm HA.out.2.2.2))
        · show IntsAt _ _ (ints (lst (fun _ => false) x.n))
          rw [lst_none (fun _ => rfl)]
          exact ⟨none, 0, rfl, ⟨Nat.zero_le _, Nat.zero_le _⟩, fun h => absurd rfl h⟩

end Go.Proofs.YtobhdjepfhbgaaaDoor
