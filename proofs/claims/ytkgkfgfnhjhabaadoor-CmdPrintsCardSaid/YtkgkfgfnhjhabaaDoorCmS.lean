/-
  Package cmd: strings.Cut at one byte, byName, strconv.Atoi at every string.
-/
import Derived.Test.YtkgkfgfnhjhabaaDoorCmH
import Derived.Test.YtkgkfgfnhjhabaaDoorShg
import Derived.Laws.Strings3
import Derived.Lib.CutLaws
import Derived.Lib.AtoiErrMem
namespace Go.Proofs.YtkgkfgfnhjhabaaDoor
open Go.ChangeShapes Go.WideShapes Go.ChangeAt Go.RowKit Go.Shelf
set_option linter.unusedVariables false
set_option linter.unusedSimpArgs false

theorem cell_below {W W' : World} {b o : Nat} {v : Value} (h : W.cell? ⟨b, o, none⟩ = some v) (k : Below W.heap.size W W') : W'.cell? ⟨b, o, none⟩ = some v := by
  have hlt : b < W.heap.size := by
    rcases Nat.lt_or_ge b W.heap.size with h' | h'
    · exact h'
    · simp [World.cell?, Array.getElem?_eq_none h'] at h
  have := k.block b hlt
  simp only [World.cell?] at h ⊢
  rw [this]; exact h
/-- The two errors of strconv are there. -/
def ErrW (W : World) : Prop := (∃ tp p, W.cell? ⟨1, 0, none⟩ = some (.iface tp p)) ∧ ∃ tp p, W.cell? ⟨2, 0, none⟩ = some (.iface tp p)
theorem ErrW.below {W W' : World} (h : ErrW W) (k : Below W.heap.size W W') : ErrW W' := by
  obtain ⟨⟨t1, p1, h1⟩, t2, p2, h2⟩ := h
  exact ⟨⟨t1, p1, cell_below h1 k⟩, t2, p2, cell_below h2 k⟩
theorem atoi_any (s : ByteArray) (hlim : s.size ≤ 281474976710656) (w : World) (hE : ErrW w) : Calls Tryd.prog 55 #[.string s] w fun e w' => (∃ v, e = .returned (.tuple #[.int .i64 (atoiV s.data.toList), v])) ∧ Below w.heap.size w w' := by
  unfold atoiV
  cases h : Lib.atoiAll s.data.toList with
  | ok v =>
    refine (Tryd.strconv_Atoi_ok s (by omega) v h w).mono ?_
    rintro e w' ⟨rfl, h2⟩
    refine ⟨⟨_, rfl⟩, ?_⟩
    rcases h2 with rfl | ⟨t, rfl⟩
    · exact Below.refl _ _
    · exact Lib.bytesWorld_below _ _ _
  | «syntax» =>
    obtain ⟨⟨tp, p, hv⟩, _⟩ := hE
    refine (Tryd.strconv_Atoi_syntax s hlim h _ w hv (.inr ⟨_, _, rfl⟩)).mono ?_
    rintro e w' ⟨N, rfl, _, _, hb⟩
    exact ⟨⟨_, rfl⟩, hb⟩
  | range =>
    obtain ⟨_, tp, p, hv⟩ := hE
    refine (Tryd.strconv_Atoi_range s hlim h _ w hv (.inr ⟨_, _, rfl⟩)).mono ?_
    rintro e w' ⟨N, rfl, _, _, hb⟩
    exact ⟨⟨_, rfl⟩, hb⟩

theorem idx_cut (l : List UInt8) : (Lib.indexByte l 32 = -1 ∧ headL l = l ∧ tailL l = []) ∨ ∃ i : Nat, Lib.indexByte l 32 = i ∧ i + 1 ≤ l.length ∧ headL l = l.take i ∧ tailL l = l.drop (i + 1) := by
  induction l with
  | nil => exact .inl ⟨rfl, rfl, rfl⟩
  | cons b l ih =>
    by_cases hb : b = 32
    · subst hb
      exact .inr ⟨0, by simp [Lib.indexByte], by simp, by simp [headL], by simp [tailL]⟩
    · have hb2 : (b == 32) = false := by simpa using hb
      rcases ih with ⟨h1, h2, h3⟩ | ⟨i, h1, h2, h3, h4⟩
      · exact .inl ⟨by simp [Lib.indexByte, hb2, h1], by simp [headL, hb, h2], by simp [tailL, hb, h3]⟩
      · refine .inr ⟨i + 1, ?_, by simp; omega, by simp [headL, hb, h3], by simp [tailL, hb, h4]⟩
        have : (Lib.indexByte l 32 == -1) = false := by rw [h1]; simp
        simp [Lib.indexByte, hb2, h1]
theorem ba_mk (s : ByteArray) : (⟨s.data.toList.toArray⟩ : ByteArray) = s := by cases s; simp
theorem cut_take (s : ByteArray) (i : Nat) : (⟨(s.data.toList.take i).toArray⟩ : ByteArray) = s.extract 0 i := by
  rw [Lib.extract_eq]; simp
theorem cut_drop (s : ByteArray) (i : Nat) : (⟨(s.data.toList.drop i).toArray⟩ : ByteArray) = s.extract i s.size := by
  have ht : List.take (s.size - i) (List.drop i s.data.toList) = List.drop i s.data.toList :=
    List.take_of_length_le (by rw [List.length_drop, ← Lib.size_eq]; exact Nat.le_refl _)
  rw [Lib.extract_eq, ht]

set_option maxRecDepth 100000 in
set_option maxHeartbeats 2000000 in
theorem scut_any (s : ByteArray) (hlim : s.size ≤ 281474976710656) (w : World) : Calls Tryd.prog 67 #[.string s, .string ⟨#[32]⟩] w fun e w' => (∃ b, e = .returned (.tuple #[.string ⟨(headL s.data.toList).toArray⟩, .string ⟨(tailL s.data.toList).toArray⟩, .bool b])) ∧ Below w.heap.size w w' := by
  have HIX := hi (fun W => Tryd.stringslite_Index_one s 32 W)
  have sz1 : (⟨#[32]⟩ : ByteArray).size = 1 := rfl
  rcases idx_cut s.data.toList with ⟨h1, h2, h3⟩ | ⟨i, h1, h2, h3, h4⟩
  · rw [h2, h3, ba_mk]
    rw [h1] at HIX
    clear h1 h2 h3
    go_enter Tryd.func67, Tryd.ntmps67
    go_wp2_with (go_at_call 73; ((with_reducible refine (HIX.out _).mono ?_); rintro e w1 ⟨rfl, rfl⟩))
    go_ret3
    exact ⟨⟨_, rfl⟩, Below.refl _ _⟩
  · rw [h3, h4, cut_take, cut_drop]
    rw [h1] at HIX
    rw [← Lib.size_eq] at h2
    have c1 : (0 : Int) ≤ (i : Int) := by omega
    have c2 : (i : Int) ≤ (s.size : Int) := by omega
    have c3 : (0 : Int) ≤ (i : Int) + 1 := by omega
    have c4 : (i : Int) + 1 ≤ (s.size : Int) := by omega
    clear h1 h3 h4
    go_enter Tryd.func67, Tryd.ntmps67
    go_wp2_with (go_at_call 73; ((with_reducible refine (HIX.out _).mono ?_); rintro e w1 ⟨rfl, rfl⟩))
    go_region
    go_wp2
    go_ret3
    exact ⟨⟨_, rfl⟩, below_drew _⟩
set_option maxHeartbeats 2000000 in
theorem cut_any (s : ByteArray) (hlim : s.size ≤ 281474976710656) (w : World) : Calls Tryd.prog 53 #[.string s, .string ⟨#[32]⟩] w fun e w' => (∃ b, e = .returned (.tuple #[.string ⟨(headL s.data.toList).toArray⟩, .string ⟨(tailL s.data.toList).toArray⟩, .bool b])) ∧ Below w.heap.size w w' := by
  have HC := hi (fun W => scut_any s hlim W)
  go_enter Tryd.func53, Tryd.ntmps53
  go_wp2_with (go_at_call 67; ((with_reducible refine (HC.out _).mono ?_); rintro e w1 ⟨⟨b, rfl⟩, hb⟩; have HB := hi hb; clear hb))
  go_ret3
  exact ⟨⟨_, rfl⟩, HB.out⟩

theorem opOf_none {nm : List UInt8} (h : ∀ j, j < 12 → nameL (kO j) ≠ nm) : opOf nm = 0 := by
  have h0 := h 0 (by decide); have h1 := h 1 (by decide); have h2 := h 2 (by decide); have h3 := h 3 (by decide); have h4 := h 4 (by decide); have h5 := h 5 (by decide)
  have h6 := h 6 (by decide); have h7 := h 7 (by decide); have h8 := h 8 (by decide); have h9 := h 9 (by decide); have h10 := h 10 (by decide); have h11 := h 11 (by decide)
  simp only [kO] at h0 h1 h2 h3 h4 h5 h6 h7 h8 h9 h10 h11
  rw [opOf, if_neg (Ne.symm h0), if_neg (Ne.symm h1), if_neg (Ne.symm h2), if_neg (Ne.symm h3), if_neg (Ne.symm h4), if_neg (Ne.symm h5), if_neg (Ne.symm h6), if_neg (Ne.symm h7), if_neg (Ne.symm h8), if_neg (Ne.symm h9), if_neg (Ne.symm h10), if_neg (Ne.symm h11)]

set_option maxRecDepth 100000 in
set_option maxHeartbeats 4000000 in
theorem byName_any (s : ByteArray) (w : World) : Calls Tryd.prog 54 #[.string s] w fun e w' => e = .returned (.tuple #[Kd.v (kop (opOf s.data.toList)) (nmB (opOf s.data.toList)) (hasN (opOf s.data.toList)), .bool (known (opOf s.data.toList))]) ∧ Below w.heap.size w w' := by
  have HK := hi (fun W => kinds_any W)
  have H0 : ByI w (w.alloc (.cells zKd 71)) := ⟨CB.new w _ _, bal w _⟩
  obtain ⟨cs, hcs⟩ : ∃ cs, kdCells = cs := ⟨_, rfl⟩
  have HIX := hi (fun (k : Nat) (hk : k < 12) W => show (Instr.index 123 (.agg cs) (.int .i64 (k : Int))).run Tryd.prog W = .ok (Kd.v (kO k) (nmB (kO k)) (hasN (kO k))) W by
    rw [← hcs, run_index_cells under_kds size_kd Tryd.isAgg71 kdCells k hk W, kdCells_at k hk])
  rw [hcs] at HK
  obtain ⟨op, hop⟩ : ∃ op, opOf s.data.toList = op := ⟨_, rfl⟩
  have HOP := hi hop
  rw [hop]
  have HH := hi H0
  clear H0 hcs hop
  go_enter Tryd.func54, Tryd.ntmps54
  go_wp2_with (go_at_call 62; ((with_reducible refine (HK.out _).mono ?_); rintro e w1 ⟨rfl, hb1⟩; have HI := hi (HH.out.later hb1); clear hb1))
  go_loopw [7] (fun i wr => ∃ k : Nat, k ≤ 12 ∧ i = .int .i64 k ∧ Hi ((∀ j, j < k → nameL (kO j) ≠ s.data.toList) ∧ ByI w wr)) (fun i _ => 12 - (intOf i).toNat)
  case atStart => exact ⟨0, by omega, rfl, hi ⟨fun j h => absurd h (by omega), HI.out⟩⟩
  case round =>
    obtain ⟨k, hk, rfl, HP⟩ := hrel
    by_cases hlt : k < 12
    · have hix := HIX.out k hlt
      have hn := HP.out.1
      have hI := HP.out.2
      have hbw : w.heap.size < wr.heap.size := hI.box.lt
      have hI2 := hI.alloc (.cells (Kd.cs (kO k) (nmB (kO k)) (hasN (kO k))) 71)
      have HA := hi hI2
      have HB := hi hI
      have f1 := hI.box.frozen
      have q0 := hI.box.cell 0
      have q1 := hI.box.cell 1
      have q2 := hI.box.cell 2
      have x1 : (k : Int) < 12 := by omega
      have HN := hi hn
      by_cases he : nameL (kO k) = s.data.toList
      · have HR := hi (show Kd.v (kO k) (nmB (kO k)) (hasN (kO k)) = Kd.v (kop op) (nmB op) (hasN op) ∧ known op = true by
          have h1 := kO_known k
          have h2 : op = kO k := by rw [← HOP.out, ← he, opOf_name h1]
          rw [h2]
          exact ⟨by rw [kop_yes h1], h1⟩)
        have he2 : nmB (kO k) = s := by have h := ba_mk s; rw [← he] at h; exact h
        obtain ⟨o, ho⟩ : ∃ o, kO k = o := ⟨_, rfl⟩
        obtain ⟨hs, hhs⟩ : ∃ hs, hasN (kO k) = hs := ⟨_, rfl⟩
        rw [he2, hhs, ho] at hix HR
        clear ho hhs hn hI hI2 he he2
        go_wp2
        refine bodyPost_ret (results_kd rfl _ _ w.heap.size _ _ _ _ rfl rfl ((HB.out.box.set3 _ _ _).alloc _)) rfl ⟨?_, (below_set3 HB.out.below (Nat.le_refl _) _ _ _).alloc (by simp; omega) _⟩
        show Ending.returned (.tuple #[Kd.v o s hs, .bool true]) = _
        rw [HR.out.1, HR.out.2]
      · have HE := hi he
        obtain ⟨nm, hnm⟩ : ∃ nm, nmB (kO k) = nm := ⟨_, rfl⟩
        have hne : nm ≠ s := by
          intro e
          rw [← hnm] at e
          exact he (by rw [← e])
        have he2 : (nm.toList == s.toList) = false := by
          rw [beq_eq_false_iff_ne, ByteArray.toList_eq, ByteArray.toList_eq]
          intro e
          exact hne (by rw [← ba_mk nm, ← ba_mk s, e])
        obtain ⟨o, ho⟩ : ∃ o, kO k = o := ⟨_, rfl⟩
        obtain ⟨hs, hhs⟩ : ∃ hs, hasN (kO k) = hs := ⟨_, rfl⟩
        rw [hnm, hhs, ho] at hix HA
        clear ho hnm hhs hn hI hI2 he
        go_wp2
        go_roundw
        case rel => exact ⟨k + 1, by omega, by go_num, hi ⟨fun j hj => by
          by_cases e : j = k
          · subst e; exact HE.out
          · exact HN.out j (by omega), HA.out⟩⟩
        case measure => simp [intOf]; omega
    · have hop : op = 0 := by rw [← HOP.out]; exact opOf_none (fun j hj => HP.out.1 j (by omega))
      have hkn : known op = false := by rw [hop]; decide
      have hI := HP.out.2
      have HI2 := hi hI
      have f1 := hI.box.frozen
      have q0 := hI.box.cell 0
      have q1 := hI.box.cell 1
      have q2 := hI.box.cell 2
      have HR := hi (show Kd.v (kop op) (nmB op) (hasN op) = Kd.v 0 ⟨#[]⟩ 0 by rw [kop_no hkn, hasN_no hkn]; unfold nmB; rw [nameL_no hkn])
      have HKN := hi hkn
      have x1 : ¬ (k : Int) < 12 := by omega
      clear hI hkn hop
      go_wp2
      refine bodyPost_ret (results_kd rfl _ _ w.heap.size _ _ _ _ rfl rfl (HI2.out.box.set3 _ _ _)) rfl ⟨?_, below_set3 HI2.out.below (Nat.le_refl _) _ _ _⟩
      rw [HR.out, HKN.out]
      rfl

end Go.Proofs.YtkgkfgfnhjhabaaDoor
