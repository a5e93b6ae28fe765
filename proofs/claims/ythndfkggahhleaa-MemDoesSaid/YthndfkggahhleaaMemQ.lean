/-
  The document's Put, Wipe and Bytes.
-/
import Derived.Test.YthndfkggahhleaaMemP
import Derived.Deep.RegionLaw
namespace Go.Proofs.Ythndfkggahhleaa
open Go.ChangeShapes Go.WideShapes Go.ChangeAt Go.RowKit
set_option linter.unusedVariables false

set_option maxHeartbeats 2000000 in
theorem rwipe_yes (p g cap : Nat) (bs : List Nat) (A S : Nat) (w : World) (hM : MemAt 57 w p g cap bs) (hA : A + S ≤ bs.length) :
    Calls Try.prog 34 #[.pointer (some ⟨p, 0, none⟩), win A S] w fun e w' => e = .returned (.int .i64 0) ∧ MemAt 57 w' p g cap (splice bs A (List.replicate S 0)) ∧ Kept (· = g) w w' := by
  have hh : holdsB bs.length A S = true := by simp only [holdsB, decide_eq_true_eq]; omega
  have hl := hM.len
  have HH := hi (rholds_any p g cap bs A S (w.alloc (.cells #[.int .i64 A, .int .i64 S] 29)) (hM.below (bal w _)) (by omega) (by omega) (by omega) (by omega))
  rw [hh] at HH
  have HM := hi hM
  have HL := hi hA
  have hAl : A + S ≤ 131072 := by omega
  clear hM hA hh hl
  unfold win at HH ⊢
  go_enter Try.func34, Try.ntmps34
  go_wp2_with (go_at_call 22; ((with_reducible refine HH.out.mono ?_); rintro e w1 ⟨rfl, hb1⟩; have HB := hi ((bal w (.cells #[.int .i64 (A : Int), .int .i64 (S : Int)] 29)).trans (hb1.mono (by simp))); have HBX := hi ((box2_new w (.int .i64 (A : Int)) (.int .i64 (S : Int)) 29).below hb1); clear hb1))
  have HM1 := hi (HM.out.below HB.out)
  have HG := hi (And.intro HM.out.bytes.lt HM.out.plt)
  obtain ⟨n, hn2⟩ : ∃ n, bs.length = n := ⟨_, rfl⟩
  have HN2 := hi hn2
  clear hn2
  go_loopw [5] (fun i wr => ∃ j : Nat, i = .int .i64 j ∧ Hi (j ≤ S ∧ BytesAt wr g (splice bs A (List.replicate j 0)) ∧ Kept (· = g) w1 wr)) (fun i _ => S - (intOf i).toNat)
  case atStart => exact ⟨0, rfl, hi ⟨Nat.zero_le _, by rw [show List.replicate 0 0 = ([] : List Nat) from rfl, splice_nil]; exact HM1.out.bytes, Kept.refl _ _⟩⟩
  case round =>
    obtain ⟨j, rfl, HJ⟩ := hrel
    have hj := HJ.out.1
    have hsl := splice_len bs (List.replicate j 0) A (by rw [List.length_replicate]; have := HL.out; omega)
    obtain ⟨c0, c1, _⟩ := HBX.out.kept HJ.out.2.2 (fun (e : w.heap.size = g) => by have := HG.out; omega)
    by_cases hlt : j < S
    · have hcell := HJ.out.2.1.cell (A + j) (by rw [hsl]; have := HL.out; omega)
      have hfr := HJ.out.2.1.frozen (A + j)
      obtain ⟨x, hx⟩ : ∃ x, (splice bs A (List.replicate j 0))[A + j]?.getD 0 = x := ⟨_, rfl⟩
      rw [hx] at hcell
      have hcp : wr.cell? ⟨p, 0, none⟩ = some (.slice (some ⟨g, 0, none⟩) n cap) := by
        have := (HM1.out.set HJ.out.2.2 HJ.out.2.1 hsl).cell
        rw [hsl, HN2.out] at this
        exact this
      have hin : A + j < n := by have := HL.out; have := HN2.out; omega
      have hn : n ≤ 131072 := by rw [← HN2.out]; exact HM.out.len
      have hw4 : IntKind.i64.wrap ((A : Int) + (j : Int)) = (A : Int) + (j : Int) := by rw [IntKind.wrap_i64]; omega
      have HS := hi hsl
      clear hsl hx
      go_wp2
      go_region
      go_wp2
      go_roundw
      case rel =>
        refine ⟨j + 1, by go_num, hi ⟨hlt, BytesAt.drew ?_, (HJ.out.2.2.trans (kept_setCell _ _ _ _)).drew⟩⟩
        have h2 := splice_set bs (List.replicate j 0) A 0 (by rw [List.length_replicate]; have := HL.out; omega)
        rw [List.length_replicate] at h2
        rw [List.replicate_succ', ← h2]
        exact HJ.out.2.1.set (A + j) 0 (by rw [HS.out]; have := HL.out; omega) (by omega)
      case measure => first | (simp [intOf]; done) | (simp [intOf]; omega)
    · have e : j = S := by omega
      subst e
      have HS := hi hsl
      clear hsl
      go_wp2
      go_ret
      exact ⟨rfl, HM.out.set ((Kept.of HB.out).trans HJ.out.2.2) HJ.out.2.1 HS.out, (Kept.of HB.out).trans HJ.out.2.2⟩

set_option maxHeartbeats 2000000 in
theorem rwipe_no (p g cap : Nat) (bs : List Nat) (a s : Int) (w : World) (hM : MemAt 57 w p g cap bs)
    (ha0 : -9223372036854775808 ≤ a) (ha1 : a ≤ 9223372036854775807) (hs0 : -9223372036854775808 ≤ s) (hs1 : s ≤ 9223372036854775807) (hh : holdsB bs.length a s = false) :
    Calls Try.prog 34 #[.pointer (some ⟨p, 0, none⟩), win a s] w fun e w' => e = .returned (.int .i64 42) ∧ Below w.heap.size w w' := by
  have HH := hi (rholds_any p g cap bs a s (w.alloc (.cells #[.int .i64 a, .int .i64 s] 29)) (hM.below (bal w _)) ha0 ha1 hs0 hs1)
  rw [hh] at HH
  clear hM ha0 ha1 hs0 hs1 hh
  unfold win at HH ⊢
  go_enter Try.func34, Try.ntmps34
  go_wp2_with (go_at_call 22; ((with_reducible refine HH.out.mono ?_); rintro e w1 ⟨rfl, hb1⟩))
  go_ret
  exact ⟨rfl, (bal w _).trans (hb1.mono (by simp))⟩

theorem rwipe_any (p g cap : Nat) (bs : List Nat) (a s : Int) (w : World) (hM : MemAt 57 w p g cap bs)
    (ha0 : -9223372036854775808 ≤ a) (ha1 : a ≤ 9223372036854775807) (hs0 : -9223372036854775808 ≤ s) (hs1 : s ≤ 9223372036854775807) :
    Calls Try.prog 34 #[.pointer (some ⟨p, 0, none⟩), win a s] w fun e w' => e = .returned (.int .i64 (bytesE bs.length a s)) ∧ MemAt 57 w' p g cap (wipeL bs a s) ∧ Kept (· = g) w w' := by
  cases hh : holdsB bs.length a s
  · rw [show bytesE bs.length a s = 42 by simp [bytesE, hh], show wipeL bs a s = bs by simp [wipeL, hh]]
    refine (rwipe_no p g cap bs a s w hM ha0 ha1 hs0 hs1 hh).mono ?_
    rintro e w' ⟨rfl, hb⟩
    exact ⟨rfl, hM.below hb, Kept.of hb⟩
  · rw [show bytesE bs.length a s = 0 by simp [bytesE, hh], show wipeL bs a s = splice bs a.toNat (List.replicate s.toNat 0) by simp [wipeL, hh]]
    obtain ⟨A, S, rfl, rfl, hA⟩ := holdsB_out hh
    exact rwipe_yes p g cap bs A S w hM hA

set_option maxHeartbeats 2000000 in
theorem rput_yes (p g cap : Nat) (bs : List Nat) (A S : Nat) (sv : Value) (ys : List Nat) (w : World) (hM : MemAt 57 w p g cap bs) (hA : A + S ≤ bs.length) (hy : BytesIn w sv ys)
    (hap : ∀ b off cp, sv = .slice (some ⟨b, off, none⟩) ys.length cp → ys ≠ [] → ¬ b = g) (hyl : ys.length ≤ S) :
    Calls Try.prog 33 #[.pointer (some ⟨p, 0, none⟩), win A S, sv] w fun e w' => e = .returned (.int .i64 0) ∧ MemAt 57 w' p g cap (splice bs A ys) ∧ Kept (· = g) w w' := by
  have hh : holdsB bs.length A S = true := by simp only [holdsB, decide_eq_true_eq]; omega
  have hl := hM.len
  have HH := hi (rholds_any p g cap bs A S (w.alloc (.cells #[.int .i64 A, .int .i64 S] 29)) (hM.below (bal w _)) (by omega) (by omega) (by omega) (by omega))
  rw [hh] at HH
  have HM := hi hM
  have HL := hi hA
  have HY := hi hy
  obtain ⟨sa, sc, rfl, hsc, hmem, hrd⟩ := hy
  have HAP := hi (And.intro hap (And.intro hmem hrd))
  have hAl : A + S ≤ 131072 := by omega
  clear hM hA hh hl hap hmem hrd
  unfold win at HH ⊢
  go_enter Try.func33, Try.ntmps33
  go_wp2_with (go_at_call 22; ((with_reducible refine HH.out.mono ?_); rintro e w1 ⟨rfl, hb1⟩; have HB := hi ((bal w (.cells #[.int .i64 (A : Int), .int .i64 (S : Int)] 29)).trans (hb1.mono (by simp))); have HBX := hi ((box2_new w (.int .i64 (A : Int)) (.int .i64 (S : Int)) 29).below hb1); obtain ⟨c0, c1, _⟩ := HBX.out; clear hb1))
  clear c0 c1
  have HM1 := hi (HM.out.below HB.out)
  have HG := hi (And.intro HM.out.bytes.lt HM.out.plt)
  obtain ⟨n, hn2⟩ : ∃ n, bs.length = n := ⟨_, rfl⟩
  have HN2 := hi hn2
  clear hn2
  obtain ⟨m, hm2⟩ : ∃ m, ys.length = m := ⟨_, rfl⟩
  have HM2 := hi hm2
  rw [hm2] at hyl hsc ⊢
  clear hm2
  go_loopw [7] (fun i wr => ∃ j : Nat, i = .int .i64 j ∧ Hi (j ≤ m ∧ BytesAt wr g (splice bs A (ys.take j)) ∧ Kept (· = g) w1 wr)) (fun i _ => m - (intOf i).toNat)
  case atStart => exact ⟨0, rfl, hi ⟨Nat.zero_le _, by rw [List.take_zero, splice_nil]; exact HM1.out.bytes, Kept.refl _ _⟩⟩
  case round =>
    obtain ⟨j, rfl, HJ⟩ := hrel
    have hj := HJ.out.1
    have htl : (ys.take j).length = j := by rw [List.length_take, HM2.out]; omega
    have hsl := splice_len bs (ys.take j) A (by rw [htl]; have := HL.out; omega)
    obtain ⟨c0, c1, _⟩ := HBX.out.kept HJ.out.2.2 (fun (e : w.heap.size = g) => by have := HG.out; omega)
    by_cases hlt : j < m
    · have hne : ys ≠ [] := fun e => by have := HM2.out; rw [e] at this; simp at this; omega
      obtain ⟨b, so, rfl, hcs⟩ := HAP.out.2.2 hne
      have hbg : ¬ b = g := HAP.out.1 b so sc rfl hne
      have hc0 := hcs j (by rw [HM2.out]; exact hlt)
      have hblt := World.block_lt_of_cell? w _ hc0
      have hsrc := ((World.cell?_of_block (w := w1) (a := ⟨b, so + j, none⟩) (HJ.out.2.2.block b (Nat.lt_of_lt_of_le hblt HB.out.size) hbg)).trans (HB.out.cell (p := ⟨b, so + j, none⟩) hblt)).trans hc0
      obtain ⟨y, hyj⟩ : ∃ y, ys[j]?.getD 0 = y := ⟨_, rfl⟩
      rw [hyj] at hsrc
      have hcell := HJ.out.2.1.cell (A + j) (by rw [hsl]; have := HL.out; omega)
      have hfr := HJ.out.2.1.frozen (A + j)
      obtain ⟨x, hx⟩ : ∃ x, (splice bs A (ys.take j))[A + j]?.getD 0 = x := ⟨_, rfl⟩
      rw [hx] at hcell
      have hcp : wr.cell? ⟨p, 0, none⟩ = some (.slice (some ⟨g, 0, none⟩) n cap) := by
        have := (HM1.out.set HJ.out.2.2 HJ.out.2.1 hsl).cell
        rw [hsl, HN2.out] at this
        exact this
      have hin : A + j < n := by have := HL.out; have := HN2.out; omega
      have hn : n ≤ 131072 := by rw [← HN2.out]; exact HM.out.len
      have hw4 : IntKind.i64.wrap ((A : Int) + (j : Int)) = (A : Int) + (j : Int) := by rw [IntKind.wrap_i64]; omega
      have hY : ys[j]? = some y := by
        have hjl : j < ys.length := by rw [HM2.out]; exact hlt
        rw [List.getElem?_eq_getElem hjl] at hyj ⊢
        simpa using hyj
      have HS := hi (And.intro hsl (And.intro htl hY))
      clear hsl htl hY hx hcs hc0 hblt hne hbg hyj
      go_wp2
      go_region
      go_wp2
      go_roundw
      case rel =>
        refine ⟨j + 1, by go_num, hi ⟨hlt, BytesAt.drew ?_, (HJ.out.2.2.trans (kept_setCell _ _ _ _)).drew⟩⟩
        have h2 := splice_set bs (ys.take j) A y (by rw [HS.out.2.1]; have := HL.out; omega)
        rw [HS.out.2.1] at h2
        have h3 : ys.take (j + 1) = ys.take j ++ [y] := by rw [List.take_add_one, HS.out.2.2]; rfl
        rw [h3, ← h2]
        exact HJ.out.2.1.set (A + j) y (by rw [HS.out.1]; have := HL.out; omega) (HAP.out.2.1 y (List.mem_of_getElem? HS.out.2.2))
      case measure => first | (simp [intOf]; done) | (simp [intOf]; omega)
    · have e : j = m := by omega
      subst e
      have HS := hi (And.intro hsl htl)
      clear hsl htl
      go_wp2
      go_ret
      have h5 := HJ.out.2.1
      have h6 := HS.out.1
      rw [List.take_of_length_le (by rw [HM2.out]; exact Nat.le_refl _)] at h5 h6
      exact ⟨rfl, HM.out.set ((Kept.of HB.out).trans HJ.out.2.2) h5 h6, (Kept.of HB.out).trans HJ.out.2.2⟩

set_option maxHeartbeats 2000000 in
theorem rput_no (p g cap : Nat) (bs : List Nat) (a s : Int) (sv : Value) (ys : List Nat) (w : World) (hM : MemAt 57 w p g cap bs) (hy : BytesIn w sv ys) (hyl : ys.length ≤ 9223372036854775807)
    (ha0 : -9223372036854775808 ≤ a) (ha1 : a ≤ 9223372036854775807) (hs0 : -9223372036854775808 ≤ s) (hs1 : s ≤ 9223372036854775807) (hn : putOk bs.length a s ys.length = false) :
    Calls Try.prog 33 #[.pointer (some ⟨p, 0, none⟩), win a s, sv] w fun e w' => e = .returned (.int .i64 42) ∧ Below w.heap.size w w' := by
  have HH := hi (rholds_any p g cap bs a s (w.alloc (.cells #[.int .i64 a, .int .i64 s] 29)) (hM.below (bal w _)) ha0 ha1 hs0 hs1)
  obtain ⟨sa, sc, rfl, _, _, _⟩ := hy
  clear hM
  unfold win at HH ⊢
  cases hh : holdsB bs.length a s
  · rw [hh] at HH
    clear hh hn
    go_enter Try.func33, Try.ntmps33
    go_wp2_with (go_at_call 22; ((with_reducible refine HH.out.mono ?_); rintro e w1 ⟨rfl, hb1⟩; obtain ⟨hc1, hc2⟩ := bcell hb1))
    go_ret
    exact ⟨rfl, (bal w _).trans (hb1.mono (by simp))⟩
  · have hm' : s < (ys.length : Int) := by
      simp only [putOk, hh, Bool.true_and, decide_eq_false_iff_not] at hn
      omega
    rw [hh] at HH
    clear hh hn
    go_enter Try.func33, Try.ntmps33
    go_wp2_with (go_at_call 22; ((with_reducible refine HH.out.mono ?_); rintro e w1 ⟨rfl, hb1⟩; obtain ⟨hc1, hc2⟩ := bcell hb1))
    go_ret
    exact ⟨rfl, (bal w _).trans (hb1.mono (by simp))⟩

theorem rput_any (p g cap : Nat) (bs : List Nat) (a s : Int) (sv : Value) (ys : List Nat) (w : World) (hM : MemAt 57 w p g cap bs) (hy : BytesIn w sv ys) (hyl : ys.length ≤ 9223372036854775807)
    (hap : ∀ b off cp, sv = .slice (some ⟨b, off, none⟩) ys.length cp → ys ≠ [] → ¬ b = g)
    (ha0 : -9223372036854775808 ≤ a) (ha1 : a ≤ 9223372036854775807) (hs0 : -9223372036854775808 ≤ s) (hs1 : s ≤ 9223372036854775807) :
    Calls Try.prog 33 #[.pointer (some ⟨p, 0, none⟩), win a s, sv] w fun e w' => e = .returned (.int .i64 (putE bs.length a s ys.length)) ∧ MemAt 57 w' p g cap (putL bs a s ys) ∧ Kept (· = g) w w' := by
  cases hh : putOk bs.length a s ys.length
  · rw [show putE bs.length a s ys.length = 42 by simp [putE, hh], show putL bs a s ys = bs by simp [putL, hh]]
    refine (rput_no p g cap bs a s sv ys w hM hy hyl ha0 ha1 hs0 hs1 hh).mono ?_
    rintro e w' ⟨rfl, hb⟩
    exact ⟨rfl, hM.below hb, Kept.of hb⟩
  · rw [show putE bs.length a s ys.length = 0 by simp [putE, hh], show putL bs a s ys = splice bs a.toNat ys by simp [putL, hh]]
    simp only [putOk, Bool.and_eq_true, decide_eq_true_eq] at hh
    obtain ⟨A, S, rfl, rfl, hA⟩ := holdsB_out hh.1
    exact rput_yes p g cap bs A S sv ys w hM hA hy hap (by omega)

end Go.Proofs.Ythndfkggahhleaa
