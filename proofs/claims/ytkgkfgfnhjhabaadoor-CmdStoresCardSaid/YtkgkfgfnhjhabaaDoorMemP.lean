/-
  The document's Read and Write, at every access.
-/
import Derived.Test.YtkgkfgfnhjhabaaDoorMemN
import Derived.Test.YtkgkfgfnhjhabaaDoorMemParts
namespace Go.Proofs.YtkgkfgfnhjhabaaDoor
open Go.ChangeShapes Go.WideShapes Go.ChangeAt Go.RowKit
set_option linter.unusedVariables false
set_option linter.unusedSimpArgs false

theorem Kept.drew {bs : Nat → Prop} {A W : World} (h : Kept bs A W) : Kept bs A W.drew := ⟨h.os, h.tape, h.output, h.size, h.block⟩
theorem BytesAt.drew {W : World} {g : Nat} {bs : List Nat} (h : BytesAt W g bs) : BytesAt W.drew g bs := ⟨h.1, h.2⟩
theorem num_drop (cs : List Nat) (t : Nat) (h : t < cs.length) : num (cs.drop t) = (cs[t]?.getD 0) + 256 * num (cs.drop (t + 1)) := by
  rw [List.drop_eq_getElem_cons h, num, List.getElem?_eq_getElem h, Option.getD_some]

set_option maxHeartbeats 2000000 in
theorem rread_yes (p g cap : Nat) (bs : List Nat) (A S o k : Nat) (w : World) (hM : MemAt 98 w p g cap bs)
    (hA : A + S ≤ bs.length) (ho : o + k ≤ S) (hm : mayE S o k = 0) (hk : k ≤ 8) :
    Calls Tryd.prog 50 #[.pointer (some ⟨p, 0, none⟩), win A S, .int .i64 o, .int .i64 k] w fun e w' => e = .returned (tupU (num (sub bs (A + o) k)) 0) ∧ Below w.heap.size w w' := by
  have hh : holdsB bs.length A S = true := by simp only [holdsB, decide_eq_true_eq]; omega
  have hl := hM.len
  have HH := hi (rholds_any p g cap bs A S (w.alloc (.cells #[.int .i64 A, .int .i64 S] 42)) (hM.below (bal w _)) (by omega) (by omega) (by omega) (by omega))
  rw [hh] at HH
  have HY := hi (fun W => hm ▸ rmay_any S o k W)
  have HM := hi hM
  have HL := hi (show A + o + k ≤ bs.length by omega)
  have hAl : A + o ≤ 131072 := by omega
  clear hM hm hA ho hh hl
  unfold tupU
  unfold win at HH ⊢
  go_enter Tryd.func50, Tryd.ntmps50
  go_wp2_with (first
    | (go_at_call 47; ((with_reducible refine HH.out.mono ?_); rintro e w1 ⟨rfl, hb1⟩; have HB := hi ((bal w (.cells #[.int .i64 (A : Int), .int .i64 (S : Int)] 42)).trans (hb1.mono (by simp))); obtain ⟨c0, c1, _⟩ := (box2_new w (.int .i64 (A : Int)) (.int .i64 (S : Int)) 42).below hb1; clear hb1))
    | (go_at_call 64; ((with_reducible refine (HY.out _).mono ?_); rintro e w2 ⟨rfl, rfl⟩)))
  have HM1 := hi (HM.out.below HB.out)
  have hcp := HM1.out.cell
  have hn : bs.length ≤ 131072 := HM1.out.len
  obtain ⟨n, hn2⟩ : ∃ n, bs.length = n := ⟨_, rfl⟩
  rw [hn2] at hcp hn
  have HN2 := hi hn2
  clear hn2
  go_loopw [11, 12] (fun v i wr => ∃ j m : Nat, i = .int .i64 ((j : Int) - 1) ∧ v = .int .u64 (num ((sub bs (A + o) k).drop j) : Nat) ∧ wr = w1.drewN m ∧ Hi (j ≤ k)) (fun _ i _ => (intOf i + 1).toNat)
  case atStart => exact ⟨k, 0, rfl, by rw [List.drop_of_length_le (by rw [sub_len (by have := HL.out; omega)]; exact Nat.le_refl _)]; rfl, rfl, hi (Nat.le_refl _)⟩
  case round =>
    obtain ⟨j, m, rfl, rfl, rfl, hj⟩ := hrel
    have hj := hj.out
    cases j with
    | zero =>
      go_wp2
      go_ret2
      exact ⟨rfl, ⟨HB.out.os, HB.out.tape, HB.out.output, HB.out.size, HB.out.block⟩⟩
    | succ t =>
      rw [show ((t + 1 : Nat) : Int) - 1 = (t : Int) by omega]
      have hcell := HM1.out.bytes.cell (A + o + t) (by have := HL.out; omega)
      obtain ⟨x, hx⟩ : ∃ x, bs[A + o + t]?.getD 0 = x := ⟨_, rfl⟩
      rw [hx] at hcell
      have hnd := num_drop (sub bs (A + o) k) t (by rw [sub_len (by have := HL.out; omega)]; omega)
      rw [sub_get (by omega), hx] at hnd
      have hlt := num_lt ((sub bs (A + o) k).drop (t + 1)) (fun y hy => sub_mem HM1.out.bytes.2 y (List.mem_of_mem_drop hy))
      rw [List.length_drop, sub_len (by have := HL.out; omega)] at hlt
      have hx256 : x < 256 := by
        rw [← hx, List.getElem?_eq_getElem (by have := HL.out; omega), Option.getD_some]
        exact HM1.out.bytes.2 _ (List.getElem_mem _)
      obtain ⟨N, hN⟩ : ∃ N, num ((sub bs (A + o) k).drop (t + 1)) = N := ⟨_, rfl⟩
      rw [hN] at hnd hlt ⊢
      have h7 : 256 ^ (k - (t + 1)) ≤ 256 ^ 7 := Nat.pow_le_pow_right (by omega) (by omega)
      have h7e : (256 : Nat) ^ 7 = 72057594037927936 := by decide
      have hN7 : N < 72057594037927936 := by omega
      have hw1 : IntKind.u64.wrap ((N : Int) * 256) = (N : Int) * 256 := by rw [IntKind.wrap_u64]; omega
      have hw2 : IntKind.u64.wrap ((N : Int) * 256 + (x : Int)) = (N : Int) * 256 + (x : Int) := by rw [IntKind.wrap_u64]; omega
      have hw3 : IntKind.u64.wrap (x : Int) = (x : Int) := by rw [IntKind.wrap_u64]; omega
      have hw4 : IntKind.i64.wrap ((A : Int) + (o : Int)) = (A : Int) + (o : Int) := by rw [IntKind.wrap_i64]; omega
      have hw5 : IntKind.i64.wrap ((A : Int) + (o : Int) + (t : Int)) = (A : Int) + (o : Int) + (t : Int) := by rw [IntKind.wrap_i64]; omega
      have hin : A + o + t < n := by have := HL.out; have := HN2.out; omega
      have HD := hi hnd
      clear hx hnd hlt hN h7 h7e hx256 hN7
      go_wp2
      go_quiet (fail)
      go_wp2
      go_roundw
      case rel => exact ⟨t, _, by go_num, by rw [HD.out]; go_num, rfl, hi (by omega)⟩
      case measure => first | (simp [intOf]; done) | (simp [intOf]; omega)

set_option maxHeartbeats 2000000 in
theorem rread_no (p g cap : Nat) (bs : List Nat) (a s off width : Int) (w : World) (hM : MemAt 98 w p g cap bs)
    (ha0 : -9223372036854775808 ≤ a) (ha1 : a ≤ 9223372036854775807) (hs0 : -9223372036854775808 ≤ s) (hs1 : s ≤ 9223372036854775807) (hn : accE bs.length a s off width ≠ 0) :
    Calls Tryd.prog 50 #[.pointer (some ⟨p, 0, none⟩), win a s, .int .i64 off, .int .i64 width] w fun e w' => e = .returned (tupU 0 (accE bs.length a s off width)) ∧ Below w.heap.size w w' := by
  have HH := hi (rholds_any p g cap bs a s (w.alloc (.cells #[.int .i64 a, .int .i64 s] 42)) (hM.below (bal w _)) ha0 ha1 hs0 hs1)
  clear hM ha0 ha1 hs0 hs1
  unfold tupU
  unfold win at HH ⊢
  cases hh : holdsB bs.length a s
  · rw [hh] at HH
    have e : accE bs.length a s off width = 42 := by simp [accE, hh]
    rw [e]
    clear e hn hh
    go_enter Tryd.func50, Tryd.ntmps50
    go_wp2_with (go_at_call 47; ((with_reducible refine HH.out.mono ?_); rintro e w1 ⟨rfl, hb1⟩))
    go_ret2
    exact ⟨rfl, (bal w _).trans (hb1.mono (by simp))⟩
  · rw [hh] at HH
    have e : accE bs.length a s off width = mayE s off width := by simp [accE, hh]
    rw [e] at hn ⊢
    have hn' : (mayE s off width != 0) = true := by simpa using hn
    obtain ⟨m, hm⟩ : ∃ m, mayE s off width = m := ⟨_, rfl⟩
    have HY := hi (fun W => hm ▸ rmay_any s off width W)
    rw [hm] at hn' ⊢
    clear e hn hh hm
    go_enter Tryd.func50, Tryd.ntmps50
    go_wp2_with (first
      | (go_at_call 47; ((with_reducible refine HH.out.mono ?_); rintro e w1 ⟨rfl, hb1⟩; obtain ⟨hc1, hc2⟩ := bcell hb1))
      | (go_at_call 64; ((with_reducible refine (HY.out _).mono ?_); rintro e w2 ⟨rfl, rfl⟩)))
    go_ret2
    exact ⟨rfl, (bal w _).trans (hb1.mono (by simp))⟩

/-- The document's reading at every access. -/
theorem rread_any (p g cap : Nat) (bs : List Nat) (a s off width : Int) (w : World) (hM : MemAt 98 w p g cap bs)
    (ha0 : -9223372036854775808 ≤ a) (ha1 : a ≤ 9223372036854775807) (hs0 : -9223372036854775808 ≤ s) (hs1 : s ≤ 9223372036854775807) :
    Calls Tryd.prog 50 #[.pointer (some ⟨p, 0, none⟩), win a s, .int .i64 off, .int .i64 width] w fun e w' => e = .returned (tupU (rdE bs a s off width) (accE bs.length a s off width)) ∧ Below w.heap.size w w' := by
  by_cases h : accE bs.length a s off width = 0
  · obtain ⟨A, S, o, k, rfl, rfl, rfl, rfl, hA, ho, hm, hk⟩ := accE_out hM.len h
    have e : rdE bs A S o k = num (sub bs (A + o) k) := by simp [rdE, h]
    rw [h, e]
    exact rread_yes p g cap bs A S o k w hM hA ho hm (by omega)
  · have e : rdE bs a s off width = 0 := by simp [rdE, h]
    rw [e]
    exact rread_no p g cap bs a s off width w hM ha0 ha1 hs0 hs1 h

set_option maxHeartbeats 2000000 in
theorem rwrite_yes (p g cap : Nat) (bs : List Nat) (A S o k v : Nat) (w : World) (hM : MemAt 98 w p g cap bs)
    (hA : A + S ≤ bs.length) (ho : o + k ≤ S) (hm : mayE S o k = 0) (hk : k ≤ 8) (hv : v < 18446744073709551616) :
    Calls Tryd.prog 43 #[.pointer (some ⟨p, 0, none⟩), win A S, .int .i64 o, .int .i64 k, .int .u64 v] w fun e w' => e = .returned (.int .i64 0) ∧ MemAt 98 w' p g cap (splice bs (A + o) (le k v)) ∧ Kept (· = g) w w' := by
  have hh : holdsB bs.length A S = true := by simp only [holdsB, decide_eq_true_eq]; omega
  have hl := hM.len
  have HH := hi (rholds_any p g cap bs A S (w.alloc (.cells #[.int .i64 A, .int .i64 S] 42)) (hM.below (bal w _)) (by omega) (by omega) (by omega) (by omega))
  rw [hh] at HH
  have HY := hi (fun W => hm ▸ rmay_any S o k W)
  have HM := hi hM
  have HL := hi (show A + o + k ≤ bs.length by omega)
  have hAl : A + o ≤ 131072 := by omega
  clear hM hm hA ho hh hl
  unfold win at HH ⊢
  go_enter Tryd.func43, Tryd.ntmps43
  go_wp2_with (first
    | (go_at_call 47; ((with_reducible refine HH.out.mono ?_); rintro e w1 ⟨rfl, hb1⟩; have HB := hi ((bal w (.cells #[.int .i64 (A : Int), .int .i64 (S : Int)] 42)).trans (hb1.mono (by simp))); have HBX := hi ((box2_new w (.int .i64 (A : Int)) (.int .i64 (S : Int)) 42).below hb1); obtain ⟨c0, c1, _⟩ := HBX.out; clear hb1))
    | (go_at_call 64; ((with_reducible refine (HY.out _).mono ?_); rintro e w2 ⟨rfl, rfl⟩)))
  clear c0 c1
  have HM1 := hi (HM.out.below HB.out)
  have HG := hi (And.intro HM.out.bytes.lt HM.out.plt)
  obtain ⟨n, hn2⟩ : ∃ n, bs.length = n := ⟨_, rfl⟩
  have HN2 := hi hn2
  clear hn2
  go_loopw [4, 12] (fun u i wr => ∃ j : Nat, i = .int .i64 j ∧ u = .int .u64 ((v / 256 ^ j : Nat) : Int) ∧ Hi (j ≤ k ∧ BytesAt wr g (splice bs (A + o) (le j v)) ∧ Kept (· = g) w1 wr)) (fun _ i _ => k - (intOf i).toNat)
  case atStart => exact ⟨0, rfl, by simp, hi ⟨Nat.zero_le _, by rw [show le 0 v = [] from rfl, splice_nil]; exact HM1.out.bytes, Kept.refl _ _⟩⟩
  case round =>
    obtain ⟨j, rfl, rfl, HJ⟩ := hrel
    have hj := HJ.out.1
    by_cases hlt : j < k
    · have hsl := splice_len bs (le j v) (A + o) (by rw [le_len]; have := HL.out; omega)
      have hcell := HJ.out.2.1.cell (A + o + j) (by rw [hsl]; have := HL.out; omega)
      have hfr := HJ.out.2.1.frozen (A + o + j)
      obtain ⟨x, hx⟩ : ∃ x, (splice bs (A + o) (le j v))[A + o + j]?.getD 0 = x := ⟨_, rfl⟩
      rw [hx] at hcell
      have hcp : wr.cell? ⟨p, 0, none⟩ = some (.slice (some ⟨g, 0, none⟩) n cap) := by
        have := (HM1.out.set HJ.out.2.2 HJ.out.2.1 hsl).cell
        rw [hsl, HN2.out] at this
        exact this
      obtain ⟨c0, c1, _⟩ := HBX.out.kept HJ.out.2.2 (fun (e : w.heap.size = g) => by have := HG.out; omega)
      have hin : A + o + j < n := by have := HL.out; have := HN2.out; omega
      have hn : n ≤ 131072 := by rw [← HN2.out]; exact HM.out.len
      have hw4 : IntKind.i64.wrap ((A : Int) + (o : Int)) = (A : Int) + (o : Int) := by rw [IntKind.wrap_i64]; omega
      have hw5 : IntKind.i64.wrap ((A : Int) + (o : Int) + (j : Int)) = (A : Int) + (o : Int) + (j : Int) := by rw [IntKind.wrap_i64]; omega
      have HS := hi hsl
      obtain ⟨V, hV⟩ : ∃ V, v / 256 ^ j = V := ⟨_, rfl⟩
      rw [hV]
      have hV64 : V < 18446744073709551616 := by rw [← hV]; exact Nat.lt_of_le_of_lt (Nat.div_le_self _ _) hv
      have hw6 : IntKind.u64.wrap ((V : Int) / 256) = (V : Int) / 256 := by rw [IntKind.wrap_u64]; omega
      have HV := hi hV
      clear hsl hx hV
      go_wp2
      go_region
      go_wp2
      go_roundw
      case rel =>
        refine ⟨j + 1, by go_num, ?_, hi ⟨hlt, BytesAt.drew ?_, (HJ.out.2.2.trans (kept_setCell _ _ _ _)).drew⟩⟩
        · rw [← HV.out, Nat.pow_succ, ← Nat.div_div_eq_div_mul]
          simp
        · have h2 := splice_set bs (le j v) (A + o) (v / 256 ^ j % 256) (by rw [le_len]; have := HL.out; omega)
          rw [le_len] at h2
          rw [le_succ, ← h2]
          have h1 := HJ.out.2.1.set (A + o + j) (v / 256 ^ j % 256) (by rw [HS.out]; have := HL.out; omega) (Nat.mod_lt _ (by omega))
          rw [show ((v / 256 ^ j % 256 : Nat) : Int) = (V : Int) % 256 by rw [HV.out]; simp] at h1
          exact h1
      case measure => first | (simp [intOf]; done) | (simp [intOf]; omega)
    · have e : j = k := by omega
      subst e
      go_wp2
      go_ret
      exact ⟨rfl, HM.out.set ((Kept.of HB.out).trans HJ.out.2.2) HJ.out.2.1 (by rw [splice_len]; rw [le_len]; exact HL.out), (Kept.of HB.out).trans HJ.out.2.2⟩

set_option maxHeartbeats 2000000 in
theorem rwrite_no (p g cap : Nat) (bs : List Nat) (a s off width : Int) (v : Nat) (w : World) (hM : MemAt 98 w p g cap bs)
    (ha0 : -9223372036854775808 ≤ a) (ha1 : a ≤ 9223372036854775807) (hs0 : -9223372036854775808 ≤ s) (hs1 : s ≤ 9223372036854775807) (hn : accE bs.length a s off width ≠ 0) :
    Calls Tryd.prog 43 #[.pointer (some ⟨p, 0, none⟩), win a s, .int .i64 off, .int .i64 width, .int .u64 v] w fun e w' => e = .returned (.int .i64 (accE bs.length a s off width)) ∧ Below w.heap.size w w' := by
  have HH := hi (rholds_any p g cap bs a s (w.alloc (.cells #[.int .i64 a, .int .i64 s] 42)) (hM.below (bal w _)) ha0 ha1 hs0 hs1)
  clear hM ha0 ha1 hs0 hs1
  unfold win at HH ⊢
  cases hh : holdsB bs.length a s
  · rw [hh] at HH
    have e : accE bs.length a s off width = 42 := by simp [accE, hh]
    rw [e]
    clear e hn hh
    go_enter Tryd.func43, Tryd.ntmps43
    go_wp2_with (go_at_call 47; ((with_reducible refine HH.out.mono ?_); rintro e w1 ⟨rfl, hb1⟩))
    go_ret
    exact ⟨rfl, (bal w _).trans (hb1.mono (by simp))⟩
  · rw [hh] at HH
    have e : accE bs.length a s off width = mayE s off width := by simp [accE, hh]
    rw [e] at hn ⊢
    have hn' : (mayE s off width != 0) = true := by simpa using hn
    obtain ⟨m, hm⟩ : ∃ m, mayE s off width = m := ⟨_, rfl⟩
    have HY := hi (fun W => hm ▸ rmay_any s off width W)
    rw [hm] at hn' ⊢
    clear e hn hh hm
    go_enter Tryd.func43, Tryd.ntmps43
    go_wp2_with (first
      | (go_at_call 47; ((with_reducible refine HH.out.mono ?_); rintro e w1 ⟨rfl, hb1⟩; obtain ⟨hc1, hc2⟩ := bcell hb1))
      | (go_at_call 64; ((with_reducible refine (HY.out _).mono ?_); rintro e w2 ⟨rfl, rfl⟩)))
    go_ret
    exact ⟨rfl, (bal w _).trans (hb1.mono (by simp))⟩

/-- The document's writing at every access. -/
theorem rwrite_any (p g cap : Nat) (bs : List Nat) (a s off width : Int) (v : Nat) (w : World) (hM : MemAt 98 w p g cap bs)
    (ha0 : -9223372036854775808 ≤ a) (ha1 : a ≤ 9223372036854775807) (hs0 : -9223372036854775808 ≤ s) (hs1 : s ≤ 9223372036854775807) (hv : v < 18446744073709551616) :
    Calls Tryd.prog 43 #[.pointer (some ⟨p, 0, none⟩), win a s, .int .i64 off, .int .i64 width, .int .u64 v] w fun e w' => e = .returned (.int .i64 (accE bs.length a s off width)) ∧ MemAt 98 w' p g cap (wrB bs a s off width v) ∧ Kept (· = g) w w' := by
  by_cases h : accE bs.length a s off width = 0
  · obtain ⟨A, S, o, k, rfl, rfl, rfl, rfl, hA, ho, hm, hk⟩ := accE_out hM.len h
    have e : wrB bs A S o k v = splice bs (A + o) (le k v) := by simp [wrB, h]
    rw [h, e]
    exact rwrite_yes p g cap bs A S o k v w hM hA ho hm (by omega) hv
  · have e : wrB bs a s off width v = bs := by simp [wrB, h]
    rw [e]
    refine (rwrite_no p g cap bs a s off width v w hM ha0 ha1 hs0 hs1 h).mono ?_
    rintro e w' ⟨rfl, hb⟩
    exact ⟨rfl, hM.below hb, Kept.of hb⟩

end Go.Proofs.YtkgkfgfnhjhabaaDoor
