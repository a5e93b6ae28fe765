import Derived.Test.YtieedhdmpabfkaaGreatMg02
import Derived.Test.YtieedhdmpabfkaaGreatMg33
set_option linter.unusedSimpArgs false
namespace Go.Proofs.YtieedhdmpabfkaaGreat
open Go.ChangeShapes Go.WideShapes Go.ChangeAt Go.RowKit Go.Shelf
set_option linter.unusedVariables false
attribute [local go_sem] Oper.semAt_some
section
variable {w W : World} {p q r s : Nat} {b c b' c' : Nat → Nat} {D D' : Ds}
theorem DiAf.then_ {lo hi : Nat} {W' : World} (h : DiAf w lo hi b c D W) (k : Below W.heap.size W W') : DiAf w lo hi b c D W' := ⟨h.di.below k, h.kept.trans (Kept.of k)⟩
def wdV (hh : Bool) : Int := if hh then 8 else 4
set_option maxRecDepth 100000 in
set_option maxHeartbeats 4000000 in
theorem does_write (h : TwD w p q r s b c b' c' D) (ok : D.Ok) (off k id : Int) (v : Nat) (a : Int) (se sl sh sa hh : Bool) (hoff : Int64 off) (hv : v < 18446744073709551616) :
  Calls Tryz.prog 15 #[.pointer (some ⟨b 0, 0, none⟩), .pointer (some ⟨b' 0, 0, none⟩), .agg #[.int .i64 1, .int .i64 off, .int .i64 k, .int .i64 id, .int .u64 v, .int .i64 a, .bool se, .bool sl, .bool sh, .bool sa, .bool hh]] w fun e w' => e = .returned (.bool true) ∧ TwAf w p q r s b c b' c' (writeDV D off (wdV hh) v).1 w' := by
 have hbal := bal w (.cells #[.int .i64 1, .int .i64 off, .int .i64 k, .int .i64 id, .int .u64 v, .int .i64 a, .bool se, .bool sl, .bool sh, .bool sa, .bool hh] 33)
 have HB0 := hi (show Below w.heap.size w (w.alloc (.cells #[.int .i64 1, .int .i64 off, .int .i64 k, .int .i64 id, .int .u64 v, .int .i64 a, .bool se, .bool sl, .bool sh, .bool sa, .bool hh] 33)).drew from Below.drewN (m := 1) hbal)
 have HT1 := hi (h.below HB0.out)
 have HLE := hi (show q ≤ w.heap.size ∧ s ≤ w.heap.size from ⟨h.di.le, h.rd.le⟩)
 have HPB := hi ((CB.new w 33 #[.int .i64 1, .int .i64 off, .int .i64 k, .int .i64 id, .int .u64 v, .int .i64 a, .bool se, .bool sl, .bool sh, .bool sa, .bool hh]).drew_)
 obtain ⟨Wd, hWd⟩ : ∃ Wd, (w.alloc (.cells #[.int .i64 1, .int .i64 off, .int .i64 k, .int .i64 id, .int .u64 v, .int .i64 a, .bool se, .bool sl, .bool sh, .bool sa, .bool hh] 33)).drew = Wd := ⟨_, rfl⟩
 rw [hWd] at HB0 HT1 HPB
 have HWI := hi (fun W => show Calls Tryz.prog 45 #[.agg #[.int .i64 1, .int .i64 off, .int .i64 k, .int .i64 id, .int .u64 v, .int .i64 a, .bool se, .bool sl, .bool sh, .bool sa, .bool hh]] W fun e w' => e = .returned (.int .i64 (wdV hh)) ∧ Below W.heap.size W w' from wide_any ⟨1, off, k, id, v, a, ⟨se, sl, sh, sa⟩, hh⟩ W)
 obtain ⟨wd, hwd⟩ : ∃ wd, wdV hh = wd := ⟨_, rfl⟩
 rw [hwd] at HWI ⊢
 have HP := hi (fun W (z : DiAt W p q b c D) => write_dist z ok hoff (wd := wd) v hv)
 have HR := hi (fun W (z : RdAt W r s b' c' D) => rwrite_dist z ok hoff (wd := wd) v hv)
 obtain ⟨⟨E, er⟩, hE⟩ : ∃ R, writeDV D off wd v = R := ⟨_, rfl⟩
 rw [hE] at HP HR ⊢
 dsimp only at HP HR ⊢
 clear h hE ok hbal hwd
 go_enter Tryz.func15, Tryz.ntmps15
 go_wp2
 refine wp_region_noPanic ?_
 refine wp_region_last_drew (S := (fun W' => CB W' w.heap.size 33 #[.int .i64 1, .int .i64 off, .int .i64 k, .int .i64 id, .int .u64 v, .int .i64 a, .bool se, .bool sl, .bool sh, .bool sa, .bool hh])) [] (by kernel_rfl) (by rw [hWd]; exact HPB.out) (fun hHeld => ?_)
 (try simp only [r1, r2, r3, r4, r5])
 rw [hWd] at hHeld ⊢
 refine tk 0 (v := ?_) rfl (Or.inl ⟨by rfl, ?_⟩) ?_
 rotate_left
 ·intro w' hSw; (try dsimp only at hSw); have p0 := hSw.cell 0; have p1 := hSw.cell 1; have p2 := hSw.cell 2; have p3 := hSw.cell 3; have p4 := hSw.cell 4; have p5 := hSw.cell 5; have p6 := hSw.cell 6; have p7 := hSw.cell 7; have p8 := hSw.cell 8; have p9 := hSw.cell 9; have p10 := hSw.cell 10; go_simp; (try with_reducible rfl)
 (try simp only [Act.put, n1, n2, n4, n5, n6])
 refine tk 1 (v := ?_) rfl (Or.inl ⟨by rfl, ?_⟩) ?_
 rotate_left
 ·intro w' hSw; (try dsimp only at hSw); have p0 := hSw.cell 0; have p1 := hSw.cell 1; have p2 := hSw.cell 2; have p3 := hSw.cell 3; have p4 := hSw.cell 4; have p5 := hSw.cell 5; have p6 := hSw.cell 6; have p7 := hSw.cell 7; have p8 := hSw.cell 8; have p9 := hSw.cell 9; have p10 := hSw.cell 10; go_simp; (try with_reducible rfl)
 (try simp only [Act.put, n1, n2, n3, n4, n5, n6])
 refine tk 2 (v := ?_) rfl (Or.inl ⟨by rfl, ?_⟩) ?_
 rotate_left
 ·intro w' hSw; (try dsimp only at hSw); have p0 := hSw.cell 0; have p1 := hSw.cell 1; have p2 := hSw.cell 2; have p3 := hSw.cell 3; have p4 := hSw.cell 4; have p5 := hSw.cell 5; have p6 := hSw.cell 6; have p7 := hSw.cell 7; have p8 := hSw.cell 8; have p9 := hSw.cell 9; have p10 := hSw.cell 10; go_simp; (try with_reducible rfl)
 (try simp only [Act.put, n1, n2, n3, n4, n5, n6])
 refine tk 3 (v := ?_) rfl (Or.inl ⟨by rfl, ?_⟩) ?_
 rotate_left
 ·intro w' hSw; (try dsimp only at hSw); have p0 := hSw.cell 0; have p1 := hSw.cell 1; have p2 := hSw.cell 2; have p3 := hSw.cell 3; have p4 := hSw.cell 4; have p5 := hSw.cell 5; have p6 := hSw.cell 6; have p7 := hSw.cell 7; have p8 := hSw.cell 8; have p9 := hSw.cell 9; have p10 := hSw.cell 10; go_simp; (try with_reducible rfl)
 (try simp only [Act.put, n1, n2, n3, n4, n5, n6])
 refine tk 5 (v := ?_) rfl (Or.inl ⟨by rfl, ?_⟩) ?_
 rotate_left
 ·intro w' hSw; (try dsimp only at hSw); have p0 := hSw.cell 0; have p1 := hSw.cell 1; have p2 := hSw.cell 2; have p3 := hSw.cell 3; have p4 := hSw.cell 4; have p5 := hSw.cell 5; have p6 := hSw.cell 6; have p7 := hSw.cell 7; have p8 := hSw.cell 8; have p9 := hSw.cell 9; have p10 := hSw.cell 10; go_simp; (try with_reducible rfl)
 (try simp only [Act.put, n1, n2, n3, n4, n5, n6])
 refine tk 6 (v := ?_) rfl (Or.inl ⟨by rfl, ?_⟩) ?_
 rotate_left
 ·intro w' hSw; (try dsimp only at hSw); have p0 := hSw.cell 0; have p1 := hSw.cell 1; have p2 := hSw.cell 2; have p3 := hSw.cell 3; have p4 := hSw.cell 4; have p5 := hSw.cell 5; have p6 := hSw.cell 6; have p7 := hSw.cell 7; have p8 := hSw.cell 8; have p9 := hSw.cell 9; have p10 := hSw.cell 10; go_simp; (try with_reducible rfl)
 (try simp only [Act.put, n1, n2, n3, n4, n5, n6])
 refine tk 8 (v := ?_) rfl (Or.inl ⟨by rfl, ?_⟩) ?_
 rotate_left
 ·intro w' hSw; (try dsimp only at hSw); have p0 := hSw.cell 0; have p1 := hSw.cell 1; have p2 := hSw.cell 2; have p3 := hSw.cell 3; have p4 := hSw.cell 4; have p5 := hSw.cell 5; have p6 := hSw.cell 6; have p7 := hSw.cell 7; have p8 := hSw.cell 8; have p9 := hSw.cell 9; have p10 := hSw.cell 10; go_simp; (try with_reducible rfl)
 (try simp only [Act.put, n1, n2, n3, n4, n5, n6])
 refine tk 9 (v := ?_) rfl (Or.inl ⟨by rfl, ?_⟩) ?_
 rotate_left
 ·intro w' hSw; (try dsimp only at hSw); have p0 := hSw.cell 0; have p1 := hSw.cell 1; have p2 := hSw.cell 2; have p3 := hSw.cell 3; have p4 := hSw.cell 4; have p5 := hSw.cell 5; have p6 := hSw.cell 6; have p7 := hSw.cell 7; have p8 := hSw.cell 8; have p9 := hSw.cell 9; have p10 := hSw.cell 10; go_simp; (try with_reducible rfl)
 (try simp only [Act.put, n1, n2, n3, n4, n5, n6])
 refine tk 10 (v := ?_) rfl (Or.inl ⟨by rfl, ?_⟩) ?_
 rotate_left
 ·intro w' hSw; (try dsimp only at hSw); have p0 := hSw.cell 0; have p1 := hSw.cell 1; have p2 := hSw.cell 2; have p3 := hSw.cell 3; have p4 := hSw.cell 4; have p5 := hSw.cell 5; have p6 := hSw.cell 6; have p7 := hSw.cell 7; have p8 := hSw.cell 8; have p9 := hSw.cell 9; have p10 := hSw.cell 10; go_simp; (try with_reducible rfl)
 (try simp only [Act.put, n1, n2, n3, n4, n5, n6])
 refine tk 11 (v := ?_) rfl (Or.inl ⟨by rfl, ?_⟩) ?_
 rotate_left
 ·intro w' hSw; (try dsimp only at hSw); have p0 := hSw.cell 0; have p1 := hSw.cell 1; have p2 := hSw.cell 2; have p3 := hSw.cell 3; have p4 := hSw.cell 4; have p5 := hSw.cell 5; have p6 := hSw.cell 6; have p7 := hSw.cell 7; have p8 := hSw.cell 8; have p9 := hSw.cell 9; have p10 := hSw.cell 10; go_simp; (try with_reducible rfl)
 (try simp only [Act.put, n1, n2, n3, n4, n5, n6])
 refine tk 13 (v := ?_) rfl (Or.inl ⟨by rfl, ?_⟩) ?_
 rotate_left
 ·intro w' hSw; (try dsimp only at hSw); have p0 := hSw.cell 0; have p1 := hSw.cell 1; have p2 := hSw.cell 2; have p3 := hSw.cell 3; have p4 := hSw.cell 4; have p5 := hSw.cell 5; have p6 := hSw.cell 6; have p7 := hSw.cell 7; have p8 := hSw.cell 8; have p9 := hSw.cell 9; have p10 := hSw.cell 10; go_simp; (try with_reducible rfl)
 (try simp only [Act.put, n1, n2, n3, n4, n5, n6])
 refine tk 14 (v := ?_) rfl (Or.inl ⟨by rfl, ?_⟩) ?_
 rotate_left
 ·intro w' hSw; (try dsimp only at hSw); have p0 := hSw.cell 0; have p1 := hSw.cell 1; have p2 := hSw.cell 2; have p3 := hSw.cell 3; have p4 := hSw.cell 4; have p5 := hSw.cell 5; have p6 := hSw.cell 6; have p7 := hSw.cell 7; have p8 := hSw.cell 8; have p9 := hSw.cell 9; have p10 := hSw.cell 10; go_simp; (try with_reducible rfl)
 (try simp only [Act.put, n1, n2, n3, n4, n5, n6])
 refine wpAnyF_ready (rs := [4]) (by kernel_rfl) (by simp) ?_
 refine AllReadyF.cons rfl (fun KK hKK => ?_) AllReadyF.nil
 go_simp
 ((with_reducible refine (HWI.out _).mono ?_); rintro e' w3 ⟨rfl, hb⟩; have HB3 := hi hb; have HT3 := hi (HT1.out.below hb); have hSS := hHeld.below hb; clear hb)
 (try go_simp)
 refine hKK.out _ _ hSS (fun hHeld => ?_)
 clear hKK KK
 (try simp only [Act.put, n1, n2, n3, n4, n5, n6])
 refine wpAnyF_ready (rs := [7]) (by kernel_rfl) (by simp) ?_
 refine AllReadyF.cons rfl (fun KK hKK => ?_) AllReadyF.nil
 go_simp
 ((with_reducible refine (HP.out _ HT3.out.di).mono ?_); rintro e' w4 ⟨rfl, hA⟩; have HA4 := hi hA; have hSS := hHeld.keptB hA.kept (fun z => by have := z.2; have := HLE.out.1; omega); clear hA)
 (try go_simp)
 refine hKK.out _ _ hSS (fun hHeld => ?_)
 clear hKK KK
 (try simp only [Act.put, n1, n2, n3, n4, n5, n6])
 refine wpAnyF_ready (rs := [12]) (by kernel_rfl) (by simp) ?_
 refine AllReadyF.cons rfl (fun KK hKK => ?_) AllReadyF.nil
 go_simp
 ((with_reducible refine (HWI.out _).mono ?_); rintro e' w5 ⟨rfl, hb⟩; have HA5 := hi (HA4.out.then_ hb); have hSS := hHeld.below hb; clear hb)
 (try go_simp)
 refine hKK.out _ _ hSS (fun hHeld => ?_)
 clear hKK KK
 (try simp only [Act.put, n1, n2, n3, n4, n5, n6])
 refine wpAnyF_ready (rs := [15]) (by kernel_rfl) (by simp) ?_
 refine AllReadyF.cons rfl (fun KK hKK => ?_) AllReadyF.nil
 go_simp
 ((with_reducible refine (HR.out _ (HT3.out.mid HA5.out)).mono ?_); rintro e' w6 ⟨rfl, hA⟩; have HA6 := hi hA; have hSS := hHeld.keptB hA.kept (fun z => by have := z.2; have := HLE.out.2; omega); clear hA)
 (try go_simp)
 refine hKK.out _ _ hSS (fun hHeld => ?_)
 clear hKK KK
 (try simp only [Act.put, n1, n2, n3, n4, n5, n6])
 refine tk 16 (v := ?_) rfl (Or.inl ⟨by rfl, ?_⟩) ?_
 rotate_left
 ·intro w' hSw; (try dsimp only at hSw); have p0 := hSw.cell 0; have p1 := hSw.cell 1; have p2 := hSw.cell 2; have p3 := hSw.cell 3; have p4 := hSw.cell 4; have p5 := hSw.cell 5; have p6 := hSw.cell 6; have p7 := hSw.cell 7; have p8 := hSw.cell 8; have p9 := hSw.cell 9; have p10 := hSw.cell 10; go_simp; (try with_reducible rfl)
 (try simp only [Act.put, n1, n2, n3, n4, n5, n6])
 refine tk 17 (v := ?_) rfl (Or.inl ⟨by rfl, ?_⟩) ?_
 rotate_left
 ·intro w' hSw; (try dsimp only at hSw); have p0 := hSw.cell 0; have p1 := hSw.cell 1; have p2 := hSw.cell 2; have p3 := hSw.cell 3; have p4 := hSw.cell 4; have p5 := hSw.cell 5; have p6 := hSw.cell 6; have p7 := hSw.cell 7; have p8 := hSw.cell 8; have p9 := hSw.cell 9; have p10 := hSw.cell 10; go_simp; (try with_reducible rfl)
 (try simp only [Act.put, n1, n2, n3, n4, n5, n6])
 refine wpAnyF_done (by kernel_rfl) ?_ _
 refine NoPanic.normal ?_
 go_wp2
 go_ret
 exact ⟨rfl, TwAf.from_ (HB0.out.trans (HB3.out.mono HB0.out.size)) (HT3.out.acts HA5.out HA6.out)⟩
end
end Go.Proofs.YtieedhdmpabfkaaGreat
namespace Go.Proofs.YtieedhdmpabfkaaGreat
open Go.ChangeShapes Go.WideShapes Go.ChangeAt Go.RowKit Go.Shelf
set_option linter.unusedVariables false
attribute [local go_sem] Oper.semAt_some
section
variable {w W : World} {p q r s : Nat} {b c b' c' : Nat → Nat} {D D' : Ds}
set_option maxRecDepth 100000 in
set_option maxHeartbeats 4000000 in
theorem does_call (h : TwD w p q r s b c b' c' D) (ok : D.Ok) (off k id : Int) (v : Nat) (a : Int) (se sl sh sa hh : Bool) (hv : v < 18446744073709551616) :
  Calls Tryz.prog 15 #[.pointer (some ⟨b 0, 0, none⟩), .pointer (some ⟨b' 0, 0, none⟩), .agg #[.int .i64 6, .int .i64 off, .int .i64 k, .int .i64 id, .int .u64 v, .int .i64 a, .bool se, .bool sl, .bool sh, .bool sa, .bool hh]] w fun e w' => e = .returned (.bool true) ∧ TwAf w p q r s b c b' c' (callDV D k id v).1.1 w' := by
 have hbal := bal w (.cells #[.int .i64 6, .int .i64 off, .int .i64 k, .int .i64 id, .int .u64 v, .int .i64 a, .bool se, .bool sl, .bool sh, .bool sa, .bool hh] 33)
 have HB0 := hi hbal
 have HT1 := hi (h.below HB0.out)
 have HLE := hi (show q ≤ w.heap.size ∧ s ≤ w.heap.size from ⟨h.di.le, h.rd.le⟩)
 have HPB := hi (CB.new w 33 #[.int .i64 6, .int .i64 off, .int .i64 k, .int .i64 id, .int .u64 v, .int .i64 a, .bool se, .bool sl, .bool sh, .bool sa, .bool hh])
 have HP := hi (call_dist HT1.out.di ok k id v hv)
 have HR := hi (fun W (z : RdAt W r s b' c' D) => rcall_dist z ok k id v hv)
 obtain ⟨⟨⟨E, n⟩, er⟩, hE⟩ : ∃ R, callDV D k id v = R := ⟨_, rfl⟩
 rw [hE] at HP HR ⊢
 dsimp only at HP HR ⊢
 clear h hE ok hbal
 go_enter Tryz.func15, Tryz.ntmps15
 go_wp2_with (first
  | (go_at_call 28; ((with_reducible refine HP.out.mono ?_); rintro e' w4 ⟨rfl, hA⟩; have HA4 := hi hA; have hp := HPB.out.keptB hA.kept (fun z => by have := z.2; have := HLE.out.1; omega); have HP4 := hi hp; have p2 := hp.cell 2; have p3 := hp.cell 3; have p4 := hp.cell 4; clear hA hp))
  | (go_at_call 53; ((with_reducible refine (HR.out _ (HT1.out.mid HA4.out)).mono ?_); rintro e' w5 ⟨rfl, hA⟩; have HA5 := hi hA; clear hA)))
 go_ret
 exact ⟨rfl, TwAf.from_ HB0.out (HT1.out.acts HA4.out HA5.out)⟩
set_option maxHeartbeats 4000000 in
theorem does_rest (h : TwD w p q r s b c b' c' D) (d off k id : Int) (v : Nat) (a : Int) (se sl sh sa hh : Bool) (h1 : d ≠ 1) (h2 : d ≠ 2) (h3 : d ≠ 3) (h4 : d ≠ 4) (h5 : d ≠ 5) (h6 : d ≠ 6) :
  Calls Tryz.prog 15 #[.pointer (some ⟨b 0, 0, none⟩), .pointer (some ⟨b' 0, 0, none⟩), .agg #[.int .i64 d, .int .i64 off, .int .i64 k, .int .i64 id, .int .u64 v, .int .i64 a, .bool se, .bool sl, .bool sh, .bool sa, .bool hh]] w fun e w' => e = .returned (.bool true) ∧ TwAf w p q r s b c b' c' D w' := by
 have HF := hi (TwAf.of h (bal w (.cells #[.int .i64 d, .int .i64 off, .int .i64 k, .int .i64 id, .int .u64 v, .int .i64 a, .bool se, .bool sl, .bool sh, .bool sa, .bool hh] 33)))
 have q1 : (d == 1) = false := by simpa using h1
 have q2 : (d == 2) = false := by simpa using h2
 have q3 : (d == 3) = false := by simpa using h3
 have q4 : (d == 4) = false := by simpa using h4
 have q5 : (d == 5) = false := by simpa using h5
 have q6 : (d == 6) = false := by simpa using h6
 clear h h1 h2 h3 h4 h5 h6
 go_enter Tryz.func15, Tryz.ntmps15
 go_wp2
 go_ret
 exact ⟨rfl, HF.out⟩
end
end Go.Proofs.YtieedhdmpabfkaaGreat
