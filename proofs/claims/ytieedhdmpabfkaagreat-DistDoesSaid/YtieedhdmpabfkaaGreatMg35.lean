import Derived.Test.YtieedhdmpabfkaaGreatMg02
import Derived.Test.YtieedhdmpabfkaaGreatMg34
set_option linter.unusedSimpArgs false
namespace Go.Proofs.YtieedhdmpabfkaaGreat
open Go.ChangeShapes Go.WideShapes Go.ChangeAt Go.RowKit Go.Shelf
set_option linter.unusedVariables false
attribute [local go_sem] Oper.semAt_some
section
variable {w W : World} {p q r s : Nat} {b c b' c' : Nat → Nat} {D D' : Ds}
def ownActV (D : Ds) (off k : Int) (v : Nat) : Ds := if (frV off 4).2 = 0 then (writeOwnV D k (frV off 4).1 v).1 else D
set_option maxRecDepth 100000 in
set_option maxHeartbeats 4000000 in
theorem does_own (h : TwD w p q r s b c b' c' D) (ok : D.Ok) (off k id : Int) (v : Nat) (a : Int) (se sl sh sa hh : Bool) (hoff : Int64 off) (hv : v < 18446744073709551616) :
  Calls Tryz.prog 15 #[.pointer (some ⟨b 0, 0, none⟩), .pointer (some ⟨b' 0, 0, none⟩), .agg #[.int .i64 2, .int .i64 off, .int .i64 k, .int .i64 id, .int .u64 v, .int .i64 a, .bool se, .bool sl, .bool sh, .bool sa, .bool hh]] w fun e w' => e = .returned (.bool true) ∧ TwAf w p q r s b c b' c' (ownActV D off k v) w' := by
 have HB0 := hi (bal w (.cells #[.int .i64 2, .int .i64 off, .int .i64 k, .int .i64 id, .int .u64 v, .int .i64 a, .bool se, .bool sl, .bool sh, .bool sa, .bool hh] 33))
 have HT0 := hi h
 have HLE := hi (show q ≤ w.heap.size ∧ s ≤ w.heap.size from ⟨h.di.le, h.rd.le⟩)
 have HPB := hi (CB.new w 33 #[.int .i64 2, .int .i64 off, .int .i64 k, .int .i64 id, .int .u64 v, .int .i64 a, .bool se, .bool sl, .bool sh, .bool sa, .bool hh])
 have HF := hi (fun W => refRedist_any off 4 W hoff)
 have hp := fr_few off 4
 unfold ownActV
 obtain ⟨⟨⟨pr, pf, pn⟩, er⟩, hE⟩ : ∃ R, frV off 4 = R := ⟨_, rfl⟩
 rw [hE] at HF hp ⊢
 dsimp only at hp ⊢
 unfold Finds at HF
 dsimp only [Pl.v] at HF
 have HP := hi (fun W (z : DiAt W p q b c D) => writeOwn_dist z ok (k := k) v hv hp)
 have HR := hi (fun W (z : RdAt W r s b' c' D) => rwriteOwn_dist z ok (k := k) v hv hp)
 obtain ⟨⟨E, e9⟩, hE9⟩ : ∃ R, writeOwnV D k ⟨pr, pf, pn⟩ v = R := ⟨_, rfl⟩
 rw [hE9] at HP HR ⊢
 dsimp only [Pl.v] at HP HR
 dsimp only
 clear h hE ok hE9 hp
 by_cases he : er = 0
 ·subst he
  rw [if_pos rfl]
  go_enter Tryz.func15, Tryz.ntmps15
  go_wp2_with (go_at_call 47; ((with_reducible refine (HF.out _).mono ?_); rintro e' wF ⟨rfl, hb⟩; have HB1' := hi (HB0.out.trans ((hb.alloc hb.size (.cells #[.int .i64 pr, .int .i64 pf, .int .i64 pn] 70)).mono HB0.out.size)); have hsz := hb.size; have HPBF := hi ((HPB.out.below hb).alloc (.cells #[.int .i64 pr, .int .i64 pf, .int .i64 pn] 70)); have HPL := hi (CB.new wF 70 #[.int .i64 pr, .int .i64 pf, .int .i64 pn]); clear hb))
  rw [World.size_alloc] at hsz
  obtain ⟨W1, hW1⟩ : ∃ W1, wF.alloc (.cells #[.int .i64 pr, .int .i64 pf, .int .i64 pn] 70) = W1 := ⟨_, rfl⟩
  obtain ⟨N, hN⟩ : ∃ N, wF.heap.size = N := ⟨_, rfl⟩
  rw [hW1] at HB1' HPBF HPL ⊢
  rw [hN] at HPL hsz ⊢
  have HB1 := hi (show Below w.heap.size w W1.drew from Below.drewN (m := 1) HB1'.out)
  have HT2 := hi (HT0.out.below HB1.out)
  clear hW1 hN
  refine wp_region_noPanic ?_
  refine wp_region_last_drew (S := (fun W' => CB W' w.heap.size 33 #[.int .i64 2, .int .i64 off, .int .i64 k, .int .i64 id, .int .u64 v, .int .i64 a, .bool se, .bool sl, .bool sh, .bool sa, .bool hh] ∧ CB W' N 70 #[.int .i64 pr, .int .i64 pf, .int .i64 pn])) [] (by kernel_rfl) ⟨HPBF.out.drew, HPL.out.drew⟩ (fun hHeld => ?_)
  (try simp only [r1, r2, r3, r4, r5])
  refine tk 0 (v := ?_) rfl (Or.inl ⟨by rfl, ?_⟩) ?_
  rotate_left
  ·intro w' hSw; (try dsimp only at hSw); have p1 := hSw.1.cell 1; have p2 := hSw.1.cell 2; have p3 := hSw.1.cell 3; have p4 := hSw.1.cell 4; have z0 := hSw.2.cell 0; have z1 := hSw.2.cell 1; have z2 := hSw.2.cell 2; go_simp; (try with_reducible rfl)
  (try simp only [Act.put, n1, n2, n4, n5, n6])
  refine tk 1 (v := ?_) rfl (Or.inl ⟨by rfl, ?_⟩) ?_
  rotate_left
  ·intro w' hSw; (try dsimp only at hSw); have p1 := hSw.1.cell 1; have p2 := hSw.1.cell 2; have p3 := hSw.1.cell 3; have p4 := hSw.1.cell 4; have z0 := hSw.2.cell 0; have z1 := hSw.2.cell 1; have z2 := hSw.2.cell 2; go_simp; (try with_reducible rfl)
  (try simp only [Act.put, n1, n2, n3, n4, n5, n6])
  refine tk 2 (v := ?_) rfl (Or.inl ⟨by rfl, ?_⟩) ?_
  rotate_left
  ·intro w' hSw; (try dsimp only at hSw); have p1 := hSw.1.cell 1; have p2 := hSw.1.cell 2; have p3 := hSw.1.cell 3; have p4 := hSw.1.cell 4; have z0 := hSw.2.cell 0; have z1 := hSw.2.cell 1; have z2 := hSw.2.cell 2; go_simp; (try with_reducible rfl)
  (try simp only [Act.put, n1, n2, n3, n4, n5, n6])
  refine tk 3 (v := ?_) rfl (Or.inl ⟨by rfl, ?_⟩) ?_
  rotate_left
  ·intro w' hSw; (try dsimp only at hSw); have p1 := hSw.1.cell 1; have p2 := hSw.1.cell 2; have p3 := hSw.1.cell 3; have p4 := hSw.1.cell 4; have z0 := hSw.2.cell 0; have z1 := hSw.2.cell 1; have z2 := hSw.2.cell 2; go_simp; (try with_reducible rfl)
  (try simp only [Act.put, n1, n2, n3, n4, n5, n6])
  refine tk 4 (v := ?_) rfl (Or.inl ⟨by rfl, ?_⟩) ?_
  rotate_left
  ·intro w' hSw; (try dsimp only at hSw); have p1 := hSw.1.cell 1; have p2 := hSw.1.cell 2; have p3 := hSw.1.cell 3; have p4 := hSw.1.cell 4; have z0 := hSw.2.cell 0; have z1 := hSw.2.cell 1; have z2 := hSw.2.cell 2; go_simp; (try with_reducible rfl)
  (try simp only [Act.put, n1, n2, n3, n4, n5, n6])
  refine tk 5 (v := ?_) rfl (Or.inl ⟨by rfl, ?_⟩) ?_
  rotate_left
  ·intro w' hSw; (try dsimp only at hSw); have p1 := hSw.1.cell 1; have p2 := hSw.1.cell 2; have p3 := hSw.1.cell 3; have p4 := hSw.1.cell 4; have z0 := hSw.2.cell 0; have z1 := hSw.2.cell 1; have z2 := hSw.2.cell 2; go_simp; (try with_reducible rfl)
  (try simp only [Act.put, n1, n2, n3, n4, n5, n6])
  refine tk 6 (v := ?_) rfl (Or.inl ⟨by rfl, ?_⟩) ?_
  rotate_left
  ·intro w' hSw; (try dsimp only at hSw); have p1 := hSw.1.cell 1; have p2 := hSw.1.cell 2; have p3 := hSw.1.cell 3; have p4 := hSw.1.cell 4; have z0 := hSw.2.cell 0; have z1 := hSw.2.cell 1; have z2 := hSw.2.cell 2; go_simp; (try with_reducible rfl)
  (try simp only [Act.put, n1, n2, n3, n4, n5, n6])
  refine tk 7 (v := ?_) rfl (Or.inl ⟨by rfl, ?_⟩) ?_
  rotate_left
  ·intro w' hSw; (try dsimp only at hSw); have p1 := hSw.1.cell 1; have p2 := hSw.1.cell 2; have p3 := hSw.1.cell 3; have p4 := hSw.1.cell 4; have z0 := hSw.2.cell 0; have z1 := hSw.2.cell 1; have z2 := hSw.2.cell 2; go_simp; (try with_reducible rfl)
  (try simp only [Act.put, n1, n2, n3, n4, n5, n6])
  refine tk 8 (v := ?_) rfl (Or.inl ⟨by rfl, ?_⟩) ?_
  rotate_left
  ·intro w' hSw; (try dsimp only at hSw); have p1 := hSw.1.cell 1; have p2 := hSw.1.cell 2; have p3 := hSw.1.cell 3; have p4 := hSw.1.cell 4; have z0 := hSw.2.cell 0; have z1 := hSw.2.cell 1; have z2 := hSw.2.cell 2; go_simp; (try with_reducible rfl)
  (try simp only [Act.put, n1, n2, n3, n4, n5, n6])
  refine tk 10 (v := ?_) rfl (Or.inl ⟨by rfl, ?_⟩) ?_
  rotate_left
  ·intro w' hSw; (try dsimp only at hSw); have p1 := hSw.1.cell 1; have p2 := hSw.1.cell 2; have p3 := hSw.1.cell 3; have p4 := hSw.1.cell 4; have z0 := hSw.2.cell 0; have z1 := hSw.2.cell 1; have z2 := hSw.2.cell 2; go_simp; (try with_reducible rfl)
  (try simp only [Act.put, n1, n2, n3, n4, n5, n6])
  refine tk 11 (v := ?_) rfl (Or.inl ⟨by rfl, ?_⟩) ?_
  rotate_left
  ·intro w' hSw; (try dsimp only at hSw); have p1 := hSw.1.cell 1; have p2 := hSw.1.cell 2; have p3 := hSw.1.cell 3; have p4 := hSw.1.cell 4; have z0 := hSw.2.cell 0; have z1 := hSw.2.cell 1; have z2 := hSw.2.cell 2; go_simp; (try with_reducible rfl)
  (try simp only [Act.put, n1, n2, n3, n4, n5, n6])
  refine tk 12 (v := ?_) rfl (Or.inl ⟨by rfl, ?_⟩) ?_
  rotate_left
  ·intro w' hSw; (try dsimp only at hSw); have p1 := hSw.1.cell 1; have p2 := hSw.1.cell 2; have p3 := hSw.1.cell 3; have p4 := hSw.1.cell 4; have z0 := hSw.2.cell 0; have z1 := hSw.2.cell 1; have z2 := hSw.2.cell 2; go_simp; (try with_reducible rfl)
  (try simp only [Act.put, n1, n2, n3, n4, n5, n6])
  refine tk 13 (v := ?_) rfl (Or.inl ⟨by rfl, ?_⟩) ?_
  rotate_left
  ·intro w' hSw; (try dsimp only at hSw); have p1 := hSw.1.cell 1; have p2 := hSw.1.cell 2; have p3 := hSw.1.cell 3; have p4 := hSw.1.cell 4; have z0 := hSw.2.cell 0; have z1 := hSw.2.cell 1; have z2 := hSw.2.cell 2; go_simp; (try with_reducible rfl)
  (try simp only [Act.put, n1, n2, n3, n4, n5, n6])
  refine tk 14 (v := ?_) rfl (Or.inl ⟨by rfl, ?_⟩) ?_
  rotate_left
  ·intro w' hSw; (try dsimp only at hSw); have p1 := hSw.1.cell 1; have p2 := hSw.1.cell 2; have p3 := hSw.1.cell 3; have p4 := hSw.1.cell 4; have z0 := hSw.2.cell 0; have z1 := hSw.2.cell 1; have z2 := hSw.2.cell 2; go_simp; (try with_reducible rfl)
  (try simp only [Act.put, n1, n2, n3, n4, n5, n6])
  refine tk 15 (v := ?_) rfl (Or.inl ⟨by rfl, ?_⟩) ?_
  rotate_left
  ·intro w' hSw; (try dsimp only at hSw); have p1 := hSw.1.cell 1; have p2 := hSw.1.cell 2; have p3 := hSw.1.cell 3; have p4 := hSw.1.cell 4; have z0 := hSw.2.cell 0; have z1 := hSw.2.cell 1; have z2 := hSw.2.cell 2; go_simp; (try with_reducible rfl)
  (try simp only [Act.put, n1, n2, n3, n4, n5, n6])
  refine wpAnyF_ready (rs := [9]) (by kernel_rfl) (by simp) ?_
  refine AllReadyF.cons rfl (fun KK hKK => ?_) AllReadyF.nil
  go_simp
  ((with_reducible refine (HP.out _ HT2.out.di).mono ?_); rintro e' w4 ⟨rfl, hA⟩; have HA4 := hi hA; have hSS := And.intro (hHeld.1.keptB hA.kept (fun z => by have := z.2; have := HLE.out.1; omega)) (hHeld.2.keptB hA.kept (fun z => by have := z.2; have := HLE.out.1; omega)); clear hA)
  (try go_simp)
  refine hKK.out _ _ hSS (fun hHeld => ?_)
  clear hKK KK
  (try simp only [Act.put, n1, n2, n3, n4, n5, n6])
  refine wpAnyF_ready (rs := [16]) (by kernel_rfl) (by simp) ?_
  refine AllReadyF.cons rfl (fun KK hKK => ?_) AllReadyF.nil
  go_simp
  ((with_reducible refine (HR.out _ (HT2.out.mid HA4.out)).mono ?_); rintro e' w5 ⟨rfl, hA⟩; have HA5 := hi hA; have hSS := And.intro (hHeld.1.keptB hA.kept (fun z => by have := z.2; have := HLE.out.2; omega)) (hHeld.2.keptB hA.kept (fun z => by have := z.2; have := HLE.out.2; omega)); clear hA)
  (try go_simp)
  refine hKK.out _ _ hSS (fun hHeld => ?_)
  clear hKK KK
  (try simp only [Act.put, n1, n2, n3, n4, n5, n6])
  refine tk 17 (v := ?_) rfl (Or.inl ⟨by rfl, ?_⟩) ?_
  rotate_left
  ·intro w' hSw; (try dsimp only at hSw); have p1 := hSw.1.cell 1; have p2 := hSw.1.cell 2; have p3 := hSw.1.cell 3; have p4 := hSw.1.cell 4; have z0 := hSw.2.cell 0; have z1 := hSw.2.cell 1; have z2 := hSw.2.cell 2; go_simp; (try with_reducible rfl)
  (try simp only [Act.put, n1, n2, n3, n4, n5, n6])
  refine tk 18 (v := ?_) rfl (Or.inl ⟨by rfl, ?_⟩) ?_
  rotate_left
  ·intro w' hSw; (try dsimp only at hSw); have p1 := hSw.1.cell 1; have p2 := hSw.1.cell 2; have p3 := hSw.1.cell 3; have p4 := hSw.1.cell 4; have z0 := hSw.2.cell 0; have z1 := hSw.2.cell 1; have z2 := hSw.2.cell 2; go_simp; (try with_reducible rfl)
  (try simp only [Act.put, n1, n2, n3, n4, n5, n6])
  refine tk 19 (v := ?_) rfl (Or.inl ⟨by rfl, ?_⟩) ?_
  rotate_left
  ·intro w' hSw; (try dsimp only at hSw); have p1 := hSw.1.cell 1; have p2 := hSw.1.cell 2; have p3 := hSw.1.cell 3; have p4 := hSw.1.cell 4; have z0 := hSw.2.cell 0; have z1 := hSw.2.cell 1; have z2 := hSw.2.cell 2; go_simp; (try with_reducible rfl)
  (try simp only [Act.put, n1, n2, n3, n4, n5, n6])
  refine wpAnyF_done (by kernel_rfl) ?_ _
  refine NoPanic.normal ?_
  go_wp2
  go_ret
  exact ⟨rfl, TwAf.from_ HB1.out (HT2.out.acts HA4.out HA5.out)⟩
 ·rw [if_neg he]
  have he2 : (er != 0) = true := by simpa using he
  clear he
  go_enter Tryz.func15, Tryz.ntmps15
  go_wp2_with (go_at_call 47; ((with_reducible refine (HF.out _).mono ?_); rintro e' wF ⟨rfl, hb⟩; have HB1' := hi (HB0.out.trans ((hb.alloc hb.size (.cells #[.int .i64 pr, .int .i64 pf, .int .i64 pn] 70)).mono HB0.out.size)); have hsz := hb.size; have HPBF := hi ((HPB.out.below hb).alloc (.cells #[.int .i64 pr, .int .i64 pf, .int .i64 pn] 70)); have HPL := hi (CB.new wF 70 #[.int .i64 pr, .int .i64 pf, .int .i64 pn]); clear hb))
  rw [World.size_alloc] at hsz
  obtain ⟨W1, hW1⟩ : ∃ W1, wF.alloc (.cells #[.int .i64 pr, .int .i64 pf, .int .i64 pn] 70) = W1 := ⟨_, rfl⟩
  obtain ⟨N, hN⟩ : ∃ N, wF.heap.size = N := ⟨_, rfl⟩
  rw [hW1] at HB1' HPBF HPL ⊢
  rw [hN] at HPL hsz ⊢
  have HB1 := hi (show Below w.heap.size w W1.drew from Below.drewN (m := 1) HB1'.out)
  have HT2 := hi (HT0.out.below HB1.out)
  clear hW1 hN
  refine wp_region_noPanic ?_
  refine wp_region_last_drew (S := (fun W' => CB W' w.heap.size 33 #[.int .i64 2, .int .i64 off, .int .i64 k, .int .i64 id, .int .u64 v, .int .i64 a, .bool se, .bool sl, .bool sh, .bool sa, .bool hh] ∧ CB W' N 70 #[.int .i64 pr, .int .i64 pf, .int .i64 pn])) [] (by kernel_rfl) ⟨HPBF.out.drew, HPL.out.drew⟩ (fun hHeld => ?_)
  (try simp only [r1, r2, r3, r4, r5])
  refine tk 0 (v := ?_) rfl (Or.inl ⟨by rfl, ?_⟩) ?_
  rotate_left
  ·intro w' hSw; (try dsimp only at hSw); have p1 := hSw.1.cell 1; have p2 := hSw.1.cell 2; have p3 := hSw.1.cell 3; have p4 := hSw.1.cell 4; have z0 := hSw.2.cell 0; have z1 := hSw.2.cell 1; have z2 := hSw.2.cell 2; go_simp; (try with_reducible rfl)
  (try simp only [Act.put, n1, n2, n4, n5, n6])
  refine tk 1 (v := ?_) rfl (Or.inl ⟨by rfl, ?_⟩) ?_
  rotate_left
  ·intro w' hSw; (try dsimp only at hSw); have p1 := hSw.1.cell 1; have p2 := hSw.1.cell 2; have p3 := hSw.1.cell 3; have p4 := hSw.1.cell 4; have z0 := hSw.2.cell 0; have z1 := hSw.2.cell 1; have z2 := hSw.2.cell 2; go_simp; (try with_reducible rfl)
  (try simp only [Act.put, n1, n2, n3, n4, n5, n6])
  refine tk 2 (v := ?_) rfl (Or.inl ⟨by rfl, ?_⟩) ?_
  rotate_left
  ·intro w' hSw; (try dsimp only at hSw); have p1 := hSw.1.cell 1; have p2 := hSw.1.cell 2; have p3 := hSw.1.cell 3; have p4 := hSw.1.cell 4; have z0 := hSw.2.cell 0; have z1 := hSw.2.cell 1; have z2 := hSw.2.cell 2; go_simp; (try with_reducible rfl)
  (try simp only [Act.put, n1, n2, n3, n4, n5, n6])
  refine tk 3 (v := undef) rfl (Or.inr ⟨by rfl, rfl⟩) ?_
  (try simp only [Act.put, n1, n2, n3, n4, n5, n6])
  refine tk 4 (v := undef) rfl (Or.inr ⟨by rfl, rfl⟩) ?_
  (try simp only [Act.put, n1, n2, n3, n4, n5, n6])
  refine tk 5 (v := undef) rfl (Or.inr ⟨by rfl, rfl⟩) ?_
  (try simp only [Act.put, n1, n2, n3, n4, n5, n6])
  refine tk 6 (v := undef) rfl (Or.inr ⟨by rfl, rfl⟩) ?_
  (try simp only [Act.put, n1, n2, n3, n4, n5, n6])
  refine tk 7 (v := undef) rfl (Or.inr ⟨by rfl, rfl⟩) ?_
  (try simp only [Act.put, n1, n2, n3, n4, n5, n6])
  refine tk 8 (v := undef) rfl (Or.inr ⟨by rfl, rfl⟩) ?_
  (try simp only [Act.put, n1, n2, n3, n4, n5, n6])
  refine tk 9 (v := undef) rfl (Or.inr ⟨by rfl, rfl⟩) ?_
  (try simp only [Act.put, n1, n2, n3, n4, n5, n6])
  refine tk 10 (v := undef) rfl (Or.inr ⟨by rfl, rfl⟩) ?_
  (try simp only [Act.put, n1, n2, n3, n4, n5, n6])
  refine tk 11 (v := undef) rfl (Or.inr ⟨by rfl, rfl⟩) ?_
  (try simp only [Act.put, n1, n2, n3, n4, n5, n6])
  refine tk 12 (v := undef) rfl (Or.inr ⟨by rfl, rfl⟩) ?_
  (try simp only [Act.put, n1, n2, n3, n4, n5, n6])
  refine tk 13 (v := undef) rfl (Or.inr ⟨by rfl, rfl⟩) ?_
  (try simp only [Act.put, n1, n2, n3, n4, n5, n6])
  refine tk 14 (v := undef) rfl (Or.inr ⟨by rfl, rfl⟩) ?_
  (try simp only [Act.put, n1, n2, n3, n4, n5, n6])
  refine tk 15 (v := undef) rfl (Or.inr ⟨by rfl, rfl⟩) ?_
  (try simp only [Act.put, n1, n2, n3, n4, n5, n6])
  refine tk 16 (v := undef) rfl (Or.inr ⟨by rfl, rfl⟩) ?_
  (try simp only [Act.put, n1, n2, n3, n4, n5, n6])
  refine tk 17 (v := undef) rfl (Or.inr ⟨by rfl, rfl⟩) ?_
  (try simp only [Act.put, n1, n2, n3, n4, n5, n6])
  refine tk 18 (v := ?_) rfl (Or.inl ⟨by rfl, ?_⟩) ?_
  rotate_left
  ·intro w' hSw; (try dsimp only at hSw); have p1 := hSw.1.cell 1; have p2 := hSw.1.cell 2; have p3 := hSw.1.cell 3; have p4 := hSw.1.cell 4; have z0 := hSw.2.cell 0; have z1 := hSw.2.cell 1; have z2 := hSw.2.cell 2; go_simp; (try with_reducible rfl)
  (try simp only [Act.put, n1, n2, n3, n4, n5, n6])
  refine tk 19 (v := ?_) rfl (Or.inl ⟨by rfl, ?_⟩) ?_
  rotate_left
  ·intro w' hSw; (try dsimp only at hSw); have p1 := hSw.1.cell 1; have p2 := hSw.1.cell 2; have p3 := hSw.1.cell 3; have p4 := hSw.1.cell 4; have z0 := hSw.2.cell 0; have z1 := hSw.2.cell 1; have z2 := hSw.2.cell 2; go_simp; (try with_reducible rfl)
  (try simp only [Act.put, n1, n2, n3, n4, n5, n6])
  refine wpAnyF_done (by kernel_rfl) ?_ _
  refine NoPanic.normal ?_
  go_wp2
  go_ret
  exact ⟨rfl, TwAf.of HT0.out HB1.out⟩
end
end Go.Proofs.YtieedhdmpabfkaaGreat
namespace Go.Proofs.YtieedhdmpabfkaaGreat
open Go.ChangeShapes Go.WideShapes Go.ChangeAt Go.RowKit Go.Shelf
set_option linter.unusedVariables false
def stepD (D : Ds) (x : Xa) : Ds :=
 if x.d = 1 then (writeDV D x.off (wdV x.hi) x.v).1 else if x.d = 2 then ownActV D x.off x.k x.v else if x.d = 3 then (wireV D x.k x.id x.hi).1 else if x.d = 4 then (doV D x.k x.id x.a).1
 else if x.d = 5 then (putV D x.k x.id x.s).1 else if x.d = 6 then (callDV D x.k x.id x.v).1.1 else D
section
variable {w W : World} {p q r s : Nat} {b c b' c' : Nat → Nat} {D D' : Ds}
theorem does_any (h : TwD w p q r s b c b' c' D) (ok : D.Ok) (x : Xa) (hx : x.Ok) :
  Calls Tryz.prog 15 #[.pointer (some ⟨b 0, 0, none⟩), .pointer (some ⟨b' 0, 0, none⟩), x.v_] w fun e w' => e = .returned (.bool true) ∧ TwAf w p q r s b c b' c' (stepD D x) w' := by
 obtain ⟨d, off, k, id, v, a, ⟨se, sl, sh, sa⟩, hh⟩ := x
 unfold stepD
 dsimp only
 by_cases h1 : d = 1
 ·subst h1; rw [if_pos rfl]; exact does_write h ok off k id v a se sl sh sa hh hx.off hx.v
 rw [if_neg h1]
 by_cases h2 : d = 2
 ·subst h2; rw [if_pos rfl]; exact does_own h ok off k id v a se sl sh sa hh hx.off hx.v
 rw [if_neg h2]
 by_cases h3 : d = 3
 ·subst h3; rw [if_pos rfl]; exact does_wire h ok off k id v a se sl sh sa hh hx.id
 rw [if_neg h3]
 by_cases h4 : d = 4
 ·subst h4; rw [if_pos rfl]; exact does_do h ok off k id v a se sl sh sa hh hx.id
 rw [if_neg h4]
 by_cases h5 : d = 5
 ·subst h5; rw [if_pos rfl]; exact does_put h ok off k id v a se sl sh sa hh hx.id
 rw [if_neg h5]
 by_cases h6 : d = 6
 ·subst h6; rw [if_pos rfl]; exact does_call h ok off k id v a se sl sh sa hh hx.v
 rw [if_neg h6]
 exact does_rest h d off k id v a se sl sh sa hh h1 h2 h3 h4 h5 h6
end
theorem stepD_ok {D : Ds} (ok : D.Ok) (x : Xa) : (stepD D x).Ok := by
 unfold stepD
 split
 ·exact writeDV_ok ok _ _ _
 split
 ·unfold ownActV
  split
  ·exact writeOwnV_ok ok _ _ _
  ·exact ok
 split
 ·exact wireV_ok ok _ _ _
 split
 ·exact doV_ok ok _ _ _
 split
 ·exact putV_ok ok _ _ _
 split
 ·exact callDV_ok ok _ _ _
 ·exact ok
end Go.Proofs.YtieedhdmpabfkaaGreat
