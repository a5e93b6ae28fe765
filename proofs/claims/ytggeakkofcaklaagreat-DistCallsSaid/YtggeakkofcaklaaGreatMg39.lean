import Derived.Test.YtggeakkofcaklaaGreatMg38
namespace Go.Proofs.YtggeakkofcaklaaGreat
open Go.ChangeShapes Go.WideShapes Go.ChangeAt Go.RowKit Go.Shelf
set_option linter.unusedVariables false
attribute [local go_sem] Oper.semAt_some
section
variable {w W : World} {p q r s : Nat} {b c b' c' : Nat → Nat} {D D' : Ds}
def ownActV (D : Ds) (off k : Int) (v : Nat) : Ds := if (frV off 4).2 = 0 then (writeOwnV D k (frV off 4).1 v).1 else D
set_option maxRecDepth 100000 in
set_option maxHeartbeats 4000000 in
theorem does_own (h : TwD w p q r s b c b' c' D) (ok : D.Ok) (off k id : Int) (v : Nat) (a : Int) (se sl sh sa hh : Bool) (hoff : Int64 off) (hv : v < 18446744073709551616) :
    Calls Tryz.prog 15 #[.pointer (some ⟨b 0, 0, none⟩), .pointer (some ⟨b' 0, 0, none⟩), .agg #[.int .i64 2, .int .i64 off, .int .i64 k, .int .i64 id, .int .u64 v, .int .i64 a, .bool se, .bool sl, .bool sh, .bool sa, .bool hh]] w fun e w' => e = .returned (.bool true) ∧ TwAf w p q r s b c b' c' (ownActV D off k v) w' := by
  have HB0 := hi (bal w (.cells #[.int .i64 2, .int .i64 off, .int .i64 k, .int .i64 id, .int .u64 v, .int .i64 a, .bool se, .bool sl, .bool sh, .bool sa, .bool hh] 33))
  have HT0 := hi h
  have HLE := hi (show q ≤ w.heap.size ∧ s ≤ w.heap.size from ⟨h.di.le, h.rd.le⟩)
  have HPB := hi (CB.new w 33 #[.int .i64 2, .int .i64 off, .int .i64 k, .int .i64 id, .int .u64 v, .int .i64 a, .bool se, .bool sl, .bool sh, .bool sa, .bool hh])
  have HF := hi (fun W => refRedist_any off 4 W hoff)
  have hp := fr_few off 4
  unfold ownActV
  obtain ⟨⟨⟨pr, pf, pn⟩, er⟩, hE⟩ : ∃ R, frV off 4 = R := ⟨_, rfl⟩
  rw [hE] at HF hp ⊢
  dsimp only at hp ⊢
  unfold Finds at HF
  dsimp only [Pl.v] at HF
  have HP := hi (fun W (z : DiAt W p q b c D) => writeOwn_dist z ok (k := k) v hv hp)
  have HR := hi (fun W (z : RdAt W r s b' c' D) => rwriteOwn_dist z ok (k := k) v hv hp)
  obtain ⟨⟨E, e9⟩, hE9⟩ : ∃ R, writeOwnV D k ⟨pr, pf, pn⟩ v = R := ⟨_, rfl⟩
  rw [hE9] at HP HR ⊢
  dsimp only [Pl.v] at HP HR
  dsimp only
  clear h hE ok hE9 hp
  by_cases he : er = 0
  · subst he
    rw [if_pos rfl]
    go_enter Tryz.func15, Tryz.ntmps15
    go_wp2_with (go_at_call 47; ((with_reducible refine (HF.out _).mono ?_); rintro e' wF ⟨rfl, hb⟩; have HB1' := hi (HB0.out.trans ((hb.alloc hb.size (.cells #[.int .i64 pr, .int .i64 pf, .int .i64 pn] 70)).mono HB0.out.size)); have hsz := hb.size; have HPBF := hi ((HPB.out.below hb).alloc (.cells #[.int .i64 pr, .int .i64 pf, .int .i64 pn] 70)); have HPL := hi (CB.new wF 70 #[.int .i64 pr, .int .i64 pf, .int .i64 pn]); clear hb))
    rw [World.size_alloc] at hsz
    obtain ⟨W1, hW1⟩ : ∃ W1, wF.alloc (.cells #[.int .i64 pr, .int .i64 pf, .int .i64 pn] 70) = W1 := ⟨_, rfl⟩
    obtain ⟨N, hN⟩ : ∃ N, wF.heap.size = N := ⟨_, rfl⟩
    rw [hW1] at HB1' HPBF HPL ⊢
    rw [hN] at HPL hsz ⊢
    have HB1 := hi (show Below w.heap.size w W1.drew from Below.drewN (m := 1) HB1'.out)
    have HT2 := hi (HT0.out.below HB1.out)
    clear hW1 hN
    refine wp_region_noPanic ?_
    refine wp_region_last_drew (S := (fun W' => CB W' w.heap.size 33 #[.int .i64 2, .int .i64 off, .int .i64 k, .int .i64 id, .int .u64 v, .int .i64 a, .bool se, .bool sl, .bool sh, .bool sa, .bool hh] ∧ CB W' N 70 #[.int .i64 pr, .int .i64 pf, .int .i64 pn])) [] (by kernel_rfl) ⟨HPBF.out.drew, HPL.out.drew⟩ (fun hHeld => ?_)
    (try simp only [Array.replicate_succ, Array.replicate_zero, List.push_toArray, List.nil_append, List.cons_append])
    refine wpAnyF_take (i := 0) (v := ?_) (by kernel_rfl) (by kernel_rfl) rfl (by kernel_rfl) (by kernel_rfl) (by kernel_rfl) (fun _ _ _ h => h) (Or.inl ⟨by rfl, ?_⟩) (by assumption) ?_
    rotate_left
    · intro w' hSw; (try dsimp only at hSw); have p1 := hSw.1.cell 1; have p2 := hSw.1.cell 2; have p3 := hSw.1.cell 3; have p4 := hSw.1.cell 4; have z0 := hSw.2.cell 0; have z1 := hSw.2.cell 1; have z2 := hSw.2.cell 2; go_simp; (try with_reducible rfl)
    (try simp only [Act.put, List.getElem_toArray, List.getElem_cons_zero, List.setIfInBounds_toArray, List.set_cons_zero, List.set_cons_succ])
    refine wpAnyF_take (i := 1) (v := ?_) (by kernel_rfl) (by kernel_rfl) rfl (by kernel_rfl) (by kernel_rfl) (by kernel_rfl) (fun _ _ _ h => h) (Or.inl ⟨by rfl, ?_⟩) (by assumption) ?_
    rotate_left
    · intro w' hSw; (try dsimp only at hSw); have p1 := hSw.1.cell 1; have p2 := hSw.1.cell 2; have p3 := hSw.1.cell 3; have p4 := hSw.1.cell 4; have z0 := hSw.2.cell 0; have z1 := hSw.2.cell 1; have z2 := hSw.2.cell 2; go_simp; (try with_reducible rfl)
    (try simp only [Act.put, List.getElem_toArray, List.getElem_cons_zero, List.getElem_cons_succ, List.setIfInBounds_toArray, List.set_cons_zero, List.set_cons_succ])
    refine wpAnyF_take (i := 2) (v := ?_) (by kernel_rfl) (by kernel_rfl) rfl (by kernel_rfl) (by kernel_rfl) (by kernel_rfl) (fun _ _ _ h => h) (Or.inl ⟨by rfl, ?_⟩) (by assumption) ?_
    rotate_left
    · intro w' hSw; (try dsimp only at hSw); have p1 := hSw.1.cell 1; have p2 := hSw.1.cell 2; have p3 := hSw.1.cell 3; have p4 := hSw.1.cell 4; have z0 := hSw.2.cell 0; have z1 := hSw.2.cell 1; have z2 := hSw.2.cell 2; go_simp; (try with_reducible rfl)
    (try simp only [Act.put, List.getElem_toArray, List.getElem_cons_zero, List.getElem_cons_succ, List.setIfInBounds_toArray, List.set_cons_zero, List.set_cons_succ])
    refine wpAnyF_take (i := 3) (v := ?_) (by kernel_rfl) (by kernel_rfl) rfl (by kernel_rfl) (by kernel_rfl) (by kernel_rfl) (fun _ _ _ h => h) (Or.inl ⟨by rfl, ?_⟩) (by assumption) ?_
    rotate_left
    · intro w' hSw; (try dsimp only at hSw); have p1 := hSw.1.cell 1; have p2 := hSw.1.cell 2; have p3 := hSw.1.cell 3; have p4 := hSw.1.cell 4; have z0 := hSw.2.cell 0; have z1 := hSw.2.cell 1; have z2 := hSw.2.cell 2; go_simp; (try with_reducible rfl)
    (try simp only [Act.put, List.getElem_toArray, List.getElem_cons_zero, List.getElem_cons_succ, List.setIfInBounds_toArray, List.set_cons_zero, List.set_cons_succ])
    refine wpAnyF_take (i := 4) (v := ?_) (by kernel_rfl) (by kernel_rfl) rfl (by kernel_rfl) (by kernel_rfl) (by kernel_rfl) (fun _ _ _ h => h) (Or.inl ⟨by rfl, ?_⟩) (by assumption) ?_
    rotate_left
    · intro w' hSw; (try dsimp only at hSw); have p1 := hSw.1.cell 1; have p2 := hSw.1.cell 2; have p3 := hSw.1.cell 3; have p4 := hSw.1.cell 4; have z0 := hSw.2.cell 0; have z1 := hSw.2.cell 1; have z2 := hSw.2.cell 2; go_simp; (try with_reducible rfl)
    (try simp only [Act.put, List.getElem_toArray, List.getElem_cons_zero, List.getElem_cons_succ, List.setIfInBounds_toArray, List.set_cons_zero, List.set_cons_succ])
    refine wpAnyF_take (i := 5) (v := ?_) (by kernel_rfl) (by kernel_rfl) rfl (by kernel_rfl) (by kernel_rfl) (by kernel_rfl) (fun _ _ _ h => h) (Or.inl ⟨by rfl, ?_⟩) (by assumption) ?_
    rotate_left
    · intro w' hSw; (try dsimp only at hSw); have p1 := hSw.1.cell 1; have p2 := hSw.1.cell 2; have p3 := hSw.1.cell 3; have p4 := hSw.1.cell 4; have z0 := hSw.2.cell 0; have z1 := hSw.2.cell 1; have z2 := hSw.2.cell 2; go_simp; (try with_reducible rfl)
    (try simp only [Act.put, List.getElem_toArray, List.getElem_cons_zero, List.getElem_cons_succ, List.setIfInBounds_toArray, List.set_cons_zero, List.set_cons_succ])
    refine wpAnyF_take (i := 6) (v := ?_) (by kernel_rfl) (by kernel_rfl) rfl (by kernel_rfl) (by kernel_rfl) (by kernel_rfl) (fun _ _ _ h => h) (Or.inl ⟨by rfl, ?_⟩) (by assumption) ?_
    rotate_left
    · intro w' hSw; (try dsimp only at hSw); have p1 := hSw.1.cell 1; have p2 := hSw.1.cell 2; have p3 := hSw.1.cell 3; have p4 := hSw.1.cell 4; have z0 := hSw.2.cell 0; have z1 := hSw.2.cell 1; have z2 := hSw.2.cell 2; go_simp; (try with_reducible rfl)
    (try simp only [Act.put, List.getElem_toArray, List.getElem_cons_zero, List.getElem_cons_succ, List.setIfInBounds_toArray, List.set_cons_zero, List.set_cons_succ])
    refine wpAnyF_take (i := 7) (v := ?_) (by kernel_rfl) (by kernel_rfl) rfl (by kernel_rfl) (by kernel_rfl) (by kernel_rfl) (fun _ _ _ h => h) (Or.inl ⟨by rfl, ?_⟩) (by assumption) ?_
    rotate_left
    · intro w' hSw; (try dsimp only at hSw); have p1 := hSw.1.cell 1; have p2 := hSw.1.cell 2; have p3 := hSw.1.cell 3; have p4 := hSw.1.cell 4; have z0 := hSw.2.cell 0; have z1 := hSw.2.cell 1; have z2 := hSw.2.cell 2; go_simp; (try with_reducible rfl)
    (try simp only [Act.put, List.getElem_toArray, List.getElem_cons_zero, List.getElem_cons_succ, List.setIfInBounds_toArray, List.set_cons_zero, List.set_cons_succ])
    refine wpAnyF_take (i := 8) (v := ?_) (by kernel_rfl) (by kernel_rfl) rfl (by kernel_rfl) (by kernel_rfl) (by kernel_rfl) (fun _ _ _ h => h) (Or.inl ⟨by rfl, ?_⟩) (by assumption) ?_
    rotate_left
    · intro w' hSw; (try dsimp only at hSw); have p1 := hSw.1.cell 1; have p2 := hSw.1.cell 2; have p3 := hSw.1.cell 3; have p4 := hSw.1.cell 4; have z0 := hSw.2.cell 0; have z1 := hSw.2.cell 1; have z2 := hSw.2.cell 2; go_simp; (try with_reducible rfl)
    (try simp only [Act.put, List.getElem_toArray, List.getElem_cons_zero, List.getElem_cons_succ, List.setIfInBounds_toArray, List.set_cons_zero, List.set_cons_succ])
    refine wpAnyF_take (i := 10) (v := ?_) (by kernel_rfl) (by kernel_rfl) rfl (by kernel_rfl) (by kernel_rfl) (by kernel_rfl) (fun _ _ _ h => h) (Or.inl ⟨by rfl, ?_⟩) (by assumption) ?_
    rotate_left
    · intro w' hSw; (try dsimp only at hSw); have p1 := hSw.1.cell 1; have p2 := hSw.1.cell 2; have p3 := hSw.1.cell 3; have p4 := hSw.1.cell 4; have z0 := hSw.2.cell 0; have z1 := hSw.2.cell 1; have z2 := hSw.2.cell 2; go_simp; (try with_reducible rfl)
    (try simp only [Act.put, List.getElem_toArray, List.getElem_cons_zero, List.getElem_cons_succ, List.setIfInBounds_toArray, List.set_cons_zero, List.set_cons_succ])
    refine wpAnyF_take (i := 11) (v := ?_) (by kernel_rfl) (by kernel_rfl) rfl (by kernel_rfl) (by kernel_rfl) (by kernel_rfl) (fun _ _ _ h => h) (Or.inl ⟨by rfl, ?_⟩) (by assumption) ?_
    rotate_left
    · intro w' hSw; (try dsimp only at hSw); have p1 := hSw.1.cell 1; have p2 := hSw.1.cell 2; have p3 := hSw.1.cell 3; have p4 := hSw.1.cell 4; have z0 := hSw.2.cell 0; have z1 := hSw.2.cell 1; have z2 := hSw.2.cell 2; go_simp; (try with_reducible rfl)
    (try simp only [Act.put, List.getElem_toArray, List.getElem_cons_zero, List.getElem_cons_succ, List.setIfInBounds_toArray, List.set_cons_zero, List.set_cons_succ])
    refine wpAnyF_take (i := 12) (v := ?_) (by kernel_rfl) (by kernel_rfl) rfl (by kernel_rfl) (by kernel_rfl) (by kernel_rfl) (fun _ _ _ h => h) (Or.inl ⟨by rfl, ?_⟩) (by assumption) ?_
    rotate_left
    · intro w' hSw; (try dsimp only at hSw); have p1 := hSw.1.cell 1; have p2 := hSw.1.cell 2; have p3 := hSw.1.cell 3; have p4 := hSw.1.cell 4; have z0 := hSw.2.cell 0; have z1 := hSw.2.cell 1; have z2 := hSw.2.cell 2; go_simp; (try with_reducible rfl)
    (try simp only [Act.put, List.getElem_toArray, List.getElem_cons_zero, List.getElem_cons_succ, List.setIfInBounds_toArray, List.set_cons_zero, List.set_cons_succ])
    refine wpAnyF_take (i := 13) (v := ?_) (by kernel_rfl) (by kernel_rfl) rfl (by kernel_rfl) (by kernel_rfl) (by kernel_rfl) (fun _ _ _ h => h) (Or.inl ⟨by rfl, ?_⟩) (by assumption) ?_
    rotate_left
    · intro w' hSw; (try dsimp only at hSw); have p1 := hSw.1.cell 1; have p2 := hSw.1.cell 2; have p3 := hSw.1.cell 3; have p4 := hSw.1.cell 4; have z0 := hSw.2.cell 0; have z1 := hSw.2.cell 1; have z2 := hSw.2.cell 2; go_simp; (try with_reducible rfl)
    (try simp only [Act.put, List.getElem_toArray, List.getElem_cons_zero, List.getElem_cons_succ, List.setIfInBounds_toArray, List.set_cons_zero, List.set_cons_succ])
    refine wpAnyF_take (i := 14) (v := ?_) (by kernel_rfl) (by kernel_rfl) rfl (by kernel_rfl) (by kernel_rfl) (by kernel_rfl) (fun _ _ _ h => h) (Or.inl ⟨by rfl, ?_⟩) (by assumption) ?_
    rotate_left
    · intro w' hSw; (try dsimp only at hSw); have p1 := hSw.1.cell 1; have p2 := hSw.1.cell 2; have p3 := hSw.1.cell 3; have p4 := hSw.1.cell 4; have z0 := hSw.2.cell 0; have z1 := hSw.2.cell 1; have z2 := hSw.2.cell 2; go_simp; (try with_reducible rfl)
    (try simp only [Act.put, List.getElem_toArray, List.getElem_cons_zero, List.getElem_cons_succ, List.setIfInBounds_toArray, List.set_cons_zero, List.set_cons_succ])
    refine wpAnyF_take (i := 15) (v := ?_) (by kernel_rfl) (by kernel_rfl) rfl (by kernel_rfl) (by kernel_rfl) (by kernel_rfl) (fun _ _ _ h => h) (Or.inl ⟨by rfl, ?_⟩) (by assumption) ?_
    rotate_left
    · intro w' hSw; (try dsimp only at hSw); have p1 := hSw.1.cell 1; have p2 := hSw.1.cell 2; have p3 := hSw.1.cell 3; have p4 := hSw.1.cell 4; have z0 := hSw.2.cell 0; have z1 := hSw.2.cell 1; have z2 := hSw.2.cell 2; go_simp; (try with_reducible rfl)
    (try simp only [Act.put, List.getElem_toArray, List.getElem_cons_zero, List.getElem_cons_succ, List.setIfInBounds_toArray, List.set_cons_zero, List.set_cons_succ])
    refine wpAnyF_ready (rs := [9]) (by kernel_rfl) (by simp) ?_
    refine AllReadyF.cons rfl (fun KK hKK => ?_) AllReadyF.nil
    go_simp
    ((with_reducible refine (HP.out _ HT2.out.di).mono ?_); rintro e' w4 ⟨rfl, hA⟩; have HA4 := hi hA; have hSS := And.intro (hHeld.1.keptB hA.kept (fun z => by have := z.2; have := HLE.out.1; omega)) (hHeld.2.keptB hA.kept (fun z => by have := z.2; have := HLE.out.1; omega)); clear hA)
    (try go_simp)
    refine hKK.out _ _ hSS (fun hHeld => ?_)
    clear hKK KK
    (try simp only [Act.put, List.getElem_toArray, List.getElem_cons_zero, List.getElem_cons_succ, List.setIfInBounds_toArray, List.set_cons_zero, List.set_cons_succ])
    refine wpAnyF_ready (rs := [16]) (by kernel_rfl) (by simp) ?_
    refine AllReadyF.cons rfl (fun KK hKK => ?_) AllReadyF.nil
    go_simp
    ((with_reducible refine (HR.out _ (HT2.out.mid HA4.out)).mono ?_); rintro e' w5 ⟨rfl, hA⟩; have HA5 := hi hA; have hSS := And.intro (hHeld.1.keptB hA.kept (fun z => by have := z.2; have := HLE.out.2; omega)) (hHeld.2.keptB hA.kept (fun z => by have := z.2; have := HLE.out.2; omega)); clear hA)
    (try go_simp)
    refine hKK.out _ _ hSS (fun hHeld => ?_)
    clear hKK KK
    (try simp only [Act.put, List.getElem_toArray, List.getElem_cons_zero, List.getElem_cons_succ, List.setIfInBounds_toArray, List.set_cons_zero, List.set_cons_succ])
    refine wpAnyF_take (i := 17) (v := ?_) (by kernel_rfl) (by kernel_rfl) rfl (by kernel_rfl) (by kernel_rfl) (by kernel_rfl) (fun _ _ _ h => h) (Or.inl ⟨by rfl, ?_⟩) (by assumption) ?_
    rotate_left
    · intro w' hSw; (try dsimp only at hSw); have p1 := hSw.1.cell 1; have p2 := hSw.1.cell 2; have p3 := hSw.1.cell 3; have p4 := hSw.1.cell 4; have z0 := hSw.2.cell 0; have z1 := hSw.2.cell 1; have z2 := hSw.2.cell 2; go_simp; (try with_reducible rfl)
    (try simp only [Act.put, List.getElem_toArray, List.getElem_cons_zero, List.getElem_cons_succ, List.setIfInBounds_toArray, List.set_cons_zero, List.set_cons_succ])
    refine wpAnyF_take (i := 18) (v := ?_) (by kernel_rfl) (by kernel_rfl) rfl (by kernel_rfl) (by kernel_rfl) (by kernel_rfl) (fun _ _ _ h => h) (Or.inl ⟨by rfl, ?_⟩) (by assumption) ?_
    rotate_left
    · intro w' hSw; (try dsimp only at hSw); have p1 := hSw.1.cell 1; have p2 := hSw.1.cell 2; have p3 := hSw.1.cell 3; have p4 := hSw.1.cell 4; have z0 := hSw.2.cell 0; have z1 := hSw.2.cell 1; have z2 := hSw.2.cell 2; go_simp; (try with_reducible rfl)
    (try simp only [Act.put, List.getElem_toArray, List.getElem_cons_zero, List.getElem_cons_succ, List.setIfInBounds_toArray, List.set_cons_zero, List.set_cons_succ])
    refine wpAnyF_take (i := 19) (v := ?_) (by kernel_rfl) (by kernel_rfl) rfl (by kernel_rfl) (by kernel_rfl) (by kernel_rfl) (fun _ _ _ h => h) (Or.inl ⟨by rfl, ?_⟩) (by assumption) ?_
    rotate_left
    · intro w' hSw; (try dsimp only at hSw); have p1 := hSw.1.cell 1; have p2 := hSw.1.cell 2; have p3 := hSw.1.cell 3; have p4 := hSw.1.cell 4; have z0 := hSw.2.cell 0; have z1 := hSw.2.cell 1; have z2 := hSw.2.cell 2; go_simp; (try with_reducible rfl)
    (try simp only [Act.put, List.getElem_toArray, List.getElem_cons_zero, List.getElem_cons_succ, List.setIfInBounds_toArray, List.set_cons_zero, List.set_cons_succ])
    refine wpAnyF_done (by kernel_rfl) ?_ _
    refine NoPanic.normal ?_
    go_wp2
    go_ret
    exact ⟨rfl, TwAf.from_ HB1.out (HT2.out.acts HA4.out HA5.out)⟩
  · rw [if_neg he]
    have he2 : (er != 0) = true := by simpa using he
    clear he
    go_enter Tryz.func15, Tryz.ntmps15
    go_wp2_with (go_at_call 47; ((with_reducible refine (HF.out _).mono ?_); rintro e' wF ⟨rfl, hb⟩; have HB1' := hi (HB0.out.trans ((hb.alloc hb.size (.cells #[.int .i64 pr, .int .i64 pf, .int .i64 pn] 70)).mono HB0.out.size)); have hsz := hb.size; have HPBF := hi ((HPB.out.below hb).alloc (.cells #[.int .i64 pr, .int .i64 pf, .int .i64 pn] 70)); have HPL := hi (CB.new wF 70 #[.int .i64 pr, .int .i64 pf, .int .i64 pn]); clear hb))
    rw [World.size_alloc] at hsz
    obtain ⟨W1, hW1⟩ : ∃ W1, wF.alloc (.cells #[.int .i64 pr, .int .i64 pf, .int .i64 pn] 70) = W1 := ⟨_, rfl⟩
    obtain ⟨N, hN⟩ : ∃ N, wF.heap.size = N := ⟨_, rfl⟩
    rw [hW1] at HB1' HPBF HPL ⊢
    rw [hN] at HPL hsz ⊢
    have HB1 := hi (show Below w.heap.size w W1.drew from Below.drewN (m := 1) HB1'.out)
    have HT2 := hi (HT0.out.below HB1.out)
    clear hW1 hN
    refine wp_region_noPanic ?_
    refine wp_region_last_drew (S := (fun W' => CB W' w.heap.size 33 #[.int .i64 2, .int .i64 off, .int .i64 k, .int .i64 id, .int .u64 v, .int .i64 a, .bool se, .bool sl, .bool sh, .bool sa, .bool hh] ∧ CB W' N 70 #[.int .i64 pr, .int .i64 pf, .int .i64 pn])) [] (by kernel_rfl) ⟨HPBF.out.drew, HPL.out.drew⟩ (fun hHeld => ?_)
    (try simp only [Array.replicate_succ, Array.replicate_zero, List.push_toArray, List.nil_append, List.cons_append])
    refine wpAnyF_take (i := 0) (v := ?_) (by kernel_rfl) (by kernel_rfl) rfl (by kernel_rfl) (by kernel_rfl) (by kernel_rfl) (fun _ _ _ h => h) (Or.inl ⟨by rfl, ?_⟩) (by assumption) ?_
    rotate_left
    · intro w' hSw; (try dsimp only at hSw); have p1 := hSw.1.cell 1; have p2 := hSw.1.cell 2; have p3 := hSw.1.cell 3; have p4 := hSw.1.cell 4; have z0 := hSw.2.cell 0; have z1 := hSw.2.cell 1; have z2 := hSw.2.cell 2; go_simp; (try with_reducible rfl)
    (try simp only [Act.put, List.getElem_toArray, List.getElem_cons_zero, List.setIfInBounds_toArray, List.set_cons_zero, List.set_cons_succ])
    refine wpAnyF_take (i := 1) (v := ?_) (by kernel_rfl) (by kernel_rfl) rfl (by kernel_rfl) (by kernel_rfl) (by kernel_rfl) (fun _ _ _ h => h) (Or.inl ⟨by rfl, ?_⟩) (by assumption) ?_
    rotate_left
    · intro w' hSw; (try dsimp only at hSw); have p1 := hSw.1.cell 1; have p2 := hSw.1.cell 2; have p3 := hSw.1.cell 3; have p4 := hSw.1.cell 4; have z0 := hSw.2.cell 0; have z1 := hSw.2.cell 1; have z2 := hSw.2.cell 2; go_simp; (try with_reducible rfl)
    (try simp only [Act.put, List.getElem_toArray, List.getElem_cons_zero, List.getElem_cons_succ, List.setIfInBounds_toArray, List.set_cons_zero, List.set_cons_succ])
    refine wpAnyF_take (i := 2) (v := ?_) (by kernel_rfl) (by kernel_rfl) rfl (by kernel_rfl) (by kernel_rfl) (by kernel_rfl) (fun _ _ _ h => h) (Or.inl ⟨by rfl, ?_⟩) (by assumption) ?_
    rotate_left
    · intro w' hSw; (try dsimp only at hSw); have p1 := hSw.1.cell 1; have p2 := hSw.1.cell 2; have p3 := hSw.1.cell 3; have p4 := hSw.1.cell 4; have z0 := hSw.2.cell 0; have z1 := hSw.2.cell 1; have z2 := hSw.2.cell 2; go_simp; (try with_reducible rfl)
    (try simp only [Act.put, List.getElem_toArray, List.getElem_cons_zero, List.getElem_cons_succ, List.setIfInBounds_toArray, List.set_cons_zero, List.set_cons_succ])
    refine wpAnyF_take (i := 3) (v := undef) (by kernel_rfl) (by kernel_rfl) rfl (by kernel_rfl) (by kernel_rfl) (by kernel_rfl) (fun _ _ _ h => h) (Or.inr ⟨by rfl, rfl⟩) (by assumption) ?_
    (try simp only [Act.put, List.getElem_toArray, List.getElem_cons_zero, List.getElem_cons_succ, List.setIfInBounds_toArray, List.set_cons_zero, List.set_cons_succ])
    refine wpAnyF_take (i := 4) (v := undef) (by kernel_rfl) (by kernel_rfl) rfl (by kernel_rfl) (by kernel_rfl) (by kernel_rfl) (fun _ _ _ h => h) (Or.inr ⟨by rfl, rfl⟩) (by assumption) ?_
    (try simp only [Act.put, List.getElem_toArray, List.getElem_cons_zero, List.getElem_cons_succ, List.setIfInBounds_toArray, List.set_cons_zero, List.set_cons_succ])
    refine wpAnyF_take (i := 5) (v := undef) (by kernel_rfl) (by kernel_rfl) rfl (by kernel_rfl) (by kernel_rfl) (by kernel_rfl) (fun _ _ _ h => h) (Or.inr ⟨by rfl, rfl⟩) (by assumption) ?_
    (try simp only [Act.put, List.getElem_toArray, List.getElem_cons_zero, List.getElem_cons_succ, List.setIfInBounds_toArray, List.set_cons_zero, List.set_cons_succ])
    refine wpAnyF_take (i := 6) (v := undef) (by kernel_rfl) (by kernel_rfl) rfl (by kernel_rfl) (by kernel_rfl) (by kernel_rfl) (fun _ _ _ h => h) (Or.inr ⟨by rfl, rfl⟩) (by assumption) ?_
    (try simp only [Act.put, List.getElem_toArray, List.getElem_cons_zero, List.getElem_cons_succ, List.setIfInBounds_toArray, List.set_cons_zero, List.set_cons_succ])
    refine wpAnyF_take (i := 7) (v := undef) (by kernel_rfl) (by kernel_rfl) rfl (by kernel_rfl) (by kernel_rfl) (by kernel_rfl) (fun _ _ _ h => h) (Or.inr ⟨by rfl, rfl⟩) (by assumption) ?_
    (try simp only [Act.put, List.getElem_toArray, List.getElem_cons_zero, List.getElem_cons_succ, List.setIfInBounds_toArray, List.set_cons_zero, List.set_cons_succ])
    refine wpAnyF_take (i := 8) (v := undef) (by kernel_rfl) (by kernel_rfl) rfl (by kernel_rfl) (by kernel_rfl) (by kernel_rfl) (fun _ _ _ h => h) (Or.inr ⟨by rfl, rfl⟩) (by assumption) ?_
    (try simp only [Act.put, List.getElem_toArray, List.getElem_cons_zero, List.getElem_cons_succ, List.setIfInBounds_toArray, List.set_cons_zero, List.set_cons_succ])
    refine wpAnyF_take (i := 9) (v := undef) (by kernel_rfl) (by kernel_rfl) rfl (by kernel_rfl) (by kernel_rfl) (by kernel_rfl) (fun _ _ _ h => h) (Or.inr ⟨by rfl, rfl⟩) (by assumption) ?_
    (try simp only [Act.put, List.getElem_toArray, List.getElem_cons_zero, List.getElem_cons_succ, List.setIfInBounds_toArray, List.set_cons_zero, List.set_cons_succ])
    refine wpAnyF_take (i := 10) (v := undef) (by kernel_rfl) (by kernel_rfl) rfl (by kernel_rfl) (by kernel_rfl) (by kernel_rfl) (fun _ _ _ h => h) (Or.inr ⟨by rfl, rfl⟩) (by assumption) ?_
    (try simp only [Act.put, List.getElem_toArray, List.getElem_cons_zero, List.getElem_cons_succ, List.setIfInBounds_toArray, List.set_cons_zero, List.set_cons_succ])
    refine wpAnyF_take (i := 11) (v := undef) (by kernel_rfl) (by kernel_rfl) rfl (by kernel_rfl) (by kernel_rfl) (by kernel_rfl) (fun _ _ _ h => h) (Or.inr ⟨by rfl, rfl⟩) (by assumption) ?_
    (try simp only [Act.put, List.getElem_toArray, List.getElem_cons_zero, List.getElem_cons_succ, List.setIfInBounds_toArray, List.set_cons_zero, List.set_cons_succ])
    refine wpAnyF_take (i := 12) (v := undef) (by kernel_rfl) (by kernel_rfl) rfl (by kernel_rfl) (by kernel_rfl) (by kernel_rfl) (fun _ _ _ h => h) (Or.inr ⟨by rfl, rfl⟩) (by assumption) ?_
    (try simp only [Act.put, List.getElem_toArray, List.getElem_cons_zero, List.getElem_cons_succ, List.setIfInBounds_toArray, List.set_cons_zero, List.set_cons_succ])
    refine wpAnyF_take (i := 13) (v := undef) (by kernel_rfl) (by kernel_rfl) rfl (by kernel_rfl) (by kernel_rfl) (by kernel_rfl) (fun _ _ _ h => h) (Or.inr ⟨by rfl, rfl⟩) (by assumption) ?_
    (try simp only [Act.put, List.getElem_toArray, List.getElem_cons_zero, List.getElem_cons_succ, List.setIfInBounds_toArray, List.set_cons_zero, List.set_cons_succ])
    refine wpAnyF_take (i := 14) (v := undef) (by kernel_rfl) (by kernel_rfl) rfl (by kernel_rfl) (by kernel_rfl) (by kernel_rfl) (fun _ _ _ h => h) (Or.inr ⟨by rfl, rfl⟩) (by assumption) ?_
    (try simp only [Act.put, List.getElem_toArray, List.getElem_cons_zero, List.getElem_cons_succ, List.setIfInBounds_toArray, List.set_cons_zero, List.set_cons_succ])
    refine wpAnyF_take (i := 15) (v := undef) (by kernel_rfl) (by kernel_rfl) rfl (by kernel_rfl) (by kernel_rfl) (by kernel_rfl) (fun _ _ _ h => h) (Or.inr ⟨by rfl, rfl⟩) (by assumption) ?_
    (try simp only [Act.put, List.getElem_toArray, List.getElem_cons_zero, List.getElem_cons_succ, List.setIfInBounds_toArray, List.set_cons_zero, List.set_cons_succ])
    refine wpAnyF_take (i := 16) (v := undef) (by kernel_rfl) (by kernel_rfl) rfl (by kernel_rfl) (by kernel_rfl) (by kernel_rfl) (fun _ _ _ h => h) (Or.inr ⟨by rfl, rfl⟩) (by assumption) ?_
    (try simp only [Act.put, List.getElem_toArray, List.getElem_cons_zero, List.getElem_cons_succ, List.setIfInBounds_toArray, List.set_cons_zero, List.set_cons_succ])
    refine wpAnyF_take (i := 17) (v := undef) (by kernel_rfl) (by kernel_rfl) rfl (by kernel_rfl) (by kernel_rfl) (by kernel_rfl) (fun _ _ _ h => h) (Or.inr ⟨by rfl, rfl⟩) (by assumption) ?_
    (try simp only [Act.put, List.getElem_toArray, List.getElem_cons_zero, List.getElem_cons_succ, List.setIfInBounds_toArray, List.set_cons_zero, List.set_cons_succ])
    refine wpAnyF_take (i := 18) (v := ?_) (by kernel_rfl) (by kernel_rfl) rfl (by kernel_rfl) (by kernel_rfl) (by kernel_rfl) (fun _ _ _ h => h) (Or.inl ⟨by rfl, ?_⟩) (by assumption) ?_
    rotate_left
    · intro w' hSw; (try dsimp only at hSw); have p1 := hSw.1.cell 1; have p2 := hSw.1.cell 2; have p3 := hSw.1.cell 3; have p4 := hSw.1.cell 4; have z0 := hSw.2.cell 0; have z1 := hSw.2.cell 1; have z2 := hSw.2.cell 2; go_simp; (try with_reducible rfl)
    (try simp only [Act.put, List.getElem_toArray, List.getElem_cons_zero, List.getElem_cons_succ, List.setIfInBounds_toArray, List.set_cons_zero, List.set_cons_succ])
    refine wpAnyF_take (i := 19) (v := ?_) (by kernel_rfl) (by kernel_rfl) rfl (by kernel_rfl) (by kernel_rfl) (by kernel_rfl) (fun _ _ _ h => h) (Or.inl ⟨by rfl, ?_⟩) (by assumption) ?_
    rotate_left
    · intro w' hSw; (try dsimp only at hSw); have p1 := hSw.1.cell 1; have p2 := hSw.1.cell 2; have p3 := hSw.1.cell 3; have p4 := hSw.1.cell 4; have z0 := hSw.2.cell 0; have z1 := hSw.2.cell 1; have z2 := hSw.2.cell 2; go_simp; (try with_reducible rfl)
    (try simp only [Act.put, List.getElem_toArray, List.getElem_cons_zero, List.getElem_cons_succ, List.setIfInBounds_toArray, List.set_cons_zero, List.set_cons_succ])
    refine wpAnyF_done (by kernel_rfl) ?_ _
    refine NoPanic.normal ?_
    go_wp2
    go_ret
    exact ⟨rfl, TwAf.of HT0.out HB1.out⟩
end
end Go.Proofs.YtggeakkofcaklaaGreat
