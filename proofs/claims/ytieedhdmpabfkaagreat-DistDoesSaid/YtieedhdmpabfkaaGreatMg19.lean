import Derived.Test.YtieedhdmpabfkaaGreatMg02
import Derived.Test.YtieedhdmpabfkaaGreatMg18
set_option linter.unusedSimpArgs false
namespace Go.Proofs.YtieedhdmpabfkaaGreat
open Go.ChangeShapes Go.WideShapes Go.ChangeAt Go.RowKit Go.Shelf
set_option linter.unusedVariables false
attribute [local go_sem] Oper.semAt_some
section
variable {w : World} {lo hi' : Nat} {b c : Nat → Nat} {D : Ds}
def writePl (D : Ds) (p : Pl) (v : Nat) : Ds := if p.r = 1 then D.setOn (onB v 0) (onB v 1) else if p.r = 13 then directV D p.f (rtV v) else D.setSh (writeV p p.c.toNat 32 v D.sh).1
def writeDV (D : Ds) (off wd : Int) (v : Nat) : Ds × Int := if (fdV off wd).2 = 0 then (writePl D (fdV off wd).1 v, 0) else (D, (fdV off wd).2)
theorem writePl_ok (ok : D.Ok) (p : Pl) (v : Nat) : (writePl D p v).Ok := by
 unfold writePl
 split
 ·exact ok.setOn _ _
 ·split
  ·exact directV_ok ok _ (by show (0 : Int) ≤ ((v % 256 : Nat) : Int); omega) (by show ((v % 256 : Nat) : Int) ≤ 255; omega)
  ·exact ok.setSh (writeV_len _ _ _ _ _) (writeV_fine ok.fsh) (fun i hi => by rw [writeV_rt]; exact ok.rt i hi)
theorem writeDV_ok (ok : D.Ok) (off wd : Int) (v : Nat) : (writeDV D off wd v).1.Ok := by
 unfold writeDV
 split
 ·exact writePl_ok ok _ _
 ·exact ok
set_option maxRecDepth 100000 in
set_option maxHeartbeats 2000000 in
theorem write_go (h : DiAt w lo hi' b c D) (ok : D.Ok) {off wd : Int} (hoff : Int64 off) (v : Nat) (hv : v < 18446744073709551616) (p : Pl) (er : Int) (hf : fdV off wd = (p, er)) :
  Calls Tryz.prog 14 #[.pointer (some ⟨b 0, 0, none⟩), .int .i64 off, .int .i64 wd, .int .u64 v] w fun e w' => e = .returned (.int .i64 er) ∧ DiAf w lo hi' b c (if er = 0 then writePl D p v else D) w' := by
 have HF := hi (distP_any off wd w hoff)
 rw [show findV distRows 65536 off wd = (p, er) from hf] at HF
 have hp : ∃ c, PlOk p c := by have := fd_few off wd; rwa [hf] at this
 obtain ⟨n0, hp⟩ := hp
 have hp64 := hp.i64
 have hp := hp.cn
 have hlt := h.box.lt
 have HD := hi h
 obtain ⟨r, f, n⟩ := p
 have HPL := hi (show writePl D ⟨r, f, n⟩ v = if r = 1 then D.setOn (onB v 0) (onB v 1) else if r = 13 then directV D f (rtV v) else D.setSh (writeV ⟨r, f, n⟩ n.toNat 32 v D.sh).1 from rfl)
 try dsimp only at hp64
 (try unfold Finds at HF)
 (try dsimp only [Pl.v] at HF)
 by_cases he : er = 0
 ·subst he
  rw [if_pos rfl, HPL.out]
  by_cases h1 : r = 1
  ·subst h1
   rw [if_pos rfl]
   have HC := hi (fun W (q : Below w.heap.size w W) => enable_any (h.below q) v hv)
   obtain ⟨V, hV⟩ : ∃ V, D.setOn (onB v 0) (onB v 1) = V := ⟨_, rfl⟩
   rw [hV] at HC ⊢
   clear h ok hf hp hV HPL HD
   go_enter Tryz.func14, Tryz.ntmps14
   go_wp2_with (first
    | (go_at_call 40; ((with_reducible refine HF.out.mono ?_); rintro e w1 ⟨rfl, hb⟩; have HB := hi hb; clear hb))
    | (go_at_call 41; ((with_reducible refine (HC.out _ (HB.out.alloc HB.out.size _)).mono ?_); rintro e w2 ⟨rfl, hq⟩; have HQ := hi hq; clear hq)))
   go_ret
   exact ⟨rfl, ⟨HQ.out.di, (Kept.of (HB.out.alloc HB.out.size _)).trans HQ.out.kept⟩⟩
  rw [if_neg h1]
  have q1 : (r == 1) = false := by simpa using h1
  by_cases h13 : r = 13
  ·subst h13
   rw [if_pos rfl]
   have HG := hi (fun W (q : Below w.heap.size w W) => direct_any (h.below q) ok (rtV v) hp64)
   have HRO := hi (fun W => route_any v hv W)
   have hle := h.le
   obtain ⟨V, hV⟩ : ∃ V, directV D f (rtV v) = V := ⟨_, rfl⟩
   rw [hV] at HG ⊢
   obtain ⟨⟨sc, sy⟩, hs⟩ : ∃ s, rtV v = s := ⟨_, rfl⟩
   rw [hs] at HG HRO
   clear h ok hf hp hV h1 q1 HPL hs
   dsimp only [Rt.v] at HRO HG
   go_enter Tryz.func14, Tryz.ntmps14
   go_wp2_with (first
    | (go_at_call 40; ((with_reducible refine HF.out.mono ?_); rintro e' w1 ⟨rfl, hb⟩; have HB := hi hb; clear hb)))
   have HPB := hi (CB.new w1 70 #[.int .i64 13, .int .i64 f, .int .i64 n])
   have HBA := hi (HB.out.alloc HB.out.size (.cells #[.int .i64 13, .int .i64 f, .int .i64 n] 70))
   obtain ⟨W1, hW1⟩ : ∃ W1, w1.alloc (.cells #[.int .i64 13, .int .i64 f, .int .i64 n] 70) = W1 := ⟨_, rfl⟩
   obtain ⟨N, hN⟩ : ∃ N, w1.heap.size = N := ⟨_, rfl⟩
   have hx1 := HB.out.size
   rw [hW1] at HPB HBA ⊢
   rw [hN] at HPB hx1 ⊢
   have HB1 := hi (show Below w.heap.size w W1.drew from Below.drewN (m := 1) HBA.out)
   clear hW1 HD hN
   refine wp_region_noPanic ?_
   refine wp_region_last_drew (S := (fun W' => CB W' N 70 #[.int .i64 13, .int .i64 f, .int .i64 n])) [] (by kernel_rfl) HPB.out.drew (fun hHeld => ?_)
   (try simp only [r1, r2, r3, r4, r5])
   refine tk 0 (v := ?_) rfl (Or.inl ⟨by rfl, ?_⟩) ?_
   rotate_left
   ·intro w' hSw; (try dsimp only at hSw); have p1 := hSw.cell 1; go_simp; (try with_reducible rfl)
   (try simp only [Act.put, n1, n2, n4, n5, n6])
   refine tk 1 (v := ?_) rfl (Or.inl ⟨by rfl, ?_⟩) ?_
   rotate_left
   ·intro w' hSw; (try dsimp only at hSw); have p1 := hSw.cell 1; go_simp; (try with_reducible rfl)
   (try simp only [Act.put, n1, n2, n3, n4, n5, n6])
   refine tk 2 (v := ?_) rfl (Or.inl ⟨by rfl, ?_⟩) ?_
   rotate_left
   ·intro w' hSw; (try dsimp only at hSw); have p1 := hSw.cell 1; go_simp; (try with_reducible rfl)
   (try simp only [Act.put, n1, n2, n3, n4, n5, n6])
   refine tk 3 (v := ?_) rfl (Or.inl ⟨by rfl, ?_⟩) ?_
   rotate_left
   ·intro w' hSw; (try dsimp only at hSw); have p1 := hSw.cell 1; go_simp; (try with_reducible rfl)
   (try simp only [Act.put, n1, n2, n3, n4, n5, n6])
   refine wpAnyF_ready (rs := [4]) (by kernel_rfl) (by simp) ?_
   refine AllReadyF.cons rfl (fun KK hKK => ?_) AllReadyF.nil
   go_simp
   ((with_reducible refine (HRO.out _).mono ?_); rintro e' w4 ⟨rfl, hb⟩; have HB4 := hi (HB1.out.trans (hb.mono HB1.out.size)); have hSS := hHeld.below hb; clear hb)
   (try go_simp)
   refine hKK.out _ _ hSS (fun hHeld => ?_)
   clear hKK KK
   (try simp only [Act.put, n1, n2, n3, n4, n5, n6])
   refine wpAnyF_ready (rs := [5]) (by kernel_rfl) (by simp) ?_
   refine AllReadyF.cons rfl (fun KK hKK => ?_) AllReadyF.nil
   go_simp
   ((with_reducible refine (HG.out _ HB4.out).mono ?_); rintro e' w5 ⟨rfl, hq⟩; have HQ := hi (show DiAf w lo hi' b c V w5 from ⟨hq.di, (Kept.of HB4.out).trans hq.kept⟩); have hST := hSS.keptB hq.kept (fun q => by have := q.2; omega); clear hq)
   (try go_simp)
   refine hKK.out _ _ hST (fun hHeld => ?_)
   clear hKK KK
   (try simp only [Act.put, n1, n2, n3, n4, n5, n6])
   refine wpAnyF_done (by kernel_rfl) ?_ _
   refine NoPanic.normal ?_
   go_wp2
   go_ret
   exact ⟨rfl, HQ.out⟩
  rw [if_neg h13]
  have q3 : (r == 13) = false := by simpa using h13
  have HRD := hi (fun W (q : Below w.heap.size w W) => write_any (h.below q).shr ok.fitS ok.fsh hp hv)
  dsimp only at HRD
  obtain ⟨V, hV⟩ : ∃ V, writeV ⟨r, f, n⟩ n.toNat 32 v D.sh = V := ⟨_, rfl⟩
  rw [hV] at HRD ⊢
  have HN0 := hi (h.inj 0 3 (by omega) (by omega) (by omega))
  have HR3 := hi (h.rng 3 (by omega))
  have hle := h.le
  clear h ok hf hp hV h1 h13 HPL
  dsimp only [Pl.v] at HRD
  go_enter Tryz.func14, Tryz.ntmps14
  go_wp2_with (first
   | (go_at_call 40; ((with_reducible refine HF.out.mono ?_); rintro e' w1 ⟨rfl, hb⟩; have HB := hi hb; clear hb)))
  have HPB := hi (CB.new w1 70 #[.int .i64 r, .int .i64 f, .int .i64 n])
  have HBA := hi (HB.out.alloc HB.out.size (.cells #[.int .i64 r, .int .i64 f, .int .i64 n] 70))
  have hx1 := HB.out.size
  obtain ⟨W1, hW1⟩ : ∃ W1, w1.alloc (.cells #[.int .i64 r, .int .i64 f, .int .i64 n] 70) = W1 := ⟨_, rfl⟩
  obtain ⟨N, hN⟩ : ∃ N, w1.heap.size = N := ⟨_, rfl⟩
  rw [hW1] at HPB HBA ⊢
  rw [hN] at HPB hx1 ⊢
  have HB1 := hi (show Below w.heap.size w W1.drew from Below.drewN (m := 1) HBA.out)
  have HD1 := hi (HD.out.below HB1.out)
  clear hW1 HD hN
  refine wp_region_noPanic ?_
  refine wp_region_last_drew (S := (fun W' => CB W' (b 0) 83 #[.bool D.g0, .bool D.g1, .slice (some ⟨b 1, 0, none⟩) D.cs.length (c 0), .pointer (some ⟨b 2, 0, none⟩)] ∧ CB W' N 70 #[.int .i64 r, .int .i64 f, .int .i64 n])) [] (by kernel_rfl) ⟨HD1.out.box, HPB.out.drew⟩ (fun hHeld => ?_)
  (try simp only [r1, r2, r3, r4, r5])
  refine tk 0 (v := ?_) rfl (Or.inl ⟨by rfl, ?_⟩) ?_
  rotate_left
  ·intro w' hSw; (try dsimp only at hSw); have k3 := hSw.1.cell 3; have p0 := hSw.2.cell 0; have p1 := hSw.2.cell 1; have p2 := hSw.2.cell 2; go_simp; (try with_reducible rfl)
  (try simp only [Act.put, n1, n2, n4, n5, n6])
  refine tk 1 (v := ?_) rfl (Or.inl ⟨by rfl, ?_⟩) ?_
  rotate_left
  ·intro w' hSw; (try dsimp only at hSw); have k3 := hSw.1.cell 3; have p0 := hSw.2.cell 0; have p1 := hSw.2.cell 1; have p2 := hSw.2.cell 2; go_simp; (try with_reducible rfl)
  (try simp only [Act.put, n1, n2, n3, n4, n5, n6])
  refine tk 2 (v := ?_) rfl (Or.inl ⟨by rfl, ?_⟩) ?_
  rotate_left
  ·intro w' hSw; (try dsimp only at hSw); have k3 := hSw.1.cell 3; have p0 := hSw.2.cell 0; have p1 := hSw.2.cell 1; have p2 := hSw.2.cell 2; go_simp; (try with_reducible rfl)
  (try simp only [Act.put, n1, n2, n3, n4, n5, n6])
  refine tk 3 (v := ?_) rfl (Or.inl ⟨by rfl, ?_⟩) ?_
  rotate_left
  ·intro w' hSw; (try dsimp only at hSw); have k3 := hSw.1.cell 3; have p0 := hSw.2.cell 0; have p1 := hSw.2.cell 1; have p2 := hSw.2.cell 2; go_simp; (try with_reducible rfl)
  (try simp only [Act.put, n1, n2, n3, n4, n5, n6])
  refine tk 4 (v := ?_) rfl (Or.inl ⟨by rfl, ?_⟩) ?_
  rotate_left
  ·intro w' hSw; (try dsimp only at hSw); have k3 := hSw.1.cell 3; have p0 := hSw.2.cell 0; have p1 := hSw.2.cell 1; have p2 := hSw.2.cell 2; go_simp; (try with_reducible rfl)
  (try simp only [Act.put, n1, n2, n3, n4, n5, n6])
  refine tk 5 (v := ?_) rfl (Or.inl ⟨by rfl, ?_⟩) ?_
  rotate_left
  ·intro w' hSw; (try dsimp only at hSw); have k3 := hSw.1.cell 3; have p0 := hSw.2.cell 0; have p1 := hSw.2.cell 1; have p2 := hSw.2.cell 2; go_simp; (try with_reducible rfl)
  (try simp only [Act.put, n1, n2, n3, n4, n5, n6])
  refine wpAnyF_ready (rs := [6]) (by kernel_rfl) (by simp) ?_
  refine AllReadyF.cons rfl (fun KK hKK => ?_) AllReadyF.nil
  go_simp
  ((with_reducible refine (HRD.out _ HB1.out).mono ?_); rintro e' w4 ⟨rfl, hA⟩; have hS4 := HD1.out.setShr hA; have HF4 := hi (show DiAf w lo hi' b c (D.setSh V.1) w4 from ⟨hS4.1, (Kept.of HB1.out).trans hS4.2⟩); have hSS := And.intro (hHeld.1.keptB hA.kept HN0.out) (hHeld.2.keptB hA.kept (fun e => by have := HR3.out.2; omega)); clear hA hS4)
  (try go_simp)
  refine hKK.out _ _ hSS (fun hHeld => ?_)
  clear hKK KK
  (try simp only [Act.put, n1, n2, n3, n4, n5, n6])
  refine wpAnyF_done (by kernel_rfl) ?_ _
  refine NoPanic.normal ?_
  go_wp2
  go_ret
  exact ⟨rfl, HF4.out⟩
 ·rw [if_neg he]
  have he2 : (er != 0) = true := by simpa using he
  clear h ok hf hp HPL he
  go_enter Tryz.func14, Tryz.ntmps14
  go_wp2_with (first
   | (go_at_call 40; ((with_reducible refine HF.out.mono ?_); rintro e w1 ⟨rfl, hb⟩; have HB := hi hb; clear hb)))
  go_ret
  exact ⟨rfl, DiAf.of HD.out (HB.out.alloc HB.out.size _)⟩
theorem write_dist (h : DiAt w lo hi' b c D) (ok : D.Ok) {off wd : Int} (hoff : Int64 off) (v : Nat) (hv : v < 18446744073709551616) :
  Calls Tryz.prog 14 #[.pointer (some ⟨b 0, 0, none⟩), .int .i64 off, .int .i64 wd, .int .u64 v] w fun e w' => e = .returned (.int .i64 (writeDV D off wd v).2) ∧ DiAf w lo hi' b c (writeDV D off wd v).1 w' := by
 obtain ⟨p, er, hf⟩ : ∃ p er, fdV off wd = (p, er) := ⟨_, _, rfl⟩
 refine (write_go h ok hoff v hv p er hf).mono ?_
 rintro e w' ⟨rfl, hb⟩
 unfold writeDV
 rw [hf]
 by_cases he : er = 0
 ·subst he
  simpa using hb
 ·rw [if_neg he] at hb
  simpa [he] using hb
end
end Go.Proofs.YtieedhdmpabfkaaGreat
namespace Go.Proofs.YtieedhdmpabfkaaGreat
open Go.ChangeShapes Go.WideShapes Go.ChangeAt Go.RowKit Go.Shelf
set_option linter.unusedVariables false
attribute [local go_sem] Oper.semAt_some
section
variable {w : World} {lo hi' : Nat} {b c : Nat → Nat} {D : Ds}
theorem there_raw (p n g cap : Nat) (k : Int) (w : World) (c5 : w.cell? ⟨p, 5, none⟩ = some (.slice (some ⟨g, 0, none⟩) n cap)) :
  Calls Tryz.prog 60 #[.pointer (some ⟨p, 0, none⟩), .int .i64 k] w fun e w' => e = .returned (.bool (hasN n k)) ∧ w = w' := by
 by_cases h : 0 ≤ k
 ·have hr : hasN n k = decide (k < n) := by simp [hasN, h]
  rw [hr]
  clear hr
  go_enter Tryz.func60, Tryz.ntmps60
  go_wp2
  go_ret
  exact ⟨rfl, rfl⟩
 ·have hr : hasN n k = false := by simp [hasN, h]
  have hd : decide (0 ≤ k) = false := by simp; omega
  have hd2 : decide (k ≥ 0) = false := by simp; omega
  rw [hr]
  clear hr h
  go_enter Tryz.func60, Tryz.ntmps60
  go_wp2
  go_ret
  exact ⟨rfl, rfl⟩
theorem RdAt.there (h : RdAt w lo hi' b c D) (k : Int) : Calls Tryz.prog 60 #[.pointer (some ⟨b 0, 0, none⟩), .int .i64 k] w fun e w' => e = .returned (.bool (hasN D.cs.length k)) ∧ w = w' :=
 there_raw (b 0) _ (b 3) (c 2) k w (h.box.cell 5)
theorem RdAt.thereNat (h : RdAt w lo hi' b c D) {k : Nat} (hk : k < D.cs.length) : Calls Tryz.prog 60 #[.pointer (some ⟨b 0, 0, none⟩), .int .i64 k] w fun e w' => e = .returned (.bool true) ∧ w = w' := by
 have := h.there (k : Int)
 rwa [hasN_nat hk] at this
theorem rone_any (x : Bool) (n : Nat) (w : World) : Calls Tryz.prog 100 #[.bool x, .int .u64 n] w fun e w' => e = .returned (.int .u64 ((if x then n else 0 : Nat) : Int)) ∧ w = w' := by
 cases x
 all_goals
  go_enter Tryz.func100, Tryz.ntmps100
  go_wp2
  go_ret
  exact ⟨rfl, rfl⟩
theorem rbank_own (h : RdAt w lo hi' b c D) {k : Nat} {id : Int} (hk : k < D.cs.length) (hid : id < 32) :
  Calls Tryz.prog 94 #[.pointer (some ⟨b 0, 0, none⟩), .int .i64 k, .int .i64 id] w fun e w' => e = .returned (.pointer (some ⟨b (8 + 3 * k), 0, none⟩)) ∧ w = w' := by
 have c5 := h.box.cell 5
 have p := h.ptr hk
 obtain ⟨n, hn⟩ : ∃ n, D.cs.length = n := ⟨_, rfl⟩
 rw [hn] at c5 hk
 obtain ⟨x, hx⟩ : ∃ x, b (8 + 3 * k) = x := ⟨_, rfl⟩
 rw [hx] at p ⊢
 clear h hn hx
 go_enter Tryz.func94, Tryz.ntmps94
 go_wp2
 go_ret
 exact ⟨rfl, rfl⟩
theorem rbank_sh (h : RdAt w lo hi' b c D) {k : Int} {id : Int} (hid : ¬ id < 32) :
  Calls Tryz.prog 94 #[.pointer (some ⟨b 0, 0, none⟩), .int .i64 k, .int .i64 id] w fun e w' => e = .returned (.pointer (some ⟨b 5, 0, none⟩)) ∧ w = w' := by
 have c2 := h.box.cell 2
 have hd : decide (id < 32) = false := by simpa using hid
 clear h hid
 go_enter Tryz.func94, Tryz.ntmps94
 go_wp2
 go_ret
 exact ⟨rfl, rfl⟩
structure RdAf (w : World) (lo hi' : Nat) (b c : Nat → Nat) (D : Ds) (W : World) : Prop where
 rd : RdAt W lo hi' b c D
 kept : Kept (InR lo hi') w W
theorem RdAf.of (h : RdAt w lo hi' b c D) {W : World} (k : Below w.heap.size w W) : RdAf w lo hi' b c D W := ⟨h.below k, Kept.of k⟩
theorem rdo_go (h : RdAt w lo hi' b c D) {k : Nat} {id a : Int} (x : Nat) (r : Int) (Q : World → Prop) (hk : k < D.cs.length)
  (HO : Calls Tryz.prog 94 #[.pointer (some ⟨b 0, 0, none⟩), .int .i64 k, .int .i64 id] w fun e w' => e = .returned (.pointer (some ⟨x, 0, none⟩)) ∧ w = w')
  (HD : Calls Tryz.prog 65 #[.pointer (some ⟨x, 0, none⟩), .int .i64 id, .int .i64 a] w fun e w' => e = .returned (.int .i64 r) ∧ Q w') :
  Calls Tryz.prog 50 #[.pointer (some ⟨b 0, 0, none⟩), .int .i64 k, .int .i64 id, .int .i64 a] w fun e w' => e = .returned (.int .i64 r) ∧ Q w' := by
 have HT := hi (h.thereNat hk)
 have HO := hi HO
 have HD := hi HD
 clear h hk
 go_enter Tryz.func50, Tryz.ntmps50
 go_wp2_with (first
  | (go_at_call 60; ((with_reducible refine HT.out.mono ?_); rintro e w1 ⟨rfl, rfl⟩))
  | (go_at_call 94; ((with_reducible refine HO.out.mono ?_); rintro e w1 ⟨rfl, rfl⟩))
  | (go_at_call 65; ((with_reducible refine HD.out.mono ?_); rintro e w2 ⟨rfl, hq⟩)))
 go_ret
 exact ⟨rfl, hq⟩
theorem rfb_do {x lg xg : Nat} {f : Int} {es : List En} {id a : Int} (h : RfB w x lg xg f es) (hf : Fit f es.length) :
  Calls Tryz.prog 65 #[.pointer (some ⟨x, 0, none⟩), .int .i64 id, .int .i64 a] w fun e w' => e = .returned (.int .i64 (doR f es id a).2) ∧ RfAf w x lg xg f (doR f es id a).1 w' := by
 obtain ⟨la, xa, lc, xc, h⟩ := h
 exact (rdo_any h hf).mono fun e w' q => ⟨q.1, q.2.af⟩
theorem rdo_dist (h : RdAt w lo hi' b c D) (ok : D.Ok) {k id : Int} (a : Int) :
  Calls Tryz.prog 50 #[.pointer (some ⟨b 0, 0, none⟩), .int .i64 k, .int .i64 id, .int .i64 a] w fun e w' => e = .returned (.int .i64 (doV D k id a).2) ∧ RdAf w lo hi' b c (doV D k id a).1 w' := by
 unfold doV
 cases hk : hasN D.cs.length k
 ·simp only [Bool.false_eq_true, if_false]
  have HT := hi (h.there k)
  rw [hk] at HT
  have HF := hi (RdAf.of h (Below.refl _ _))
  clear h hk ok
  go_enter Tryz.func50, Tryz.ntmps50
  go_wp2_with (go_at_call 60; ((with_reducible refine HT.out.mono ?_); rintro e w1 ⟨rfl, rfl⟩))
  go_ret
  exact ⟨rfl, HF.out⟩
 ·obtain ⟨j, rfl, hj⟩ := hasN_at hk
  simp only [if_true, Int.toNat_natCast]
  by_cases h32 : id < 32
  ·rw [if_pos h32]
   refine rdo_go h _ _ _ hj (rbank_own h hj h32) ((rfb_do (h.own j hj) (ok.fitO hj)).mono ?_)
   rintro e w' ⟨rfl, hA⟩
   exact ⟨rfl, ⟨(h.setOwn hj hA).1, (h.setOwn hj hA).2⟩⟩
  ·rw [if_neg h32]
   refine rdo_go h _ _ _ hj (rbank_sh h h32) ((rfb_do h.shr ok.fitS).mono ?_)
   rintro e w' ⟨rfl, hA⟩
   have hS := h.setShr hA (doR_len _ _ _ _) (doR_rt _ _ _ _)
   exact ⟨rfl, ⟨hS.1, hS.2⟩⟩
theorem rwire_dist (h : RdAt w lo hi' b c D) (ok : D.Ok) {k id : Int} (high : Bool) :
  Calls Tryz.prog 49 #[.pointer (some ⟨b 0, 0, none⟩), .int .i64 k, .int .i64 id, .bool high] w fun e w' => e = .returned (.int .i64 (wireV D k id high).2) ∧ RdAf w lo hi' b c (wireV D k id high).1 w' := by
 unfold wireV
 by_cases h16 : id < 16
 ·simp only [if_pos h16]
  have HF := hi (RdAf.of h (Below.refl _ _))
  clear h ok
  go_enter Tryz.func49, Tryz.ntmps49
  go_wp2
  go_ret
  exact ⟨rfl, HF.out⟩
 ·simp only [if_neg h16]
  have hd : decide (id < 16) = false := by simpa using h16
  have HD := hi (fun a => rdo_dist h ok (k := k) (id := id) a)
  clear h ok h16
  cases high
  ·simp only [Bool.false_eq_true, if_false]
   have HD := hi (HD.out 2)
   obtain ⟨R, hR⟩ : ∃ R, doV D k id 2 = R := ⟨_, rfl⟩
   rw [hR] at HD ⊢
   clear hR
   go_enter Tryz.func49, Tryz.ntmps49
   go_wp2_with (go_at_call 50; ((with_reducible refine HD.out.mono ?_); rintro e w1 ⟨rfl, hq⟩))
   go_ret
   exact ⟨rfl, hq⟩
  ·simp only [if_true]
   have HD := hi (HD.out 1)
   obtain ⟨R, hR⟩ : ∃ R, doV D k id 1 = R := ⟨_, rfl⟩
   rw [hR] at HD ⊢
   clear hR
   go_enter Tryz.func49, Tryz.ntmps49
   go_wp2_with (go_at_call 50; ((with_reducible refine HD.out.mono ?_); rintro e w1 ⟨rfl, hq⟩))
   go_ret
   exact ⟨rfl, hq⟩
theorem rfb_at {x lg xg : Nat} {f : Int} {es : List En} (id : Int) (h : RfB w x lg xg f es) (hf : Fit f es.length) :
  Calls Tryz.prog 90 #[.pointer (some ⟨x, 0, none⟩), .int .i64 id] w fun e w' => e = .returned (.int .i64 (atI f es.length id)) ∧ w = w' := by
 obtain ⟨la, xa, lc, xc, h⟩ := h
 exact at_any h hf
theorem RfB.line {x lg xg : Nat} {f : Int} {es : List En} (h : RfB w x lg xg f es) {j : Nat} (hj : j < es.length) : ∃ lc, w.cell? ⟨x, 1, none⟩ = some (.slice (some ⟨lg, 0, none⟩) es.length lc) ∧ LnC w lg (j * 7) (nthE es j).ln := by
 obtain ⟨la, xa, lc, xc, h⟩ := h
 obtain ⟨h1, h2, h3, h4, h5⟩ := h.ne0 (fun e => by rw [e] at hj; simp at hj)
 subst h1
 exact ⟨lc, h.box.cell 1, h3.lnc (nthE_at hj)⟩
set_option maxHeartbeats 2000000 in
theorem rget_go (h : RdAt w lo hi' b c D) {k : Nat} {id f : Int} (x lg xg : Nat) (es : List En) (hk : k < D.cs.length) (hfit : Fit f es.length)
  (HO : ∀ W, Below w.heap.size w W → Calls Tryz.prog 94 #[.pointer (some ⟨b 0, 0, none⟩), .int .i64 k, .int .i64 id] W fun e w' => e = .returned (.pointer (some ⟨x, 0, none⟩)) ∧ W = w')
  (hB : RfB w x lg xg f es) :
  Calls Tryz.prog 57 #[.pointer (some ⟨b 0, 0, none⟩), .int .i64 k, .int .i64 id] w fun e w' => e = .returned (.tuple #[(getR f es id).1.ln.v, .int .i64 (getR f es id).2]) ∧ Below w.heap.size w w' := by
 have hbal := bal w (.cells #[.bool false, .bool false, .bool false, .bool false, .bool false, .int .i64 0, .int .i64 0] 58)
 have HT := hi ((h.below hbal).thereNat hk)
 have HO := hi (HO _ hbal)
 have hB1 : RfB (w.alloc (.cells #[.bool false, .bool false, .bool false, .bool false, .bool false, .int .i64 0, .int .i64 0] 58)) x lg xg f es := by
  obtain ⟨la, xa, lc, xc, q⟩ := hB
  exact ⟨la, xa, lc, xc, q.below hbal⟩
 have HA := hi (rfb_at id hB1 hfit)
 have HB0 := hi hbal
 unfold getR
 cases hb : hasB f es.length id
 ·simp only [Bool.false_eq_true, if_false]
  rw [atI_no hb] at HA
  clear h hb hB hB1 hbal
  go_enter Tryz.func57, Tryz.ntmps57
  go_wp2_with (first
   | (go_at_call 60; ((with_reducible refine HT.out.mono ?_); rintro e w1 ⟨rfl, rfl⟩))
   | (go_at_call 94; ((with_reducible refine HO.out.mono ?_); rintro e w1 ⟨rfl, rfl⟩))
   | (go_at_call 90; ((with_reducible refine HA.out.mono ?_); rintro e w1 ⟨rfl, rfl⟩)))
  exact bodyPost_ret (results_lnt rfl _ _ w.heap.size Ln.zero _ rfl rfl (CB.new _ _ _)) rfl ⟨rfl, HB0.out⟩
 ·simp only [if_true]
  obtain ⟨j, rfl, hj, e1⟩ := has_at hb
  rw [e1]
  rw [atI_at hj] at HA
  obtain ⟨lc, c1, hl⟩ := hB1.line hj
  obtain ⟨n, hn⟩ : ∃ n, es.length = n := ⟨_, rfl⟩
  rw [hn] at c1 hj
  obtain ⟨y, hy⟩ : ∃ y, (nthE es j).ln = y := ⟨_, rfl⟩
  rw [hy] at hl ⊢
  obtain ⟨d0, d1, d2, d3, d4, d5, d6⟩ := hl
  clear h hb hB hB1 hbal e1 hn hy
  obtain ⟨⟨e, l, q, a⟩, en, gr, p⟩ := y
  dsimp only at d0 d1 d2 d3 d4 d5 d6
  dsimp only [Ln.v]
  go_enter Tryz.func57, Tryz.ntmps57
  go_wp2_with (first
   | (go_at_call 60; ((with_reducible refine HT.out.mono ?_); rintro e' w1 ⟨rfl, rfl⟩))
   | (go_at_call 94; ((with_reducible refine HO.out.mono ?_); rintro e' w1 ⟨rfl, rfl⟩))
   | (go_at_call 90; ((with_reducible refine HA.out.mono ?_); rintro e' w1 ⟨rfl, rfl⟩)))
  exact bodyPost_ret (results_lnt rfl _ _ w.heap.size ⟨⟨e, l, q, a⟩, en, gr, p⟩ _ rfl rfl (CB.new _ _ _)) rfl ⟨rfl, bal w _⟩
theorem rget_dist (h : RdAt w lo hi' b c D) (ok : D.Ok) (k id : Int) :
  Calls Tryz.prog 57 #[.pointer (some ⟨b 0, 0, none⟩), .int .i64 k, .int .i64 id] w fun e w' => e = .returned (.tuple #[(getV D k id).1.v, .int .i64 (getV D k id).2]) ∧ Below w.heap.size w w' := by
 unfold getV
 cases hk : hasN D.cs.length k
 ·simp only [Bool.false_eq_true, if_false]
  have HT := hi ((h.below (bal w (.cells #[.bool false, .bool false, .bool false, .bool false, .bool false, .int .i64 0, .int .i64 0] 58))).there k)
  rw [hk] at HT
  clear h hk ok
  go_enter Tryz.func57, Tryz.ntmps57
  go_wp2_with (go_at_call 60; ((with_reducible refine HT.out.mono ?_); rintro e w1 ⟨rfl, rfl⟩))
  exact bodyPost_ret (results_lnt rfl _ _ w.heap.size Ln.zero _ rfl rfl (CB.new _ _ _)) rfl ⟨rfl, bal w _⟩
 ·obtain ⟨j, rfl, hj⟩ := hasN_at hk
  simp only [if_true, Int.toNat_natCast]
  by_cases h32 : id < 32
  ·rw [if_pos h32]
   exact rget_go h _ _ _ _ hj (ok.fitO hj) (fun W q => rbank_own (h.below q) hj h32) (h.own j hj)
  ·rw [if_neg h32]
   exact rget_go h _ _ _ _ hj ok.fitS (fun W q => rbank_sh (h.below q) h32) h.shr
end
end Go.Proofs.YtieedhdmpabfkaaGreat
