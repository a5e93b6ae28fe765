import Derived.Test.YtieedhdmpabfkaaGreatMg31
import Derived.Test.YtieedhdmpabfkaaGreatMg32
import Derived.Test.YtieedhdmpabfkaaGreatMg02
set_option linter.unusedSimpArgs false
namespace Go.Proofs.YtieedhdmpabfkaaGreat
open Go.ChangeShapes Go.WideShapes Go.ChangeAt Go.RowKit Go.Shelf
set_option linter.unusedVariables false
attribute [local go_sem] Oper.semAt_some
structure Xa where
 d : Int
 off : Int
 k : Int
 id : Int
 v : Nat
 a : Int
 s : St
 hi : Bool
deriving DecidableEq
abbrev Xa.v_ (x : Xa) : Value := .agg #[.int .i64 x.d, .int .i64 x.off, .int .i64 x.k, .int .i64 x.id, .int .u64 x.v, .int .i64 x.a, .bool x.s.e, .bool x.s.l, .bool x.s.h, .bool x.s.a, .bool x.hi]
abbrev Xa.cs (x : Xa) : Array Value := #[.int .i64 x.d, .int .i64 x.off, .int .i64 x.k, .int .i64 x.id, .int .u64 x.v, .int .i64 x.a, .bool x.s.e, .bool x.s.l, .bool x.s.h, .bool x.s.a, .bool x.hi]
def wideV (x : Xa) : Int := if x.hi then 8 else 4
theorem wide_any (x : Xa) (w : World) : Calls Tryz.prog 45 #[x.v_] w fun e w' => e = .returned (.int .i64 (wideV x)) ∧ Below w.heap.size w w' := by
 obtain ⟨d, off, k, id, v, a, ⟨se, sl, sh, sa⟩, h⟩ := x
 unfold wideV
 cases h
 all_goals
  go_enter Tryz.func45, Tryz.ntmps45
  go_wp2
  go_ret
  exact ⟨rfl, bal w _⟩
end Go.Proofs.YtieedhdmpabfkaaGreat
namespace Go.Proofs.YtieedhdmpabfkaaGreat
open Go.ChangeShapes Go.WideShapes Go.ChangeAt Go.RowKit Go.Shelf
set_option linter.unusedVariables false
attribute [local go_sem] Oper.semAt_some
structure TwD (W : World) (p q r s : Nat) (b c b' c' : Nat → Nat) (D : Ds) : Prop where
 di : DiAt W p q b c D
 rd : RdAt W r s b' c' D
 sep : ∀ i, InR p q i → ¬ InR r s i
structure TwAf (w : World) (p q r s : Nat) (b c b' c' : Nat → Nat) (D : Ds) (W : World) : Prop where
 tw : TwD W p q r s b c b' c' D
 kept : Kept (fun i => InR p q i ∨ InR r s i) w W
section
variable {w W : World} {p q r s : Nat} {b c b' c' : Nat → Nat} {D D' : Ds}
theorem TwD.below (h : TwD w p q r s b c b' c' D) (k : Below w.heap.size w W) : TwD W p q r s b c b' c' D := ⟨h.di.below k, h.rd.below k, h.sep⟩
theorem TwD.acts {W1 W2 : World} (h : TwD w p q r s b c b' c' D) (h1 : DiAf w p q b c D' W1) (h2 : RdAf W1 r s b' c' D' W2) : TwAf w p q r s b c b' c' D' W2 :=
 ⟨⟨h1.di.kept h2.kept (fun i x y => h.sep i y x), h2.rd, h.sep⟩, (h1.kept.mono (fun i x => .inl x)).trans (h2.kept.mono (fun i x => .inr x))⟩
theorem TwD.mid {W1 : World} (h : TwD w p q r s b c b' c' D) (h1 : DiAf w p q b c D' W1) : RdAt W1 r s b' c' D := h.rd.kept h1.kept h.sep
theorem TwAf.of (h : TwD w p q r s b c b' c' D) (k : Below w.heap.size w W) : TwAf w p q r s b c b' c' D W := ⟨h.below k, Kept.of k⟩
theorem TwAf.from_ {W1 W2 : World} (k : Below w.heap.size w W1) (h : TwAf W1 p q r s b c b' c' D W2) : TwAf w p q r s b c b' c' D W2 := ⟨h.tw, (Kept.of k).trans h.kept⟩
theorem CB.drew_ {W : World} {B : Nat} {t : TypeId} {cs : Array Value} (h : CB W B t cs) : CB W.drew B t cs := h
structure Xa.Ok (x : Xa) : Prop where
 off : Int64 x.off
 k : Int64 x.k
 id : Int64 x.id
 v : x.v < 18446744073709551616
set_option maxRecDepth 100000 in
set_option maxHeartbeats 4000000 in
theorem does_wire (h : TwD w p q r s b c b' c' D) (ok : D.Ok) (off k id : Int) (v : Nat) (a : Int) (se sl sh sa hh : Bool) (hid : Int64 id) :
  Calls Tryz.prog 15 #[.pointer (some ⟨b 0, 0, none⟩), .pointer (some ⟨b' 0, 0, none⟩), .agg #[.int .i64 3, .int .i64 off, .int .i64 k, .int .i64 id, .int .u64 v, .int .i64 a, .bool se, .bool sl, .bool sh, .bool sa, .bool hh]] w fun e w' => e = .returned (.bool true) ∧ TwAf w p q r s b c b' c' (wireV D k id hh).1 w' := by
 have hbal := bal w (.cells #[.int .i64 3, .int .i64 off, .int .i64 k, .int .i64 id, .int .u64 v, .int .i64 a, .bool se, .bool sl, .bool sh, .bool sa, .bool hh] 33)
 have HB0 := hi (show Below w.heap.size w (w.alloc (.cells #[.int .i64 3, .int .i64 off, .int .i64 k, .int .i64 id, .int .u64 v, .int .i64 a, .bool se, .bool sl, .bool sh, .bool sa, .bool hh] 33)).drew from Below.drewN (m := 1) hbal)
 have HT1 := hi (h.below HB0.out)
 have HLE := hi (show q ≤ w.heap.size ∧ s ≤ w.heap.size from ⟨h.di.le, h.rd.le⟩)
 have HPB := hi ((CB.new w 33 #[.int .i64 3, .int .i64 off, .int .i64 k, .int .i64 id, .int .u64 v, .int .i64 a, .bool se, .bool sl, .bool sh, .bool sa, .bool hh]).drew_)
 obtain ⟨Wd, hWd⟩ : ∃ Wd, (w.alloc (.cells #[.int .i64 3, .int .i64 off, .int .i64 k, .int .i64 id, .int .u64 v, .int .i64 a, .bool se, .bool sl, .bool sh, .bool sa, .bool hh] 33)).drew = Wd := ⟨_, rfl⟩
 rw [hWd] at HB0 HT1 HPB
 have HP := hi (wire_dist HT1.out.di ok (k := k) hh hid)
 have HR := hi (fun W (z : RdAt W r s b' c' D) => rwire_dist z ok (k := k) (id := id) hh)
 obtain ⟨⟨E, er⟩, hE⟩ : ∃ R, (wireV D k id hh) = R := ⟨_, rfl⟩
 rw [hE] at HP HR ⊢
 dsimp only at HP HR ⊢
 clear h hE ok hbal
 go_enter Tryz.func15, Tryz.ntmps15
 go_wp2
 refine wp_region_noPanic ?_
 refine wp_region_last_drew (S := (fun W' => CB W' w.heap.size 33 #[.int .i64 3, .int .i64 off, .int .i64 k, .int .i64 id, .int .u64 v, .int .i64 a, .bool se, .bool sl, .bool sh, .bool sa, .bool hh])) [] (by kernel_rfl) (by rw [hWd]; exact HPB.out) (fun hHeld => ?_)
 (try simp only [r1, r2, r3, r4, r5])
 rw [hWd] at hHeld ⊢
 refine tk 0 (v := ?_) rfl (Or.inl ⟨by rfl, ?_⟩) ?_
 rotate_left
 ·intro w' hSw; (try dsimp only at hSw); have p0 := hSw.cell 0; have p1 := hSw.cell 1; have p2 := hSw.cell 2; have p3 := hSw.cell 3; have p4 := hSw.cell 4; have p5 := hSw.cell 5; have p6 := hSw.cell 6; have p7 := hSw.cell 7; have p8 := hSw.cell 8; have p9 := hSw.cell 9; have p10 := hSw.cell 10; go_simp; (try with_reducible rfl)
 (try simp only [Act.put, n1, n2, n4, n5, n6])
 refine tk 1 (v := ?_) rfl (Or.inl ⟨by rfl, ?_⟩) ?_
 rotate_left
 ·intro w' hSw; (try dsimp only at hSw); have p0 := hSw.cell 0; have p1 := hSw.cell 1; have p2 := hSw.cell 2; have p3 := hSw.cell 3; have p4 := hSw.cell 4; have p5 := hSw.cell 5; have p6 := hSw.cell 6; have p7 := hSw.cell 7; have p8 := hSw.cell 8; have p9 := hSw.cell 9; have p10 := hSw.cell 10; go_simp; (try with_reducible rfl)
 (try simp only [Act.put, n1, n2, n3, n4, n5, n6])
 refine tk 2 (v := ?_) rfl (Or.inl ⟨by rfl, ?_⟩) ?_
 rotate_left
 ·intro w' hSw; (try dsimp only at hSw); have p0 := hSw.cell 0; have p1 := hSw.cell 1; have p2 := hSw.cell 2; have p3 := hSw.cell 3; have p4 := hSw.cell 4; have p5 := hSw.cell 5; have p6 := hSw.cell 6; have p7 := hSw.cell 7; have p8 := hSw.cell 8; have p9 := hSw.cell 9; have p10 := hSw.cell 10; go_simp; (try with_reducible rfl)
 (try simp only [Act.put, n1, n2, n3, n4, n5, n6])
 refine tk 3 (v := ?_) rfl (Or.inl ⟨by rfl, ?_⟩) ?_
 rotate_left
 ·intro w' hSw; (try dsimp only at hSw); have p0 := hSw.cell 0; have p1 := hSw.cell 1; have p2 := hSw.cell 2; have p3 := hSw.cell 3; have p4 := hSw.cell 4; have p5 := hSw.cell 5; have p6 := hSw.cell 6; have p7 := hSw.cell 7; have p8 := hSw.cell 8; have p9 := hSw.cell 9; have p10 := hSw.cell 10; go_simp; (try with_reducible rfl)
 (try simp only [Act.put, n1, n2, n3, n4, n5, n6])
 refine tk 4 (v := ?_) rfl (Or.inl ⟨by rfl, ?_⟩) ?_
 rotate_left
 ·intro w' hSw; (try dsimp only at hSw); have p0 := hSw.cell 0; have p1 := hSw.cell 1; have p2 := hSw.cell 2; have p3 := hSw.cell 3; have p4 := hSw.cell 4; have p5 := hSw.cell 5; have p6 := hSw.cell 6; have p7 := hSw.cell 7; have p8 := hSw.cell 8; have p9 := hSw.cell 9; have p10 := hSw.cell 10; go_simp; (try with_reducible rfl)
 (try simp only [Act.put, n1, n2, n3, n4, n5, n6])
 refine tk 5 (v := ?_) rfl (Or.inl ⟨by rfl, ?_⟩) ?_
 rotate_left
 ·intro w' hSw; (try dsimp only at hSw); have p0 := hSw.cell 0; have p1 := hSw.cell 1; have p2 := hSw.cell 2; have p3 := hSw.cell 3; have p4 := hSw.cell 4; have p5 := hSw.cell 5; have p6 := hSw.cell 6; have p7 := hSw.cell 7; have p8 := hSw.cell 8; have p9 := hSw.cell 9; have p10 := hSw.cell 10; go_simp; (try with_reducible rfl)
 (try simp only [Act.put, n1, n2, n3, n4, n5, n6])
 refine tk 6 (v := ?_) rfl (Or.inl ⟨by rfl, ?_⟩) ?_
 rotate_left
 ·intro w' hSw; (try dsimp only at hSw); have p0 := hSw.cell 0; have p1 := hSw.cell 1; have p2 := hSw.cell 2; have p3 := hSw.cell 3; have p4 := hSw.cell 4; have p5 := hSw.cell 5; have p6 := hSw.cell 6; have p7 := hSw.cell 7; have p8 := hSw.cell 8; have p9 := hSw.cell 9; have p10 := hSw.cell 10; go_simp; (try with_reducible rfl)
 (try simp only [Act.put, n1, n2, n3, n4, n5, n6])
 refine tk 8 (v := ?_) rfl (Or.inl ⟨by rfl, ?_⟩) ?_
 rotate_left
 ·intro w' hSw; (try dsimp only at hSw); have p0 := hSw.cell 0; have p1 := hSw.cell 1; have p2 := hSw.cell 2; have p3 := hSw.cell 3; have p4 := hSw.cell 4; have p5 := hSw.cell 5; have p6 := hSw.cell 6; have p7 := hSw.cell 7; have p8 := hSw.cell 8; have p9 := hSw.cell 9; have p10 := hSw.cell 10; go_simp; (try with_reducible rfl)
 (try simp only [Act.put, n1, n2, n3, n4, n5, n6])
 refine tk 9 (v := ?_) rfl (Or.inl ⟨by rfl, ?_⟩) ?_
 rotate_left
 ·intro w' hSw; (try dsimp only at hSw); have p0 := hSw.cell 0; have p1 := hSw.cell 1; have p2 := hSw.cell 2; have p3 := hSw.cell 3; have p4 := hSw.cell 4; have p5 := hSw.cell 5; have p6 := hSw.cell 6; have p7 := hSw.cell 7; have p8 := hSw.cell 8; have p9 := hSw.cell 9; have p10 := hSw.cell 10; go_simp; (try with_reducible rfl)
 (try simp only [Act.put, n1, n2, n3, n4, n5, n6])
 refine tk 10 (v := ?_) rfl (Or.inl ⟨by rfl, ?_⟩) ?_
 rotate_left
 ·intro w' hSw; (try dsimp only at hSw); have p0 := hSw.cell 0; have p1 := hSw.cell 1; have p2 := hSw.cell 2; have p3 := hSw.cell 3; have p4 := hSw.cell 4; have p5 := hSw.cell 5; have p6 := hSw.cell 6; have p7 := hSw.cell 7; have p8 := hSw.cell 8; have p9 := hSw.cell 9; have p10 := hSw.cell 10; go_simp; (try with_reducible rfl)
 (try simp only [Act.put, n1, n2, n3, n4, n5, n6])
 refine tk 11 (v := ?_) rfl (Or.inl ⟨by rfl, ?_⟩) ?_
 rotate_left
 ·intro w' hSw; (try dsimp only at hSw); have p0 := hSw.cell 0; have p1 := hSw.cell 1; have p2 := hSw.cell 2; have p3 := hSw.cell 3; have p4 := hSw.cell 4; have p5 := hSw.cell 5; have p6 := hSw.cell 6; have p7 := hSw.cell 7; have p8 := hSw.cell 8; have p9 := hSw.cell 9; have p10 := hSw.cell 10; go_simp; (try with_reducible rfl)
 (try simp only [Act.put, n1, n2, n3, n4, n5, n6])
 refine tk 12 (v := ?_) rfl (Or.inl ⟨by rfl, ?_⟩) ?_
 rotate_left
 ·intro w' hSw; (try dsimp only at hSw); have p0 := hSw.cell 0; have p1 := hSw.cell 1; have p2 := hSw.cell 2; have p3 := hSw.cell 3; have p4 := hSw.cell 4; have p5 := hSw.cell 5; have p6 := hSw.cell 6; have p7 := hSw.cell 7; have p8 := hSw.cell 8; have p9 := hSw.cell 9; have p10 := hSw.cell 10; go_simp; (try with_reducible rfl)
 (try simp only [Act.put, n1, n2, n3, n4, n5, n6])
 refine tk 13 (v := ?_) rfl (Or.inl ⟨by rfl, ?_⟩) ?_
 rotate_left
 ·intro w' hSw; (try dsimp only at hSw); have p0 := hSw.cell 0; have p1 := hSw.cell 1; have p2 := hSw.cell 2; have p3 := hSw.cell 3; have p4 := hSw.cell 4; have p5 := hSw.cell 5; have p6 := hSw.cell 6; have p7 := hSw.cell 7; have p8 := hSw.cell 8; have p9 := hSw.cell 9; have p10 := hSw.cell 10; go_simp; (try with_reducible rfl)
 (try simp only [Act.put, n1, n2, n3, n4, n5, n6])
 refine tk 14 (v := ?_) rfl (Or.inl ⟨by rfl, ?_⟩) ?_
 rotate_left
 ·intro w' hSw; (try dsimp only at hSw); have p0 := hSw.cell 0; have p1 := hSw.cell 1; have p2 := hSw.cell 2; have p3 := hSw.cell 3; have p4 := hSw.cell 4; have p5 := hSw.cell 5; have p6 := hSw.cell 6; have p7 := hSw.cell 7; have p8 := hSw.cell 8; have p9 := hSw.cell 9; have p10 := hSw.cell 10; go_simp; (try with_reducible rfl)
 (try simp only [Act.put, n1, n2, n3, n4, n5, n6])
 refine wpAnyF_ready (rs := [7]) (by kernel_rfl) (by simp) ?_
 refine AllReadyF.cons rfl (fun KK hKK => ?_) AllReadyF.nil
 go_simp
 ((with_reducible refine (HP.out).mono ?_); rintro e' w4 ⟨rfl, hA⟩; have HA4 := hi hA; have hSS := hHeld.keptB hA.kept (fun z => by have := z.2; have := HLE.out.1; omega); clear hA)
 (try go_simp)
 refine hKK.out _ _ hSS (fun hHeld => ?_)
 clear hKK KK
 (try simp only [Act.put, n1, n2, n3, n4, n5, n6])
 refine wpAnyF_ready (rs := [15]) (by kernel_rfl) (by simp) ?_
 refine AllReadyF.cons rfl (fun KK hKK => ?_) AllReadyF.nil
 go_simp
 ((with_reducible refine (HR.out _ (HT1.out.mid HA4.out)).mono ?_); rintro e' w5 ⟨rfl, hA⟩; have HA5 := hi hA; have hSS := hHeld.keptB hA.kept (fun z => by have := z.2; have := HLE.out.2; omega); clear hA)
 (try go_simp)
 refine hKK.out _ _ hSS (fun hHeld => ?_)
 clear hKK KK
 (try simp only [Act.put, n1, n2, n3, n4, n5, n6])
 refine tk 16 (v := ?_) rfl (Or.inl ⟨by rfl, ?_⟩) ?_
 rotate_left
 ·intro w' hSw; (try dsimp only at hSw); have p0 := hSw.cell 0; have p1 := hSw.cell 1; have p2 := hSw.cell 2; have p3 := hSw.cell 3; have p4 := hSw.cell 4; have p5 := hSw.cell 5; have p6 := hSw.cell 6; have p7 := hSw.cell 7; have p8 := hSw.cell 8; have p9 := hSw.cell 9; have p10 := hSw.cell 10; go_simp; (try with_reducible rfl)
 (try simp only [Act.put, n1, n2, n3, n4, n5, n6])
 refine tk 17 (v := ?_) rfl (Or.inl ⟨by rfl, ?_⟩) ?_
 rotate_left
 ·intro w' hSw; (try dsimp only at hSw); have p0 := hSw.cell 0; have p1 := hSw.cell 1; have p2 := hSw.cell 2; have p3 := hSw.cell 3; have p4 := hSw.cell 4; have p5 := hSw.cell 5; have p6 := hSw.cell 6; have p7 := hSw.cell 7; have p8 := hSw.cell 8; have p9 := hSw.cell 9; have p10 := hSw.cell 10; go_simp; (try with_reducible rfl)
 (try simp only [Act.put, n1, n2, n3, n4, n5, n6])
 refine wpAnyF_done (by kernel_rfl) ?_ _
 refine NoPanic.normal ?_
 go_wp2
 go_ret
 exact ⟨rfl, TwAf.from_ HB0.out (HT1.out.acts HA4.out HA5.out)⟩
set_option maxRecDepth 100000 in
set_option maxHeartbeats 4000000 in
theorem does_do (h : TwD w p q r s b c b' c' D) (ok : D.Ok) (off k id : Int) (v : Nat) (a : Int) (se sl sh sa hh : Bool) (hid : Int64 id) :
  Calls Tryz.prog 15 #[.pointer (some ⟨b 0, 0, none⟩), .pointer (some ⟨b' 0, 0, none⟩), .agg #[.int .i64 4, .int .i64 off, .int .i64 k, .int .i64 id, .int .u64 v, .int .i64 a, .bool se, .bool sl, .bool sh, .bool sa, .bool hh]] w fun e w' => e = .returned (.bool true) ∧ TwAf w p q r s b c b' c' (doV D k id a).1 w' := by
 have hbal := bal w (.cells #[.int .i64 4, .int .i64 off, .int .i64 k, .int .i64 id, .int .u64 v, .int .i64 a, .bool se, .bool sl, .bool sh, .bool sa, .bool hh] 33)
 have HB0 := hi (show Below w.heap.size w (w.alloc (.cells #[.int .i64 4, .int .i64 off, .int .i64 k, .int .i64 id, .int .u64 v, .int .i64 a, .bool se, .bool sl, .bool sh, .bool sa, .bool hh] 33)).drew from Below.drewN (m := 1) hbal)
 have HT1 := hi (h.below HB0.out)
 have HLE := hi (show q ≤ w.heap.size ∧ s ≤ w.heap.size from ⟨h.di.le, h.rd.le⟩)
 have HPB := hi ((CB.new w 33 #[.int .i64 4, .int .i64 off, .int .i64 k, .int .i64 id, .int .u64 v, .int .i64 a, .bool se, .bool sl, .bool sh, .bool sa, .bool hh]).drew_)
 obtain ⟨Wd, hWd⟩ : ∃ Wd, (w.alloc (.cells #[.int .i64 4, .int .i64 off, .int .i64 k, .int .i64 id, .int .u64 v, .int .i64 a, .bool se, .bool sl, .bool sh, .bool sa, .bool hh] 33)).drew = Wd := ⟨_, rfl⟩
 rw [hWd] at HB0 HT1 HPB
 have HP := hi (do_dist HT1.out.di ok (k := k) a hid)
 have HR := hi (fun W (z : RdAt W r s b' c' D) => rdo_dist z ok (k := k) (id := id) a)
 obtain ⟨⟨E, er⟩, hE⟩ : ∃ R, (doV D k id a) = R := ⟨_, rfl⟩
 rw [hE] at HP HR ⊢
 dsimp only at HP HR ⊢
 clear h hE ok hbal
 go_enter Tryz.func15, Tryz.ntmps15
 go_wp2
 refine wp_region_noPanic ?_
 refine wp_region_last_drew (S := (fun W' => CB W' w.heap.size 33 #[.int .i64 4, .int .i64 off, .int .i64 k, .int .i64 id, .int .u64 v, .int .i64 a, .bool se, .bool sl, .bool sh, .bool sa, .bool hh])) [] (by kernel_rfl) (by rw [hWd]; exact HPB.out) (fun hHeld => ?_)
 (try simp only [r1, r2, r3, r4, r5])
 rw [hWd] at hHeld ⊢
 refine tk 0 (v := ?_) rfl (Or.inl ⟨by rfl, ?_⟩) ?_
 rotate_left
 ·intro w' hSw; (try dsimp only at hSw); have p0 := hSw.cell 0; have p1 := hSw.cell 1; have p2 := hSw.cell 2; have p3 := hSw.cell 3; have p4 := hSw.cell 4; have p5 := hSw.cell 5; have p6 := hSw.cell 6; have p7 := hSw.cell 7; have p8 := hSw.cell 8; have p9 := hSw.cell 9; have p10 := hSw.cell 10; go_simp; (try with_reducible rfl)
 (try simp only [Act.put, n1, n2, n4, n5, n6])
 refine tk 1 (v := ?_) rfl (Or.inl ⟨by rfl, ?_⟩) ?_
 rotate_left
 ·intro w' hSw; (try dsimp only at hSw); have p0 := hSw.cell 0; have p1 := hSw.cell 1; have p2 := hSw.cell 2; have p3 := hSw.cell 3; have p4 := hSw.cell 4; have p5 := hSw.cell 5; have p6 := hSw.cell 6; have p7 := hSw.cell 7; have p8 := hSw.cell 8; have p9 := hSw.cell 9; have p10 := hSw.cell 10; go_simp; (try with_reducible rfl)
 (try simp only [Act.put, n1, n2, n3, n4, n5, n6])
 refine tk 2 (v := ?_) rfl (Or.inl ⟨by rfl, ?_⟩) ?_
 rotate_left
 ·intro w' hSw; (try dsimp only at hSw); have p0 := hSw.cell 0; have p1 := hSw.cell 1; have p2 := hSw.cell 2; have p3 := hSw.cell 3; have p4 := hSw.cell 4; have p5 := hSw.cell 5; have p6 := hSw.cell 6; have p7 := hSw.cell 7; have p8 := hSw.cell 8; have p9 := hSw.cell 9; have p10 := hSw.cell 10; go_simp; (try with_reducible rfl)
 (try simp only [Act.put, n1, n2, n3, n4, n5, n6])
 refine tk 3 (v := ?_) rfl (Or.inl ⟨by rfl, ?_⟩) ?_
 rotate_left
 ·intro w' hSw; (try dsimp only at hSw); have p0 := hSw.cell 0; have p1 := hSw.cell 1; have p2 := hSw.cell 2; have p3 := hSw.cell 3; have p4 := hSw.cell 4; have p5 := hSw.cell 5; have p6 := hSw.cell 6; have p7 := hSw.cell 7; have p8 := hSw.cell 8; have p9 := hSw.cell 9; have p10 := hSw.cell 10; go_simp; (try with_reducible rfl)
 (try simp only [Act.put, n1, n2, n3, n4, n5, n6])
 refine tk 4 (v := ?_) rfl (Or.inl ⟨by rfl, ?_⟩) ?_
 rotate_left
 ·intro w' hSw; (try dsimp only at hSw); have p0 := hSw.cell 0; have p1 := hSw.cell 1; have p2 := hSw.cell 2; have p3 := hSw.cell 3; have p4 := hSw.cell 4; have p5 := hSw.cell 5; have p6 := hSw.cell 6; have p7 := hSw.cell 7; have p8 := hSw.cell 8; have p9 := hSw.cell 9; have p10 := hSw.cell 10; go_simp; (try with_reducible rfl)
 (try simp only [Act.put, n1, n2, n3, n4, n5, n6])
 refine tk 5 (v := ?_) rfl (Or.inl ⟨by rfl, ?_⟩) ?_
 rotate_left
 ·intro w' hSw; (try dsimp only at hSw); have p0 := hSw.cell 0; have p1 := hSw.cell 1; have p2 := hSw.cell 2; have p3 := hSw.cell 3; have p4 := hSw.cell 4; have p5 := hSw.cell 5; have p6 := hSw.cell 6; have p7 := hSw.cell 7; have p8 := hSw.cell 8; have p9 := hSw.cell 9; have p10 := hSw.cell 10; go_simp; (try with_reducible rfl)
 (try simp only [Act.put, n1, n2, n3, n4, n5, n6])
 refine tk 6 (v := ?_) rfl (Or.inl ⟨by rfl, ?_⟩) ?_
 rotate_left
 ·intro w' hSw; (try dsimp only at hSw); have p0 := hSw.cell 0; have p1 := hSw.cell 1; have p2 := hSw.cell 2; have p3 := hSw.cell 3; have p4 := hSw.cell 4; have p5 := hSw.cell 5; have p6 := hSw.cell 6; have p7 := hSw.cell 7; have p8 := hSw.cell 8; have p9 := hSw.cell 9; have p10 := hSw.cell 10; go_simp; (try with_reducible rfl)
 (try simp only [Act.put, n1, n2, n3, n4, n5, n6])
 refine tk 8 (v := ?_) rfl (Or.inl ⟨by rfl, ?_⟩) ?_
 rotate_left
 ·intro w' hSw; (try dsimp only at hSw); have p0 := hSw.cell 0; have p1 := hSw.cell 1; have p2 := hSw.cell 2; have p3 := hSw.cell 3; have p4 := hSw.cell 4; have p5 := hSw.cell 5; have p6 := hSw.cell 6; have p7 := hSw.cell 7; have p8 := hSw.cell 8; have p9 := hSw.cell 9; have p10 := hSw.cell 10; go_simp; (try with_reducible rfl)
 (try simp only [Act.put, n1, n2, n3, n4, n5, n6])
 refine tk 9 (v := ?_) rfl (Or.inl ⟨by rfl, ?_⟩) ?_
 rotate_left
 ·intro w' hSw; (try dsimp only at hSw); have p0 := hSw.cell 0; have p1 := hSw.cell 1; have p2 := hSw.cell 2; have p3 := hSw.cell 3; have p4 := hSw.cell 4; have p5 := hSw.cell 5; have p6 := hSw.cell 6; have p7 := hSw.cell 7; have p8 := hSw.cell 8; have p9 := hSw.cell 9; have p10 := hSw.cell 10; go_simp; (try with_reducible rfl)
 (try simp only [Act.put, n1, n2, n3, n4, n5, n6])
 refine tk 10 (v := ?_) rfl (Or.inl ⟨by rfl, ?_⟩) ?_
 rotate_left
 ·intro w' hSw; (try dsimp only at hSw); have p0 := hSw.cell 0; have p1 := hSw.cell 1; have p2 := hSw.cell 2; have p3 := hSw.cell 3; have p4 := hSw.cell 4; have p5 := hSw.cell 5; have p6 := hSw.cell 6; have p7 := hSw.cell 7; have p8 := hSw.cell 8; have p9 := hSw.cell 9; have p10 := hSw.cell 10; go_simp; (try with_reducible rfl)
 (try simp only [Act.put, n1, n2, n3, n4, n5, n6])
 refine tk 11 (v := ?_) rfl (Or.inl ⟨by rfl, ?_⟩) ?_
 rotate_left
 ·intro w' hSw; (try dsimp only at hSw); have p0 := hSw.cell 0; have p1 := hSw.cell 1; have p2 := hSw.cell 2; have p3 := hSw.cell 3; have p4 := hSw.cell 4; have p5 := hSw.cell 5; have p6 := hSw.cell 6; have p7 := hSw.cell 7; have p8 := hSw.cell 8; have p9 := hSw.cell 9; have p10 := hSw.cell 10; go_simp; (try with_reducible rfl)
 (try simp only [Act.put, n1, n2, n3, n4, n5, n6])
 refine tk 12 (v := ?_) rfl (Or.inl ⟨by rfl, ?_⟩) ?_
 rotate_left
 ·intro w' hSw; (try dsimp only at hSw); have p0 := hSw.cell 0; have p1 := hSw.cell 1; have p2 := hSw.cell 2; have p3 := hSw.cell 3; have p4 := hSw.cell 4; have p5 := hSw.cell 5; have p6 := hSw.cell 6; have p7 := hSw.cell 7; have p8 := hSw.cell 8; have p9 := hSw.cell 9; have p10 := hSw.cell 10; go_simp; (try with_reducible rfl)
 (try simp only [Act.put, n1, n2, n3, n4, n5, n6])
 refine tk 13 (v := ?_) rfl (Or.inl ⟨by rfl, ?_⟩) ?_
 rotate_left
 ·intro w' hSw; (try dsimp only at hSw); have p0 := hSw.cell 0; have p1 := hSw.cell 1; have p2 := hSw.cell 2; have p3 := hSw.cell 3; have p4 := hSw.cell 4; have p5 := hSw.cell 5; have p6 := hSw.cell 6; have p7 := hSw.cell 7; have p8 := hSw.cell 8; have p9 := hSw.cell 9; have p10 := hSw.cell 10; go_simp; (try with_reducible rfl)
 (try simp only [Act.put, n1, n2, n3, n4, n5, n6])
 refine tk 14 (v := ?_) rfl (Or.inl ⟨by rfl, ?_⟩) ?_
 rotate_left
 ·intro w' hSw; (try dsimp only at hSw); have p0 := hSw.cell 0; have p1 := hSw.cell 1; have p2 := hSw.cell 2; have p3 := hSw.cell 3; have p4 := hSw.cell 4; have p5 := hSw.cell 5; have p6 := hSw.cell 6; have p7 := hSw.cell 7; have p8 := hSw.cell 8; have p9 := hSw.cell 9; have p10 := hSw.cell 10; go_simp; (try with_reducible rfl)
 (try simp only [Act.put, n1, n2, n3, n4, n5, n6])
 refine wpAnyF_ready (rs := [7]) (by kernel_rfl) (by simp) ?_
 refine AllReadyF.cons rfl (fun KK hKK => ?_) AllReadyF.nil
 go_simp
 ((with_reducible refine (HP.out).mono ?_); rintro e' w4 ⟨rfl, hA⟩; have HA4 := hi hA; have hSS := hHeld.keptB hA.kept (fun z => by have := z.2; have := HLE.out.1; omega); clear hA)
 (try go_simp)
 refine hKK.out _ _ hSS (fun hHeld => ?_)
 clear hKK KK
 (try simp only [Act.put, n1, n2, n3, n4, n5, n6])
 refine wpAnyF_ready (rs := [15]) (by kernel_rfl) (by simp) ?_
 refine AllReadyF.cons rfl (fun KK hKK => ?_) AllReadyF.nil
 go_simp
 ((with_reducible refine (HR.out _ (HT1.out.mid HA4.out)).mono ?_); rintro e' w5 ⟨rfl, hA⟩; have HA5 := hi hA; have hSS := hHeld.keptB hA.kept (fun z => by have := z.2; have := HLE.out.2; omega); clear hA)
 (try go_simp)
 refine hKK.out _ _ hSS (fun hHeld => ?_)
 clear hKK KK
 (try simp only [Act.put, n1, n2, n3, n4, n5, n6])
 refine tk 16 (v := ?_) rfl (Or.inl ⟨by rfl, ?_⟩) ?_
 rotate_left
 ·intro w' hSw; (try dsimp only at hSw); have p0 := hSw.cell 0; have p1 := hSw.cell 1; have p2 := hSw.cell 2; have p3 := hSw.cell 3; have p4 := hSw.cell 4; have p5 := hSw.cell 5; have p6 := hSw.cell 6; have p7 := hSw.cell 7; have p8 := hSw.cell 8; have p9 := hSw.cell 9; have p10 := hSw.cell 10; go_simp; (try with_reducible rfl)
 (try simp only [Act.put, n1, n2, n3, n4, n5, n6])
 refine tk 17 (v := ?_) rfl (Or.inl ⟨by rfl, ?_⟩) ?_
 rotate_left
 ·intro w' hSw; (try dsimp only at hSw); have p0 := hSw.cell 0; have p1 := hSw.cell 1; have p2 := hSw.cell 2; have p3 := hSw.cell 3; have p4 := hSw.cell 4; have p5 := hSw.cell 5; have p6 := hSw.cell 6; have p7 := hSw.cell 7; have p8 := hSw.cell 8; have p9 := hSw.cell 9; have p10 := hSw.cell 10; go_simp; (try with_reducible rfl)
 (try simp only [Act.put, n1, n2, n3, n4, n5, n6])
 refine wpAnyF_done (by kernel_rfl) ?_ _
 refine NoPanic.normal ?_
 go_wp2
 go_ret
 exact ⟨rfl, TwAf.from_ HB0.out (HT1.out.acts HA4.out HA5.out)⟩
set_option maxRecDepth 100000 in
set_option maxHeartbeats 4000000 in
theorem does_put (h : TwD w p q r s b c b' c' D) (ok : D.Ok) (off k id : Int) (v : Nat) (a : Int) (se sl sh sa hh : Bool) (hid : Int64 id) :
  Calls Tryz.prog 15 #[.pointer (some ⟨b 0, 0, none⟩), .pointer (some ⟨b' 0, 0, none⟩), .agg #[.int .i64 5, .int .i64 off, .int .i64 k, .int .i64 id, .int .u64 v, .int .i64 a, .bool se, .bool sl, .bool sh, .bool sa, .bool hh]] w fun e w' => e = .returned (.bool true) ∧ TwAf w p q r s b c b' c' (putV D k id ⟨se, sl, sh, sa⟩).1 w' := by
 have hbal := bal w (.cells #[.int .i64 5, .int .i64 off, .int .i64 k, .int .i64 id, .int .u64 v, .int .i64 a, .bool se, .bool sl, .bool sh, .bool sa, .bool hh] 33)
 have HB0 := hi (show Below w.heap.size w (w.alloc (.cells #[.int .i64 5, .int .i64 off, .int .i64 k, .int .i64 id, .int .u64 v, .int .i64 a, .bool se, .bool sl, .bool sh, .bool sa, .bool hh] 33)).drew from Below.drewN (m := 1) hbal)
 have HT1 := hi (h.below HB0.out)
 have HLE := hi (show q ≤ w.heap.size ∧ s ≤ w.heap.size from ⟨h.di.le, h.rd.le⟩)
 have HPB := hi ((CB.new w 33 #[.int .i64 5, .int .i64 off, .int .i64 k, .int .i64 id, .int .u64 v, .int .i64 a, .bool se, .bool sl, .bool sh, .bool sa, .bool hh]).drew_)
 obtain ⟨Wd, hWd⟩ : ∃ Wd, (w.alloc (.cells #[.int .i64 5, .int .i64 off, .int .i64 k, .int .i64 id, .int .u64 v, .int .i64 a, .bool se, .bool sl, .bool sh, .bool sa, .bool hh] 33)).drew = Wd := ⟨_, rfl⟩
 rw [hWd] at HB0 HT1 HPB
 have HP := hi (put_dist HT1.out.di ok (k := k) ⟨se, sl, sh, sa⟩ hid)
 have HR := hi (fun W (z : RdAt W r s b' c' D) => rput_dist z ok (k := k) (id := id) ⟨se, sl, sh, sa⟩)
 obtain ⟨⟨E, er⟩, hE⟩ : ∃ R, (putV D k id ⟨se, sl, sh, sa⟩) = R := ⟨_, rfl⟩
 rw [hE] at HP HR ⊢
 dsimp only at HP HR ⊢
 clear h hE ok hbal
 go_enter Tryz.func15, Tryz.ntmps15
 go_wp2
 refine wp_region_noPanic ?_
 refine wp_region_last_drew (S := (fun W' => CB W' w.heap.size 33 #[.int .i64 5, .int .i64 off, .int .i64 k, .int .i64 id, .int .u64 v, .int .i64 a, .bool se, .bool sl, .bool sh, .bool sa, .bool hh])) [] (by kernel_rfl) (by rw [hWd]; exact HPB.out) (fun hHeld => ?_)
 (try simp only [r1, r2, r3, r4, r5])
 rw [hWd] at hHeld ⊢
 refine tk 0 (v := ?_) rfl (Or.inl ⟨by rfl, ?_⟩) ?_
 rotate_left
 ·intro w' hSw; (try dsimp only at hSw); have p0 := hSw.cell 0; have p1 := hSw.cell 1; have p2 := hSw.cell 2; have p3 := hSw.cell 3; have p4 := hSw.cell 4; have p5 := hSw.cell 5; have p6 := hSw.cell 6; have p7 := hSw.cell 7; have p8 := hSw.cell 8; have p9 := hSw.cell 9; have p10 := hSw.cell 10; go_simp; (try with_reducible rfl)
 (try simp only [Act.put, n1, n2, n4, n5, n6])
 refine tk 1 (v := ?_) rfl (Or.inl ⟨by rfl, ?_⟩) ?_
 rotate_left
 ·intro w' hSw; (try dsimp only at hSw); have p0 := hSw.cell 0; have p1 := hSw.cell 1; have p2 := hSw.cell 2; have p3 := hSw.cell 3; have p4 := hSw.cell 4; have p5 := hSw.cell 5; have p6 := hSw.cell 6; have p7 := hSw.cell 7; have p8 := hSw.cell 8; have p9 := hSw.cell 9; have p10 := hSw.cell 10; go_simp; (try with_reducible rfl)
 (try simp only [Act.put, n1, n2, n3, n4, n5, n6])
 refine tk 2 (v := ?_) rfl (Or.inl ⟨by rfl, ?_⟩) ?_
 rotate_left
 ·intro w' hSw; (try dsimp only at hSw); have p0 := hSw.cell 0; have p1 := hSw.cell 1; have p2 := hSw.cell 2; have p3 := hSw.cell 3; have p4 := hSw.cell 4; have p5 := hSw.cell 5; have p6 := hSw.cell 6; have p7 := hSw.cell 7; have p8 := hSw.cell 8; have p9 := hSw.cell 9; have p10 := hSw.cell 10; go_simp; (try with_reducible rfl)
 (try simp only [Act.put, n1, n2, n3, n4, n5, n6])
 refine tk 3 (v := ?_) rfl (Or.inl ⟨by rfl, ?_⟩) ?_
 rotate_left
 ·intro w' hSw; (try dsimp only at hSw); have p0 := hSw.cell 0; have p1 := hSw.cell 1; have p2 := hSw.cell 2; have p3 := hSw.cell 3; have p4 := hSw.cell 4; have p5 := hSw.cell 5; have p6 := hSw.cell 6; have p7 := hSw.cell 7; have p8 := hSw.cell 8; have p9 := hSw.cell 9; have p10 := hSw.cell 10; go_simp; (try with_reducible rfl)
 (try simp only [Act.put, n1, n2, n3, n4, n5, n6])
 refine tk 4 (v := ?_) rfl (Or.inl ⟨by rfl, ?_⟩) ?_
 rotate_left
 ·intro w' hSw; (try dsimp only at hSw); have p0 := hSw.cell 0; have p1 := hSw.cell 1; have p2 := hSw.cell 2; have p3 := hSw.cell 3; have p4 := hSw.cell 4; have p5 := hSw.cell 5; have p6 := hSw.cell 6; have p7 := hSw.cell 7; have p8 := hSw.cell 8; have p9 := hSw.cell 9; have p10 := hSw.cell 10; go_simp; (try with_reducible rfl)
 (try simp only [Act.put, n1, n2, n3, n4, n5, n6])
 refine tk 5 (v := ?_) rfl (Or.inl ⟨by rfl, ?_⟩) ?_
 rotate_left
 ·intro w' hSw; (try dsimp only at hSw); have p0 := hSw.cell 0; have p1 := hSw.cell 1; have p2 := hSw.cell 2; have p3 := hSw.cell 3; have p4 := hSw.cell 4; have p5 := hSw.cell 5; have p6 := hSw.cell 6; have p7 := hSw.cell 7; have p8 := hSw.cell 8; have p9 := hSw.cell 9; have p10 := hSw.cell 10; go_simp; (try with_reducible rfl)
 (try simp only [Act.put, n1, n2, n3, n4, n5, n6])
 refine tk 6 (v := ?_) rfl (Or.inl ⟨by rfl, ?_⟩) ?_
 rotate_left
 ·intro w' hSw; (try dsimp only at hSw); have p0 := hSw.cell 0; have p1 := hSw.cell 1; have p2 := hSw.cell 2; have p3 := hSw.cell 3; have p4 := hSw.cell 4; have p5 := hSw.cell 5; have p6 := hSw.cell 6; have p7 := hSw.cell 7; have p8 := hSw.cell 8; have p9 := hSw.cell 9; have p10 := hSw.cell 10; go_simp; (try with_reducible rfl)
 (try simp only [Act.put, n1, n2, n3, n4, n5, n6])
 refine tk 8 (v := ?_) rfl (Or.inl ⟨by rfl, ?_⟩) ?_
 rotate_left
 ·intro w' hSw; (try dsimp only at hSw); have p0 := hSw.cell 0; have p1 := hSw.cell 1; have p2 := hSw.cell 2; have p3 := hSw.cell 3; have p4 := hSw.cell 4; have p5 := hSw.cell 5; have p6 := hSw.cell 6; have p7 := hSw.cell 7; have p8 := hSw.cell 8; have p9 := hSw.cell 9; have p10 := hSw.cell 10; go_simp; (try with_reducible rfl)
 (try simp only [Act.put, n1, n2, n3, n4, n5, n6])
 refine tk 9 (v := ?_) rfl (Or.inl ⟨by rfl, ?_⟩) ?_
 rotate_left
 ·intro w' hSw; (try dsimp only at hSw); have p0 := hSw.cell 0; have p1 := hSw.cell 1; have p2 := hSw.cell 2; have p3 := hSw.cell 3; have p4 := hSw.cell 4; have p5 := hSw.cell 5; have p6 := hSw.cell 6; have p7 := hSw.cell 7; have p8 := hSw.cell 8; have p9 := hSw.cell 9; have p10 := hSw.cell 10; go_simp; (try with_reducible rfl)
 (try simp only [Act.put, n1, n2, n3, n4, n5, n6])
 refine tk 10 (v := ?_) rfl (Or.inl ⟨by rfl, ?_⟩) ?_
 rotate_left
 ·intro w' hSw; (try dsimp only at hSw); have p0 := hSw.cell 0; have p1 := hSw.cell 1; have p2 := hSw.cell 2; have p3 := hSw.cell 3; have p4 := hSw.cell 4; have p5 := hSw.cell 5; have p6 := hSw.cell 6; have p7 := hSw.cell 7; have p8 := hSw.cell 8; have p9 := hSw.cell 9; have p10 := hSw.cell 10; go_simp; (try with_reducible rfl)
 (try simp only [Act.put, n1, n2, n3, n4, n5, n6])
 refine tk 11 (v := ?_) rfl (Or.inl ⟨by rfl, ?_⟩) ?_
 rotate_left
 ·intro w' hSw; (try dsimp only at hSw); have p0 := hSw.cell 0; have p1 := hSw.cell 1; have p2 := hSw.cell 2; have p3 := hSw.cell 3; have p4 := hSw.cell 4; have p5 := hSw.cell 5; have p6 := hSw.cell 6; have p7 := hSw.cell 7; have p8 := hSw.cell 8; have p9 := hSw.cell 9; have p10 := hSw.cell 10; go_simp; (try with_reducible rfl)
 (try simp only [Act.put, n1, n2, n3, n4, n5, n6])
 refine tk 12 (v := ?_) rfl (Or.inl ⟨by rfl, ?_⟩) ?_
 rotate_left
 ·intro w' hSw; (try dsimp only at hSw); have p0 := hSw.cell 0; have p1 := hSw.cell 1; have p2 := hSw.cell 2; have p3 := hSw.cell 3; have p4 := hSw.cell 4; have p5 := hSw.cell 5; have p6 := hSw.cell 6; have p7 := hSw.cell 7; have p8 := hSw.cell 8; have p9 := hSw.cell 9; have p10 := hSw.cell 10; go_simp; (try with_reducible rfl)
 (try simp only [Act.put, n1, n2, n3, n4, n5, n6])
 refine tk 13 (v := ?_) rfl (Or.inl ⟨by rfl, ?_⟩) ?_
 rotate_left
 ·intro w' hSw; (try dsimp only at hSw); have p0 := hSw.cell 0; have p1 := hSw.cell 1; have p2 := hSw.cell 2; have p3 := hSw.cell 3; have p4 := hSw.cell 4; have p5 := hSw.cell 5; have p6 := hSw.cell 6; have p7 := hSw.cell 7; have p8 := hSw.cell 8; have p9 := hSw.cell 9; have p10 := hSw.cell 10; go_simp; (try with_reducible rfl)
 (try simp only [Act.put, n1, n2, n3, n4, n5, n6])
 refine tk 14 (v := ?_) rfl (Or.inl ⟨by rfl, ?_⟩) ?_
 rotate_left
 ·intro w' hSw; (try dsimp only at hSw); have p0 := hSw.cell 0; have p1 := hSw.cell 1; have p2 := hSw.cell 2; have p3 := hSw.cell 3; have p4 := hSw.cell 4; have p5 := hSw.cell 5; have p6 := hSw.cell 6; have p7 := hSw.cell 7; have p8 := hSw.cell 8; have p9 := hSw.cell 9; have p10 := hSw.cell 10; go_simp; (try with_reducible rfl)
 (try simp only [Act.put, n1, n2, n3, n4, n5, n6])
 refine wpAnyF_ready (rs := [7]) (by kernel_rfl) (by simp) ?_
 refine AllReadyF.cons rfl (fun KK hKK => ?_) AllReadyF.nil
 go_simp
 ((with_reducible refine (HP.out).mono ?_); rintro e' w4 ⟨rfl, hA⟩; have HA4 := hi hA; have hSS := hHeld.keptB hA.kept (fun z => by have := z.2; have := HLE.out.1; omega); clear hA)
 (try go_simp)
 refine hKK.out _ _ hSS (fun hHeld => ?_)
 clear hKK KK
 (try simp only [Act.put, n1, n2, n3, n4, n5, n6])
 refine wpAnyF_ready (rs := [15]) (by kernel_rfl) (by simp) ?_
 refine AllReadyF.cons rfl (fun KK hKK => ?_) AllReadyF.nil
 go_simp
 ((with_reducible refine (HR.out _ (HT1.out.mid HA4.out)).mono ?_); rintro e' w5 ⟨rfl, hA⟩; have HA5 := hi hA; have hSS := hHeld.keptB hA.kept (fun z => by have := z.2; have := HLE.out.2; omega); clear hA)
 (try go_simp)
 refine hKK.out _ _ hSS (fun hHeld => ?_)
 clear hKK KK
 (try simp only [Act.put, n1, n2, n3, n4, n5, n6])
 refine tk 16 (v := ?_) rfl (Or.inl ⟨by rfl, ?_⟩) ?_
 rotate_left
 ·intro w' hSw; (try dsimp only at hSw); have p0 := hSw.cell 0; have p1 := hSw.cell 1; have p2 := hSw.cell 2; have p3 := hSw.cell 3; have p4 := hSw.cell 4; have p5 := hSw.cell 5; have p6 := hSw.cell 6; have p7 := hSw.cell 7; have p8 := hSw.cell 8; have p9 := hSw.cell 9; have p10 := hSw.cell 10; go_simp; (try with_reducible rfl)
 (try simp only [Act.put, n1, n2, n3, n4, n5, n6])
 refine tk 17 (v := ?_) rfl (Or.inl ⟨by rfl, ?_⟩) ?_
 rotate_left
 ·intro w' hSw; (try dsimp only at hSw); have p0 := hSw.cell 0; have p1 := hSw.cell 1; have p2 := hSw.cell 2; have p3 := hSw.cell 3; have p4 := hSw.cell 4; have p5 := hSw.cell 5; have p6 := hSw.cell 6; have p7 := hSw.cell 7; have p8 := hSw.cell 8; have p9 := hSw.cell 9; have p10 := hSw.cell 10; go_simp; (try with_reducible rfl)
 (try simp only [Act.put, n1, n2, n3, n4, n5, n6])
 refine wpAnyF_done (by kernel_rfl) ?_ _
 refine NoPanic.normal ?_
 go_wp2
 go_ret
 exact ⟨rfl, TwAf.from_ HB0.out (HT1.out.acts HA4.out HA5.out)⟩
end
end Go.Proofs.YtieedhdmpabfkaaGreat
