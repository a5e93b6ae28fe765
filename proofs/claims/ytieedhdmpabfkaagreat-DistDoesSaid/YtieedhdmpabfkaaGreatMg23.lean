import Derived.Test.YtieedhdmpabfkaaGreatMg22
import Derived.Test.YtieedhdmpabfkaaGreatMg02
set_option linter.unusedSimpArgs false
namespace Go.Proofs.YtieedhdmpabfkaaGreat
open Go.ChangeShapes Go.WideShapes Go.ChangeAt Go.RowKit Go.Shelf
set_option linter.unusedVariables false
def inG (D : Ds) (k : Nat) (id g : Int) : Bool := (nthE (D.nth k).es id.toNat).ln.g == g
def callStep (id g : Int) (q : Ds × Nat) (k : Nat) : Ds × Nat := if inG q.1 k id g then (q.1.setOwn k (doR 0 (q.1.nth k).es id 3).1, q.2 + 1) else q
def callL (D : Ds) (id g : Int) (ks : List Nat) : Ds × Nat := ks.foldl (callStep id g) (D, 0)
theorem callL_snoc (D : Ds) (id g : Int) (ks : List Nat) (k : Nat) : callL D id g (ks ++ [k]) = callStep id g (callL D id g ks) k := by simp [callL]
theorem callL_take (D : Ds) (id g : Int) (ks : List Nat) {k : Nat} (h : k < ks.length) : callL D id g (ks.take (k + 1)) = callStep id g (callL D id g (ks.take k)) ks[k] := by
 rw [← callL_snoc, List.take_append_getElem h]
def callDV (D : Ds) (fr g : Int) (v : Nat) : (Ds × Nat) × Int :=
 if hasN D.cs.length fr then (callL D (decV v).id g (toL (decV v) fr D.cs.length), 0) else ((D, 0), 130)
theorem callStep_len (id g : Int) (q : Ds × Nat) (k : Nat) : (callStep id g q k).1.cs.length = q.1.cs.length := by
 unfold callStep
 split
 ·exact Ds.own_len _ _ _
 ·rfl
theorem callL_len (D : Ds) (id g : Int) : ∀ ks : List Nat, (callL D id g ks).1.cs.length = D.cs.length :=
 list_snoc (P := fun ks => (callL D id g ks).1.cs.length = D.cs.length) rfl (fun r k ih => by rw [callL_snoc, callStep_len, ih])
theorem callL_count (D : Ds) (id g : Int) : ∀ ks : List Nat, (callL D id g ks).2 ≤ ks.length :=
 list_snoc (P := fun ks => (callL D id g ks).2 ≤ ks.length) (Nat.le_refl _) (fun r k ih => by
  rw [callL_snoc, List.length_append]
  unfold callStep
  split
  ·simpa using ih
  ·exact Nat.le_trans ih (Nat.le_add_right _ _))
theorem callStep_ok {id g : Int} {q : Ds × Nat} {k : Nat} (ok : q.1.Ok) (hk : k < q.1.cs.length) : (callStep id g q k).1.Ok := by
 unfold callStep
 split
 ·exact ok.setOwn hk (by rw [doR_len]; exact ok.own k hk) (doR_fine (ok.fine k hk))
 ·exact ok
theorem callL_ok {D : Ds} (ok : D.Ok) (id g : Int) : ∀ ks : List Nat, (∀ k ∈ ks, k < D.cs.length) → (callL D id g ks).1.Ok :=
 list_snoc (P := fun ks => (∀ k ∈ ks, k < D.cs.length) → (callL D id g ks).1.Ok) (fun _ => ok) (fun r k ih hr => by
  rw [callL_snoc]
  exact callStep_ok (ih (fun x hx => hr x (List.mem_append_left _ hx))) (by rw [callL_len]; exact hr k (by simp)))
theorem toL_in {c : Cl} {fr : Int} {n : Nat} {k : Nat} (h : k ∈ toL c fr n) : k < n := by
 have h1 := ((mem_upto _ _ _).1 h).1
 unfold capN at h1
 omega
theorem callDV_ok {D : Ds} (ok : D.Ok) (fr g : Int) (v : Nat) : (callDV D fr g v).1.1.Ok := by
 unfold callDV
 split
 ·exact callL_ok ok _ _ _ (fun k h => toL_in h)
 ·exact ok
def NewInts (B : Nat) (a : Option Addr) (xs : List Int) (W : World) : Prop := xs ≠ [] → ∃ g, a = some ⟨g, 0, none⟩ ∧ B ≤ g ∧ Row W g 3 (xs.map (Value.int .i64))
theorem Col.new {w W : World} {o : Value} {xs : List Int} (h : Col w o xs W) : ∃ a cap, o = .slice a xs.length cap ∧ NewInts w.heap.size a xs W := by
 rcases h.own.2 with ⟨e, e2⟩ | ⟨g, cap, cur, e, hb, hg, h1, h2, h3, h4⟩
 ·rw [e, e2]
  exact ⟨none, 0, rfl, fun hne => absurd (List.length_eq_zero_iff.1 e2) hne⟩
 ·exact ⟨_, _, e, fun _ => ⟨g, rfl, hb, cur, hg, by rw [← h4]; exact List.take_prefix _ _⟩⟩
theorem NewInts.kept {B : Nat} {a : Option Addr} {xs : List Int} {W W' : World} (h : NewInts B a xs W) {bs : Nat → Prop} (k : Kept bs W W') (hb : ∀ i, bs i → i < B) : NewInts B a xs W' := fun hne => by
 obtain ⟨g, e, hg, hr⟩ := h hne
 exact ⟨g, e, hg, hr.kept k (fun q => by have := hb _ q; omega)⟩
theorem NewInts.below {B : Nat} {a : Option Addr} {xs : List Int} {W W' : World} (h : NewInts B a xs W) (k : Below W.heap.size W W') : NewInts B a xs W' := fun hne => by
 obtain ⟨g, e, hg, hr⟩ := h hne
 exact ⟨g, e, hg, hr.below k⟩
end Go.Proofs.YtieedhdmpabfkaaGreat
namespace Go.Proofs.YtieedhdmpabfkaaGreat
open Go.ChangeShapes Go.WideShapes Go.ChangeAt Go.RowKit Go.Shelf
set_option linter.unusedVariables false
attribute [local go_sem] Oper.semAt_some
section
variable {w : World} {lo hi' : Nat} {b c : Nat → Nat} {D : Ds}
theorem numsV_at {L : List Nat} {k : Nat} (h : k < L.length) : ((nums L).map (Value.int .i64))[k]? = some (.int .i64 (L[k] : Nat)) := by simp [nums, h]
theorem dec_id (v : Nat) : (decV v).id = ((v / 2 ^ 24 % 16 : Nat) : Int) := rfl
set_option maxRecDepth 100000 in
set_option maxHeartbeats 4000000 in
theorem rcall_dist (h : RdAt w lo hi' b c D) (ok : D.Ok) (fr g : Int) (v : Nat) (hv : v < 18446744073709551616) :
  Calls Tryz.prog 53 #[.pointer (some ⟨b 0, 0, none⟩), .int .i64 fr, .int .i64 g, .int .u64 v] w fun e w' => e = .returned (.tuple #[.int .i64 ((callDV D fr g v).1.2 : Nat), .int .i64 (callDV D fr g v).2]) ∧ RdAf w lo hi' b c (callDV D fr g v).1.1 w' := by
 have HT := hi (h.there fr)
 have HD := hi h
 unfold callDV
 cases hk : hasN D.cs.length fr
 ·simp only [Bool.false_eq_true, if_false]
  rw [hk] at HT
  have HF := hi (RdAf.of h (Below.refl _ _))
  clear h hk ok HD hv
  go_enter Tryz.func53, Tryz.ntmps53
  go_wp2_with (go_at_call 60; ((with_reducible refine HT.out.mono ?_); rintro e w1 ⟨rfl, rfl⟩))
  go_ret2
  exact ⟨rfl, HF.out⟩
 ·simp only [if_true]
  rw [hk] at HT
  have HOK := hi ok
  have HIN := hi (fun k (q : k ∈ toL (decV v) fr D.cs.length) => toL_in q)
  have HL8 := hi (toL_len (decV v) fr D.cs.length)
  obtain ⟨i0, hid⟩ : ∃ i, v / 2 ^ 24 % 16 = i := ⟨_, rfl⟩
  have hi16 : i0 < 16 := by omega
  have HP24 := hi (show ∀ W, Calls Tryz.prog 95 #[.int .u64 v, .int .i64 24, .int .i64 27] W fun e w' => e = .returned (.int .i64 ((v / 2 ^ 24 % 16 : Nat) : Int)) ∧ W = w' from fun W => part_any v 24 27 hv (by omega) (by omega) (by omega) W)
  have HP40 := hi (show ∀ W, Calls Tryz.prog 95 #[.int .u64 v, .int .i64 40, .int .i64 40] W fun e w' => e = .returned (.int .i64 ((v / 2 ^ 40 % 2 : Nat) : Int)) ∧ W = w' from fun W => part_any v 40 40 hv (by omega) (by omega) (by omega) W)
  have HP0 := hi (show ∀ W, Calls Tryz.prog 95 #[.int .u64 v, .int .i64 0, .int .i64 15] W fun e w' => e = .returned (.int .i64 ((v % 65536 : Nat) : Int)) ∧ W = w' from fun W => by have := part_any v 0 15 hv (by omega) (by omega) (by omega) W; simpa using this)
  have HOD := hi (fun W => refOdd_any v hv W)
  have HTO := hi (fun W => refTo_any (decV v).all (decV v).odd (decV v).tg fr D.cs.length W)
  rw [refL_eq] at HTO
  rw [dec_id]
  have w40 := odd_is (v / 2 ^ 40 % 2) _ rfl
  rw [show (decV v).all = decide (v / 2 ^ 40 % 2 = 1) from rfl, show (decV v).tg = ((v % 65536 : Nat) : Int) from rfl, show (decV v).odd = oddV v from odd_eq v] at HTO
  rw [hid] at HP24 ⊢
  obtain ⟨al, hal⟩ : ∃ al, decide (v / 2 ^ 40 % 2 = 1) = al := ⟨_, rfl⟩
  rw [hal] at HTO w40
  obtain ⟨x4, hx4⟩ : ∃ x, v / 2 ^ 40 % 2 = x := ⟨_, rfl⟩
  rw [hx4] at HP40 w40
  obtain ⟨tg, htg⟩ : ∃ x, v % 65536 = x := ⟨_, rfl⟩
  rw [htg] at HP0 HTO
  obtain ⟨od, hod⟩ : ∃ x, oddV v = x := ⟨_, rfl⟩
  rw [hod] at HOD HTO
  obtain ⟨L, hL⟩ : ∃ L, toL (decV v) fr D.cs.length = L := ⟨_, rfl⟩
  rw [hL] at HTO HIN HL8 ⊢
  obtain ⟨n9, hn9⟩ : ∃ n9, D.cs.length = n9 := ⟨_, rfl⟩
  have HN9 := hi hn9
  rw [hn9] at HTO HIN
  have HLE := hi h.le
  clear h hk ok hal hx4 htg hod hL hid hn9 hv
  go_enter Tryz.func53, Tryz.ntmps53
  go_wp2_with (first
   | (go_at_call 60; ((with_reducible refine HT.out.mono ?_); rintro e w1 ⟨rfl, rfl⟩))
   | (go_at_call 95; ((with_reducible refine (HP24.out _).mono ?_); rintro e w1 ⟨rfl, rfl⟩)))
  have HB1 := hi (show Below w.heap.size w w.drew from Below.drewN (m := 1) (Below.refl _ _))
  have HD1 := hi (HD.out.below HB1.out)
  refine wp_region_noPanic ?_
  refine wp_region_last_drew (S := (fun W' => CB W' (b 0) 105 #[.bool D.g0, .bool D.g1, .pointer (some ⟨b 5, 0, none⟩), .slice (some ⟨b 1, 0, none⟩) D.sh.length (c 0), .slice (some ⟨b 2, 0, none⟩) D.sh.length (c 1), .slice (some ⟨b 3, 0, none⟩) n9 (c 2), .slice (some ⟨b 4, 0, none⟩) n9 (c 3)])) [] (by kernel_rfl) (by have := HD1.out.box; rwa [HN9.out] at this) (fun hHeld => ?_)
  (try simp only [r1, r2, r3, r4, r5])
  obtain ⟨Wd, hWd⟩ : ∃ Wd, w.drew = Wd := ⟨_, rfl⟩
  rw [hWd] at HD1 HB1 hHeld ⊢
  clear hWd
  refine tk 0 (v := ?_) rfl (Or.inl ⟨by rfl, ?_⟩) ?_
  rotate_left
  ·intro w' hSw; (try dsimp only at hSw); have k5 := hSw.cell 5; go_simp; (try with_reducible rfl)
  (try simp only [Act.put, n1, n2, n4, n5, n6])
  refine tk 3 (v := ?_) rfl (Or.inl ⟨by rfl, ?_⟩) ?_
  rotate_left
  ·intro w' hSw; (try dsimp only at hSw); have k5 := hSw.cell 5; go_simp; (try with_reducible rfl)
  (try simp only [Act.put, n1, n2, n3, n4, n5, n6])
  refine tk 5 (v := ?_) rfl (Or.inl ⟨by rfl, ?_⟩) ?_
  rotate_left
  ·intro w' hSw; (try dsimp only at hSw); have k5 := hSw.cell 5; go_simp; (try with_reducible rfl)
  (try simp only [Act.put, n1, n2, n3, n4, n5, n6])
  refine tk 7 (v := ?_) rfl (Or.inl ⟨by rfl, ?_⟩) ?_
  rotate_left
  ·intro w' hSw; (try dsimp only at hSw); have k5 := hSw.cell 5; go_simp; (try with_reducible rfl)
  (try simp only [Act.put, n1, n2, n3, n4, n5, n6])
  refine tk 8 (v := ?_) rfl (Or.inl ⟨by rfl, ?_⟩) ?_
  rotate_left
  ·intro w' hSw; (try dsimp only at hSw); have k5 := hSw.cell 5; go_simp; (try with_reducible rfl)
  (try simp only [Act.put, n1, n2, n3, n4, n5, n6])
  refine tk 9 (v := ?_) rfl (Or.inl ⟨by rfl, ?_⟩) ?_
  rotate_left
  ·intro w' hSw; (try dsimp only at hSw); have k5 := hSw.cell 5; go_simp; (try with_reducible rfl)
  (try simp only [Act.put, n1, n2, n3, n4, n5, n6])
  refine tk 10 (v := ?_) rfl (Or.inl ⟨by rfl, ?_⟩) ?_
  rotate_left
  ·intro w' hSw; (try dsimp only at hSw); have k5 := hSw.cell 5; go_simp; (try with_reducible rfl)
  (try simp only [Act.put, n1, n2, n3, n4, n5, n6])
  refine tk 11 (v := ?_) rfl (Or.inl ⟨by rfl, ?_⟩) ?_
  rotate_left
  ·intro w' hSw; (try dsimp only at hSw); have k5 := hSw.cell 5; go_simp; (try with_reducible rfl)
  (try simp only [Act.put, n1, n2, n3, n4, n5, n6])
  refine tk 12 (v := ?_) rfl (Or.inl ⟨by rfl, ?_⟩) ?_
  rotate_left
  ·intro w' hSw; (try dsimp only at hSw); have k5 := hSw.cell 5; go_simp; (try with_reducible rfl)
  (try simp only [Act.put, n1, n2, n3, n4, n5, n6])
  refine wpAnyF_ready (rs := [1]) (by kernel_rfl) (by simp) ?_
  refine AllReadyF.cons rfl (fun KK hKK => ?_) AllReadyF.nil
  go_simp
  ((with_reducible refine (HP40.out _).mono ?_); rintro e' w4 ⟨rfl, rfl⟩)
  (try go_simp)
  refine hKK.out _ _ hHeld (fun hHeld => ?_)
  clear hKK KK
  (try simp only [Act.put, n1, n2, n3, n4, n5, n6])
  refine tk 2 (v := ?_) rfl (Or.inl ⟨by rfl, ?_⟩) ?_
  rotate_left
  ·intro w' hSw; (try dsimp only at hSw); have k5 := hSw.cell 5; go_simp; (try with_reducible rfl)
  (try simp only [Act.put, n1, n2, n3, n4, n5, n6])
  refine wpAnyF_ready (rs := [4]) (by kernel_rfl) (by simp) ?_
  refine AllReadyF.cons rfl (fun KK hKK => ?_) AllReadyF.nil
  go_simp
  ((with_reducible refine (HOD.out _).mono ?_); rintro e' w4 ⟨rfl, rfl⟩)
  (try go_simp)
  refine hKK.out _ _ hHeld (fun hHeld => ?_)
  clear hKK KK
  (try simp only [Act.put, n1, n2, n3, n4, n5, n6])
  refine wpAnyF_ready (rs := [6]) (by kernel_rfl) (by simp) ?_
  refine AllReadyF.cons rfl (fun KK hKK => ?_) AllReadyF.nil
  go_simp
  ((with_reducible refine (HP0.out _).mono ?_); rintro e' w4 ⟨rfl, rfl⟩)
  (try go_simp)
  refine hKK.out _ _ hHeld (fun hHeld => ?_)
  clear hKK KK
  (try simp only [Act.put, n1, n2, n3, n4, n5, n6])
  refine wpAnyF_ready (rs := [13]) (by kernel_rfl) (by simp) ?_
  refine AllReadyF.cons rfl (fun KK hKK => ?_) AllReadyF.nil
  go_simp
  ((with_reducible refine (HTO.out _).mono ?_); rintro e' w4 ⟨o, rfl, hC⟩; obtain ⟨a, cap, rfl, hnw⟩ := hC.new; have HB5 := hi (HB1.out.trans (hC.below.mono HB1.out.size)); have HNW := hi (show NewInts hi' a (nums L) w4 from fun hne => (hnw hne).elim fun gz q => ⟨gz, q.1, Nat.le_trans HLE.out (Nat.le_trans HB1.out.size q.2.1), q.2.2⟩); have hSS := hHeld.below hC.below; clear hC hnw)
  (try go_simp)
  refine hKK.out _ _ hSS (fun hHeld => ?_)
  clear hKK KK
  (try simp only [Act.put, n1, n2, n3, n4, n5, n6])
  refine tk 14 (v := ?_) rfl (Or.inl ⟨by rfl, ?_⟩) ?_
  rotate_left
  ·intro w' hSw; (try dsimp only at hSw); have k5 := hSw.cell 5; go_simp; (try with_reducible rfl)
  (try simp only [Act.put, n1, n2, n3, n4, n5, n6])
  refine wpAnyF_done (by kernel_rfl) ?_ _
  refine NoPanic.normal ?_
  clear hHeld HD1 HB1 HT HP24 HP40 HP0 HOD HTO
  have HLN := hi (nums_len L)
  go_wp2
  rw [HLN.out]
  go_loopw [12, 13] (fun o i wr => ∃ k : Nat, i = .int .i64 k ∧ o = .int .i64 ((callL D (i0 : Nat) g (L.take k)).2 : Nat) ∧ Hi (k ≤ L.length ∧ RdAf w lo hi' b c (callL D (i0 : Nat) g (L.take k)).1 wr ∧ NewInts hi' a (nums L) wr)) (fun _ i _ => L.length - (intOf i).toNat)
  case atStart => exact ⟨0, rfl, rfl, hi ⟨Nat.zero_le _, RdAf.of HD.out HB5.out, HNW.out⟩⟩
  case round =>
   obtain ⟨k, rfl, rfl, HX⟩ := hrel
   clear HNW HB5 HD
   have hkl := HX.out.1
   have HCN := hi (show (callL D (i0 : Nat) g (L.take k)).2 ≤ 8 from Nat.le_trans (callL_count D _ _ _) (by rw [List.length_take]; have := HL8.out; omega))
   by_cases hlt : k < L.length
   ·have hk8 : k < 8 := by have := HL8.out; omega
    have HSN := hi (callL_take D (i0 : Nat) g L hlt)
    have hxin := HIN.out _ (List.getElem_mem hlt)
    have HOKK := hi (callL_ok HOK.out (i0 : Nat) g (L.take k) (fun y hy => by rw [HN9.out]; exact HIN.out y (List.mem_of_mem_take hy)))
    have HLK := hi (callL_len D (i0 : Nat) g (L.take k))
    obtain ⟨x, hx⟩ : ∃ x, L[k] = x := ⟨_, rfl⟩
    have HXV := hi (numsV_at hlt)
    have HNE := hi (show nums L ≠ [] from fun e => by have := congrArg List.length e; rw [nums_len] at this; simp at this; rw [this] at hlt; simp at hlt)
    rw [hx] at HSN HXV hxin
    obtain ⟨Q, hQ⟩ : ∃ Q, callL D (i0 : Nat) g (L.take k) = Q := ⟨_, rfl⟩
    rw [hQ] at HSN HOKK HLK HCN HX ⊢
    obtain ⟨E, n⟩ := Q
    dsimp only at HSN HOKK HLK HCN HX ⊢
    clear hx hQ
    have HXX := hi (show x < E.cs.length by rw [HLK.out, HN9.out]; exact hxin)
    obtain ⟨gl, rfl, hgl, hrow⟩ := HX.out.2.2 HNE.out
    have hcell : wr.cell? ⟨gl, k, none⟩ = some (.int .i64 (x : Nat)) := (hrow.cell (by rw [List.length_map, nums_len]; exact hlt)).trans HXV.out
    have hw : IntKind.i64.wrap ((n : Int) + 1) = ((n + 1 : Nat) : Int) := by have := HCN.out; rw [IntKind.wrap_i64]; omega
    go_wp2
    refine wp_region_noPanic ?_
    refine wp_region_last_drew (S := (fun W' => RdAt W' lo hi' b c E ∧ W'.cell? ⟨gl, k, none⟩ = some (.int .i64 (x : Nat)))) [] (by kernel_rfl) ⟨HX.out.2.1.rd.drew, hcell⟩ (fun hHeld => ?_)
    (try simp only [r1, r2, r3, r4, r5])
    refine tk 0 (v := ?_) rfl (Or.inl ⟨by rfl, ?_⟩) ?_
    rotate_left
    ·intro w' hSw; (try dsimp only at hSw); have k5 := hSw.1.box.cell 5; rw [HLK.out, HN9.out] at k5; have kp := hSw.1.ptr HXX.out; have kc := hSw.2; go_simp; (try with_reducible rfl)
    (try simp only [Act.put, n1, n2, n4, n5, n6])
    refine tk 1 (v := ?_) rfl (Or.inl ⟨by rfl, ?_⟩) ?_
    rotate_left
    ·intro w' hSw; (try dsimp only at hSw); have k5 := hSw.1.box.cell 5; rw [HLK.out, HN9.out] at k5; have kp := hSw.1.ptr HXX.out; have kc := hSw.2; go_simp; (try with_reducible rfl)
    (try simp only [Act.put, n1, n2, n3, n4, n5, n6])
    refine tk 2 (v := ?_) rfl (Or.inl ⟨by rfl, ?_⟩) ?_
    rotate_left
    ·intro w' hSw; (try dsimp only at hSw); have k5 := hSw.1.box.cell 5; rw [HLK.out, HN9.out] at k5; have kp := hSw.1.ptr HXX.out; have kc := hSw.2; go_simp; (try with_reducible rfl)
    (try simp only [Act.put, n1, n2, n3, n4, n5, n6])
    refine tk 3 (v := ?_) rfl (Or.inl ⟨by rfl, ?_⟩) ?_
    rotate_left
    ·intro w' hSw; (try dsimp only at hSw); have k5 := hSw.1.box.cell 5; rw [HLK.out, HN9.out] at k5; have kp := hSw.1.ptr HXX.out; have kc := hSw.2; go_simp; (try with_reducible rfl)
    (try simp only [Act.put, n1, n2, n3, n4, n5, n6])
    refine tk 4 (v := ?_) rfl (Or.inl ⟨by rfl, ?_⟩) ?_
    rotate_left
    ·intro w' hSw; (try dsimp only at hSw); have k5 := hSw.1.box.cell 5; rw [HLK.out, HN9.out] at k5; have kp := hSw.1.ptr HXX.out; have kc := hSw.2; go_simp; (try with_reducible rfl)
    (try simp only [Act.put, n1, n2, n3, n4, n5, n6])
    refine tk 5 (v := ?_) rfl (Or.inl ⟨by rfl, ?_⟩) ?_
    rotate_left
    ·intro w' hSw; (try dsimp only at hSw); have k5 := hSw.1.box.cell 5; rw [HLK.out, HN9.out] at k5; have kp := hSw.1.ptr HXX.out; have kc := hSw.2; go_simp; (try with_reducible rfl)
    (try simp only [Act.put, n1, n2, n3, n4, n5, n6])
    refine tk 6 (v := ?_) rfl (Or.inl ⟨by rfl, ?_⟩) ?_
    rotate_left
    ·intro w' hSw; (try dsimp only at hSw); have k5 := hSw.1.box.cell 5; rw [HLK.out, HN9.out] at k5; have kp := hSw.1.ptr HXX.out; have kc := hSw.2; go_simp; (try with_reducible rfl)
    (try simp only [Act.put, n1, n2, n3, n4, n5, n6])
    refine tk 7 (v := ?_) rfl (Or.inl ⟨by rfl, ?_⟩) ?_
    rotate_left
    ·intro w' hSw; (try dsimp only at hSw); have k5 := hSw.1.box.cell 5; rw [HLK.out, HN9.out] at k5; have kp := hSw.1.ptr HXX.out; have kc := hSw.2; go_simp; (try with_reducible rfl)
    (try simp only [Act.put, n1, n2, n3, n4, n5, n6])
    refine tk 8 (v := ?_) rfl (Or.inl ⟨by rfl, ?_⟩) ?_
    rotate_left
    ·intro w' hSw; (try dsimp only at hSw); have k5 := hSw.1.box.cell 5; rw [HLK.out, HN9.out] at k5; have kp := hSw.1.ptr HXX.out; have kc := hSw.2; go_simp; (try with_reducible rfl)
    (try simp only [Act.put, n1, n2, n3, n4, n5, n6])
    refine tk 9 (v := ?_) rfl (Or.inl ⟨by rfl, ?_⟩) ?_
    rotate_left
    ·intro w' hSw; (try dsimp only at hSw); have k5 := hSw.1.box.cell 5; rw [HLK.out, HN9.out] at k5; have kp := hSw.1.ptr HXX.out; have kc := hSw.2; go_simp; (try with_reducible rfl)
    (try simp only [Act.put, n1, n2, n3, n4, n5, n6])
    refine tk 10 (v := ?_) rfl (Or.inl ⟨by rfl, ?_⟩) ?_
    rotate_left
    ·intro w' hSw; (try dsimp only at hSw); have k5 := hSw.1.box.cell 5; rw [HLK.out, HN9.out] at k5; have kp := hSw.1.ptr HXX.out; have kc := hSw.2; go_simp; (try with_reducible rfl)
    (try simp only [Act.put, n1, n2, n3, n4, n5, n6])
    refine wpAnyF_done (by kernel_rfl) ?_ _
    refine NoPanic.normal ?_
    clear hHeld
    have HR2 := hi HX.out.2.1.rd.drew
    have hown := HR2.out.own x HXX.out
    have h32 := HOKK.out.own x HXX.out
    obtain ⟨lc, c1, hl⟩ := hown.line (j := i0) (by rw [h32]; omega)
    have d5 := hl.c5
    rw [h32] at c1
    have HDO := hi (rfb_do (id := (i0 : Nat)) (a := 3) hown (HOKK.out.fitO HXX.out))
    unfold callStep inG at HSN
    dsimp only at HSN
    rw [Int.toNat_natCast] at HSN
    by_cases hg : (nthE (E.nth x).es i0).ln.g = g
    ·have hq : ((nthE (E.nth x).es i0).ln.g == g) = true := by simpa using hg
     rw [hq, if_pos rfl] at HSN
     obtain ⟨gg, hgg⟩ : ∃ gg, (nthE (E.nth x).es i0).ln.g = gg := ⟨_, rfl⟩
     rw [hgg] at d5 hq
     clear hown hl h32 hg hgg hcell hrow
     go_wp2_with (go_at_call 65; ((with_reducible refine HDO.out.mono ?_); rintro e w3 ⟨rfl, hA⟩; have HS3 := hi (HR2.out.setOwn HXX.out hA); clear hA))
     go_roundw
     case rel =>
      refine ⟨k + 1, by go_num, by rw [HSN.out]; simp, hi ⟨hlt, ?_⟩⟩
      rw [HSN.out]
      have hk3 := HS3.out.2
      have hkd : Kept (InR lo hi') wr w3 := (Kept.of (show Below wr.heap.size wr wr.drew from Below.drewN (m := 1) (Below.refl _ _))).trans hk3
      exact ⟨⟨HS3.out.1, HX.out.2.1.kept.trans hkd⟩, HX.out.2.2.kept hkd (fun i q => q.2)⟩
     case measure => simp only [intOf]; omega
    ·have hq : ((nthE (E.nth x).es i0).ln.g == g) = false := by simpa using hg
     rw [hq] at HSN
     simp only [Bool.false_eq_true, if_false] at HSN
     obtain ⟨gg, hgg⟩ : ∃ gg, (nthE (E.nth x).es i0).ln.g = gg := ⟨_, rfl⟩
     rw [hgg] at d5 hq
     clear hown hl h32 hg hgg hcell hrow HDO
     go_wp2
     go_roundw
     case rel =>
      refine ⟨k + 1, by go_num, by rw [HSN.out], hi ⟨hlt, ?_⟩⟩
      rw [HSN.out]
      have hkd : Below wr.heap.size wr wr.drew := Below.drewN (m := 1) (Below.refl _ _)
      exact ⟨⟨HR2.out, HX.out.2.1.kept.trans (Kept.of hkd)⟩, HX.out.2.2.below hkd⟩
     case measure => simp only [intOf]; omega
   ·have e : k = L.length := by omega
    have HR := hi (show callL D (i0 : Nat) g (L.take k) = callL D (i0 : Nat) g L by rw [e, List.take_length])
    subst e
    rw [HR.out] at HX ⊢
    go_wp2
    go_ret2
    exact ⟨rfl, HX.out.2.1⟩
end
end Go.Proofs.YtieedhdmpabfkaaGreat
