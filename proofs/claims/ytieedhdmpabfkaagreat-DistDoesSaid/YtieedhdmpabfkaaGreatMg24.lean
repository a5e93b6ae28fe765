import Derived.Test.YtieedhdmpabfkaaGreatMg23
import Derived.Test.YtieedhdmpabfkaaGreatMg02
set_option linter.unusedSimpArgs false
namespace Go.Proofs.YtieedhdmpabfkaaGreat
open Go.ChangeShapes Go.WideShapes Go.ChangeAt Go.RowKit Go.Shelf
set_option linter.unusedVariables false
attribute [local go_sem] Oper.semAt_some
def rseenF (D : Ds) (k : Int) (id : Nat) : Bool := decide (id < 32) || targetV D id == k
def rseenV (D : Ds) (k : Int) : List Int := if hasN D.cs.length k then nums (upto (rseenF D k) (32 + D.sh.length)) else []
section
variable {w : World} {lo hi' : Nat} {b c : Nat → Nat} {D : Ds}
set_option maxRecDepth 100000 in
set_option maxHeartbeats 4000000 in
theorem rseen_dist (h : RdAt w lo hi' b c D) (ok : D.Ok) (k : Int) :
  Calls Tryz.prog 55 #[.pointer (some ⟨b 0, 0, none⟩), .int .i64 k] w fun e W => ∃ o, e = .returned o ∧ Col w o (rseenV D k) W := by
 have HT := hi (h.there k)
 have HD := hi h
 unfold rseenV
 cases hk : hasN D.cs.length k
 ·simp only [Bool.false_eq_true, if_false]
  rw [hk] at HT
  clear h hk ok HD
  go_enter Tryz.func55, Tryz.ntmps55
  go_wp2_with (go_at_call 60; ((with_reducible refine HT.out.mono ?_); rintro e w1 ⟨rfl, rfl⟩))
  go_ret
  exact ⟨_, rfl, Col.nil _ _ (Below.refl _ _)⟩
 ·simp only [if_true]
  rw [hk] at HT
  obtain ⟨i0, hi2, hz0, hz1, hz2⟩ := info_parts info_i
  have HTG := hi (fun W (q : Below w.heap.size w W) (id : Int) => rtarget_dist (h.below q) ok id)
  have HBX := hi (fun W (q : Below w.heap.size w W) => (h.below q).box.cell 3)
  have hm := ok.m
  obtain ⟨f, hf⟩ : ∃ f, rseenF D k = f := ⟨_, rfl⟩
  have HF := hi (fun j => congrFun hf j)
  obtain ⟨m, hm'⟩ : ∃ m, D.sh.length = m := ⟨_, rfl⟩
  rw [hf]
  rw [hm'] at HBX hm ⊢
  have hwm : IntKind.i64.wrap (32 + (m : Int)) = ((32 + m : Nat) : Int) := by rw [IntKind.wrap_i64]; omega
  obtain ⟨n, hn⟩ : ∃ n, 32 + m = n := ⟨_, rfl⟩
  have hn96 : n ≤ 96 := by omega
  rw [hn] at hwm ⊢
  clear h hk ok hf hm' hm hn HD
  go_enter Tryz.func55, Tryz.ntmps55
  go_wp2_with (go_at_call 60; ((with_reducible refine HT.out.mono ?_); rintro e w1 ⟨rfl, rfl⟩))
  clear HT
  go_loopw [5, 6] (fun o i wr => ∃ j : Nat, i = .int .i64 j ∧ Hi (j ≤ n ∧ Col w o (nums (upto f j)) wr)) (fun _ i _ => n - (intOf i).toNat)
  case atStart => exact ⟨0, rfl, hi ⟨Nat.zero_le _, Col.nil _ _ (Below.refl _ _)⟩⟩
  case round =>
   obtain ⟨j, rfl, HH⟩ := hrel
   obtain ⟨hj, hC⟩ := HH.out
   have c3 := HBX.out wr hC.below
   by_cases hlt : j < n
   ·have hfj := HF.out j
    have HTJ := hi (HTG.out wr hC.below j)
    obtain ⟨q, eq⟩ : ∃ q, nums (upto f j) = q := ⟨_, rfl⟩
    have hq8 : q.length ≤ 96 := by rw [← eq, nums_len]; have := upto_len f j; omega
    rw [eq] at hC
    have HC := hi hC
    have HLT := hi hlt
    have HQ := hi eq
    obtain ⟨ao, co, rfl⟩ := own_slice HC.out.own
    clear hC hj HH eq HF HTG HBX
    unfold rseenF at hfj
    obtain ⟨T, hT⟩ : ∃ T, targetV D (j : Int) = T := ⟨_, rfl⟩
    rw [hT] at HTJ hfj
    clear hT
    by_cases h32 : j < 32
    ·have hd : decide ((j : Int) < 32) = true := by simp; omega
     have HE := hi (upto_pos (f := f) (n := j) (by rw [← hfj]; simp [h32]))
     clear hfj HTJ
     go_wp2_with (first
      | (at_builtin; refine wpList_append_own _ rfl _ _ 47 rfl w.heap.size 3 i0 (.int .i64 0) 1 8 Tryz.underlying47 hi2 hz0 hz1 hz2 rfl (by decide) _ _ _ rfl (HC.out.own.alloc _) ⟨wr.heap.size, 0, none⟩ 1 1 [.int .i64 j] rfl rfl (cell_one_new _ _ _) (by simp [Value.oneCell']) (by unfold maxLen; omega) (by omega) (by have := HC.out.sz; simp; omega) ?_; intro v' w1 hown' hgrow _; obtain ⟨hc1, g', cap', rfl⟩ := HC.out.app hown' hgrow; replace HC := hi hc1; clear hown' hgrow hc1))
     go_roundw
     case rel => exact ⟨j + 1, by go_num, hi ⟨HLT.out, by rw [HE.out, nums_append, nums_one, HQ.out]; exact HC.out⟩⟩
     case measure => have := HLT.out; simp only [intOf]; omega
    ·have hd : decide ((j : Int) < 32) = false := by simp; omega
     cases hq : (T == k)
     ·have HE := hi (upto_neg (f := f) (n := j) (by rw [← hfj, hq]; simp [h32]))
      clear hfj h32
      go_wp2_with (go_at_call 58; ((with_reducible refine HTJ.out.mono ?_); rintro e w1 ⟨rfl, rfl⟩))
      go_roundw
      case rel => exact ⟨j + 1, by go_num, hi ⟨HLT.out, by rw [HE.out, HQ.out]; exact HC.out⟩⟩
      case measure => have := HLT.out; simp only [intOf]; omega
     ·have HE := hi (upto_pos (f := f) (n := j) (by rw [← hfj, hq]; simp))
      clear hfj h32
      go_wp2_with (first
       | (go_at_call 58; ((with_reducible refine HTJ.out.mono ?_); rintro e w1 ⟨rfl, rfl⟩))
       | (at_builtin; refine wpList_append_own _ rfl _ _ 47 rfl w.heap.size 3 i0 (.int .i64 0) 1 8 Tryz.underlying47 hi2 hz0 hz1 hz2 rfl (by decide) _ _ _ rfl (HC.out.own.alloc _) ⟨wr.heap.size, 0, none⟩ 1 1 [.int .i64 j] rfl rfl (cell_one_new _ _ _) (by simp [Value.oneCell']) (by unfold maxLen; omega) (by omega) (by have := HC.out.sz; simp; omega) ?_; intro v' w1 hown' hgrow _; obtain ⟨hc1, g', cap', rfl⟩ := HC.out.app hown' hgrow; replace HC := hi hc1; clear hown' hgrow hc1))
      go_roundw
      case rel => exact ⟨j + 1, by go_num, hi ⟨HLT.out, by rw [HE.out, nums_append, nums_one, HQ.out]; exact HC.out⟩⟩
      case measure => have := HLT.out; simp only [intOf]; omega
   ·obtain rfl : j = n := by omega
    have HC := hi hC
    obtain ⟨ao, co, rfl⟩ := own_slice HC.out.own
    clear hC hj HH HF HTG HBX
    go_wp2
    go_ret
    exact ⟨_, rfl, HC.out⟩
end
end Go.Proofs.YtieedhdmpabfkaaGreat
namespace Go.Proofs.YtieedhdmpabfkaaGreat
open Go.ChangeShapes Go.WideShapes Go.ChangeAt Go.RowKit Go.Shelf
set_option linter.unusedVariables false
attribute [local go_sem] Oper.semAt_some
def rdyL (g0 g1 : Bool) (l : Ln) : Bool := l.en && ((if l.g = 0 then g0 else g1) && l.st.ready)
def rreadyF (D : Ds) (k id : Int) : Bool := rdyL D.g0 D.g1 (getV D k id).1
def rreadyV (D : Ds) (k : Int) : List Int := if asleepV D k then [] else (rseenV D k).filter (rreadyF D k)
theorem rseenV_len {D : Ds} (ok : D.Ok) (k : Int) : (rseenV D k).length ≤ 96 := by
 unfold rseenV
 split
 ·rw [nums_len]
  have := upto_len (rseenF D k) (32 + D.sh.length)
  have := ok.m
  omega
 ·exact Nat.zero_le _
theorem getR_fine {f : Int} {es : List En} (h : FineAll es) (id : Int) : Fine (getR f es id).1.ln := by
 unfold getR
 split
 ·exact fine_nth es h _
 ·exact fine_zero
theorem getV_fine {D : Ds} (ok : D.Ok) (k id : Int) : Fine (getV D k id).1 := by
 unfold getV
 cases hk : hasN D.cs.length k
 ·exact fine_zero
 ·obtain ⟨j, rfl, hj⟩ := hasN_at hk
  simp only [if_true, Int.toNat_natCast]
  split
  ·exact getR_fine (ok.fine j hj) id
  ·exact getR_fine ok.fsh id
theorem filter_take {p : Int → Bool} {L : List Int} {j : Nat} (h : j < L.length) : (L.take (j + 1)).filter p = if p L[j] then (L.take j).filter p ++ [L[j]] else (L.take j).filter p := by
 rw [← List.take_append_getElem h, List.filter_append]
 cases hp : p L[j] <;> simp [hp]
theorem _root_.Go.World.ownsRow.below_ {W W' : World} {base sz : Nat} {te : TypeId} {v : Value} {n : Nat} {cs : List Value} (h : W.ownsRow base te sz v n cs) (k : Below W.heap.size W W') : W'.ownsRow base te sz v n cs := own_later h k
theorem Col.from_ {w w1 W : World} {o : Value} {xs : List Int} (h : Col w1 o xs W) (hb : Below w.heap.size w w1) : Col w o xs W := ⟨own_base h.own hb.size, hb.trans (h.below.mono hb.size)⟩
section
variable {w : World} {lo hi' : Nat} {b c : Nat → Nat} {D : Ds}
set_option maxRecDepth 100000 in
set_option maxHeartbeats 8000000 in
theorem rready_dist (h : RdAt w lo hi' b c D) (ok : D.Ok) (k : Int) :
  Calls Tryz.prog 56 #[.pointer (some ⟨b 0, 0, none⟩), .int .i64 k] w fun e W => ∃ o, e = .returned o ∧ Col w o (rreadyV D k) W := by
 have HT := hi (h.there k)
 have HD := hi h
 unfold rreadyV asleepV
 cases hk : hasN D.cs.length k
 ·simp only [Bool.not_false, Bool.true_or, if_true]
  rw [hk] at HT
  clear h hk ok HD
  go_enter Tryz.func56, Tryz.ntmps56
  go_wp2_with (go_at_call 60; ((with_reducible refine HT.out.mono ?_); rintro e w1 ⟨rfl, rfl⟩))
  go_ret
  exact ⟨_, rfl, Col.nil _ _ (Below.refl _ _)⟩
 ·obtain ⟨i0, hi2, hz0, hz1, hz2⟩ := info_parts info_i
  obtain ⟨kk, rfl, hkn⟩ := hasN_at hk
  rw [hk] at HT
  simp only [Bool.not_true, Bool.false_or, Int.toNat_natCast]
  have c6 := h.box.cell 6
  have qs := h.slpc hkn
  obtain ⟨sl, hsl⟩ : ∃ sl, (D.nth kk).sl = sl := ⟨_, rfl⟩
  rw [hsl] at qs ⊢
  obtain ⟨n9, hn9⟩ : ∃ n9, D.cs.length = n9 := ⟨_, rfl⟩
  rw [hn9] at c6 hkn
  have HSN := hi (fun W (q : Below w.heap.size w W) => rseen_dist (h.below q) ok (kk : Int))
  have HGT := hi (fun W (q : Below w.heap.size w W) (id : Int) => rget_dist (h.below q) ok (kk : Int) id)
  have HFN := hi (fun id => getV_fine ok (kk : Int) id)
  have HL96 := hi (rseenV_len ok (kk : Int))
  have HRF := hi (fun id => show rreadyF D kk id = rdyL D.g0 D.g1 (getV D kk id).1 from rfl)
  obtain ⟨F, hF⟩ : ∃ F, rreadyF D kk = F := ⟨_, rfl⟩
  obtain ⟨L, hL⟩ : ∃ L, rseenV D kk = L := ⟨_, rfl⟩
  rw [hF, hL]
  rw [hF] at HRF
  rw [hL] at HSN HL96
  clear h hk ok hsl hF hL hn9
  cases sl
  ·simp only [Bool.false_eq_true, if_false]
   go_enter Tryz.func56, Tryz.ntmps56
   go_wp2_with (first
    | (go_at_call 60; ((with_reducible refine HT.out.mono ?_); rintro e w1 ⟨rfl, rfl⟩))
    | (go_at_call 55; ((with_reducible refine (HSN.out w (Below.refl _ _)).mono ?_); rintro e w1 ⟨o, rfl, hC⟩; obtain ⟨a, cap, rfl, hnw⟩ := hC.new; have HB1 := hi hC.below; have HNW := hi hnw; clear hC hnw)))
   clear HT HSN c6 qs
   go_loopw [5, 27] (fun o i wr => ∃ j : Nat, i = .int .i64 j ∧ Hi (j ≤ L.length ∧ Col w1 o ((L.take j).filter F) wr)) (fun _ i _ => L.length - (intOf i).toNat)
   case atStart => exact ⟨0, rfl, hi ⟨Nat.zero_le _, Col.nil _ _ (Below.refl _ _)⟩⟩
   case round =>
    obtain ⟨j, rfl, HH⟩ := hrel
    obtain ⟨hj, hC⟩ := HH.out
    by_cases hlt : j < L.length
    ·have hj96 : j < 96 := by have := HL96.out; omega
     have HBW := hi (HB1.out.trans (hC.below.mono HB1.out.size))
     have HFT := hi (filter_take (p := F) hlt)
     obtain ⟨gl, rfl, hgl, hrow⟩ := (HNW.out.below hC.below) (fun e => by rw [e] at hlt; simp at hlt)
     have hcell : wr.cell? ⟨gl, j, none⟩ = some (.int .i64 L[j]) := (hrow.cell (by rw [List.length_map]; exact hlt)).trans (by simp [hlt])
     obtain ⟨x, hx⟩ : ∃ x, L[j] = x := ⟨_, rfl⟩
     rw [hx] at hcell HFT
     obtain ⟨q, eq⟩ : ∃ q, (L.take j).filter F = q := ⟨_, rfl⟩
     have hq8 : q.length ≤ 96 := by rw [← eq]; have := List.length_filter_le F (L.take j); rw [List.length_take] at this; omega
     rw [eq] at hC HFT
     have HC := hi hC
     have HLT := hi hlt
     have HG := hi (HGT.out wr HBW.out x)
     have HRX := hi (HRF.out x)
     have hfn := HFN.out x
     obtain ⟨⟨y, er⟩, hy⟩ : ∃ y, getV D kk x = y := ⟨_, rfl⟩
     rw [hy] at HG HRX hfn
     dsimp only at HG HRX hfn
     obtain ⟨⟨e, l, hh, ac⟩, en, gr, p⟩ := y
     obtain ⟨gn, hgn, hg2⟩ : ∃ gn : Nat, gr = gn ∧ gn < 2 := by
      have := hfn.g
      dsimp only at this
      exact ⟨gr.toNat, by omega, by omega⟩
     subst hgn
     have hgi : ((gn : Nat) : Int) < 2 := by omega
     obtain ⟨on, hon⟩ : ∃ on, (if ((gn : Nat) : Int) = 0 then D.g0 else D.g1) = on := ⟨_, rfl⟩
     have HKX := hi (fun W (q : CB W (b 0) 105 #[.bool D.g0, .bool D.g1, .pointer (some ⟨b 5, 0, none⟩), .slice (some ⟨b 1, 0, none⟩) D.sh.length (c 0), .slice (some ⟨b 2, 0, none⟩) D.sh.length (c 1), .slice (some ⟨b 3, 0, none⟩) D.cs.length (c 2), .slice (some ⟨b 4, 0, none⟩) D.cs.length (c 3)]) => show W.cell? ⟨b 0, gn, none⟩ = some (.bool on) from by
      rw [← hon]
      have : gn = 0 ∨ gn = 1 := by omega
      rcases this with rfl | rfl
      ·exact q.cell 0
      ·exact q.cell 1)
     have HRE := hi (fun W => rready_any ⟨e, l, hh, ac⟩ W)
     unfold rdyL at HRX
     dsimp only at HRX
     rw [hon] at HRX
     obtain ⟨rd, hrd⟩ : ∃ rd, (⟨e, l, hh, ac⟩ : St).ready = rd := ⟨_, rfl⟩
     rw [hrd] at HRX HRE
     dsimp only [St.v] at HRE
     dsimp only [Ln.v] at HG
     obtain ⟨ao, co, rfl⟩ := own_slice HC.out.own
     clear hC hj HH eq hrd hon hx hy hfn HRF HGT HFN hrow
     go_wp2_with (go_at_call 57; ((with_reducible refine HG.out.mono ?_); rintro e' w2 ⟨rfl, hb⟩; have HB2 := hi hb; have hsz := hb.size; clear hb))
     have HPB := hi (CB.new w2 58 #[.bool e, .bool l, .bool hh, .bool ac, .bool en, .int .i64 (gn : Nat), .int .i64 p])
     have HB3 := hi (HB2.out.alloc HB2.out.size (.cells #[.bool e, .bool l, .bool hh, .bool ac, .bool en, .int .i64 (gn : Nat), .int .i64 p] 58))
     obtain ⟨W1, hW1⟩ : ∃ W1, w2.alloc (.cells #[.bool e, .bool l, .bool hh, .bool ac, .bool en, .int .i64 (gn : Nat), .int .i64 p] 58) = W1 := ⟨_, rfl⟩
     obtain ⟨N, hN⟩ : ∃ N, w2.heap.size = N := ⟨_, rfl⟩
     rw [hW1] at HPB HB3 ⊢
     rw [hN] at HPB ⊢
     have HB4 := hi (show Below wr.heap.size wr W1.drew from Below.drewN (m := 1) HB3.out)
     have HDB := hi ((HD.out.below HBW.out).below HB4.out).box
     clear hW1 hN hsz HG
     cases en
     ·simp only [Bool.false_and] at HRX
      refine wp_region_noPanic ?_
      refine wp_region_last_drew (S := (fun W' => CB W' (b 0) 105 #[.bool D.g0, .bool D.g1, .pointer (some ⟨b 5, 0, none⟩), .slice (some ⟨b 1, 0, none⟩) D.sh.length (c 0), .slice (some ⟨b 2, 0, none⟩) D.sh.length (c 1), .slice (some ⟨b 3, 0, none⟩) D.cs.length (c 2), .slice (some ⟨b 4, 0, none⟩) D.cs.length (c 3)] ∧ CB W' N 58 #[.bool e, .bool l, .bool hh, .bool ac, .bool false, .int .i64 (gn : Nat), .int .i64 p])) [] (by kernel_rfl) ⟨HDB.out, HPB.out.drew⟩ (fun hHeld => ?_)
      (try simp only [r1, r2, r3, r4, r5])
      refine tk 0 (v := ?_) rfl (Or.inl ⟨by rfl, ?_⟩) ?_
      rotate_left
      ·intro w' hSw; (try dsimp only at hSw); have kx := HKX.out _ hSw.1; have p0 := hSw.2.cell 0; have p1 := hSw.2.cell 1; have p2 := hSw.2.cell 2; have p3 := hSw.2.cell 3; have p4 := hSw.2.cell 4; have p5 := hSw.2.cell 5; go_simp; (try rw [if_pos hgi]); (try with_reducible rfl)
      (try simp only [Act.put, n1, n2, n4, n5, n6])
      refine tk 1 (v := ?_) rfl (Or.inl ⟨by rfl, ?_⟩) ?_
      rotate_left
      ·intro w' hSw; (try dsimp only at hSw); have kx := HKX.out _ hSw.1; have p0 := hSw.2.cell 0; have p1 := hSw.2.cell 1; have p2 := hSw.2.cell 2; have p3 := hSw.2.cell 3; have p4 := hSw.2.cell 4; have p5 := hSw.2.cell 5; go_simp; (try rw [if_pos hgi]); (try with_reducible rfl)
      (try simp only [Act.put, n1, n2, n3, n4, n5, n6])
      refine tk 2 (v := ?_) rfl (Or.inl ⟨by rfl, ?_⟩) ?_
      rotate_left
      ·intro w' hSw; (try dsimp only at hSw); have kx := HKX.out _ hSw.1; have p0 := hSw.2.cell 0; have p1 := hSw.2.cell 1; have p2 := hSw.2.cell 2; have p3 := hSw.2.cell 3; have p4 := hSw.2.cell 4; have p5 := hSw.2.cell 5; go_simp; (try rw [if_pos hgi]); (try with_reducible rfl)
      (try simp only [Act.put, n1, n2, n3, n4, n5, n6])
      refine tk 3 (v := undef) rfl (Or.inr ⟨by rfl, rfl⟩) ?_
      (try simp only [Act.put, n1, n2, n3, n4, n5, n6])
      refine tk 4 (v := undef) rfl (Or.inr ⟨by rfl, rfl⟩) ?_
      (try simp only [Act.put, n1, n2, n3, n4, n5, n6])
      refine tk 5 (v := undef) rfl (Or.inr ⟨by rfl, rfl⟩) ?_
      (try simp only [Act.put, n1, n2, n3, n4, n5, n6])
      refine tk 6 (v := undef) rfl (Or.inr ⟨by rfl, rfl⟩) ?_
      (try simp only [Act.put, n1, n2, n3, n4, n5, n6])
      refine tk 7 (v := undef) rfl (Or.inr ⟨by rfl, rfl⟩) ?_
      (try simp only [Act.put, n1, n2, n3, n4, n5, n6])
      refine tk 8 (v := undef) rfl (Or.inr ⟨by rfl, rfl⟩) ?_
      (try simp only [Act.put, n1, n2, n3, n4, n5, n6])
      refine tk 9 (v := undef) rfl (Or.inr ⟨by rfl, rfl⟩) ?_
      (try simp only [Act.put, n1, n2, n3, n4, n5, n6])
      refine tk 10 (v := ?_) rfl (Or.inl ⟨by rfl, ?_⟩) ?_
      rotate_left
      ·intro w' hSw; (try dsimp only at hSw); have kx := HKX.out _ hSw.1; have p0 := hSw.2.cell 0; have p1 := hSw.2.cell 1; have p2 := hSw.2.cell 2; have p3 := hSw.2.cell 3; have p4 := hSw.2.cell 4; have p5 := hSw.2.cell 5; go_simp; (try rw [if_pos hgi]); (try with_reducible rfl)
      (try simp only [Act.put, n1, n2, n3, n4, n5, n6])
      refine tk 11 (v := ?_) rfl (Or.inl ⟨by rfl, ?_⟩) ?_
      rotate_left
      ·intro w' hSw; (try dsimp only at hSw); have kx := HKX.out _ hSw.1; have p0 := hSw.2.cell 0; have p1 := hSw.2.cell 1; have p2 := hSw.2.cell 2; have p3 := hSw.2.cell 3; have p4 := hSw.2.cell 4; have p5 := hSw.2.cell 5; go_simp; (try rw [if_pos hgi]); (try with_reducible rfl)
      (try simp only [Act.put, n1, n2, n3, n4, n5, n6])
      refine tk 12 (v := undef) rfl (Or.inr ⟨by rfl, rfl⟩) ?_
      (try simp only [Act.put, n1, n2, n3, n4, n5, n6])
      refine tk 13 (v := undef) rfl (Or.inr ⟨by rfl, rfl⟩) ?_
      (try simp only [Act.put, n1, n2, n3, n4, n5, n6])
      refine tk 14 (v := undef) rfl (Or.inr ⟨by rfl, rfl⟩) ?_
      (try simp only [Act.put, n1, n2, n3, n4, n5, n6])
      refine tk 15 (v := ?_) rfl (Or.inl ⟨by rfl, ?_⟩) ?_
      rotate_left
      ·intro w' hSw; (try dsimp only at hSw); have kx := HKX.out _ hSw.1; have p0 := hSw.2.cell 0; have p1 := hSw.2.cell 1; have p2 := hSw.2.cell 2; have p3 := hSw.2.cell 3; have p4 := hSw.2.cell 4; have p5 := hSw.2.cell 5; go_simp; (try rw [if_pos hgi]); (try with_reducible rfl)
      (try simp only [Act.put, n1, n2, n3, n4, n5, n6])
      refine wpAnyF_done (by kernel_rfl) ?_ _
      refine NoPanic.normal ?_
      obtain ⟨Wz, hWz⟩ : ∃ Wz, W1.drew = Wz := ⟨_, rfl⟩
      rw [hWz] at HB4 ⊢
      have HB5 := hi HB4.out
      clear hWz hHeld
      go_wp2
      go_roundw
      case rel => exact ⟨j + 1, by go_num, hi ⟨HLT.out, by rw [HFT.out, HRX.out]; exact ⟨HC.out.own.below_ HB5.out, HC.out.below.trans (HB5.out.mono HC.out.sz)⟩⟩⟩
      case measure => have := HLT.out; simp only [intOf]; omega
     ·cases on
      ·simp only [Bool.true_and, Bool.false_and] at HRX
       refine wp_region_noPanic ?_
       refine wp_region_last_drew (S := (fun W' => CB W' (b 0) 105 #[.bool D.g0, .bool D.g1, .pointer (some ⟨b 5, 0, none⟩), .slice (some ⟨b 1, 0, none⟩) D.sh.length (c 0), .slice (some ⟨b 2, 0, none⟩) D.sh.length (c 1), .slice (some ⟨b 3, 0, none⟩) D.cs.length (c 2), .slice (some ⟨b 4, 0, none⟩) D.cs.length (c 3)] ∧ CB W' N 58 #[.bool e, .bool l, .bool hh, .bool ac, .bool true, .int .i64 (gn : Nat), .int .i64 p])) [] (by kernel_rfl) ⟨HDB.out, HPB.out.drew⟩ (fun hHeld => ?_)
       (try simp only [r1, r2, r3, r4, r5])
       refine tk 0 (v := ?_) rfl (Or.inl ⟨by rfl, ?_⟩) ?_
       rotate_left
       ·intro w' hSw; (try dsimp only at hSw); have kx := HKX.out _ hSw.1; have p0 := hSw.2.cell 0; have p1 := hSw.2.cell 1; have p2 := hSw.2.cell 2; have p3 := hSw.2.cell 3; have p4 := hSw.2.cell 4; have p5 := hSw.2.cell 5; go_simp; (try rw [if_pos hgi]); (try with_reducible rfl)
       (try simp only [Act.put, n1, n2, n4, n5, n6])
       refine tk 1 (v := ?_) rfl (Or.inl ⟨by rfl, ?_⟩) ?_
       rotate_left
       ·intro w' hSw; (try dsimp only at hSw); have kx := HKX.out _ hSw.1; have p0 := hSw.2.cell 0; have p1 := hSw.2.cell 1; have p2 := hSw.2.cell 2; have p3 := hSw.2.cell 3; have p4 := hSw.2.cell 4; have p5 := hSw.2.cell 5; go_simp; (try rw [if_pos hgi]); (try with_reducible rfl)
       (try simp only [Act.put, n1, n2, n3, n4, n5, n6])
       refine tk 2 (v := ?_) rfl (Or.inl ⟨by rfl, ?_⟩) ?_
       rotate_left
       ·intro w' hSw; (try dsimp only at hSw); have kx := HKX.out _ hSw.1; have p0 := hSw.2.cell 0; have p1 := hSw.2.cell 1; have p2 := hSw.2.cell 2; have p3 := hSw.2.cell 3; have p4 := hSw.2.cell 4; have p5 := hSw.2.cell 5; go_simp; (try rw [if_pos hgi]); (try with_reducible rfl)
       (try simp only [Act.put, n1, n2, n3, n4, n5, n6])
       refine tk 3 (v := ?_) rfl (Or.inl ⟨by rfl, ?_⟩) ?_
       rotate_left
       ·intro w' hSw; (try dsimp only at hSw); have kx := HKX.out _ hSw.1; have p0 := hSw.2.cell 0; have p1 := hSw.2.cell 1; have p2 := hSw.2.cell 2; have p3 := hSw.2.cell 3; have p4 := hSw.2.cell 4; have p5 := hSw.2.cell 5; go_simp; (try rw [if_pos hgi]); (try with_reducible rfl)
       (try simp only [Act.put, n1, n2, n3, n4, n5, n6])
       refine tk 4 (v := ?_) rfl (Or.inl ⟨by rfl, ?_⟩) ?_
       rotate_left
       ·intro w' hSw; (try dsimp only at hSw); have kx := HKX.out _ hSw.1; have p0 := hSw.2.cell 0; have p1 := hSw.2.cell 1; have p2 := hSw.2.cell 2; have p3 := hSw.2.cell 3; have p4 := hSw.2.cell 4; have p5 := hSw.2.cell 5; go_simp; (try rw [if_pos hgi]); (try with_reducible rfl)
       (try simp only [Act.put, n1, n2, n3, n4, n5, n6])
       refine tk 5 (v := ?_) rfl (Or.inl ⟨by rfl, ?_⟩) ?_
       rotate_left
       ·intro w' hSw; (try dsimp only at hSw); have kx := HKX.out _ hSw.1; have p0 := hSw.2.cell 0; have p1 := hSw.2.cell 1; have p2 := hSw.2.cell 2; have p3 := hSw.2.cell 3; have p4 := hSw.2.cell 4; have p5 := hSw.2.cell 5; go_simp; (try rw [if_pos hgi]); (try with_reducible rfl)
       (try simp only [Act.put, n1, n2, n3, n4, n5, n6])
       refine tk 6 (v := ?_) rfl (Or.inl ⟨by rfl, ?_⟩) ?_
       rotate_left
       ·intro w' hSw; (try dsimp only at hSw); have kx := HKX.out _ hSw.1; have p0 := hSw.2.cell 0; have p1 := hSw.2.cell 1; have p2 := hSw.2.cell 2; have p3 := hSw.2.cell 3; have p4 := hSw.2.cell 4; have p5 := hSw.2.cell 5; go_simp; (try rw [if_pos hgi]); (try with_reducible rfl)
       (try simp only [Act.put, n1, n2, n3, n4, n5, n6])
       refine tk 7 (v := ?_) rfl (Or.inl ⟨by rfl, ?_⟩) ?_
       rotate_left
       ·intro w' hSw; (try dsimp only at hSw); have kx := HKX.out _ hSw.1; have p0 := hSw.2.cell 0; have p1 := hSw.2.cell 1; have p2 := hSw.2.cell 2; have p3 := hSw.2.cell 3; have p4 := hSw.2.cell 4; have p5 := hSw.2.cell 5; go_simp; (try rw [if_pos hgi]); (try with_reducible rfl)
       (try simp only [Act.put, n1, n2, n3, n4, n5, n6])
       refine tk 8 (v := ?_) rfl (Or.inl ⟨by rfl, ?_⟩) ?_
       rotate_left
       ·intro w' hSw; (try dsimp only at hSw); have kx := HKX.out _ hSw.1; have p0 := hSw.2.cell 0; have p1 := hSw.2.cell 1; have p2 := hSw.2.cell 2; have p3 := hSw.2.cell 3; have p4 := hSw.2.cell 4; have p5 := hSw.2.cell 5; go_simp; (try rw [if_pos hgi]); (try with_reducible rfl)
       (try simp only [Act.put, n1, n2, n3, n4, n5, n6])
       refine tk 9 (v := ?_) rfl (Or.inl ⟨by rfl, ?_⟩) ?_
       rotate_left
       ·intro w' hSw; (try dsimp only at hSw); have kx := HKX.out _ hSw.1; have p0 := hSw.2.cell 0; have p1 := hSw.2.cell 1; have p2 := hSw.2.cell 2; have p3 := hSw.2.cell 3; have p4 := hSw.2.cell 4; have p5 := hSw.2.cell 5; go_simp; (try rw [if_pos hgi]); (try with_reducible rfl)
       (try simp only [Act.put, n1, n2, n3, n4, n5, n6])
       refine tk 10 (v := ?_) rfl (Or.inl ⟨by rfl, ?_⟩) ?_
       rotate_left
       ·intro w' hSw; (try dsimp only at hSw); have kx := HKX.out _ hSw.1; have p0 := hSw.2.cell 0; have p1 := hSw.2.cell 1; have p2 := hSw.2.cell 2; have p3 := hSw.2.cell 3; have p4 := hSw.2.cell 4; have p5 := hSw.2.cell 5; go_simp; (try rw [if_pos hgi]); (try with_reducible rfl)
       (try simp only [Act.put, n1, n2, n3, n4, n5, n6])
       refine tk 11 (v := ?_) rfl (Or.inl ⟨by rfl, ?_⟩) ?_
       rotate_left
       ·intro w' hSw; (try dsimp only at hSw); have kx := HKX.out _ hSw.1; have p0 := hSw.2.cell 0; have p1 := hSw.2.cell 1; have p2 := hSw.2.cell 2; have p3 := hSw.2.cell 3; have p4 := hSw.2.cell 4; have p5 := hSw.2.cell 5; go_simp; (try rw [if_pos hgi]); (try with_reducible rfl)
       (try simp only [Act.put, n1, n2, n3, n4, n5, n6])
       refine tk 12 (v := undef) rfl (Or.inr ⟨by rfl, rfl⟩) ?_
       (try simp only [Act.put, n1, n2, n3, n4, n5, n6])
       refine tk 13 (v := undef) rfl (Or.inr ⟨by rfl, rfl⟩) ?_
       (try simp only [Act.put, n1, n2, n3, n4, n5, n6])
       refine tk 14 (v := undef) rfl (Or.inr ⟨by rfl, rfl⟩) ?_
       (try simp only [Act.put, n1, n2, n3, n4, n5, n6])
       refine tk 15 (v := ?_) rfl (Or.inl ⟨by rfl, ?_⟩) ?_
       rotate_left
       ·intro w' hSw; (try dsimp only at hSw); have kx := HKX.out _ hSw.1; have p0 := hSw.2.cell 0; have p1 := hSw.2.cell 1; have p2 := hSw.2.cell 2; have p3 := hSw.2.cell 3; have p4 := hSw.2.cell 4; have p5 := hSw.2.cell 5; go_simp; (try rw [if_pos hgi]); (try with_reducible rfl)
       (try simp only [Act.put, n1, n2, n3, n4, n5, n6])
       refine wpAnyF_done (by kernel_rfl) ?_ _
       refine NoPanic.normal ?_
       obtain ⟨Wz, hWz⟩ : ∃ Wz, W1.drew = Wz := ⟨_, rfl⟩
       rw [hWz] at HB4 ⊢
       have HB5 := hi HB4.out
       clear hWz hHeld
       go_wp2
       go_roundw
       case rel => exact ⟨j + 1, by go_num, hi ⟨HLT.out, by rw [HFT.out, HRX.out]; exact ⟨HC.out.own.below_ HB5.out, HC.out.below.trans (HB5.out.mono HC.out.sz)⟩⟩⟩
       case measure => have := HLT.out; simp only [intOf]; omega
      ·simp only [Bool.true_and] at HRX
       refine wp_region_noPanic ?_
       refine wp_region_last_drew (S := (fun W' => CB W' (b 0) 105 #[.bool D.g0, .bool D.g1, .pointer (some ⟨b 5, 0, none⟩), .slice (some ⟨b 1, 0, none⟩) D.sh.length (c 0), .slice (some ⟨b 2, 0, none⟩) D.sh.length (c 1), .slice (some ⟨b 3, 0, none⟩) D.cs.length (c 2), .slice (some ⟨b 4, 0, none⟩) D.cs.length (c 3)] ∧ CB W' N 58 #[.bool e, .bool l, .bool hh, .bool ac, .bool true, .int .i64 (gn : Nat), .int .i64 p])) [] (by kernel_rfl) ⟨HDB.out, HPB.out.drew⟩ (fun hHeld => ?_)
       (try simp only [r1, r2, r3, r4, r5])
       refine tk 0 (v := ?_) rfl (Or.inl ⟨by rfl, ?_⟩) ?_
       rotate_left
       ·intro w' hSw; (try dsimp only at hSw); have kx := HKX.out _ hSw.1; have p0 := hSw.2.cell 0; have p1 := hSw.2.cell 1; have p2 := hSw.2.cell 2; have p3 := hSw.2.cell 3; have p4 := hSw.2.cell 4; have p5 := hSw.2.cell 5; go_simp; (try rw [if_pos hgi]); (try with_reducible rfl)
       (try simp only [Act.put, n1, n2, n4, n5, n6])
       refine tk 1 (v := ?_) rfl (Or.inl ⟨by rfl, ?_⟩) ?_
       rotate_left
       ·intro w' hSw; (try dsimp only at hSw); have kx := HKX.out _ hSw.1; have p0 := hSw.2.cell 0; have p1 := hSw.2.cell 1; have p2 := hSw.2.cell 2; have p3 := hSw.2.cell 3; have p4 := hSw.2.cell 4; have p5 := hSw.2.cell 5; go_simp; (try rw [if_pos hgi]); (try with_reducible rfl)
       (try simp only [Act.put, n1, n2, n3, n4, n5, n6])
       refine tk 2 (v := ?_) rfl (Or.inl ⟨by rfl, ?_⟩) ?_
       rotate_left
       ·intro w' hSw; (try dsimp only at hSw); have kx := HKX.out _ hSw.1; have p0 := hSw.2.cell 0; have p1 := hSw.2.cell 1; have p2 := hSw.2.cell 2; have p3 := hSw.2.cell 3; have p4 := hSw.2.cell 4; have p5 := hSw.2.cell 5; go_simp; (try rw [if_pos hgi]); (try with_reducible rfl)
       (try simp only [Act.put, n1, n2, n3, n4, n5, n6])
       refine tk 3 (v := ?_) rfl (Or.inl ⟨by rfl, ?_⟩) ?_
       rotate_left
       ·intro w' hSw; (try dsimp only at hSw); have kx := HKX.out _ hSw.1; have p0 := hSw.2.cell 0; have p1 := hSw.2.cell 1; have p2 := hSw.2.cell 2; have p3 := hSw.2.cell 3; have p4 := hSw.2.cell 4; have p5 := hSw.2.cell 5; go_simp; (try rw [if_pos hgi]); (try with_reducible rfl)
       (try simp only [Act.put, n1, n2, n3, n4, n5, n6])
       refine tk 4 (v := ?_) rfl (Or.inl ⟨by rfl, ?_⟩) ?_
       rotate_left
       ·intro w' hSw; (try dsimp only at hSw); have kx := HKX.out _ hSw.1; have p0 := hSw.2.cell 0; have p1 := hSw.2.cell 1; have p2 := hSw.2.cell 2; have p3 := hSw.2.cell 3; have p4 := hSw.2.cell 4; have p5 := hSw.2.cell 5; go_simp; (try rw [if_pos hgi]); (try with_reducible rfl)
       (try simp only [Act.put, n1, n2, n3, n4, n5, n6])
       refine tk 5 (v := ?_) rfl (Or.inl ⟨by rfl, ?_⟩) ?_
       rotate_left
       ·intro w' hSw; (try dsimp only at hSw); have kx := HKX.out _ hSw.1; have p0 := hSw.2.cell 0; have p1 := hSw.2.cell 1; have p2 := hSw.2.cell 2; have p3 := hSw.2.cell 3; have p4 := hSw.2.cell 4; have p5 := hSw.2.cell 5; go_simp; (try rw [if_pos hgi]); (try with_reducible rfl)
       (try simp only [Act.put, n1, n2, n3, n4, n5, n6])
       refine tk 6 (v := ?_) rfl (Or.inl ⟨by rfl, ?_⟩) ?_
       rotate_left
       ·intro w' hSw; (try dsimp only at hSw); have kx := HKX.out _ hSw.1; have p0 := hSw.2.cell 0; have p1 := hSw.2.cell 1; have p2 := hSw.2.cell 2; have p3 := hSw.2.cell 3; have p4 := hSw.2.cell 4; have p5 := hSw.2.cell 5; go_simp; (try rw [if_pos hgi]); (try with_reducible rfl)
       (try simp only [Act.put, n1, n2, n3, n4, n5, n6])
       refine tk 7 (v := ?_) rfl (Or.inl ⟨by rfl, ?_⟩) ?_
       rotate_left
       ·intro w' hSw; (try dsimp only at hSw); have kx := HKX.out _ hSw.1; have p0 := hSw.2.cell 0; have p1 := hSw.2.cell 1; have p2 := hSw.2.cell 2; have p3 := hSw.2.cell 3; have p4 := hSw.2.cell 4; have p5 := hSw.2.cell 5; go_simp; (try rw [if_pos hgi]); (try with_reducible rfl)
       (try simp only [Act.put, n1, n2, n3, n4, n5, n6])
       refine tk 8 (v := ?_) rfl (Or.inl ⟨by rfl, ?_⟩) ?_
       rotate_left
       ·intro w' hSw; (try dsimp only at hSw); have kx := HKX.out _ hSw.1; have p0 := hSw.2.cell 0; have p1 := hSw.2.cell 1; have p2 := hSw.2.cell 2; have p3 := hSw.2.cell 3; have p4 := hSw.2.cell 4; have p5 := hSw.2.cell 5; go_simp; (try rw [if_pos hgi]); (try with_reducible rfl)
       (try simp only [Act.put, n1, n2, n3, n4, n5, n6])
       refine tk 9 (v := ?_) rfl (Or.inl ⟨by rfl, ?_⟩) ?_
       rotate_left
       ·intro w' hSw; (try dsimp only at hSw); have kx := HKX.out _ hSw.1; have p0 := hSw.2.cell 0; have p1 := hSw.2.cell 1; have p2 := hSw.2.cell 2; have p3 := hSw.2.cell 3; have p4 := hSw.2.cell 4; have p5 := hSw.2.cell 5; go_simp; (try rw [if_pos hgi]); (try with_reducible rfl)
       (try simp only [Act.put, n1, n2, n3, n4, n5, n6])
       refine tk 10 (v := ?_) rfl (Or.inl ⟨by rfl, ?_⟩) ?_
       rotate_left
       ·intro w' hSw; (try dsimp only at hSw); have kx := HKX.out _ hSw.1; have p0 := hSw.2.cell 0; have p1 := hSw.2.cell 1; have p2 := hSw.2.cell 2; have p3 := hSw.2.cell 3; have p4 := hSw.2.cell 4; have p5 := hSw.2.cell 5; go_simp; (try rw [if_pos hgi]); (try with_reducible rfl)
       (try simp only [Act.put, n1, n2, n3, n4, n5, n6])
       refine tk 11 (v := ?_) rfl (Or.inl ⟨by rfl, ?_⟩) ?_
       rotate_left
       ·intro w' hSw; (try dsimp only at hSw); have kx := HKX.out _ hSw.1; have p0 := hSw.2.cell 0; have p1 := hSw.2.cell 1; have p2 := hSw.2.cell 2; have p3 := hSw.2.cell 3; have p4 := hSw.2.cell 4; have p5 := hSw.2.cell 5; go_simp; (try rw [if_pos hgi]); (try with_reducible rfl)
       (try simp only [Act.put, n1, n2, n3, n4, n5, n6])
       refine tk 12 (v := ?_) rfl (Or.inl ⟨by rfl, ?_⟩) ?_
       rotate_left
       ·intro w' hSw; (try dsimp only at hSw); have kx := HKX.out _ hSw.1; have p0 := hSw.2.cell 0; have p1 := hSw.2.cell 1; have p2 := hSw.2.cell 2; have p3 := hSw.2.cell 3; have p4 := hSw.2.cell 4; have p5 := hSw.2.cell 5; go_simp; (try rw [if_pos hgi]); (try with_reducible rfl)
       (try simp only [Act.put, n1, n2, n3, n4, n5, n6])
       refine tk 13 (v := ?_) rfl (Or.inl ⟨by rfl, ?_⟩) ?_
       rotate_left
       ·intro w' hSw; (try dsimp only at hSw); have kx := HKX.out _ hSw.1; have p0 := hSw.2.cell 0; have p1 := hSw.2.cell 1; have p2 := hSw.2.cell 2; have p3 := hSw.2.cell 3; have p4 := hSw.2.cell 4; have p5 := hSw.2.cell 5; go_simp; (try rw [if_pos hgi]); (try with_reducible rfl)
       (try simp only [Act.put, n1, n2, n3, n4, n5, n6])
       refine wpAnyF_ready (rs := [14]) (by kernel_rfl) (by simp) ?_
       refine AllReadyF.cons rfl (fun KK hKK => ?_) AllReadyF.nil
       go_simp
       ((with_reducible refine (HRE.out _).mono ?_); rintro e' Wz ⟨rfl, hb⟩; have HB5 := hi (HB4.out.trans (hb.mono HB4.out.size)); have hSS := And.intro (hHeld.1.below hb) (hHeld.2.below hb); clear hb)
       (try go_simp)
       refine hKK.out _ _ hSS (fun hHeld => ?_)
       clear hKK KK
       (try simp only [Act.put, n1, n2, n3, n4, n5, n6])
       refine tk 15 (v := ?_) rfl (Or.inl ⟨by rfl, ?_⟩) ?_
       rotate_left
       ·intro w' hSw; (try dsimp only at hSw); have kx := HKX.out _ hSw.1; have p0 := hSw.2.cell 0; have p1 := hSw.2.cell 1; have p2 := hSw.2.cell 2; have p3 := hSw.2.cell 3; have p4 := hSw.2.cell 4; have p5 := hSw.2.cell 5; go_simp; (try rw [if_pos hgi]); (try with_reducible rfl)
       (try simp only [Act.put, n1, n2, n3, n4, n5, n6])
       refine wpAnyF_done (by kernel_rfl) ?_ _
       refine NoPanic.normal ?_
       clear hHeld
       cases rd
       ·go_wp2
        go_roundw
        case rel => exact ⟨j + 1, by go_num, hi ⟨HLT.out, by rw [HFT.out, HRX.out]; exact ⟨HC.out.own.below_ HB5.out, HC.out.below.trans (HB5.out.mono HC.out.sz)⟩⟩⟩
        case measure => have := HLT.out; simp only [intOf]; omega
       ·have HC5 := hi (show Col w1 (.slice ao q.length co) q Wz from ⟨HC.out.own.below_ HB5.out, HC.out.below.trans (HB5.out.mono HC.out.sz)⟩)
        go_wp2_with (first
         | (at_builtin; refine wpList_append_own _ rfl _ _ 47 rfl w1.heap.size 3 i0 (.int .i64 0) 1 8 Tryz.underlying47 hi2 hz0 hz1 hz2 rfl (by decide) _ _ _ rfl (HC5.out.own.alloc _) ⟨Wz.heap.size, 0, none⟩ 1 1 [.int .i64 x] rfl rfl (cell_one_new _ _ _) (by simp [Value.oneCell']) (by unfold maxLen; omega) (by omega) (by have := HC5.out.sz; simp; omega) ?_; intro v' w9 hown' hgrow _; obtain ⟨hc1, g', cap', rfl⟩ := HC5.out.app hown' hgrow; have HC9 := hi hc1; clear hown' hgrow hc1))
        go_roundw
        case rel => exact ⟨j + 1, by go_num, hi ⟨HLT.out, by rw [HFT.out, HRX.out]; exact HC9.out⟩⟩
        case measure => have := HLT.out; simp only [intOf]; omega
    ·obtain rfl : j = L.length := by omega
     rw [List.take_length] at hC
     have HC := hi (hC.from_ HB1.out)
     obtain ⟨ao, co, rfl⟩ := own_slice HC.out.own
     clear hC hj HH
     go_wp2
     go_ret
     exact ⟨_, rfl, HC.out⟩
  ·simp only [if_true]
   clear HSN
   go_enter Tryz.func56, Tryz.ntmps56
   go_wp2_with (go_at_call 60; ((with_reducible refine HT.out.mono ?_); rintro e w1 ⟨rfl, rfl⟩))
   go_ret
   exact ⟨_, rfl, Col.nil _ _ (Below.refl _ _)⟩
end
end Go.Proofs.YtieedhdmpabfkaaGreat
