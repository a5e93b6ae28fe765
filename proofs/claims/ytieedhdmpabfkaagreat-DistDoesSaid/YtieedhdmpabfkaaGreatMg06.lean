import Derived.Test.YtieedhdmpabfkaaGreatMg04
import Derived.Test.YtieedhdmpabfkaaGreatMg01
import Derived.Test.YtieedhdmpabfkaaGreatMg05
import Derived.Test.YtieedhdmpabfkaaGreatMg02
import Derived.Laws.AppendOwn
import Derived.Maps.AppendAt
import Derived.Shelf.Abstract
import Derived.RangeFuncNested
import Derived.RangeFuncBound
import Derived.RangeFuncCalls
import Derived.RangeFuncLeaves
import Derived.OwnWalkIn
import Derived.TacticsInMore
import Derived.LoopNIn
import Derived.LoopIn
set_option linter.unusedSimpArgs false
namespace Go.Proofs.YtieedhdmpabfkaaGreat
open Go.ChangeShapes Go.WideShapes Go.ChangeAt Go.RowKit
set_option linter.unusedVariables false
def oneB (b : Bool) : Nat := if b then 1 else 0
theorem ret_u64 {a b : Int} (h : a = b) : Ending.returned (.int .u64 a) = .returned (.int .u64 b) := by rw [h]
theorem flag_any (b : Bool) (w : World) : Calls Tryz.prog 138 #[.bool b] w fun e w' => e = .returned (.int .u64 (oneB b : Nat)) ∧ w = w' := by
 cases b
 all_goals
  go_enter Tryz.func138, Tryz.ntmps138
  go_wp2
  go_ret
  exact ⟨rfl, rfl⟩
theorem one_any (b : Bool) (w : World) : Calls Tryz.prog 143 #[.bool b] w fun e w' => e = .returned (.int .u64 (oneB b : Nat)) ∧ w = w' := by
 cases b
 all_goals
  go_enter Tryz.func143, Tryz.ntmps143
  go_wp2
  go_ret
  exact ⟨rfl, rfl⟩
structure Fine (l : Ln) : Prop where
 g : l.g = 0 ∨ l.g = 1
 p0 : 0 ≤ l.p
 p1 : l.p ≤ 255
 real : realV l.p = l.p
theorem Fine.right {l : Ln} (h : Fine l) : l.Right := h.g
theorem Fine.ok {l : Ln} (h : Fine l) : l.okB = true := by
 have h0 := h.g; have h1 := h.p0; have h2 := h.p1
 simp only [Ln.okB, Bool.and_eq_true, Bool.or_eq_true, decide_eq_true_eq]
 exact ⟨⟨h0, h1⟩, h2⟩
def toldV (l : Ln) (r : Int) : Nat :=
 if r = 4 then l.g.toNat else if r = 5 ∨ r = 6 then oneB l.en else if r = 7 ∨ r = 8 then oneB l.st.pend else if r = 9 ∨ r = 10 then oneB l.st.a else if r = 11 then l.p.toNat else if r = 12 then 2 * oneB l.st.e else 0
theorem oneB_le (b : Bool) : oneB b ≤ 1 := by cases b <;> decide
theorem toldV_le {l : Ln} (h : Fine l) (r : Int) : toldV l r ≤ 255 := by
 have h0 := h.g; have h1 := h.p0; have h2 := h.p1
 have k1 := oneB_le l.en; have k2 := oneB_le l.st.pend; have k3 := oneB_le l.st.a; have k4 := oneB_le l.st.e
 unfold toldV
 repeat' split
 all_goals omega
set_option maxHeartbeats 4000000 in
theorem told_any (l : Ln) (r : Int) (w : World) (h : Fine l) : Calls Tryz.prog 116 #[l.v, .int .i64 r] w fun e w' => e = .returned (.int .u64 (toldV l r : Nat)) ∧ Below w.heap.size w w' := by
 have HP := hi (fun W => pend_any l.st W)
 have HF := hi (fun b W => flag_any b W)
 have hg : IntKind.u64.wrap l.g = (l.g.toNat : Nat) := by have := h.g; rw [IntKind.wrap_u64]; omega
 have hp : IntKind.u64.wrap l.p = (l.p.toNat : Nat) := by have := h.p0; have := h.p1; rw [IntKind.wrap_u64]; omega
 have he : IntKind.u64.wrap (2 * ((oneB l.st.e : Nat) : Int)) = ((2 * oneB l.st.e : Nat) : Int) := by have := oneB_le l.st.e; rw [IntKind.wrap_u64]; omega
 have HT := hi (show toldV l r = if r = 4 then l.g.toNat else if r = 5 ∨ r = 6 then oneB l.en else if r = 7 ∨ r = 8 then oneB l.st.pend else if r = 9 ∨ r = 10 then oneB l.st.a else if r = 11 then l.p.toNat else if r = 12 then 2 * oneB l.st.e else 0 from rfl)
 obtain ⟨pd, hpd⟩ : ∃ pd, l.st.pend = pd := ⟨_, rfl⟩
 obtain ⟨gn, hgn⟩ : ∃ gn, l.g.toNat = gn := ⟨_, rfl⟩
 obtain ⟨pn, hpn⟩ : ∃ pn, l.p.toNat = pn := ⟨_, rfl⟩
 obtain ⟨en2, hen2⟩ : ∃ en2, 2 * oneB l.st.e = en2 := ⟨_, rfl⟩
 obtain ⟨t, ht⟩ : ∃ t, toldV l r = t := ⟨_, rfl⟩
 rw [hpd, hgn, hpn, hen2, ht] at HT
 rw [hpd] at HP
 rw [hgn] at hg
 rw [hpn] at hp
 rw [hen2] at he
 rw [ht]
 clear h hpd hgn hpn hen2 ht
 obtain ⟨⟨e, lb, q, a⟩, en, g, p⟩ := l
 dsimp only [Ln.v, St.v] at HP HT hg hp he ⊢
 have HX := hi he
 clear he
 go_enter Tryz.func116, Tryz.ntmps116
 go_wp2_with (first
  | (go_at_call 135; ((with_reducible refine (HP.out _).mono ?_); rintro e' w1 ⟨rfl, hb⟩; have HB := hi ((bal w _).trans (hb.mono (bal w _).size)); clear hb))
  | (go_at_call 138; ((with_reducible refine (HF.out _ _).mono ?_); rintro e' w2 ⟨rfl, rfl⟩)))
 all_goals
  go_ret
  refine ⟨ret_u64 ?_, (by first | exact bal w _ | exact HB.out)⟩
  (try have HX2 := HX.out)
  rw [HT.out]
  simp_all
set_option maxHeartbeats 4000000 in
theorem shows_any (l : Ln) (r : Int) (w : World) (h : Fine l) : Calls Tryz.prog 133 #[l.v, .int .i64 r] w fun e w' => e = .returned (.int .u64 (toldV l r : Nat)) ∧ Below w.heap.size w w' := by
 have HP := hi (fun W => rpend_any l.st W)
 have HF := hi (fun b W => one_any b W)
 have hg : IntKind.u64.wrap l.g = (l.g.toNat : Nat) := by have := h.g; rw [IntKind.wrap_u64]; omega
 have hp : IntKind.u64.wrap l.p = (l.p.toNat : Nat) := by have := h.p0; have := h.p1; rw [IntKind.wrap_u64]; omega
 have he : IntKind.u64.wrap (2 * ((oneB l.st.e : Nat) : Int)) = ((2 * oneB l.st.e : Nat) : Int) := by have := oneB_le l.st.e; rw [IntKind.wrap_u64]; omega
 have HT := hi (show toldV l r = if r = 4 then l.g.toNat else if r = 5 ∨ r = 6 then oneB l.en else if r = 7 ∨ r = 8 then oneB l.st.pend else if r = 9 ∨ r = 10 then oneB l.st.a else if r = 11 then l.p.toNat else if r = 12 then 2 * oneB l.st.e else 0 from rfl)
 obtain ⟨pd, hpd⟩ : ∃ pd, l.st.pend = pd := ⟨_, rfl⟩
 obtain ⟨gn, hgn⟩ : ∃ gn, l.g.toNat = gn := ⟨_, rfl⟩
 obtain ⟨pn, hpn⟩ : ∃ pn, l.p.toNat = pn := ⟨_, rfl⟩
 obtain ⟨en2, hen2⟩ : ∃ en2, 2 * oneB l.st.e = en2 := ⟨_, rfl⟩
 obtain ⟨t, ht⟩ : ∃ t, toldV l r = t := ⟨_, rfl⟩
 rw [hpd, hgn, hpn, hen2, ht] at HT
 rw [hpd] at HP
 rw [hgn] at hg
 rw [hpn] at hp
 rw [hen2] at he
 rw [ht]
 clear h hpd hgn hpn hen2 ht
 obtain ⟨⟨e, lb, q, a⟩, en, g, p⟩ := l
 dsimp only [Ln.v, St.v] at HP HT hg hp he ⊢
 have HX := hi he
 clear he
 go_enter Tryz.func133, Tryz.ntmps133
 go_wp2_with (first
  | (go_at_call 131; ((with_reducible refine (HP.out _).mono ?_); rintro e' w1 ⟨rfl, hb⟩; have HB := hi ((bal w _).trans (hb.mono (bal w _).size)); clear hb))
  | (go_at_call 143; ((with_reducible refine (HF.out _ _).mono ?_); rintro e' w2 ⟨rfl, rfl⟩)))
 all_goals
  go_ret
  refine ⟨ret_u64 ?_, (by first | exact bal w _ | exact HB.out)⟩
  (try have HX2 := HX.out)
  rw [HT.out]
  simp_all
end Go.Proofs.YtieedhdmpabfkaaGreat
namespace Go.Proofs.YtieedhdmpabfkaaGreat
open Go.ChangeShapes Go.WideShapes Go.ChangeAt Go.RowKit Go.Shelf
set_option linter.unusedVariables false
attribute [local go_sem] Oper.semAt_some
theorem addr_add (b o c : Nat) : (⟨b, o, none⟩ : Addr).add c = ⟨b, o + c, none⟩ := by
 unfold Addr.add
 split <;> simp_all
theorem info_en : (Tryz.prog.info? 115).map (fun i => (i.zero, i.size, i.bytes)) = some (some (.agg #[.bool false, .bool false, .bool false, .bool false, .bool false, .int .i64 0, .int .i64 0, .int .i64 0, .bool false]), 9, 40) := by kernel_rfl
theorem info_parts {P : Program} {t : TypeId} {z : Value} {s b : Nat} (h : (P.info? t).map (fun i => (i.zero, i.size, i.bytes)) = some (some z, s, b)) : ∃ i, P.info? t = some i ∧ i.zero = some z ∧ i.size = s ∧ i.bytes = b := by
 cases hi : P.info? t with
 | none => simp [hi] at h
 | some i => simp [hi] at h; exact ⟨i, rfl, h.1, h.2.1, h.2.2⟩
def Cloned (w : World) (n : Nat) (es : List En) (e : Ending) (w' : World) : Prop := ∃ g' cap', e = .returned (.slice (some ⟨g', 0, none⟩) n cap') ∧ w.heap.size ≤ g' ∧ Row w' g' 115 (flE es) ∧ Below w.heap.size w w'
set_option maxHeartbeats 1000000 in
theorem clone_any (g n cap : Nat) (es : List En) (w : World) (h : Row w g 115 (flE es)) (hn : es.length = n) (hl : n ≤ 16384) :
  Calls Tryz.prog 80 #[.slice (some ⟨g, 0, none⟩) n cap] w (Cloned w n es) := by
 obtain ⟨i0, hi2, hz0, hz1, hz2⟩ := info_parts info_en
 have hnil : ∀ W, (binOp .eql 130 (.slice (some ⟨g, 0, none⟩) n cap) (.slice none 0 0)).run Tryz.prog W = .ok (.bool false) W := fun W => Lib.run_eql_slice_nil W _ _ (some ⟨g, 0, none⟩) n cap 0 0 Tryz.underlying130
 have hcs : ∀ (j : Nat) (u : Value), (flE es)[j]? = some u → (w.alloc (.cells #[] 115)).cell? ((⟨g, 0, none⟩ : Addr).add j) = some u := by
  intro j u hu
  have hj : j < (flE es).length := (List.getElem?_eq_some_iff.1 hu).1
  rw [addr_add, Nat.zero_add, World.cell?_alloc_lt _ _ _ h.lt, h.cell hj, hu]
 have HCS := hi hcs
 clear hcs h
 have hown : (w.alloc (.cells #[] 115)).ownsRow w.heap.size 115 9 (.slice (some ⟨w.heap.size, 0, none⟩) 0 0) 0 [] :=
  ⟨rfl, .inr ⟨w.heap.size, 0, #[], rfl, Nat.le_refl _, World.alloc_heap_new w _, Nat.le_refl _, by unfold maxLen; omega, rfl, rfl⟩⟩
 have HO := hi hown
 clear hown
 have HFL := hi (show (flE es).length = n * 9 by rw [flE_len, hn])
 have HF1 := hi (flat_one_cell en_one es)
 clear hn
 go_enter Tryz.func80, Tryz.ntmps80
 go_wp2_with (first
  | (at_builtin; refine wpList_append_own _ rfl _ _ 130 rfl w.heap.size 115 i0 (.agg #[.bool false, .bool false, .bool false, .bool false, .bool false, .int .i64 0, .int .i64 0, .int .i64 0, .bool false]) 9 40 Tryz.underlying130 hi2 hz0 hz1 hz2 rfl (by decide) _ _ _ rfl HO.out ⟨g, 0, none⟩ n cap (flE es) rfl HFL.out HCS.out HF1.out (by unfold maxLen; omega) (by omega) (by simp) ?_; intro v9 w9 hown9 hgrow9 hnn9; have HW := hi hown9; have HG := hi hgrow9; have HNN := hi hnn9; clear hown9 hgrow9 hnn9))
 go_ret
 have hb : Below w.heap.size w w9 := (bal w _).grown HG.out (by simp) (fun k e => by cases e; exact Nat.le_refl _)
 have h2 := HW.out
 rw [List.nil_append, Nat.zero_add] at h2
 rcases h2.2 with ⟨e, _⟩ | ⟨g', c', cur, e, hb', hg, _⟩
 ·cases (HNN.out.1 e).1
 ·subst e
  exact ⟨g', c', rfl, hb', Row.own h2, hb⟩
structure CP (w : World) (b g cap : Nat) (f : Int) (es : List En) (W : World) : Prop where
 bk : BkAt W b g cap f es
 below : Below w.heap.size w W
theorem CP.later {w W W' : World} {b g cap : Nat} {f : Int} {es : List En} (h : CP w b g cap f es W) (k : Below W.heap.size W W') : CP w b g cap f es W' := ⟨h.bk.below k, h.below.trans (k.mono h.below.size)⟩
theorem CP.drew {w W : World} {b g cap : Nat} {f : Int} {es : List En} (h : CP w b g cap f es W) : CP w b g cap f es W.drew := ⟨h.bk.drew, Below.drewN (m := 1) h.below⟩
theorem CP.c {w W : World} {b g cap n : Nat} {f : Int} {es : List En} (h : CP w b g cap f es W) (hn : es.length = n) : W.cell? ⟨b, 0, none⟩ = some (.int .i64 f) ∧ W.cell? ⟨b, 1, none⟩ = some (.slice (some ⟨g, 0, none⟩) n cap) ∧ CP w b g cap f es W := ⟨h.bk.box.cell 0, by subst hn; exact h.bk.box.cell 1, h⟩
set_option maxRecDepth 100000 in
set_option maxHeartbeats 2000000 in
theorem copy_any {b g cap : Nat} {f : Int} {es : List En} {w : World} (h : BkAt w b g cap f es) (hf : Fit f es.length) :
  Calls Tryz.prog 37 #[.pointer (some ⟨b, 0, none⟩)] w fun e w' => ∃ b' g' cap', e = .returned (.pointer (some ⟨b', 0, none⟩)) ∧ w.heap.size ≤ b' ∧ w.heap.size ≤ g' ∧ BkAt w' b' g' cap' f es ∧ Below w.heap.size w w' := by
 obtain ⟨n, hn⟩ : ∃ n, es.length = n := ⟨_, rfl⟩
 have HN := hi hn
 have CC := hi (fun W (h : CP w b g cap f es W) => clone_any g n cap es W h.bk.row hn (by rw [← hn]; exact hf.n1))
 have c0 := h.box.cell 0
 have c1 := h.box.cell 1
 rw [hn] at c1
 have HD := CP.drew (w := w) (W := w) ⟨h, Below.refl _ _⟩
 clear h hn
 go_enter Tryz.func37, Tryz.ntmps37
 go_wp2
 refine wp_region_noPanic ?_
 refine wp_region_held_drew (S := (fun w' => w'.cell? ⟨b, 0, none⟩ = some (.int .i64 f) ∧ w'.cell? ⟨b, 1, none⟩ = some (.slice (some ⟨g, 0, none⟩) n cap) ∧ CP w b g cap f es w')) (by kernel_rfl) (HD.c HN.out) (fun hHeld => ?_)
 (try simp only [r1, r2, r3, r4, r5])
 refine wpAnyH_take (i := 0) (v := ?_) rfl (by kernel_rfl) (by kernel_rfl) (by kernel_rfl) (fun _ _ _ h => h) (Or.inl ⟨by rfl, ?_⟩) (by assumption) ?_
 rotate_left
 ·intro w' hSw; (try dsimp only at hSw); obtain ⟨hs0, hs1, hs2⟩ := hSw; go_simp; (try with_reducible rfl)
 (try simp only [Act.put, n1, n2, n4, n5, n6])
 refine wpAnyH_take (i := 1) (v := ?_) rfl (by kernel_rfl) (by kernel_rfl) (by kernel_rfl) (fun _ _ _ h => h) (Or.inl ⟨by rfl, ?_⟩) (by assumption) ?_
 rotate_left
 ·intro w' hSw; (try dsimp only at hSw); obtain ⟨hs0, hs1, hs2⟩ := hSw; go_simp; (try with_reducible rfl)
 (try simp only [Act.put, n1, n2, n3, n4, n5, n6])
 refine wpAnyH_take (i := 2) (v := ?_) rfl (by kernel_rfl) (by kernel_rfl) (by kernel_rfl) (fun _ _ _ h => h) (Or.inl ⟨by rfl, ?_⟩) (by assumption) ?_
 rotate_left
 ·intro w' hSw; (try dsimp only at hSw); obtain ⟨hs0, hs1, hs2⟩ := hSw; go_simp; (try with_reducible rfl)
 (try simp only [Act.put, n1, n2, n3, n4, n5, n6])
 refine wpAnyH_take (i := 3) (v := ?_) rfl (by kernel_rfl) (by kernel_rfl) (by kernel_rfl) (fun _ _ _ h => h) (Or.inl ⟨by rfl, ?_⟩) (by assumption) ?_
 rotate_left
 ·intro w' hSw; (try dsimp only at hSw); obtain ⟨hs0, hs1, hs2⟩ := hSw; go_simp; (try with_reducible rfl)
 (try simp only [Act.put, n1, n2, n3, n4, n5, n6])
 refine wpAnyH_take (i := 4) (v := ?_) rfl (by kernel_rfl) (by kernel_rfl) (by kernel_rfl) (fun _ _ _ h => h) (Or.inl ⟨by rfl, ?_⟩) (by assumption) ?_
 rotate_left
 ·intro w' hSw; (try dsimp only at hSw); obtain ⟨hs0, hs1, hs2⟩ := hSw; go_simp; (try with_reducible rfl)
 (try simp only [Act.put, n1, n2, n3, n4, n5, n6])
 refine wpAnyH_take (i := 5) (v := ?_) rfl (by kernel_rfl) (by kernel_rfl) (by kernel_rfl) (fun _ _ _ h => h) (Or.inl ⟨by rfl, ?_⟩) (by assumption) ?_
 rotate_left
 ·intro w' hSw; (try dsimp only at hSw); obtain ⟨hs0, hs1, hs2⟩ := hSw; go_simp; (try with_reducible rfl)
 (try simp only [Act.put, n1, n2, n3, n4, n5, n6])
 refine wpAnyH_take (i := 6) (v := ?_) rfl (by kernel_rfl) (by kernel_rfl) (by kernel_rfl) (fun _ _ _ h => h) (Or.inl ⟨by rfl, ?_⟩) (by assumption) ?_
 rotate_left
 ·intro w' hSw; (try dsimp only at hSw); obtain ⟨hs0, hs1, hs2⟩ := hSw; go_simp; (try with_reducible rfl)
 (try simp only [Act.put, n1, n2, n3, n4, n5, n6])
 refine wpAnyH_take (i := 7) (v := ?_) rfl (by kernel_rfl) (by kernel_rfl) (by kernel_rfl) (fun _ _ _ h => h) (Or.inl ⟨by rfl, ?_⟩) (by assumption) ?_
 rotate_left
 ·intro w' hSw; (try dsimp only at hSw); obtain ⟨hs0, hs1, hs2⟩ := hSw; go_simp; (try with_reducible rfl)
 (try simp only [Act.put, n1, n2, n3, n4, n5, n6])
 refine wpAnyH_ready (rs := [8]) (by kernel_rfl) (by simp) ?_
 refine AllReadyH.cons rfl (fun KK hKK => ?_) AllReadyH.nil
 go_simp
 ((with_reducible refine (CC.out _ HD).mono ?_); rintro e' w2 ⟨g2, cap2, rfl, hg2, hr2, hb2⟩; have H2 := HD.later hb2)
 (try go_simp)
 refine hKK.out _ _ (H2.c HN.out) (fun hHeld => ?_)
 clear hKK KK
 (try simp only [Act.put, n1, n2, n3, n4, n5, n6])
 refine wpAnyH_take (i := 9) (v := ?_) rfl (by kernel_rfl) (by kernel_rfl) (by kernel_rfl) (fun _ _ _ h => h) (Or.inl ⟨by rfl, ?_⟩) (by assumption) ?_
 rotate_left
 ·intro w' hSw; (try dsimp only at hSw); obtain ⟨hs0, hs1, hs2⟩ := hSw; go_simp; (try with_reducible rfl)
 (try simp only [Act.put, n1, n2, n3, n4, n5, n6])
 refine wpAnyH_ready (rs := [10]) (by kernel_rfl) (by simp) ?_
 refine AllReadyH.cons rfl (fun KK hKK => ?_) AllReadyH.nil
 go_simp
 have H3 := H2.later (bal w2 (.cells #[.int .i64 f, .slice (some ⟨g2, 0, none⟩) n cap2] 132))
 refine hKK.out _ _ (H3.c HN.out) (fun hHeld => ?_)
 clear hKK KK
 (try simp only [Act.put, n1, n2, n3, n4, n5, n6])
 refine wpAnyH_take (i := 11) (v := ?_) rfl (by kernel_rfl) (by kernel_rfl) (by kernel_rfl) (fun _ _ _ h => h) (Or.inl ⟨by rfl, ?_⟩) (by assumption) ?_
 rotate_left
 ·intro w' hSw; (try dsimp only at hSw); go_simp; (try with_reducible rfl)
 (try simp only [Act.put, n1, n2, n3, n4, n5, n6])
 refine wpAnyH_done (by kernel_rfl) ?_ _
 refine NoPanic.normal ?_
 go_wp2
 go_ret
 have hlt : g2 < w2.heap.size := hr2.lt
 refine ⟨w2.heap.size, g2, cap2, rfl, H2.below.size, hg2, ⟨?_, hr2.below (bal _ _), by omega⟩, H3.below⟩
 rw [HN.out]
 exact CB.new _ _ _
structure AS (w : World) (b g cap : Nat) (f : Int) (es : List En) (pf pb : Option Nat) (cl : Option (Nat × Nat)) (W : World) : Prop where
 cp : CP w b g cap f es W
 f : ∀ p, pf = some p → w.heap.size ≤ p ∧ CB W p 3 #[.int .i64 0]
 b : ∀ p, pb = some p → w.heap.size ≤ p ∧ CB W p 130 #[.slice none 0 0]
 c : ∀ q, cl = some q → w.heap.size ≤ q.1 ∧ Row W q.1 115 (flE es)
 fb : ∀ p q, pf = some p → pb = some q → p ≠ q
 fc : ∀ p q, pf = some p → cl = some q → p ≠ q.1
 bc : ∀ p q, pb = some p → cl = some q → p ≠ q.1
section
variable {w W W' : World} {b g cap : Nat} {f : Int} {es : List En} {pf pb : Option Nat} {cl : Option (Nat × Nat)}
theorem AS.later (h : AS w b g cap f es pf pb cl W) (k : Below W.heap.size W W') : AS w b g cap f es pf pb cl W' :=
 ⟨h.cp.later k, fun p e => ⟨(h.f p e).1, (h.f p e).2.below k⟩, fun p e => ⟨(h.b p e).1, (h.b p e).2.below k⟩, fun p e => ⟨(h.c p e).1, (h.c p e).2.below k⟩, h.fb, h.fc, h.bc⟩
theorem AS.newF (h : AS w b g cap f es none pb cl W) : AS w b g cap f es (some W.heap.size) pb cl (W.alloc (.cells #[.int .i64 0] 3)) :=
 have k := h.later (bal W (.cells #[.int .i64 0] 3))
 ⟨k.cp, fun p e => by cases e; exact ⟨h.cp.below.size, CB.new _ _ _⟩, k.b, k.c, fun p q e e' => by cases e; have := (h.b q e').2.lt; omega, fun p q e e' => by cases e; have := (h.c q e').2.lt; omega, k.bc⟩
theorem AS.newB (h : AS w b g cap f es pf none cl W) : AS w b g cap f es pf (some W.heap.size) cl (W.alloc (.cells #[.slice none 0 0] 130)) :=
 have k := h.later (bal W (.cells #[.slice none 0 0] 130))
 ⟨k.cp, k.f, fun p e => by cases e; exact ⟨h.cp.below.size, CB.new _ _ _⟩, k.c, fun p q e e' => by cases e'; have := (h.f p e).2.lt; omega, k.fc, fun p q e e' => by cases e; have := (h.c q e').2.lt; omega⟩
theorem AS.newC (h : AS w b g cap f es pf pb none W) {g2 c2 : Nat} (hg : W.heap.size ≤ g2) (hr : Row W' g2 115 (flE es)) (k : Below W.heap.size W W') : AS w b g cap f es pf pb (some (g2, c2)) W' :=
 have j := h.later k
 ⟨j.cp, j.f, j.b, fun q e => by cases e; exact ⟨Nat.le_trans h.cp.below.size hg, hr⟩, j.fb, fun p q e e' => by cases e'; have := (h.f p e).2.lt; show p ≠ g2; omega, fun p q e e' => by cases e'; have := (h.b p e).2.lt; show p ≠ g2; omega⟩
theorem AS.drew (h : AS w b g cap f es pf pb cl W) : AS w b g cap f es pf pb cl W.drew := ⟨h.cp.drew, h.f, h.b, h.c, h.fb, h.fc, h.bc⟩
theorem AS.cc {n : Nat} (h : AS w b g cap f es pf pb cl W) (hn : es.length = n) : W.cell? ⟨b, 0, none⟩ = some (.int .i64 f) ∧ W.cell? ⟨b, 1, none⟩ = some (.slice (some ⟨g, 0, none⟩) n cap) ∧ CP w b g cap f es W := h.cp.c hn
theorem CP.set (h : CP w b g cap f es W) (hb : b < w.heap.size) (hg : g < w.heap.size) {p o : Nat} (hp : w.heap.size ≤ p) (v : Value) : CP w b g cap f es (W.setCell ⟨p, o, none⟩ v) :=
 ⟨h.bk.kept (bs := (· = p)) (Kept.set (Kept.refl _ _) _ _ rfl) (by omega) (by omega), below_set h.below hp v⟩
end
structure ItAt (lo hi : Nat) (W : World) (pf pb g cap : Nat) (f : Int) (es : List En) : Prop where
 f : CB W pf 3 #[.int .i64 f]
 b : CB W pb 130 #[.slice (some ⟨g, 0, none⟩) es.length cap]
 row : Row W g 115 (flE es)
 lf : lo ≤ pf ∧ pf < hi
 lb : lo ≤ pb ∧ pb < hi
 lg : lo ≤ g ∧ g < hi
theorem AS.done {w W : World} {b g cap pf pb g2 c2 n : Nat} {f : Int} {es : List En} (h : AS w b g cap f es (some pf) (some pb) (some (g2, c2)) W) (hn : es.length = n) :
  ItAt w.heap.size ((W.setCell ⟨pf, 0, none⟩ (.int .i64 f)).setCell ⟨pb, 0, none⟩ (.slice (some ⟨g2, 0, none⟩) n c2)).heap.size ((W.setCell ⟨pf, 0, none⟩ (.int .i64 f)).setCell ⟨pb, 0, none⟩ (.slice (some ⟨g2, 0, none⟩) n c2)) pf pb g2 c2 f es ∧
  Below w.heap.size w ((W.setCell ⟨pf, 0, none⟩ (.int .i64 f)).setCell ⟨pb, 0, none⟩ (.slice (some ⟨g2, 0, none⟩) n c2)) := by
 obtain ⟨f1, f2⟩ := h.f _ rfl
 obtain ⟨b1, b2⟩ := h.b _ rfl
 obtain ⟨c1, c3⟩ := h.c _ rfl
 have n1 := h.fb _ _ rfl rfl
 have n2 := h.fc _ _ rfl rfl
 have n3 := h.bc _ _ rfl rfl
 dsimp only at n2 n3 c1 c3
 have l1 := f2.lt
 have l2 := b2.lt
 have l3 := c3.lt
 refine ⟨⟨(f2.set 0 _).other _ _ _ n1, by subst hn; exact (b2.other _ _ _ (Ne.symm n1)).set 0 _, ?_, ⟨f1, by simpa using l1⟩, ⟨b1, by simpa using l2⟩, ⟨c1, by simpa using l3⟩⟩, below_set (below_set h.cp.below f1 _) b1 _⟩
 exact (c3.heap (Below.heap_setCell W ⟨pf, 0, none⟩ _ g2 (Ne.symm n2))).heap (Below.heap_setCell _ ⟨pb, 0, none⟩ _ g2 (Ne.symm n3))
set_option maxRecDepth 100000 in
set_option maxHeartbeats 4000000 in
theorem all_any {b g cap : Nat} {f : Int} {es : List En} {w : World} (h : BkAt w b g cap f es) (hf : Fit f es.length) :
  Calls Tryz.prog 114 #[.pointer (some ⟨b, 0, none⟩)] w fun e w' => ∃ pf pb g' cap', e = .returned (.func (.func 137) #[] #[.pointer (some ⟨pb, 0, none⟩), .pointer (some ⟨pf, 0, none⟩)]) ∧ ItAt w.heap.size w'.heap.size w' pf pb g' cap' f es ∧ Below w.heap.size w w' := by
 obtain ⟨n, hn⟩ : ∃ n, es.length = n := ⟨_, rfl⟩
 have HN := hi hn
 have CC := hi (fun W (h : CP w b g cap f es W) => clone_any g n cap es W h.bk.row hn (by rw [← hn]; exact hf.n1))
 have c0 := h.box.cell 0
 have c1 := h.box.cell 1
 rw [hn] at c1
 have hbl := h.box.lt
 have hgl := h.row.lt
 have HD := AS.drew (w := w) (W := w) (pf := none) (pb := none) (cl := none) ⟨⟨h, Below.refl _ _⟩, fun _ e => (by cases e), fun _ e => (by cases e), fun _ e => (by cases e), fun _ _ e => (by cases e), fun _ _ e => (by cases e), fun _ _ e => (by cases e)⟩
 clear h hn
 go_enter Tryz.func114, Tryz.ntmps114
 go_wp2
 refine wp_region_noPanic ?_
 refine wp_region_held_drew (S := (fun w' => w'.cell? ⟨b, 0, none⟩ = some (.int .i64 f) ∧ w'.cell? ⟨b, 1, none⟩ = some (.slice (some ⟨g, 0, none⟩) n cap) ∧ CP w b g cap f es w')) (by kernel_rfl) (HD.cc HN.out) (fun hHeld => ?_)
 (try simp only [r1, r2, r3, r4, r5])
 obtain ⟨Wd, hWd⟩ : ∃ Wd, w.drew = Wd := ⟨_, rfl⟩
 rw [hWd] at HD hHeld ⊢
 clear hWd
 refine wpAnyH_take (i := 0) (v := ?_) rfl (by kernel_rfl) (by kernel_rfl) (by kernel_rfl) (fun _ _ _ h => h) (Or.inl ⟨by rfl, ?_⟩) (by assumption) ?_
 rotate_left
 ·intro w' hSw; (try dsimp only at hSw); obtain ⟨hs0, hs1, hs2⟩ := hSw; go_simp; (try with_reducible rfl)
 (try simp only [Act.put, n1, n2, n4, n5, n6])
 refine wpAnyH_take (i := 1) (v := ?_) rfl (by kernel_rfl) (by kernel_rfl) (by kernel_rfl) (fun _ _ _ h => h) (Or.inl ⟨by rfl, ?_⟩) (by assumption) ?_
 rotate_left
 ·intro w' hSw; (try dsimp only at hSw); obtain ⟨hs0, hs1, hs2⟩ := hSw; go_simp; (try with_reducible rfl)
 (try simp only [Act.put, n1, n2, n3, n4, n5, n6])
 refine wpAnyH_take (i := 2) (v := ?_) rfl (by kernel_rfl) (by kernel_rfl) (by kernel_rfl) (fun _ _ _ h => h) (Or.inl ⟨by rfl, ?_⟩) (by assumption) ?_
 rotate_left
 ·intro w' hSw; (try dsimp only at hSw); obtain ⟨hs0, hs1, hs2⟩ := hSw; go_simp; (try with_reducible rfl)
 (try simp only [Act.put, n1, n2, n3, n4, n5, n6])
 refine wpAnyH_take (i := 3) (v := ?_) rfl (by kernel_rfl) (by kernel_rfl) (by kernel_rfl) (fun _ _ _ h => h) (Or.inl ⟨by rfl, ?_⟩) (by assumption) ?_
 rotate_left
 ·intro w' hSw; (try dsimp only at hSw); obtain ⟨hs0, hs1, hs2⟩ := hSw; go_simp; (try with_reducible rfl)
 (try simp only [Act.put, n1, n2, n3, n4, n5, n6])
 refine wpAnyH_take (i := 4) (v := ?_) rfl (by kernel_rfl) (by kernel_rfl) (by kernel_rfl) (fun _ _ _ h => h) (Or.inl ⟨by rfl, ?_⟩) (by assumption) ?_
 rotate_left
 ·intro w' hSw; (try dsimp only at hSw); obtain ⟨hs0, hs1, hs2⟩ := hSw; go_simp; (try with_reducible rfl)
 (try simp only [Act.put, n1, n2, n3, n4, n5, n6])
 refine wpAnyH_take (i := 5) (v := ?_) rfl (by kernel_rfl) (by kernel_rfl) (by kernel_rfl) (fun _ _ _ h => h) (Or.inl ⟨by rfl, ?_⟩) (by assumption) ?_
 rotate_left
 ·intro w' hSw; (try dsimp only at hSw); obtain ⟨hs0, hs1, hs2⟩ := hSw; go_simp; (try with_reducible rfl)
 (try simp only [Act.put, n1, n2, n3, n4, n5, n6])
 refine wpAnyH_take (i := 6) (v := ?_) rfl (by kernel_rfl) (by kernel_rfl) (by kernel_rfl) (fun _ _ _ h => h) (Or.inl ⟨by rfl, ?_⟩) (by assumption) ?_
 rotate_left
 ·intro w' hSw; (try dsimp only at hSw); obtain ⟨hs0, hs1, hs2⟩ := hSw; go_simp; (try with_reducible rfl)
 (try simp only [Act.put, n1, n2, n3, n4, n5, n6])
 refine wpAnyH_take (i := 7) (v := ?_) rfl (by kernel_rfl) (by kernel_rfl) (by kernel_rfl) (fun _ _ _ h => h) (Or.inl ⟨by rfl, ?_⟩) (by assumption) ?_
 rotate_left
 ·intro w' hSw; (try dsimp only at hSw); obtain ⟨hs0, hs1, hs2⟩ := hSw; go_simp; (try with_reducible rfl)
 (try simp only [Act.put, n1, n2, n3, n4, n5, n6])
 refine wpAnyH_ready (rs := [8, 9, 10]) (by kernel_rfl) (by simp) ?_
 refine AllReadyH.cons rfl (fun KK hKK => ?_) (AllReadyH.cons rfl (fun KK hKK => ?_) (AllReadyH.cons rfl (fun KK hKK => ?_) AllReadyH.nil))
 ·go_simp
  ((with_reducible refine (CC.out _ HD.cp).mono ?_); rintro e' w2 ⟨g2, cap2, rfl, hg2, hr2, hb2⟩; have H1 := HD.newC (c2 := cap2) hg2 hr2 hb2; clear hg2 hr2 hb2)
  (try go_simp)
  refine hKK.out _ _ (H1.cc HN.out) (fun hHeld => ?_)
  clear hKK KK
  (try simp only [Act.put, n1, n2, n3, n4, n5, n6])
  refine wpAnyH_ready (rs := [9, 10]) (by kernel_rfl) (by simp) ?_
  refine AllReadyH.cons rfl (fun KK hKK => ?_) (AllReadyH.cons rfl (fun KK hKK => ?_) AllReadyH.nil)
  ·go_simp
   have H2 := H1.newF
   refine hKK.out _ _ (H2.cc HN.out) (fun hHeld => ?_)
   clear hKK KK
   (try simp only [Act.put, n1, n2, n3, n4, n5, n6])
   refine wpAnyH_ready (rs := [10]) (by kernel_rfl) (by simp) ?_
   refine AllReadyH.cons rfl (fun KK hKK => ?_) AllReadyH.nil
   ·go_simp
    have H3 := H2.newB
    refine hKK.out _ _ (H3.cc HN.out) (fun hHeld => ?_)
    clear hKK KK
    (try simp only [Act.put, n1, n2, n3, n4, n5, n6])
    (try simp only [World.size_alloc] at H3)
    obtain ⟨W9, hW9⟩ : ∃ W9, ((w2.alloc (.cells #[.int .i64 0] 3)).alloc (.cells #[.slice none 0 0] 130)) = W9 := ⟨_, rfl⟩
    rw [hW9] at H3 ⊢
    clear hW9
    obtain ⟨f1, f2⟩ := H3.f _ rfl
    obtain ⟨b1, b2⟩ := H3.b _ rfl
    have n1 := H3.fb _ _ rfl rfl
    have x1 := f2.cell 0
    have y1 := f2.frozen 0
    have x2 := b2.cell 0
    have y2 := b2.frozen 0
    have HQ := H3.cp.set hbl hgl (o := 0) f1 (.int .i64 f)
    refine wpAnyH_ready (rs := [11]) (by kernel_rfl) (by simp) ?_
    refine AllReadyH.cons rfl (fun KK hKK => ?_) AllReadyH.nil
    go_simp
    refine hKK.out _ _ (HQ.c HN.out) (fun hHeld => ?_)
    clear hKK KK
    (try simp only [Act.put, n1, n2, n3, n4, n5, n6])
    have HQ2 := HQ.set hbl hgl (o := 0) b1 (.slice (some ⟨g2, 0, none⟩) n cap2)
    have x3 := (b2.other _ 0 (.int .i64 f) (Ne.symm n1)).cell 0
    have y3 := (b2.other _ 0 (.int .i64 f) (Ne.symm n1)).frozen 0
    clear x1 y1 x2 y2
    refine wpAnyH_ready (rs := [12]) (by kernel_rfl) (by simp) ?_
    refine AllReadyH.cons rfl (fun KK hKK => ?_) AllReadyH.nil
    go_simp
    refine hKK.out _ _ (HQ2.c HN.out) (fun hHeld => ?_)
    clear hKK KK
    (try simp only [Act.put, n1, n2, n3, n4, n5, n6])
    refine wpAnyH_done (by kernel_rfl) ?_ _
    refine NoPanic.normal ?_
    obtain ⟨hA, hB⟩ := H3.done HN.out
    go_wp2
    go_ret
    exact ⟨_, _, _, _, rfl, hA, hB⟩
  ·go_simp
   have H2 := H1.newB
   refine hKK.out _ _ (H2.cc HN.out) (fun hHeld => ?_)
   clear hKK KK
   (try simp only [Act.put, n1, n2, n3, n4, n5, n6])
   refine wpAnyH_ready (rs := [9]) (by kernel_rfl) (by simp) ?_
   refine AllReadyH.cons rfl (fun KK hKK => ?_) AllReadyH.nil
   ·go_simp
    have H3 := H2.newF
    refine hKK.out _ _ (H3.cc HN.out) (fun hHeld => ?_)
    clear hKK KK
    (try simp only [Act.put, n1, n2, n3, n4, n5, n6])
    (try simp only [World.size_alloc] at H3)
    obtain ⟨W9, hW9⟩ : ∃ W9, ((w2.alloc (.cells #[.slice none 0 0] 130)).alloc (.cells #[.int .i64 0] 3)) = W9 := ⟨_, rfl⟩
    rw [hW9] at H3 ⊢
    clear hW9
    obtain ⟨f1, f2⟩ := H3.f _ rfl
    obtain ⟨b1, b2⟩ := H3.b _ rfl
    have n1 := H3.fb _ _ rfl rfl
    have x1 := f2.cell 0
    have y1 := f2.frozen 0
    have x2 := b2.cell 0
    have y2 := b2.frozen 0
    have HQ := H3.cp.set hbl hgl (o := 0) f1 (.int .i64 f)
    refine wpAnyH_ready (rs := [11]) (by kernel_rfl) (by simp) ?_
    refine AllReadyH.cons rfl (fun KK hKK => ?_) AllReadyH.nil
    go_simp
    refine hKK.out _ _ (HQ.c HN.out) (fun hHeld => ?_)
    clear hKK KK
    (try simp only [Act.put, n1, n2, n3, n4, n5, n6])
    have HQ2 := HQ.set hbl hgl (o := 0) b1 (.slice (some ⟨g2, 0, none⟩) n cap2)
    have x3 := (b2.other _ 0 (.int .i64 f) (Ne.symm n1)).cell 0
    have y3 := (b2.other _ 0 (.int .i64 f) (Ne.symm n1)).frozen 0
    clear x1 y1 x2 y2
    refine wpAnyH_ready (rs := [12]) (by kernel_rfl) (by simp) ?_
    refine AllReadyH.cons rfl (fun KK hKK => ?_) AllReadyH.nil
    go_simp
    refine hKK.out _ _ (HQ2.c HN.out) (fun hHeld => ?_)
    clear hKK KK
    (try simp only [Act.put, n1, n2, n3, n4, n5, n6])
    refine wpAnyH_done (by kernel_rfl) ?_ _
    refine NoPanic.normal ?_
    obtain ⟨hA, hB⟩ := H3.done HN.out
    go_wp2
    go_ret
    exact ⟨_, _, _, _, rfl, hA, hB⟩
 ·go_simp
  have H1 := HD.newF
  refine hKK.out _ _ (H1.cc HN.out) (fun hHeld => ?_)
  clear hKK KK
  (try simp only [Act.put, n1, n2, n3, n4, n5, n6])
  refine wpAnyH_ready (rs := [8, 10]) (by kernel_rfl) (by simp) ?_
  refine AllReadyH.cons rfl (fun KK hKK => ?_) (AllReadyH.cons rfl (fun KK hKK => ?_) AllReadyH.nil)
  ·go_simp
   ((with_reducible refine (CC.out _ H1.cp).mono ?_); rintro e' w2 ⟨g2, cap2, rfl, hg2, hr2, hb2⟩; have H2 := H1.newC (c2 := cap2) hg2 hr2 hb2; clear hg2 hr2 hb2)
   (try go_simp)
   refine hKK.out _ _ (H2.cc HN.out) (fun hHeld => ?_)
   clear hKK KK
   (try simp only [Act.put, n1, n2, n3, n4, n5, n6])
   refine wpAnyH_ready (rs := [10]) (by kernel_rfl) (by simp) ?_
   refine AllReadyH.cons rfl (fun KK hKK => ?_) AllReadyH.nil
   ·go_simp
    have H3 := H2.newB
    refine hKK.out _ _ (H3.cc HN.out) (fun hHeld => ?_)
    clear hKK KK
    (try simp only [Act.put, n1, n2, n3, n4, n5, n6])
    (try simp only [World.size_alloc] at H3)
    obtain ⟨W9, hW9⟩ : ∃ W9, (w2.alloc (.cells #[.slice none 0 0] 130)) = W9 := ⟨_, rfl⟩
    rw [hW9] at H3 ⊢
    clear hW9
    obtain ⟨f1, f2⟩ := H3.f _ rfl
    obtain ⟨b1, b2⟩ := H3.b _ rfl
    have n1 := H3.fb _ _ rfl rfl
    have x1 := f2.cell 0
    have y1 := f2.frozen 0
    have x2 := b2.cell 0
    have y2 := b2.frozen 0
    have HQ := H3.cp.set hbl hgl (o := 0) f1 (.int .i64 f)
    refine wpAnyH_ready (rs := [11]) (by kernel_rfl) (by simp) ?_
    refine AllReadyH.cons rfl (fun KK hKK => ?_) AllReadyH.nil
    go_simp
    refine hKK.out _ _ (HQ.c HN.out) (fun hHeld => ?_)
    clear hKK KK
    (try simp only [Act.put, n1, n2, n3, n4, n5, n6])
    have HQ2 := HQ.set hbl hgl (o := 0) b1 (.slice (some ⟨g2, 0, none⟩) n cap2)
    have x3 := (b2.other _ 0 (.int .i64 f) (Ne.symm n1)).cell 0
    have y3 := (b2.other _ 0 (.int .i64 f) (Ne.symm n1)).frozen 0
    clear x1 y1 x2 y2
    refine wpAnyH_ready (rs := [12]) (by kernel_rfl) (by simp) ?_
    refine AllReadyH.cons rfl (fun KK hKK => ?_) AllReadyH.nil
    go_simp
    refine hKK.out _ _ (HQ2.c HN.out) (fun hHeld => ?_)
    clear hKK KK
    (try simp only [Act.put, n1, n2, n3, n4, n5, n6])
    refine wpAnyH_done (by kernel_rfl) ?_ _
    refine NoPanic.normal ?_
    obtain ⟨hA, hB⟩ := H3.done HN.out
    go_wp2
    go_ret
    exact ⟨_, _, _, _, rfl, hA, hB⟩
  ·go_simp
   have H2 := H1.newB
   refine hKK.out _ _ (H2.cc HN.out) (fun hHeld => ?_)
   clear hKK KK
   (try simp only [Act.put, n1, n2, n3, n4, n5, n6])
   refine wpAnyH_ready (rs := [8]) (by kernel_rfl) (by simp) ?_
   refine AllReadyH.cons rfl (fun KK hKK => ?_) AllReadyH.nil
   ·go_simp
    ((with_reducible refine (CC.out _ H2.cp).mono ?_); rintro e' w2 ⟨g2, cap2, rfl, hg2, hr2, hb2⟩; have H3 := H2.newC (c2 := cap2) hg2 hr2 hb2; clear hg2 hr2 hb2)
    (try go_simp)
    refine hKK.out _ _ (H3.cc HN.out) (fun hHeld => ?_)
    clear hKK KK
    (try simp only [Act.put, n1, n2, n3, n4, n5, n6])
    (try simp only [World.size_alloc] at H3)
    obtain ⟨f1, f2⟩ := H3.f _ rfl
    obtain ⟨b1, b2⟩ := H3.b _ rfl
    have n1 := H3.fb _ _ rfl rfl
    have x1 := f2.cell 0
    have y1 := f2.frozen 0
    have x2 := b2.cell 0
    have y2 := b2.frozen 0
    have HQ := H3.cp.set hbl hgl (o := 0) f1 (.int .i64 f)
    refine wpAnyH_ready (rs := [11]) (by kernel_rfl) (by simp) ?_
    refine AllReadyH.cons rfl (fun KK hKK => ?_) AllReadyH.nil
    go_simp
    refine hKK.out _ _ (HQ.c HN.out) (fun hHeld => ?_)
    clear hKK KK
    (try simp only [Act.put, n1, n2, n3, n4, n5, n6])
    have HQ2 := HQ.set hbl hgl (o := 0) b1 (.slice (some ⟨g2, 0, none⟩) n cap2)
    have x3 := (b2.other _ 0 (.int .i64 f) (Ne.symm n1)).cell 0
    have y3 := (b2.other _ 0 (.int .i64 f) (Ne.symm n1)).frozen 0
    clear x1 y1 x2 y2
    refine wpAnyH_ready (rs := [12]) (by kernel_rfl) (by simp) ?_
    refine AllReadyH.cons rfl (fun KK hKK => ?_) AllReadyH.nil
    go_simp
    refine hKK.out _ _ (HQ2.c HN.out) (fun hHeld => ?_)
    clear hKK KK
    (try simp only [Act.put, n1, n2, n3, n4, n5, n6])
    refine wpAnyH_done (by kernel_rfl) ?_ _
    refine NoPanic.normal ?_
    obtain ⟨hA, hB⟩ := H3.done HN.out
    go_wp2
    go_ret
    exact ⟨_, _, _, _, rfl, hA, hB⟩
 ·go_simp
  have H1 := HD.newB
  refine hKK.out _ _ (H1.cc HN.out) (fun hHeld => ?_)
  clear hKK KK
  (try simp only [Act.put, n1, n2, n3, n4, n5, n6])
  refine wpAnyH_ready (rs := [8, 9]) (by kernel_rfl) (by simp) ?_
  refine AllReadyH.cons rfl (fun KK hKK => ?_) (AllReadyH.cons rfl (fun KK hKK => ?_) AllReadyH.nil)
  ·go_simp
   ((with_reducible refine (CC.out _ H1.cp).mono ?_); rintro e' w2 ⟨g2, cap2, rfl, hg2, hr2, hb2⟩; have H2 := H1.newC (c2 := cap2) hg2 hr2 hb2; clear hg2 hr2 hb2)
   (try go_simp)
   refine hKK.out _ _ (H2.cc HN.out) (fun hHeld => ?_)
   clear hKK KK
   (try simp only [Act.put, n1, n2, n3, n4, n5, n6])
   refine wpAnyH_ready (rs := [9]) (by kernel_rfl) (by simp) ?_
   refine AllReadyH.cons rfl (fun KK hKK => ?_) AllReadyH.nil
   ·go_simp
    have H3 := H2.newF
    refine hKK.out _ _ (H3.cc HN.out) (fun hHeld => ?_)
    clear hKK KK
    (try simp only [Act.put, n1, n2, n3, n4, n5, n6])
    (try simp only [World.size_alloc] at H3)
    obtain ⟨W9, hW9⟩ : ∃ W9, (w2.alloc (.cells #[.int .i64 0] 3)) = W9 := ⟨_, rfl⟩
    rw [hW9] at H3 ⊢
    clear hW9
    obtain ⟨f1, f2⟩ := H3.f _ rfl
    obtain ⟨b1, b2⟩ := H3.b _ rfl
    have n1 := H3.fb _ _ rfl rfl
    have x1 := f2.cell 0
    have y1 := f2.frozen 0
    have x2 := b2.cell 0
    have y2 := b2.frozen 0
    have HQ := H3.cp.set hbl hgl (o := 0) f1 (.int .i64 f)
    refine wpAnyH_ready (rs := [11]) (by kernel_rfl) (by simp) ?_
    refine AllReadyH.cons rfl (fun KK hKK => ?_) AllReadyH.nil
    go_simp
    refine hKK.out _ _ (HQ.c HN.out) (fun hHeld => ?_)
    clear hKK KK
    (try simp only [Act.put, n1, n2, n3, n4, n5, n6])
    have HQ2 := HQ.set hbl hgl (o := 0) b1 (.slice (some ⟨g2, 0, none⟩) n cap2)
    have x3 := (b2.other _ 0 (.int .i64 f) (Ne.symm n1)).cell 0
    have y3 := (b2.other _ 0 (.int .i64 f) (Ne.symm n1)).frozen 0
    clear x1 y1 x2 y2
    refine wpAnyH_ready (rs := [12]) (by kernel_rfl) (by simp) ?_
    refine AllReadyH.cons rfl (fun KK hKK => ?_) AllReadyH.nil
    go_simp
    refine hKK.out _ _ (HQ2.c HN.out) (fun hHeld => ?_)
    clear hKK KK
    (try simp only [Act.put, n1, n2, n3, n4, n5, n6])
    refine wpAnyH_done (by kernel_rfl) ?_ _
    refine NoPanic.normal ?_
    obtain ⟨hA, hB⟩ := H3.done HN.out
    go_wp2
    go_ret
    exact ⟨_, _, _, _, rfl, hA, hB⟩
  ·go_simp
   have H2 := H1.newF
   refine hKK.out _ _ (H2.cc HN.out) (fun hHeld => ?_)
   clear hKK KK
   (try simp only [Act.put, n1, n2, n3, n4, n5, n6])
   refine wpAnyH_ready (rs := [8]) (by kernel_rfl) (by simp) ?_
   refine AllReadyH.cons rfl (fun KK hKK => ?_) AllReadyH.nil
   ·go_simp
    ((with_reducible refine (CC.out _ H2.cp).mono ?_); rintro e' w2 ⟨g2, cap2, rfl, hg2, hr2, hb2⟩; have H3 := H2.newC (c2 := cap2) hg2 hr2 hb2; clear hg2 hr2 hb2)
    (try go_simp)
    refine hKK.out _ _ (H3.cc HN.out) (fun hHeld => ?_)
    clear hKK KK
    (try simp only [Act.put, n1, n2, n3, n4, n5, n6])
    (try simp only [World.size_alloc] at H3)
    obtain ⟨f1, f2⟩ := H3.f _ rfl
    obtain ⟨b1, b2⟩ := H3.b _ rfl
    have n1 := H3.fb _ _ rfl rfl
    have x1 := f2.cell 0
    have y1 := f2.frozen 0
    have x2 := b2.cell 0
    have y2 := b2.frozen 0
    have HQ := H3.cp.set hbl hgl (o := 0) f1 (.int .i64 f)
    refine wpAnyH_ready (rs := [11]) (by kernel_rfl) (by simp) ?_
    refine AllReadyH.cons rfl (fun KK hKK => ?_) AllReadyH.nil
    go_simp
    refine hKK.out _ _ (HQ.c HN.out) (fun hHeld => ?_)
    clear hKK KK
    (try simp only [Act.put, n1, n2, n3, n4, n5, n6])
    have HQ2 := HQ.set hbl hgl (o := 0) b1 (.slice (some ⟨g2, 0, none⟩) n cap2)
    have x3 := (b2.other _ 0 (.int .i64 f) (Ne.symm n1)).cell 0
    have y3 := (b2.other _ 0 (.int .i64 f) (Ne.symm n1)).frozen 0
    clear x1 y1 x2 y2
    refine wpAnyH_ready (rs := [12]) (by kernel_rfl) (by simp) ?_
    refine AllReadyH.cons rfl (fun KK hKK => ?_) AllReadyH.nil
    go_simp
    refine hKK.out _ _ (HQ2.c HN.out) (fun hHeld => ?_)
    clear hKK KK
    (try simp only [Act.put, n1, n2, n3, n4, n5, n6])
    refine wpAnyH_done (by kernel_rfl) ?_ _
    refine NoPanic.normal ?_
    obtain ⟨hA, hB⟩ := H3.done HN.out
    go_wp2
    go_ret
    exact ⟨_, _, _, _, rfl, hA, hB⟩
end Go.Proofs.YtieedhdmpabfkaaGreat
namespace Go.Proofs.YtieedhdmpabfkaaGreat
open Go.ChangeShapes Go.WideShapes Go.ChangeAt Go.RowKit
set_option linter.unusedVariables false
theorem roundAny {F : Fence} (hd : F.depth = none) {m m' : Nat} {P : Program} {l : Nat} {f : FuncId} {tmps : Array Value} {assign body : Code} {w : World} {R : Ending → World → Prop}
  (h : RoundIn F m P l f tmps assign body w R) : RoundIn F m' P l f tmps assign body w R := ⟨h.1, fun c cs _ => h.2 c cs (fun d e => by rw [hd] at e; cases e)⟩
theorem yieldAny {F : Fence} (hd : F.depth = none) {m : Nat} (m' : Nat) {P : Program} {l : Nat} {args : Array Value} {W : World} {R : Ending → World → Prop} (h : YieldAt F m P l args W R) : YieldAt F m' P l args W R := by
 obtain ⟨fn, tmps, assign, body, hy, hR⟩ := h
 exact ⟨fn, tmps, assign, body, hy, roundAny hd hR⟩
def AbW {β : Type} (B k : Nat) (J : β → World → Prop) : Prop := ∀ s A A' row, J s A → A.grownBy A' row → (∀ r, row = some r → B ≤ r ∧ r < B + k) → J s A'
theorem AbW.alloc {β : Type} {B k : Nat} {J : β → World → Prop} (h : AbW B k J) {s : β} {W : World} (o : Obj) (hs : J s W) : J s (W.alloc o) :=
 h s W _ none hs (World.grownBy_alloc W o none) (fun r e => by cases e)
theorem AbW.put {β : Type} {B k : Nat} {J : β → World → Prop} (h : AbW B k J) {s : β} {W : World} {l : Nat} (o' : Obj) (hs : J s W) (h1 : B ≤ l) (h2 : l < B + k) : J s (W.putObj l o') :=
 h s W _ (some l) hs (grownBy_putObj' W l o') (fun r e => by cases e; exact ⟨h1, h2⟩)
theorem AbW.set {β : Type} {B k : Nat} {J : β → World → Prop} (h : AbW B k J) {s : β} {W : World} {l : Nat} (v : Value) (hs : J s W) (h1 : B ≤ l) (h2 : l < B + k) : J s (W.setCell ⟨l, 0, none⟩ v) :=
 h s W _ (some l) hs (grownBy_setCell' W l v) (fun r e => by cases e; exact ⟨h1, h2⟩)
theorem AbW.grow {β : Type} {B k : Nat} {J : β → World → Prop} (h : AbW B k J) {s : β} {W W' : World} (hs : J s W) (hg : W.grownBy W' none) : J s W' := h s W _ none hs hg (fun r e => by cases e)
theorem AbW.and {β : Type} {B k : Nat} {I I' : β → World → Prop} (h : AbW B k I) (h' : AbW B k I') : AbW B k (fun s W => I s W ∧ I' s W) := fun s W W' row hs hg hr => ⟨h s W W' row hs.1 hg hr, h' s W W' row hs.2 hg hr⟩
theorem AbW.pure {β : Type} (B k : Nat) (p : β → Prop) : AbW B k (fun s (_ : World) => p s) := fun _ _ _ _ hs _ _ => hs
theorem AbW.mono {β : Type} {B B' k k' : Nat} {I : β → World → Prop} (h : AbW B k I) (h1 : B ≤ B') (h2 : B' + k' ≤ B + k) : AbW B' k' I := fun s W W' row hs hg hr => h s W W' row hs hg (fun r e => by have := hr r e; omega)
theorem AbW.below {β : Type} {B k n₀ : Nat} {w : World} (hn : n₀ ≤ w.heap.size) (hB : n₀ ≤ B) : AbW B k (fun (_ : β) W => Below n₀ w W) := fun s A A' row hs hg hr => hs.grown hg (Nat.le_trans hn hs.size) (fun r e => by have := hr r e; omega)
def AbL {β : Type} (B k : Nat) (I : β → World → Prop) : Prop := ∀ s A A' row, I s A → A.grownBy A' row →
 (∀ r, row = some r → (B ≤ r ∧ r < B + 2 ∧ ∃ o : Obj, A.heap[r]? = some o ∧ o.isCells = false) ∨ (B + 2 ≤ r ∧ r < B + 2 + k)) → I s A'
theorem AbL.alloc {β : Type} {B k : Nat} {J : β → World → Prop} (h : AbL B k J) {s : β} {W : World} (o : Obj) (hs : J s W) : J s (W.alloc o) :=
 h s W _ none hs (World.grownBy_alloc W o none) (fun r e => by cases e)
theorem AbL.put {β : Type} {B k : Nat} {J : β → World → Prop} (h : AbL B k J) {s : β} {W : World} {l : Nat} (o' : Obj) (hs : J s W) (h1 : B ≤ l) (h2 : l < B + 2) {o : Obj} (hl : W.heap[l]? = some o) (ho : o.isCells = false) : J s (W.putObj l o') :=
 h s W _ (some l) hs (grownBy_putObj' W l o') (fun r e => by cases e; exact .inl ⟨h1, h2, o, hl, ho⟩)
theorem AbL.of {β : Type} {B k m : Nat} {I : β → World → Prop} (h : AbW B m I) (hm : m = 2 + k) : AbL B k I := fun s A A' row hs hg hr => h s A A' row hs hg (fun r e => by
 rcases hr r e with ⟨h1, h2, _⟩ | ⟨h1, h2⟩ <;> omega)
theorem AbL.own {β : Type} {B : Nat} {I : β → World → Prop} (h : Own I) : AbL B 0 I := fun s A A' row hs hg hr => h s A A' row hs hg (fun r e => by
 rcases hr r e with ⟨_, _, h3⟩ | ⟨h1, h2⟩
 ·exact h3
 ·omega)
theorem AbL.and {β : Type} {B k : Nat} {I I' : β → World → Prop} (h : AbL B k I) (h' : AbL B k I') : AbL B k (fun s W => I s W ∧ I' s W) := fun s W W' row hs hg hr => ⟨h s W W' row hs.1 hg hr, h' s W W' row hs.2 hg hr⟩
theorem AbL.pure {β : Type} (B k : Nat) (p : β → Prop) : AbL B k (fun s (_ : World) => p s) := fun _ _ _ _ hs _ _ => hs
theorem AbL.below {β : Type} {B k n₀ : Nat} {w : World} (hn : n₀ ≤ w.heap.size) (hB : n₀ ≤ B) : AbL B k (fun (_ : β) W => Below n₀ w W) := AbL.of (AbW.below (k := 2 + k) hn hB) rfl
structure KW (B : Nat) (W W' : World) : Prop where
 size : W.heap.size ≤ W'.heap.size
 same : ∀ (i : Nat) (o : Obj), B ≤ i → i < B + 2 → W.heap[i]? = some o → o.isCells = false → W'.heap[i]? = some o
theorem KW.refl (B : Nat) (W : World) : KW B W W := ⟨Nat.le_refl _, fun _ _ _ _ h _ => h⟩
theorem KW.trans {B : Nat} {X Y Z : World} (h : KW B X Y) (k : KW B Y Z) : KW B X Z := ⟨Nat.le_trans h.size k.size, fun i o a b c d => k.same i o a b (h.same i o a b c d) d⟩
theorem KW.of_others {B : Nat} {W W' : World} (h : KeepsOthers W W') : KW B W W' := ⟨h.size, fun i o _ _ c d => h.same i o c d⟩
theorem KW.of_below {B : Nat} {W W' : World} (h : Below W.heap.size W W') : KW B W W' := ⟨h.size, fun i o _ b c _ => (h.block i (Array.getElem?_eq_some_iff.1 c).1).trans c⟩
theorem KW.set {B : Nat} (W : World) (a : Addr) (v : Value) : KW B W (W.setCell a v) := KW.of_others (KeepsOthers.setCell _ _ _)
def SeqW {α : Type} (k : Nat) (P : Program) (g : Nat) (lb : Array Value) (encs : α → Array Value) (Kp : Nat → World → World → Prop) (S Sp : List α → Prop) (N : List α → α → Prop) (w : World) : Prop :=
 ∀ (l : Nat) (J Jx : List α → World → Prop) (W : World), Below w.heap.size w W → AbW W.heap.size k J → AbW W.heap.size k Jx →
  (∀ pre x W1, J pre W1 → N pre x → W.heap.size + k ≤ W1.heap.size → ∀ m, YieldAt Fence.wide m P l (encs x) W1 fun e W' =>
   (e = .returned (.bool true) ∧ J (pre ++ [x]) W' ∧ Kp W.heap.size W1 W') ∨ (e = .returned (.bool false) ∧ Jx (pre ++ [x]) W' ∧ Kp W.heap.size W1 W')) →
  J [] W →
  Calls P g (#[.func (.yield l) #[] #[]] ++ lb) W fun e W' => (∃ v, e = .returned v) ∧ ((∃ xs, S xs ∧ J xs W') ∨ (∃ pre, Sp pre ∧ Jx pre W'))
def ownPostW {α : Type} (B : Nat) (Kp : World → World → Prop) (I : List α → World → Prop) (Ix : Code → List α → World → Prop) (xs : List α) (W : World) : Exit → Act → World → Prop
 | .normal, _, W' => KW B W W' ∧ Kp W W' ∧ I xs W'
 | .ret, _, W' => KW B W W' ∧ Kp W W' ∧ Ix .ret xs W'
 | .exit id, _, W' => KW B W W' ∧ Kp W W' ∧ Ix (.exit id) xs W'
 | .goto t, _, W' => KW B W W' ∧ Kp W W' ∧ Ix (.goto t) xs W'
 | .panic _, _, _ => False
 | .outgrown, _, _ => False
variable {n : Nat} {P : Program} {w : World}
theorem range_win {α : Type} {g : Operand} {ps : Array Tmp} {assign body : Code} {Q : Exit → Act → World → Prop} {a : Act}
  (h1 : 1 ≤ n) {gf : Nat} {lb : Array Value} (hg : a.eval g = .func (.func gf) #[] lb) (eg : ∀ args w, (callFunc gf args).run P w = .ok (.enter gf args) w)
  {k : Nat} {encs : α → Array Value} {Kp : Nat → World → World → Prop} {S Sp : List α → Prop} {N : List α → α → Prop} {w0 : World} (hseq : SeqW k P gf lb encs Kp S Sp N w0)
  (hKt : ∀ {A B C : World}, Kp (w.heap.size + 2) A B → Kp (w.heap.size + 2) B C → Kp (w.heap.size + 2) A C)
  (hKb : ∀ (W : World) (l : Nat) (o o' : Obj), w.heap.size ≤ l → l < w.heap.size + 2 → W.heap[l]? = some o → o.isCells = false → Kp (w.heap.size + 2) W (W.putObj l o'))
  (hb0 : Below w0.heap.size w0 w) (hps : ∀ x, (encs x).size = ps.size)
  (I : List α → World → Prop) (Ix : Code → List α → World → Prop) (hI : AbL w.heap.size k I) (hIx : ∀ c, AbL w.heap.size k (Ix c)) (h0 : I [] w)
  (Ax : α → Act → World → Prop) (hAx : ∀ x a', AbL w.heap.size k (fun (_ : Unit) W => Ax x a' W))
  (hassign : ∀ (l : Nat) (pre : List α) (x : α) (W : World) (K : Act → World → Prop), I pre W → w.heap.size + 2 + k ≤ W.heap.size → (∀ a' W', KW w.heap.size W W' → Kp (w.heap.size + 2) W W' → I pre W' → Ax x a' W' → K a' W') →
   assign.wpIn (Fence.wide.inRound l) (n - 1 - 1) P (Exit.then K (fun _ _ _ => False)) { tmps := (ps.zip (encs x)).foldl (fun t (p, v) => t.setIfInBounds p v) a.tmps, defers := [] } W)
  (hbody : ∀ (l : Nat) (pre : List α) (x : α) (a' : Act) (W : World), w.heap.size + 2 + k ≤ W.heap.size → I pre W → Ax x a' W → N pre x → body.wpIn (Fence.wide.inRound l) (n - 1 - 1) P (ownPostW w.heap.size (Kp (w.heap.size + 2)) I Ix (pre ++ [x]) W) a' W)
  (hdone : ∀ (xs : List α) (W : World), S xs → I xs W → W.heap[w.heap.size]? = some (.deferred (some [])) → w.heap.size + 2 ≤ W.heap.size → Q .normal { a with defers := { target := .collected w.heap.size, args := #[] } :: a.defers } W)
  (hstop : ∀ (c : Code) (pre : List α) (W : World), Sp pre → Ix c pre W → W.heap[w.heap.size]? = some (.deferred (some [])) → w.heap.size + 2 ≤ W.heap.size → c.wpIn Fence.wide n P Q { a with defers := { target := .collected w.heap.size, args := #[] } :: a.defers } W) :
  (Code.rangeFunc g ps assign body).wpIn Fence.wide n P Q a w := by
 refine wpIn_rangeFunc ?_
 intro fn hfn
 rw [show Fence.wide.round = none from rfl]
 obtain ⟨rec, hrec⟩ : ∃ rec : LoopState → Option Code → Loop, rec = fun st pe => { state := st, pending := pe, fn, tmps := a.tmps, params := ps, assign, body, defers := w.heap.size } := ⟨_, rfl⟩
 obtain ⟨W1, hW1⟩ : ∃ W1, (w.alloc (.deferred (some []))).alloc (.loop (rec .ready none)) = W1 := ⟨_, rfl⟩
 have hL1 : W1.heap[w.heap.size + 1]? = some (.loop (rec .ready none)) := by
  rw [← hW1]; have := World.alloc_heap_new (w.alloc (.deferred (some []))) (.loop (rec .ready none)); rwa [World.size_alloc] at this
 have hK1 : W1.heap[w.heap.size]? = some (.deferred (some [])) := by
  rw [← hW1]; exact (Below.heap_alloc _ _ _ (by simp)).trans (World.alloc_heap_new w _)
 have hI1 : I [] W1 := by rw [← hW1]; exact hI.alloc _ (hI.alloc _ h0)
 have hs1 : W1.heap.size = w.heap.size + 2 := by rw [← hW1]; simp
 have hb1 : Below w0.heap.size w0 W1 := by
  rw [← hW1]; exact hb0.trans ((((Below.refl _ w).alloc (Nat.le_refl _) _).alloc (by simp) _).mono hb0.size)
 refine ⟨w.heap.size + 1, [{ target := .collected w.heap.size, args := #[] }], W1, { target := .fn (.func gf) lb, args := #[.func (.yield (w.heap.size + 1)) #[] #[]] }, W1, gf,
  #[.func (.yield (w.heap.size + 1)) #[] #[]] ++ lb, W1, ?_, ?_, ?_, ?_, fun _ => h1, ?_⟩
 ·rw [← hW1, hrec]; exact run_enterLoop_outer _ _ _ _ _
 ·simp only [resolve, hg]
  simp [go_sem]
 ·intro f' hf'; trivial
 ·simp [invoke, go_sem, eg]
 ·have hwin : ∀ {A B : World} {row : Option Nat} {i : Nat} {o : Obj}, A.grownBy B row → (∀ r, row = some r → W1.heap.size ≤ r ∧ r < W1.heap.size + k) → i < w.heap.size + 2 → A.heap[i]? = some o → B.heap[i]? = some o := fun hg hr hi ho =>
   (hg.block _ (Array.getElem?_eq_some_iff.1 ho).1 (fun e => by have := (hr _ e.symm).1; omega)).trans ho
  refine (callsIn_wide.2 (hseq (w.heap.size + 1)
   (fun pre W => I pre W ∧ W.heap[w.heap.size + 1]? = some (.loop (rec .ready none)) ∧ W.heap[w.heap.size]? = some (.deferred (some [])))
   (fun pre W => ∃ c, Ix c pre W ∧ W.heap[w.heap.size + 1]? = some (.loop (rec .done (some c))) ∧ W.heap[w.heap.size]? = some (.deferred (some [])))
   W1 hb1
   (fun s A B row hs hg' hr => ⟨hI s A B row hs.1 hg' (fun r e => .inr (by have := hr r e; omega)), hwin hg' hr (by omega) hs.2.1, hwin hg' hr (by omega) hs.2.2⟩)
   (fun s A B row hs hg' hr => by
    obtain ⟨c, hc, hl, hk⟩ := hs
    exact ⟨c, hIx c s A B row hc hg' (fun r e => .inr (by have := hr r e; omega)), hwin hg' hr (by omega) hl, hwin hg' hr (by omega) hk⟩)
   ?_ ⟨hI1, hL1, hK1⟩)).mono ?_
  ·
   rintro pre x W ⟨hi, hl, hk⟩ hlen hsz m
   refine yieldAny rfl (m := n - 1 - 1) m ?_
   rw [hs1] at hsz ⊢
   have hlt : w.heap.size + 1 < W.heap.size := (Array.getElem?_eq_some_iff.1 hl).1
   have hy := run_yield (P := P) (args := encs x) hl (by rw [hrec]; exact hps x)
   rw [hrec] at hy
   refine ⟨fn, _, assign, body, hy, roundIn_of_wpIn hfn (hassign _ pre x W _ hi hsz ?_)⟩
   clear hy
   intro a' Wa hkfa hkpa hia hax
   replace hl := hkfa.same _ _ (by omega) (by omega) hl rfl
   replace hk := hkfa.same _ _ (Nat.le_refl _) (by omega) hk rfl
   replace hlt : w.heap.size + 1 < Wa.heap.size := (Array.getElem?_eq_some_iff.1 hl).1
   replace hsz : w.heap.size + 2 + k ≤ Wa.heap.size := Nat.le_trans hsz hkfa.size
   replace hi := hia
   clear hia
   revert hkpa hkfa
   generalize W = Wb
   intro hkfa hkpa
   obtain ⟨W, rfl⟩ : ∃ W, W = Wa := ⟨_, rfl⟩
   refine ⟨_, run_beginRound hl (by rw [hrec]), ?_⟩
   have hl2 : (W.putObj (w.heap.size + 1) (.loop { rec .ready none with state := .busy })).heap[w.heap.size + 1]? = some (.loop { rec .ready none with state := .busy }) := World.putObj_heap_same hlt
   have hk2 : (W.putObj (w.heap.size + 1) (.loop { rec .ready none with state := .busy })).heap[w.heap.size]? = some (.deferred (some [])) := (World.putObj_heap_other (by omega)).trans hk
   have hw2 : Kp (w.heap.size + 2) W (W.putObj (w.heap.size + 1) (.loop { rec .ready none with state := .busy })) := hKb _ _ _ _ (by omega) (by omega) hl rfl
   refine wpIn_mono (hbody _ pre x a' _ (by simpa using hsz) (hI.put _ hi (by omega) (by omega) hl rfl) ((hAx x a').put (s := ()) _ hax (by omega) (by omega) hl rfl) hlen) ?_
   have fin : ∀ (jump : Option Code) (W3 : World), KW w.heap.size (W.putObj (w.heap.size + 1) (.loop { rec .ready none with state := .busy })) W3 →
     (Instr.endRound (w.heap.size + 1) jump).run P W3 = .ok (.bool jump.isNone) (W3.putObj (w.heap.size + 1) (.loop (rec (if jump.isNone then .ready else .done) jump))) ∧
     W3.heap[w.heap.size + 1]? = some (.loop { rec .ready none with state := .busy }) ∧
     (W3.putObj (w.heap.size + 1) (.loop (rec (if jump.isNone then .ready else .done) jump))).heap[w.heap.size + 1]? = some (.loop (rec (if jump.isNone then .ready else .done) jump)) ∧
     (W3.putObj (w.heap.size + 1) (.loop (rec (if jump.isNone then .ready else .done) jump))).heap[w.heap.size]? = some (.deferred (some [])) := fun jump W3 hk3 => by
    have hl3 := hk3.same _ _ (by omega) (by omega) hl2 rfl
    have := run_endRound (P := P) jump hl3
    rw [hrec] at this ⊢
    exact ⟨this, by rw [hrec] at hl3; exact hl3, World.putObj_heap_same (Array.getElem?_eq_some_iff.1 hl3).1, (World.putObj_heap_other (by omega)).trans (hk3.same _ _ (Nat.le_refl _) (by omega) hk2 rfl)⟩
   rintro e a3 W3 hp
   cases e with
   | normal =>
    obtain ⟨hk3, hkp3, hi3⟩ := hp
    obtain ⟨hr, hl3, hl4, hk4⟩ := fin none W3 hk3
    exact ⟨_, _, hr, .inl ⟨rfl, ⟨hI.put _ hi3 (by omega) (by omega) hl3 rfl, hl4, hk4⟩, hKt hkpa (hKt (hKt hw2 hkp3) (hKb _ _ _ _ (by omega) (by omega) hl3 rfl))⟩⟩
   | ret =>
    obtain ⟨hk3, hkp3, hi3⟩ := hp
    obtain ⟨hr, hl3, hl4, hk4⟩ := fin (some .ret) W3 hk3
    exact ⟨_, _, hr, .inr ⟨rfl, ⟨.ret, (hIx _).put _ hi3 (by omega) (by omega) hl3 rfl, hl4, hk4⟩, hKt hkpa (hKt (hKt hw2 hkp3) (hKb _ _ _ _ (by omega) (by omega) hl3 rfl))⟩⟩
   | exit id =>
    obtain ⟨hk3, hkp3, hi3⟩ := hp
    obtain ⟨hr, hl3, hl4, hk4⟩ := fin (some (.exit id)) W3 hk3
    exact ⟨_, _, hr, .inr ⟨rfl, ⟨.exit id, (hIx _).put _ hi3 (by omega) (by omega) hl3 rfl, hl4, hk4⟩, hKt hkpa (hKt (hKt hw2 hkp3) (hKb _ _ _ _ (by omega) (by omega) hl3 rfl))⟩⟩
   | goto t =>
    obtain ⟨hk3, hkp3, hi3⟩ := hp
    obtain ⟨hr, hl3, hl4, hk4⟩ := fin (some (.goto t)) W3 hk3
    exact ⟨_, _, hr, .inr ⟨rfl, ⟨.goto t, (hIx _).put _ hi3 (by omega) (by omega) hl3 rfl, hl4, hk4⟩, hKt hkpa (hKt (hKt hw2 hkp3) (hKb _ _ _ _ (by omega) (by omega) hl3 rfl))⟩⟩
   | panic ch => exact hp.elim
   | outgrown => exact hp.elim
  ·
   rintro e W2 ⟨⟨v, rfl⟩, (⟨xs, hS, hi, hl, hk⟩ | ⟨pre, hSp, c, hi, hl, hk⟩)⟩
   ·exact ⟨none, _, by have := run_endLoop (P := P) hl (by rw [hrec]; simp); rw [hrec] at this; exact this, hdone xs _ hS (hI.put _ hi (by omega) (by omega) hl rfl) ((World.putObj_heap_other (by omega)).trans hk) (by have := (Array.getElem?_eq_some_iff.1 hl).1; simp; omega)⟩
   ·exact ⟨some c, _, by have := run_endLoop (P := P) hl (by rw [hrec]; simp); rw [hrec] at this; exact this, hstop c pre _ hSp ((hIx c).put _ hi (by omega) (by omega) hl rfl) ((World.putObj_heap_other (by omega)).trans hk) (by have := (Array.getElem?_eq_some_iff.1 hl).1; simp; omega)⟩
end Go.Proofs.YtieedhdmpabfkaaGreat
namespace Go.Proofs.YtieedhdmpabfkaaGreat
open Go.ChangeShapes Go.WideShapes Go.ChangeAt Go.RowKit Go.Shelf
set_option linter.unusedVariables false
attribute [local go_sem] Oper.semAt_some
abbrev It := Int × En
abbrev encI (x : It) : Array Value := #[.int .i64 x.1, x.2.v]
def items (f : Int) : List En → List It
 | [] => []
 | x :: r => (f, x) :: items (f + 1) r
theorem items_len : ∀ (f : Int) (es : List En), (items f es).length = es.length
 | _, [] => rfl
 | f, x :: r => by simp [items, items_len (f + 1) r]
theorem items_get : ∀ (f : Int) (es : List En) (k : Nat) (x : En), es[k]? = some x → (items f es)[k]? = some (f + k, x)
 | f, [], k, x, h => by simp at h
 | f, y :: r, 0, x, h => by simp at h; simp [items, h]
 | f, y :: r, k + 1, x, h => by
  have := items_get (f + 1) r k x (by simpa using h)
  rw [items, List.getElem?_cons_succ, this]
  congr 2
  omega
theorem items_succ {f : Int} {es : List En} {k : Nat} {x : En} (h : es[k]? = some x) : (items f es).take (k + 1) = (items f es).take k ++ [(f + k, x)] := by
 rw [List.take_add_one, items_get f es k x h]; rfl
structure KpX (lo hi k B : Nat) (W W' : World) : Prop where
 size : W.heap.size ≤ W'.heap.size
 same : ∀ i, (lo ≤ i ∧ i < hi) ∨ (B ≤ i ∧ i < B + k) → W'.heap[i]? = W.heap[i]?
theorem KpX.refl (lo hi k B : Nat) (W : World) : KpX lo hi k B W W := ⟨Nat.le_refl _, fun _ _ => rfl⟩
theorem KpX.trans {lo hi k B : Nat} {X Y Z : World} (h : KpX lo hi k B X Y) (j : KpX lo hi k B Y Z) : KpX lo hi k B X Z := ⟨Nat.le_trans h.size j.size, fun i q => (j.same i q).trans (h.same i q)⟩
theorem KpX.of_below {lo hi k B : Nat} {W W' : World} (h : Below W.heap.size W W') (h1 : hi ≤ W.heap.size) (h2 : B + k ≤ W.heap.size) : KpX lo hi k B W W' := ⟨h.size, fun i q => h.block i (by omega)⟩
theorem KpX.kept {lo hi k B : Nat} {bs : Nat → Prop} {W W' : World} (h : Kept bs W W') (h1 : hi ≤ W.heap.size) (h2 : B + k ≤ W.heap.size) (hn : ∀ i, bs i → ¬ ((lo ≤ i ∧ i < hi) ∨ (B ≤ i ∧ i < B + k))) : KpX lo hi k B W W' :=
 ⟨h.size, fun i q => h.block i (by omega) (fun x => hn i x q)⟩
abbrev SeqI (lo hi k : Nat) (g : Nat) (lb : Array Value) (xs : List It) (w : World) : Prop :=
 SeqW k Tryz.prog g lb encI (KpX lo hi k) (fun ys => ys = xs) (fun pre => pre <+: xs) (fun pre x => pre ++ [x] <+: xs) w
def Iter (lo hi k : Nat) (fv : Value) (xs : List It) (W : World) : Prop :=
 ∃ (g : Nat) (lb : Array Value), fv = .func (.func g) #[] lb ∧ (∀ args w, (callFunc g args).run Tryz.prog w = .ok (.enter g args) w) ∧ hi ≤ W.heap.size ∧
  ∀ W', W.heap.size ≤ W'.heap.size → (∀ i, lo ≤ i → i < hi → W'.heap[i]? = W.heap[i]?) → SeqI lo hi k g lb xs W'
theorem Iter.heap {lo hi k : Nat} {fv : Value} {xs : List It} {W W' : World} (h : Iter lo hi k fv xs W) (hs : W.heap.size ≤ W'.heap.size) (hk : ∀ i, lo ≤ i → i < hi → W'.heap[i]? = W.heap[i]?) : Iter lo hi k fv xs W' := by
 obtain ⟨g, lb, e, eg, hh, hq⟩ := h
 exact ⟨g, lb, e, eg, Nat.le_trans hh hs, fun W2 h2 h3 => hq W2 (Nat.le_trans hs h2) (fun i a b => (h3 i a b).trans (hk i a b))⟩
theorem Iter.below {lo hi k : Nat} {fv : Value} {xs : List It} {W W' : World} (h : Iter lo hi k fv xs W) (j : Below W.heap.size W W') : Iter lo hi k fv xs W' := by
 have hh : hi ≤ W.heap.size := by obtain ⟨_, _, _, _, hh, _⟩ := h; exact hh
 exact h.heap j.size (fun i a b => j.block i (by omega))
theorem Iter.kept {lo hi k : Nat} {fv : Value} {xs : List It} {bs : Nat → Prop} {W W' : World} (h : Iter lo hi k fv xs W) (j : Kept bs W W') (hn : ∀ i, bs i → ¬ (lo ≤ i ∧ i < hi)) : Iter lo hi k fv xs W' := by
 have hh : hi ≤ W.heap.size := by obtain ⟨_, _, _, _, hh, _⟩ := h; exact hh
 exact h.heap j.size (fun i a b => j.block i (by omega) (fun x => hn i x ⟨a, b⟩))
theorem Iter.hi_le {lo hi k : Nat} {fv : Value} {xs : List It} {W : World} (h : Iter lo hi k fv xs W) : hi ≤ W.heap.size := by obtain ⟨_, _, _, _, hh, _⟩ := h; exact hh
theorem ItAt.heap {lo hi : Nat} {W W' : World} {pf pb g cap : Nat} {f : Int} {es : List En} (h : ItAt lo hi W pf pb g cap f es) (hk : ∀ i, lo ≤ i → i < hi → W'.heap[i]? = W.heap[i]?) : ItAt lo hi W' pf pb g cap f es :=
 ⟨h.f.heap (hk _ h.lf.1 h.lf.2), h.b.heap (hk _ h.lb.1 h.lb.2), h.row.heap (hk _ h.lg.1 h.lg.2), h.lf, h.lb, h.lg⟩
theorem ItAt.below {lo hi : Nat} {W W' : World} {pf pb g cap : Nat} {f : Int} {es : List En} (h : ItAt lo hi W pf pb g cap f es) (k : Below W.heap.size W W') : ItAt lo hi W' pf pb g cap f es :=
 ⟨h.f.below k, h.b.below k, h.row.below k, h.lf, h.lb, h.lg⟩
set_option maxRecDepth 100000 in
set_option maxHeartbeats 4000000 in
theorem all1_any (lo hi' l pf pb g cap : Nat) (f : Int) (es : List En) (J Jx : List It → World → Prop) (W : World) (hJ : AbW W.heap.size 0 J) (hf : Fit f es.length) (hA : ItAt lo hi' W pf pb g cap f es)
  (hY : ∀ (pre : List It) (x : It) (W1 : World), J pre W1 → pre ++ [x] <+: items f es → W.heap.size + 0 ≤ W1.heap.size → ∀ m, YieldAt Fence.wide m Tryz.prog l (encI x) W1 fun e W' =>
   (e = .returned (.bool true) ∧ J (pre ++ [x]) W' ∧ KpX lo hi' 0 W.heap.size W1 W') ∨ (e = .returned (.bool false) ∧ Jx (pre ++ [x]) W' ∧ KpX lo hi' 0 W.heap.size W1 W'))
  (h0 : J [] W) :
  Calls Tryz.prog 137 #[.func (.yield l) #[] #[], .pointer (some ⟨pb, 0, none⟩), .pointer (some ⟨pf, 0, none⟩)] W fun e W' => (∃ v, e = .returned v) ∧
   ((∃ ys, ys = items f es ∧ J ys W') ∨ (∃ pre, pre <+: items f es ∧ Jx pre W')) := by
 obtain ⟨n, hn⟩ : ∃ n, es.length = n := ⟨_, rfl⟩
 have HN := hi hn
 have HYY := hi hY
 have HJ := hi hJ
 have hn1 := hf.n1
 have hf0 := hf.f0
 have hs1 := hf.s1
 rw [hn] at hn1 hs1
 have HTA := hi (show (items f es).take n = items f es by rw [← hn, ← items_len f es, List.take_length])
 have H0 := hi (show ItAt lo hi' W pf pb g cap f es ∧ J ((items f es).take 0) W from ⟨hA, by simpa using h0⟩)
 have b1 := hA.b.cell 0
 rw [hn] at b1
 clear hY hJ hn hf hA h0
 refine (callsIn_wide (n := 3)).1 ?_
 refine callsIn_of_wp Tryz.func137 rfl trivial ?_ rfl
 simp only [Tryz.ntmps137, List.size_toArray, List.length_cons, List.length_nil, Nat.reduceAdd, Nat.reduceSub, Array.replicate_succ, Array.replicate_zero, List.push_toArray, List.append_toArray, List.nil_append, List.cons_append]
 gi_wp2
 gi_loopw [8] (fun i wr => ∃ k : Nat, k ≤ n ∧ i = .int .i64 k ∧ Hi (W.heap.size ≤ wr.heap.size ∧ ItAt lo hi' wr pf pb g cap f es ∧ J ((items f es).take k) wr))
  (fun i _ => n - (intOf i).toNat)
 case atStart => exact ⟨0, Nat.zero_le _, rfl, hi ⟨Nat.le_refl _, H0.out.1, H0.out.2⟩⟩
 case round =>
  obtain ⟨k, hk, rfl, HP⟩ := hrel
  clear b1 H0
  by_cases hlt : k < n
  ·have hke : es[k]? = some (nthE es k) := nthE_at (by rw [HN.out]; exact hlt)
   have HS := hi (items_succ (f := f) hke)
   have HPRE := hi (show (items f es).take k ++ [(f + (k : Int), nthE es k)] <+: items f es by rw [← HS.out]; exact List.take_prefix _ _)
   have hI := HP.out.2.1
   obtain ⟨e0, e1, e2, e3, e4, e5, e6, e7, e8⟩ := hI.row.ent hke
   have f0 := hI.f.cell 0
   have fl := hI.f.lt
   have hw : IntKind.i64.wrap (f + k) = f + k := by rw [IntKind.wrap_i64]; omega
   obtain ⟨x, hx⟩ : ∃ x, nthE es k = x := ⟨_, rfl⟩
   rw [hx] at HS HPRE e0 e1 e2 e3 e4 e5 e6 e7 e8
   obtain ⟨W1, hW1⟩ : ∃ W1, wr.alloc (.cells x.ca 115) = W1 := ⟨_, rfl⟩
   obtain ⟨fn, tmps, assign, body, hy, hRd⟩ := HYY.out _ _ W1 (by rw [← hW1]; exact HJ.out.alloc _ HP.out.2.2) HPRE.out (by rw [← hW1]; have := HP.out.1; simp; omega) (3 - 1)
   subst hW1
   clear hx hke hI
   obtain ⟨⟨⟨e, lb, q, a⟩, en, gr, p⟩, s⟩ := x
   dsimp only at e0 e1 e2 e3 e4 e5 e6 e7 e8
   dsimp only [En.ca, encI, En.v] at hy hRd
   gi_wp2
   refine hRd.mono ?_
   rintro e' W3 (⟨rfl, hJ3, hk3⟩ | ⟨rfl, hJx3, _⟩)
   ·gi_wp2
    go_roundw
    case rel => exact ⟨k + 1, by omega, by go_num, hi ⟨by have := HP.out.1; have := hk3.size; simp at this; omega, (HP.out.2.1.below (bal _ _)).heap (fun i a b => hk3.same i (.inl ⟨a, b⟩)), by rw [HS.out]; exact hJ3⟩⟩
    case measure => simp only [intOf]; omega
   ·gi_wp2
    refine bodyPost_ret (results_none rfl _ _ _) rfl ?_
    exact ⟨⟨_, rfl⟩, .inr ⟨_, HPRE.out, hJx3⟩⟩
  ·obtain rfl : k = n := by omega
   gi_wp2
   go_end0
   exact ⟨⟨_, rfl⟩, .inl ⟨_, rfl, by have := HP.out.2.2; rwa [HTA.out] at this⟩⟩
end Go.Proofs.YtieedhdmpabfkaaGreat
