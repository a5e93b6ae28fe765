/-
  The law LadderDoes at every input.
-/
import Derived.Test.YthfcgedlpnbojaaLadU
import Derived.Test.YthfcgedlpnbojaaLadO
namespace Go.Proofs.Ythfcgedlpnbojaa
open Go.ChangeShapes Go.WideShapes Go.ChangeAt Go.RowKit
set_option linter.unusedVariables false

theorem AtG.of3 {w W : World} {b1 b2 b3 : Nat} {t1 t2 t3 : TypeId} {c1 c2 c3 : Array Value} (h1 : CB W b1 t1 c1) (h2 : CB W b2 t2 c2) (h3 : CB W b3 t3 c3) (hb : Below w.heap.size w W) : AtG w [(b1, t1, c1), (b2, t2, c2), (b3, t3, c3)] W :=
  ⟨fun p hp => by
    rcases List.mem_cons.1 hp with rfl | hp
    · exact h1
    · rcases List.mem_cons.1 hp with rfl | hp
      · exact h2
      · obtain rfl := List.mem_singleton.1 hp
        exact h3, hb⟩
theorem AtG.of2 {w W : World} {b1 b2 : Nat} {t1 t2 : TypeId} {c1 c2 : Array Value} (h1 : CB W b1 t1 c1) (h2 : CB W b2 t2 c2) (hb : Below w.heap.size w W) : AtG w [(b1, t1, c1), (b2, t2, c2)] W :=
  ⟨fun p hp => by
    rcases List.mem_cons.1 hp with rfl | hp
    · exact h1
    · obtain rfl := List.mem_singleton.1 hp
      exact h2, hb⟩
/-- The first of three boxes, two cells, stored anew. -/
theorem AtG.st3 {w W : World} {b1 b2 b3 : Nat} {t1 t2 t3 : TypeId} {p q : Value} {c2 c3 : Array Value} (h : AtG w [(b1, t1, #[p, q]), (b2, t2, c2), (b3, t3, c3)] W) (hb : w.heap.size ≤ b1) (h2 : b2 ≠ b1) (h3 : b3 ≠ b1) (x y : Value) :
    AtG w [(b1, t1, #[x, y]), (b2, t2, c2), (b3, t3, c3)] ((W.setCell ⟨b1, 0, none⟩ x).setCell ⟨b1, 1, none⟩ y) :=
  .of3 (h.b0.set2 x y) ((h.tl.b0.other _ _ _ h2).other _ _ _ h2) ((h.tl.tl.b0.other _ _ _ h3).other _ _ _ h3) (below_set2 h.below hb x y)
/-- The second of three boxes, a row, stored anew. -/
theorem AtG.sr3 {w W : World} {b1 b2 b3 : Nat} {t1 t2 t3 : TypeId} {c1 c3 : Array Value} {f : Rg} (h : AtG w [(b1, t1, c1), (b2, t2, (bsL f).toArray), (b3, t3, c3)] W) (hb : w.heap.size ≤ b2) (h1 : b1 ≠ b2) (h3 : b3 ≠ b2) (f' : Rg) :
    AtG w [(b1, t1, c1), (b2, t2, (bsL f').toArray), (b3, t3, c3)] (W.setCells b2 0 (bsL f')) :=
  .of3 (CB.otherCells h1 _ _ _ h.b0) (CB.whole h.tl.b0 (bsA_size f) f') (CB.otherCells h3 _ _ _ h.tl.tl.b0) (below_cells hb _ _ _ h.below)
theorem five {w W : World} {b1 b2 b3 b4 b5 : Nat} {t1 t2 t3 t4 t5 : TypeId} {c2 c3 c4 c5 : Array Value} {g : Rg} (h : AtG w [(b1, t1, bsA g), (b2, t2, c2), (b3, t3, c3), (b4, t4, c4), (b5, t5, c5)] W) (hb : w.heap.size ≤ b1) (n2 : b2 ≠ b1) (n3 : b3 ≠ b1) (n4 : b4 ≠ b1) (n5 : b5 ≠ b1) (f' : Rg) :
    AtG w [(b1, t1, (bsL f').toArray), (b2, t2, c2), (b3, t3, c3), (b4, t4, c4), (b5, t5, c5)] (W.setCells b1 0 (bsL f')) :=
  ⟨fun p hp => by
    rcases List.mem_cons.1 hp with rfl | hp
    · exact CB.whole h.b0 (bsA_size g) f'
    · rcases List.mem_cons.1 hp with rfl | hp
      · exact CB.otherCells n2 _ _ _ h.tl.b0
      · rcases List.mem_cons.1 hp with rfl | hp
        · exact CB.otherCells n3 _ _ _ h.tl.tl.b0
        · rcases List.mem_cons.1 hp with rfl | hp
          · exact CB.otherCells n4 _ _ _ h.tl.tl.tl.b0
          · obtain rfl := List.mem_singleton.1 hp
            exact CB.otherCells n5 _ _ _ h.tl.tl.tl.tl.b0, below_cells hb _ _ _ h.below⟩
theorem st5 {w W : World} {b1 b2 b3 b4 b5 : Nat} {t1 t2 t3 t4 t5 : TypeId} {p q : Value} {c1 c2 c4 c5 : Array Value} (h : AtG w [(b1, t1, c1), (b2, t2, c2), (b3, t3, #[p, q]), (b4, t4, c4), (b5, t5, c5)] W) (hb : w.heap.size ≤ b3) (n1 : b1 ≠ b3) (n2 : b2 ≠ b3) (n4 : b4 ≠ b3) (n5 : b5 ≠ b3) (x y : Value) :
    AtG w [(b1, t1, c1), (b2, t2, c2), (b3, t3, #[x, y]), (b4, t4, c4), (b5, t5, c5)] ((W.setCell ⟨b3, 0, none⟩ x).setCell ⟨b3, 1, none⟩ y) :=
  ⟨fun r hr => by
    rcases List.mem_cons.1 hr with rfl | hr
    · exact (h.b0.other _ _ _ n1).other _ _ _ n1
    · rcases List.mem_cons.1 hr with rfl | hr
      · exact (h.tl.b0.other _ _ _ n2).other _ _ _ n2
      · rcases List.mem_cons.1 hr with rfl | hr
        · exact h.tl.tl.b0.set2 x y
        · rcases List.mem_cons.1 hr with rfl | hr
          · exact (h.tl.tl.tl.b0.other _ _ _ n4).other _ _ _ n4
          · obtain rfl := List.mem_singleton.1 hr
            exact (h.tl.tl.tl.tl.b0.other _ _ _ n5).other _ _ _ n5, below_set2 h.below hb x y⟩
theorem sr5 {w W : World} {b1 b2 b3 b4 b5 : Nat} {t1 t2 t3 t4 t5 : TypeId} {c1 c2 c3 c5 : Array Value} {g : Rg} (h : AtG w [(b1, t1, c1), (b2, t2, c2), (b3, t3, c3), (b4, t4, (bsL g).toArray), (b5, t5, c5)] W) (hb : w.heap.size ≤ b4) (n1 : b1 ≠ b4) (n2 : b2 ≠ b4) (n3 : b3 ≠ b4) (n5 : b5 ≠ b4) (f' : Rg) :
    AtG w [(b1, t1, c1), (b2, t2, c2), (b3, t3, c3), (b4, t4, (bsL f').toArray), (b5, t5, c5)] (W.setCells b4 0 (bsL f')) :=
  ⟨fun p hp => by
    rcases List.mem_cons.1 hp with rfl | hp
    · exact CB.otherCells n1 _ _ _ h.b0
    · rcases List.mem_cons.1 hp with rfl | hp
      · exact CB.otherCells n2 _ _ _ h.tl.b0
      · rcases List.mem_cons.1 hp with rfl | hp
        · exact CB.otherCells n3 _ _ _ h.tl.tl.b0
        · rcases List.mem_cons.1 hp with rfl | hp
          · exact CB.whole h.tl.tl.tl.b0 (bsA_size g) f'
          · obtain rfl := List.mem_singleton.1 hp
            exact CB.otherCells n5 _ _ _ h.tl.tl.tl.tl.b0, below_cells hb _ _ _ h.below⟩
theorem of_new3 (a b : Nat) (t : TypeId) (W : World) (ha : a < 4294967296) (hb : b < 4294967296) : Calls Try.prog 10 #[.slice (some ⟨W.heap.size, 0, none⟩) 3 3] (W.alloc (.cells #[.int .u32 a, .int .u32 b, .int .u32 77] t)) fun e w' => e = .returned (lv (ofW a b)) ∧ Below W.heap.size W w' :=
  (of3_any a b W.heap.size _ t _ ha hb (CB.new W t _)).mono fun e w' ⟨h1, h2⟩ => ⟨h1, (bal W _).trans (h2.mono (by simp))⟩
theorem of_new1 (a : Nat) (t : TypeId) (W : World) (ha : a < 4294967296) : Calls Try.prog 10 #[.slice (some ⟨W.heap.size, 0, none⟩) 1 1] (W.alloc (.cells #[.int .u32 a] t)) fun e w' => e = .returned (lv (ofW a 0)) ∧ Below W.heap.size W w' :=
  (of1_any a W.heap.size t _ ha (CB.new W t _)).mono fun e w' ⟨h1, h2⟩ => ⟨h1, (bal W _).trans (h2.mono (by simp))⟩
theorem thereR {w W : World} {b1 b2 : Nat} {t1 t2 : TypeId} {c1 : Array Value} {L : List (Nat × TypeId × Array Value)} {f : Rg} (h : AtG w ((b1, t1, c1) :: (b2, t2, (bsL f).toArray) :: L) W) (f' : Rg) : W.there b2 0 (bsL f').toArray.size := by
  rw [show (bsL f').toArray.size = 64 from bsA_size f']
  exact CB.thereB h.tl.b0 (bsA_size f)
theorem wpList_load_wanted {P : Program} {ops : Array Oper} {rest : List Oper} {op : Oper} {a : Act} {w : World} {Q : Exit → Act → World → Prop} (hw : Region.wanted op (yielded ops a.tmps) = true) (ty : TypeId) (x : Operand) (ho : op.op = .load ty x)
    (b o : Nat) (hx : a.eval x = .pointer (some ⟨b, o, none⟩)) (cs : List Value) (d : TypeDesc) (hc : w.rangeAt b o cs)
    (hu : P.underlying ty = some d) (hd : d.isRow = true) (hi : (P.info? ty).map (·.size) = some cs.length)
    (h : wpList P ops Q rest (a.put op.dst (.agg cs.toArray)) w) : wpList P ops Q (op :: rest) a w := by
  simp only [wpList, hw, if_true]
  exact Or.inl (wp_load_mid ty x ho b o hx cs d hc hu hd hi h)
theorem oneR (f : Rg) : (bsL f).toArray.all (·.oneCell') = true := bsA_one f
theorem sizeR (f : Rg) : (Try.prog.info? 31).map (·.size) = some (bsL f).toArray.size := size_refA f

set_option maxRecDepth 100000 in
set_option maxHeartbeats 16000000 in
theorem lawDoes_any (a b : Nat) (xs : List Ac) (v : Value) (w : World) (h : ActsAt w v xs) (hl : xs.length ≤ 9223372036854775806) (ha : a < 4294967296) (hb : b < 4294967296) :
    Calls Try.prog 3 #[.int .u32 a, .int .u32 b, v] w fun e w' => e = .returned (.bool true) ∧ Below w.heap.size w w' := by
  obtain ⟨a0, cap, rfl⟩ := h.slice
  have HACT := hi h
  obtain ⟨n, hn⟩ : ∃ n, xs.length = n := ⟨_, rfl⟩
  rw [hn] at HACT hl ⊢
  clear h hn
  have CO3 := hi (fun t W => of_new3 a b t W ha hb)
  have CO1 := hi (fun t W => of_new1 a t W ha)
  have CR3 := hi (fun W => rof_any a b W ha hb)
  have CR1 := hi (fun W => (show Calls Try.prog 11 #[.int .u32 (a : Int), .int .u32 0] W fun e w' => e = .returned (rv (ofW a 0)) ∧ Below W.heap.size W w' from rof_any a 0 W ha (by decide)))
  obtain ⟨f, hf⟩ : ∃ f, ofW a b = f := ⟨_, rfl⟩
  obtain ⟨f1, hf1⟩ : ∃ f, ofW a 0 = f := ⟨_, rfl⟩
  rw [hf] at CO3 CR3
  rw [hf1] at CO1 CR1
  have CA := hi (fun W => alike_any f W)
  have CA1 := hi (fun W => alike_any f1 W)
  have HZ := hi (size_ref f)
  have HONE := hi (oneR f)
  have HSZ := hi (sizeR f)
  obtain ⟨c1, h1⟩ : ∃ a, wd f 0 = a := ⟨_, rfl⟩
  obtain ⟨c2, h2⟩ : ∃ a, wd f 1 = a := ⟨_, rfl⟩
  obtain ⟨c3, h3⟩ : ∃ a, wd f1 0 = a := ⟨_, rfl⟩
  obtain ⟨c4, h4⟩ : ∃ a, wd f1 1 = a := ⟨_, rfl⟩
  have HWD := hi (And.intro h1 h2)
  unfold lv lcs at *
  unfold rv bsA at *
  rw [h1, h2] at CO3 CA
  rw [h3, h4] at CO1 CA1
  clear h1 h2 h3 h4 hf hf1 ha hb
  go_enter Try.func3, Try.ntmps3
  go_wp2_with (first
    | (go_at_call 9; ((with_reducible refine (awake_any _).mono ?_); rintro e w0 ⟨rfl, hb⟩; have HB0 := hi hb; clear hb))
    | (go_at_call 10; ((with_reducible refine (CO3.out _ _).mono ?_); rintro e w1 ⟨rfl, hb⟩; have HL8 := hi (Nat.le_trans HB0.out.size hb.size); have H1 := hi (AtG.new (w := w) (L := []) ⟨fun p hp => (by cases hp), HB0.out.trans (hb.mono HB0.out.size)⟩ 27 #[.int .u32 (c1 : Int), .int .u32 (c2 : Int)]); clear hb))
    | (go_at_call 11; ((with_reducible refine (CR3.out _).mono ?_); rintro e w2 ⟨rfl, hb⟩; have H2 := hi (H1.out.later hb); have HLT := hi H2.out.b0.lt; have hn2 := H2.out.new 31 (bsA f0); have HTH := hi (show World.there _ w2.heap.size 0 (bsL f).toArray.size by rw [show (bsL f).toArray.size = 64 from bsA_size f]; exact CB.thereB hn2.b0 (bsA_size f0)); have H3 := hi (show AtG w [(w1.heap.size, 27, #[.int .u32 (c1 : Int), .int .u32 (c2 : Int)]), (w2.heap.size, 31, (bsL f).toArray)] ((w2.alloc (.cells (bsA f0) 31)).setCells w2.heap.size 0 (bsL f)) from .of2 (CB.otherCells (by have := HLT.out; omega) _ _ _ hn2.tl.b0) (CB.whole hn2.b0 (bsA_size f0) f) (below_cells (Nat.le_trans HL8.out (Nat.le_of_lt HLT.out)) _ _ _ hn2.below)); clear hb hn2))
    | (refine wpList_alloc_ref rfl rfl ?_)
    | (refine wpList_store_mid rfl 31 (.tmp 9) (.tmp 25) rfl w2.heap.size 0 (bsL f).toArray rfl rfl HTH.out HSZ.out HONE.out ?_; dsimp only; obtain ⟨W3, hW3⟩ : ∃ W3, (w2.alloc (.cells (bsA f0) 31)).setCells w2.heap.size 0 (bsL f) = W3 := ⟨_, rfl⟩; rw [hW3] at H3; rw [hW3]; clear hW3; obtain ⟨s0, s1⟩ := H3.out.b0.two; have R3 := hi (CB.rangeB (f := f) H3.out.tl.b0))
    | (refine wpList_load_wanted (by rfl) 31 (.tmp 9) rfl w2.heap.size 0 rfl (bsL f) _ R3.out Try.underlying31 rfl HZ.out ?_)
    | (go_at_call 12; ((with_reducible refine (CA.out _).mono ?_); rintro e w4 ⟨rfl, hb⟩; have H4 := hi (H3.out.later hb); clear hb))
    | (go_at_call 10; ((with_reducible refine (CO1.out _ _).mono ?_); rintro e w5 ⟨rfl, hb⟩; have H5 := hi (H4.out.later hb); clear hb))
    | (go_at_call 11; ((with_reducible refine (CR1.out _).mono ?_); rintro e w6 ⟨rfl, hb⟩; have H6 := hi (H5.out.later hb); clear hb))
    | (go_at_call 12; ((with_reducible refine (CA1.out _).mono ?_); rintro e w7 ⟨rfl, hb⟩; have H7 := hi (H6.out.later hb); clear hb)))
  have HST := hi (show AtG w [(w1.heap.size, 27, lcs f), (w2.heap.size, 31, (bsL f).toArray)] w7 by unfold lcs; rw [HWD.out.1, HWD.out.2]; exact H7.out)
  clear H1 H2 H3 H4 H5 H6 H7 R3 HTH HB0 CO3 CO1 CR3 CR1 CA CA1 HZ HONE HSZ HWD s0 s1
  go_wp2
  go_loopw [10] (fun i wr => ∃ (k : Nat) (f : Rg), k ≤ n ∧ i = .int .i64 k ∧ Hi (AtG w [(w1.heap.size, 27, lcs f), (w2.heap.size, 31, (bsL f).toArray)] wr)) (fun i _ => n - (intOf i).toNat)
  case atStart => exact ⟨0, f, Nat.zero_le _, rfl, HST⟩
  case round =>
    obtain ⟨k, h, hk, rfl, HP⟩ := hrel
    clear HST
    by_cases hlt : k < n
    · obtain ⟨g, o, rfl, hc⟩ := HACT.out.read hlt
      obtain ⟨d0, d1, d2⟩ := hc _ HP.out.below
      obtain ⟨D, hD⟩ : ∃ a, (nthA xs k).d = a := ⟨_, rfl⟩
      obtain ⟨G, hG⟩ : ∃ a, (nthA xs k).g = a := ⟨_, rfl⟩
      obtain ⟨P, hP⟩ : ∃ a, (nthA xs k).p = a := ⟨_, rfl⟩
      rw [hD] at d0
      rw [hG] at d1
      rw [hP] at d2
      have hp := HP.out
      obtain ⟨l1, h1⟩ : ∃ a, wd h 0 = a := ⟨_, rfl⟩
      obtain ⟨l2, h2⟩ : ∃ a, wd h 1 = a := ⟨_, rfl⟩
      unfold lcs at hp
      rw [h1, h2] at hp
      have hxlt := hp.tl.b0.lt
      have hx : AtG w [(w1.heap.size, 27, #[.int .u32 (l1 : Int), .int .u32 (l2 : Int)]), (w2.heap.size, 31, (bsL h).toArray), (wr.heap.size, 35, #[.int .i64 D, .int .i64 G, .int .i64 P])] (wr.alloc (.cells #[.int .i64 D, .int .i64 G, .int .i64 P] 35)) := .of3 (hp.b0.alloc _) (hp.tl.b0.alloc _) (CB.new wr _ _) (hp.alloc _).below
      have hw8 := HL8.out
      have hw9 := HLT.out
      have hl9 : w.heap.size ≤ w2.heap.size := by omega
      have n1 : w2.heap.size ≠ w1.heap.size := by omega
      have n2 : wr.heap.size ≠ w1.heap.size := by omega
      have n3 : w1.heap.size ≠ w2.heap.size := by omega
      have n4 : wr.heap.size ≠ w2.heap.size := by omega
      have HX := hi hx
      have HNE := hi (And.intro hl9 (And.intro n1 (And.intro n2 (And.intro n3 n4))))
      obtain ⟨s0, s1⟩ := hx.b0.two
      clear hx hp hc hD hG hP HP hw8 hw9 hl9 n1 n2 n3 n4
      rcases (show D = 1 ∨ D = 2 ∨ D = 3 ∨ (D ≠ 1 ∧ D ≠ 2 ∧ D ≠ 3) by omega) with hD1 | hD2 | hD3 | hDe
      · subst hD1
        obtain ⟨h', hh⟩ : ∃ h', put h (plc G P) true = h' := ⟨_, rfl⟩
        have CAL := hi (fun W => alike_any h' W)
        have CH := hi (fun W => has_any h' G P W)
        have CRH := hi (fun W => rhas_any h' G P W)
        obtain ⟨vv, hvv⟩ : ∃ v, h' (plc G P) = v := ⟨_, rfl⟩
        rw [hvv] at CH CRH
        have hne : (vv != vv) = false := by simp
        have HZ := hi (size_ref h')
        have HZ0 := hi (size_ref h)
        have HONE := hi (oneR h')
        have HSZ := hi (sizeR h')
        obtain ⟨n1, h3⟩ : ∃ a, wd h' 0 = a := ⟨_, rfl⟩
        obtain ⟨n2, h4⟩ : ∃ a, wd h' 1 = a := ⟨_, rfl⟩
        have CP := hi (fun W => push_any h G P W)
        have CS := hi (fun W => rset_any h G P true W)
        rw [hh] at CP CS
        unfold lv lcs at CP CAL CH
        unfold rv bsA at CS CAL CRH
        rw [h1, h2] at CP
        rw [h3, h4] at CP CAL CH
        have HW2 := hi (And.intro h3 h4)
        clear h1 h2 h3 h4 hh hvv
        obtain ⟨nn1, nn2, nn3, nn4⟩ := HNE.out.2
        go_wp2_with (first
          | (go_at_call 13; ((with_reducible refine (CP.out _).mono ?_); rintro e w3 ⟨rfl, hb⟩; have H3 := hi (HX.out.later hb); have S3 := hi (H3.out.st3 HL8.out nn1 nn2 (.int .u32 (n1 : Int)) (.int .u32 (n2 : Int))); obtain ⟨t0, t1⟩ := H3.out.b0.two; have f3 := H3.out.b0.frozen; obtain ⟨x0, x1, x2⟩ := S3.out.tl.tl.b0.three; have R3 := hi (CB.rangeB (f := h) S3.out.tl.b0); clear hb))
          | (refine wpList_load_mid rfl 31 (.tmp 9) rfl w2.heap.size 0 rfl (bsL h) _ R3.out Try.underlying31 rfl HZ0.out ?_)
          | (go_at_call 14; ((with_reducible refine (CS.out _).mono ?_); rintro e w4 ⟨rfl, hb⟩; have H4 := hi (S3.out.later hb); have HT := hi (thereR H4.out h'); have HE := hi (H4.out.sr3 HNE.out.1 nn3 nn4 h'); clear hb))
          | (refine wpList_store_mid rfl 31 (.tmp 9) (.tmp 68) rfl w2.heap.size 0 (bsL h').toArray rfl rfl HT.out HSZ.out HONE.out ?_; dsimp only; obtain ⟨W5, hW5⟩ : ∃ W5, w4.setCells w2.heap.size 0 (bsL h') = W5 := ⟨_, rfl⟩; rw [hW5] at HE; rw [hW5]; clear hW5; obtain ⟨m0, m1⟩ := HE.out.b0.two; obtain ⟨y0, y1, y2⟩ := HE.out.tl.tl.b0.three))
        clear HX H3 S3 R3 H4 HT s0 s1 t0 t1 f3 x0 x1 x2 d0 d1 d2
        have HQ := HE.out.drew
        clear HE
        refine wp_region_noPanic ?_
        refine wp_region_held_drew (S := (fun w' => w'.cell? ⟨w1.heap.size, 0, none⟩ = some (.int .u32 (n1 : Int)) ∧ w'.cell? ⟨w1.heap.size, 1, none⟩ = some (.int .u32 (n2 : Int)) ∧ w'.rangeAt (w2.heap.size) 0 (bsL h') ∧ w'.cell? ⟨wr.heap.size, 1, none⟩ = some (.int .i64 G) ∧ w'.cell? ⟨wr.heap.size, 2, none⟩ = some (.int .i64 P) ∧ AtG w [(w1.heap.size, 27, #[.int .u32 (n1 : Int), .int .u32 (n2 : Int)]), (w2.heap.size, 31, (bsL h').toArray), (wr.heap.size, 35, #[.int .i64 1, .int .i64 G, .int .i64 P])] w')) (by kernel_rfl) ⟨HQ.b0.cell 0, HQ.b0.cell 1, CB.rangeB HQ.tl.b0, HQ.tl.tl.b0.cell 1, HQ.tl.tl.b0.cell 2, HQ⟩ (fun hHeld => ?_)
        (try simp only [Array.replicate_succ, Array.replicate_zero, List.push_toArray, List.nil_append, List.cons_append])
        refine wpAnyH_take (i := 0) (v := ?_) rfl (by kernel_rfl) (by kernel_rfl) (by kernel_rfl) (fun _ _ _ h => h) (Or.inl ⟨by rfl, ?_⟩) (by assumption) ?_
        rotate_left
        · intro w' hSw; (try dsimp only at hSw); obtain ⟨hs0, hs1, hs2, hs3, hs4, hs5⟩ := hSw; go_simp; (try with_reducible rfl)
        (try simp only [Act.put, List.getElem_toArray, List.getElem_cons_zero, List.setIfInBounds_toArray, List.set_cons_zero, List.set_cons_succ])
        refine wpAnyH_take (i := 1) (v := _) rfl (by kernel_rfl) (by kernel_rfl) (by kernel_rfl) (fun _ _ _ h => h) (yieldsIf_load_mid (by rfl) 31 (.tmp 9) rfl (w2.heap.size) 0 rfl (bsL h') _ (fun w' hh => hh.2.2.1) Try.underlying31 rfl HZ.out) (by assumption) ?_
        (try simp only [Act.put, List.getElem_toArray, List.getElem_cons_zero, List.getElem_cons_succ, List.setIfInBounds_toArray, List.set_cons_zero, List.set_cons_succ])
        refine wpAnyH_ready (rs := [2]) (by kernel_rfl) (by simp) ?_
        refine AllReadyH.cons rfl (fun KK hKK => ?_) AllReadyH.nil
        go_simp
        ((with_reducible refine (CAL.out _).mono ?_); rintro e' w9 ⟨rfl, hb⟩; have hq := HQ.later hb; clear HQ hb; have HQ := hq; clear hq)
        (try go_simp)
        refine hKK.out _ _ ⟨HQ.b0.cell 0, HQ.b0.cell 1, CB.rangeB HQ.tl.b0, HQ.tl.tl.b0.cell 1, HQ.tl.tl.b0.cell 2, HQ⟩ (fun hHeld => ?_)
        clear hKK KK
        (try simp only [Act.put, List.getElem_toArray, List.getElem_cons_zero, List.getElem_cons_succ, List.setIfInBounds_toArray, List.set_cons_zero, List.set_cons_succ])
        refine wpAnyH_take (i := 3) (v := ?_) rfl (by kernel_rfl) (by kernel_rfl) (by kernel_rfl) (fun _ _ _ h => h) (Or.inl ⟨by rfl, ?_⟩) (by assumption) ?_
        rotate_left
        · intro w' hSw; (try dsimp only at hSw); obtain ⟨hs0, hs1, hs2, hs3, hs4, hs5⟩ := hSw; go_simp; (try with_reducible rfl)
        (try simp only [Act.put, List.getElem_toArray, List.getElem_cons_zero, List.getElem_cons_succ, List.setIfInBounds_toArray, List.set_cons_zero, List.set_cons_succ])
        refine wpAnyH_take (i := 4) (v := ?_) rfl (by kernel_rfl) (by kernel_rfl) (by kernel_rfl) (fun _ _ _ h => h) (Or.inl ⟨by rfl, ?_⟩) (by assumption) ?_
        rotate_left
        · intro w' hSw; (try dsimp only at hSw); obtain ⟨hs0, hs1, hs2, hs3, hs4, hs5⟩ := hSw; go_simp; (try with_reducible rfl)
        (try simp only [Act.put, List.getElem_toArray, List.getElem_cons_zero, List.getElem_cons_succ, List.setIfInBounds_toArray, List.set_cons_zero, List.set_cons_succ])
        refine wpAnyH_take (i := 5) (v := ?_) rfl (by kernel_rfl) (by kernel_rfl) (by kernel_rfl) (fun _ _ _ h => h) (Or.inl ⟨by rfl, ?_⟩) (by assumption) ?_
        rotate_left
        · intro w' hSw; (try dsimp only at hSw); obtain ⟨hs0, hs1, hs2, hs3, hs4, hs5⟩ := hSw; go_simp; (try with_reducible rfl)
        (try simp only [Act.put, List.getElem_toArray, List.getElem_cons_zero, List.getElem_cons_succ, List.setIfInBounds_toArray, List.set_cons_zero, List.set_cons_succ])
        refine wpAnyH_take (i := 6) (v := ?_) rfl (by kernel_rfl) (by kernel_rfl) (by kernel_rfl) (fun _ _ _ h => h) (Or.inl ⟨by rfl, ?_⟩) (by assumption) ?_
        rotate_left
        · intro w' hSw; (try dsimp only at hSw); obtain ⟨hs0, hs1, hs2, hs3, hs4, hs5⟩ := hSw; go_simp; (try with_reducible rfl)
        (try simp only [Act.put, List.getElem_toArray, List.getElem_cons_zero, List.getElem_cons_succ, List.setIfInBounds_toArray, List.set_cons_zero, List.set_cons_succ])
        refine wpAnyH_take (i := 7) (v := ?_) rfl (by kernel_rfl) (by kernel_rfl) (by kernel_rfl) (fun _ _ _ h => h) (Or.inl ⟨by rfl, ?_⟩) (by assumption) ?_
        rotate_left
        · intro w' hSw; (try dsimp only at hSw); obtain ⟨hs0, hs1, hs2, hs3, hs4, hs5⟩ := hSw; go_simp; (try with_reducible rfl)
        (try simp only [Act.put, List.getElem_toArray, List.getElem_cons_zero, List.getElem_cons_succ, List.setIfInBounds_toArray, List.set_cons_zero, List.set_cons_succ])
        refine wpAnyH_take (i := 8) (v := ?_) rfl (by kernel_rfl) (by kernel_rfl) (by kernel_rfl) (fun _ _ _ h => h) (Or.inl ⟨by rfl, ?_⟩) (by assumption) ?_
        rotate_left
        · intro w' hSw; (try dsimp only at hSw); obtain ⟨hs0, hs1, hs2, hs3, hs4, hs5⟩ := hSw; go_simp; (try with_reducible rfl)
        (try simp only [Act.put, List.getElem_toArray, List.getElem_cons_zero, List.getElem_cons_succ, List.setIfInBounds_toArray, List.set_cons_zero, List.set_cons_succ])
        refine wpAnyH_take (i := 9) (v := ?_) rfl (by kernel_rfl) (by kernel_rfl) (by kernel_rfl) (fun _ _ _ h => h) (Or.inl ⟨by rfl, ?_⟩) (by assumption) ?_
        rotate_left
        · intro w' hSw; (try dsimp only at hSw); obtain ⟨hs0, hs1, hs2, hs3, hs4, hs5⟩ := hSw; go_simp; (try with_reducible rfl)
        (try simp only [Act.put, List.getElem_toArray, List.getElem_cons_zero, List.getElem_cons_succ, List.setIfInBounds_toArray, List.set_cons_zero, List.set_cons_succ])
        refine wpAnyH_take (i := 11) (v := _) rfl (by kernel_rfl) (by kernel_rfl) (by kernel_rfl) (fun _ _ _ h => h) (yieldsIf_load_mid (by rfl) 31 (.tmp 9) rfl (w2.heap.size) 0 rfl (bsL h') _ (fun w' hh => hh.2.2.1) Try.underlying31 rfl HZ.out) (by assumption) ?_
        (try simp only [Act.put, List.getElem_toArray, List.getElem_cons_zero, List.getElem_cons_succ, List.setIfInBounds_toArray, List.set_cons_zero, List.set_cons_succ])
        refine wpAnyH_take (i := 12) (v := ?_) rfl (by kernel_rfl) (by kernel_rfl) (by kernel_rfl) (fun _ _ _ h => h) (Or.inl ⟨by rfl, ?_⟩) (by assumption) ?_
        rotate_left
        · intro w' hSw; (try dsimp only at hSw); obtain ⟨hs0, hs1, hs2, hs3, hs4, hs5⟩ := hSw; go_simp; (try with_reducible rfl)
        (try simp only [Act.put, List.getElem_toArray, List.getElem_cons_zero, List.getElem_cons_succ, List.setIfInBounds_toArray, List.set_cons_zero, List.set_cons_succ])
        refine wpAnyH_take (i := 13) (v := ?_) rfl (by kernel_rfl) (by kernel_rfl) (by kernel_rfl) (fun _ _ _ h => h) (Or.inl ⟨by rfl, ?_⟩) (by assumption) ?_
        rotate_left
        · intro w' hSw; (try dsimp only at hSw); obtain ⟨hs0, hs1, hs2, hs3, hs4, hs5⟩ := hSw; go_simp; (try with_reducible rfl)
        (try simp only [Act.put, List.getElem_toArray, List.getElem_cons_zero, List.getElem_cons_succ, List.setIfInBounds_toArray, List.set_cons_zero, List.set_cons_succ])
        refine wpAnyH_take (i := 14) (v := ?_) rfl (by kernel_rfl) (by kernel_rfl) (by kernel_rfl) (fun _ _ _ h => h) (Or.inl ⟨by rfl, ?_⟩) (by assumption) ?_
        rotate_left
        · intro w' hSw; (try dsimp only at hSw); obtain ⟨hs0, hs1, hs2, hs3, hs4, hs5⟩ := hSw; go_simp; (try with_reducible rfl)
        (try simp only [Act.put, List.getElem_toArray, List.getElem_cons_zero, List.getElem_cons_succ, List.setIfInBounds_toArray, List.set_cons_zero, List.set_cons_succ])
        refine wpAnyH_take (i := 15) (v := ?_) rfl (by kernel_rfl) (by kernel_rfl) (by kernel_rfl) (fun _ _ _ h => h) (Or.inl ⟨by rfl, ?_⟩) (by assumption) ?_
        rotate_left
        · intro w' hSw; (try dsimp only at hSw); obtain ⟨hs0, hs1, hs2, hs3, hs4, hs5⟩ := hSw; go_simp; (try with_reducible rfl)
        (try simp only [Act.put, List.getElem_toArray, List.getElem_cons_zero, List.getElem_cons_succ, List.setIfInBounds_toArray, List.set_cons_zero, List.set_cons_succ])
        refine wpAnyH_ready (rs := [10]) (by kernel_rfl) (by simp) ?_
        refine AllReadyH.cons rfl (fun KK hKK => ?_) AllReadyH.nil
        go_simp
        ((with_reducible refine (CH.out _).mono ?_); rintro e' w9 ⟨rfl, hb⟩; have hq := HQ.later hb; clear HQ hb; have HQ := hq; clear hq)
        (try go_simp)
        refine hKK.out _ _ ⟨HQ.b0.cell 0, HQ.b0.cell 1, CB.rangeB HQ.tl.b0, HQ.tl.tl.b0.cell 1, HQ.tl.tl.b0.cell 2, HQ⟩ (fun hHeld => ?_)
        clear hKK KK
        (try simp only [Act.put, List.getElem_toArray, List.getElem_cons_zero, List.getElem_cons_succ, List.setIfInBounds_toArray, List.set_cons_zero, List.set_cons_succ])
        refine wpAnyH_ready (rs := [16]) (by kernel_rfl) (by simp) ?_
        refine AllReadyH.cons rfl (fun KK hKK => ?_) AllReadyH.nil
        go_simp
        ((with_reducible refine (CRH.out _).mono ?_); rintro e' w9 ⟨rfl, hb⟩; have hq := HQ.later hb; clear HQ hb; have HQ := hq; clear hq)
        (try go_simp)
        refine hKK.out _ _ ⟨HQ.b0.cell 0, HQ.b0.cell 1, CB.rangeB HQ.tl.b0, HQ.tl.tl.b0.cell 1, HQ.tl.tl.b0.cell 2, HQ⟩ (fun hHeld => ?_)
        clear hKK KK
        (try simp only [Act.put, List.getElem_toArray, List.getElem_cons_zero, List.getElem_cons_succ, List.setIfInBounds_toArray, List.set_cons_zero, List.set_cons_succ])
        refine wpAnyH_take (i := 17) (v := ?_) rfl (by kernel_rfl) (by kernel_rfl) (by kernel_rfl) (fun _ _ _ h => h) (Or.inl ⟨by rfl, ?_⟩) (by assumption) ?_
        rotate_left
        · intro w' hSw; (try dsimp only at hSw); obtain ⟨hs0, hs1, hs2, hs3, hs4, hs5⟩ := hSw; go_simp; (try with_reducible rfl)
        (try simp only [Act.put, List.getElem_toArray, List.getElem_cons_zero, List.getElem_cons_succ, List.setIfInBounds_toArray, List.set_cons_zero, List.set_cons_succ])
        refine wpAnyH_take (i := 18) (v := ?_) rfl (by kernel_rfl) (by kernel_rfl) (by kernel_rfl) (fun _ _ _ h => h) (Or.inl ⟨by rfl, ?_⟩) (by assumption) ?_
        rotate_left
        · intro w' hSw; (try dsimp only at hSw); obtain ⟨hs0, hs1, hs2, hs3, hs4, hs5⟩ := hSw; go_simp; (try with_reducible rfl)
        (try simp only [Act.put, List.getElem_toArray, List.getElem_cons_zero, List.getElem_cons_succ, List.setIfInBounds_toArray, List.set_cons_zero, List.set_cons_succ])
        refine wpAnyH_done (by kernel_rfl) ?_ _
        refine NoPanic.normal ?_
        have HR := hi (show AtG w [(w1.heap.size, 27, lcs h'), (w2.heap.size, 31, (bsL h').toArray)] w9 by unfold lcs; rw [HW2.out.1, HW2.out.2]; exact .of2 HQ.b0 HQ.tl.b0 HQ.below)
        clear HQ
        go_wp2
        go_roundw
        case rel => exact ⟨k + 1, h', by omega, by go_num, HR⟩
        case measure => simp [intOf]; omega
      · subst hD2
        obtain ⟨h', hh⟩ : ∃ h', put h (plc G P) false = h' := ⟨_, rfl⟩
        have CAL := hi (fun W => alike_any h' W)
        have CH := hi (fun W => has_any h' G P W)
        have CRH := hi (fun W => rhas_any h' G P W)
        obtain ⟨vv, hvv⟩ : ∃ v, h' (plc G P) = v := ⟨_, rfl⟩
        rw [hvv] at CH CRH
        have hne : (vv != vv) = false := by simp
        have HZ := hi (size_ref h')
        have HZ0 := hi (size_ref h)
        have HONE := hi (oneR h')
        have HSZ := hi (sizeR h')
        obtain ⟨n1, h3⟩ : ∃ a, wd h' 0 = a := ⟨_, rfl⟩
        obtain ⟨n2, h4⟩ : ∃ a, wd h' 1 = a := ⟨_, rfl⟩
        have CP := hi (fun W => clear_any h G P W)
        have CS := hi (fun W => rset_any h G P false W)
        rw [hh] at CP CS
        unfold lv lcs at CP CAL CH
        unfold rv bsA at CS CAL CRH
        rw [h1, h2] at CP
        rw [h3, h4] at CP CAL CH
        have HW2 := hi (And.intro h3 h4)
        clear h1 h2 h3 h4 hh hvv
        obtain ⟨nn1, nn2, nn3, nn4⟩ := HNE.out.2
        go_wp2_with (first
          | (go_at_call 15; ((with_reducible refine (CP.out _).mono ?_); rintro e w3 ⟨rfl, hb⟩; have H3 := hi (HX.out.later hb); have S3 := hi (H3.out.st3 HL8.out nn1 nn2 (.int .u32 (n1 : Int)) (.int .u32 (n2 : Int))); obtain ⟨t0, t1⟩ := H3.out.b0.two; have f3 := H3.out.b0.frozen; obtain ⟨x0, x1, x2⟩ := S3.out.tl.tl.b0.three; have R3 := hi (CB.rangeB (f := h) S3.out.tl.b0); clear hb))
          | (refine wpList_load_mid rfl 31 (.tmp 9) rfl w2.heap.size 0 rfl (bsL h) _ R3.out Try.underlying31 rfl HZ0.out ?_)
          | (go_at_call 14; ((with_reducible refine (CS.out _).mono ?_); rintro e w4 ⟨rfl, hb⟩; have H4 := hi (S3.out.later hb); have HT := hi (thereR H4.out h'); have HE := hi (H4.out.sr3 HNE.out.1 nn3 nn4 h'); clear hb))
          | (refine wpList_store_mid rfl 31 (.tmp 9) (.tmp 82) rfl w2.heap.size 0 (bsL h').toArray rfl rfl HT.out HSZ.out HONE.out ?_; dsimp only; obtain ⟨W5, hW5⟩ : ∃ W5, w4.setCells w2.heap.size 0 (bsL h') = W5 := ⟨_, rfl⟩; rw [hW5] at HE; rw [hW5]; clear hW5; obtain ⟨m0, m1⟩ := HE.out.b0.two; obtain ⟨y0, y1, y2⟩ := HE.out.tl.tl.b0.three))
        clear HX H3 S3 R3 H4 HT s0 s1 t0 t1 f3 x0 x1 x2 d0 d1 d2
        have HQ := HE.out.drew
        clear HE
        refine wp_region_noPanic ?_
        refine wp_region_held_drew (S := (fun w' => w'.cell? ⟨w1.heap.size, 0, none⟩ = some (.int .u32 (n1 : Int)) ∧ w'.cell? ⟨w1.heap.size, 1, none⟩ = some (.int .u32 (n2 : Int)) ∧ w'.rangeAt (w2.heap.size) 0 (bsL h') ∧ w'.cell? ⟨wr.heap.size, 1, none⟩ = some (.int .i64 G) ∧ w'.cell? ⟨wr.heap.size, 2, none⟩ = some (.int .i64 P) ∧ AtG w [(w1.heap.size, 27, #[.int .u32 (n1 : Int), .int .u32 (n2 : Int)]), (w2.heap.size, 31, (bsL h').toArray), (wr.heap.size, 35, #[.int .i64 2, .int .i64 G, .int .i64 P])] w')) (by kernel_rfl) ⟨HQ.b0.cell 0, HQ.b0.cell 1, CB.rangeB HQ.tl.b0, HQ.tl.tl.b0.cell 1, HQ.tl.tl.b0.cell 2, HQ⟩ (fun hHeld => ?_)
        (try simp only [Array.replicate_succ, Array.replicate_zero, List.push_toArray, List.nil_append, List.cons_append])
        refine wpAnyH_take (i := 0) (v := ?_) rfl (by kernel_rfl) (by kernel_rfl) (by kernel_rfl) (fun _ _ _ h => h) (Or.inl ⟨by rfl, ?_⟩) (by assumption) ?_
        rotate_left
        · intro w' hSw; (try dsimp only at hSw); obtain ⟨hs0, hs1, hs2, hs3, hs4, hs5⟩ := hSw; go_simp; (try with_reducible rfl)
        (try simp only [Act.put, List.getElem_toArray, List.getElem_cons_zero, List.setIfInBounds_toArray, List.set_cons_zero, List.set_cons_succ])
        refine wpAnyH_take (i := 1) (v := _) rfl (by kernel_rfl) (by kernel_rfl) (by kernel_rfl) (fun _ _ _ h => h) (yieldsIf_load_mid (by rfl) 31 (.tmp 9) rfl (w2.heap.size) 0 rfl (bsL h') _ (fun w' hh => hh.2.2.1) Try.underlying31 rfl HZ.out) (by assumption) ?_
        (try simp only [Act.put, List.getElem_toArray, List.getElem_cons_zero, List.getElem_cons_succ, List.setIfInBounds_toArray, List.set_cons_zero, List.set_cons_succ])
        refine wpAnyH_ready (rs := [2]) (by kernel_rfl) (by simp) ?_
        refine AllReadyH.cons rfl (fun KK hKK => ?_) AllReadyH.nil
        go_simp
        ((with_reducible refine (CAL.out _).mono ?_); rintro e' w9 ⟨rfl, hb⟩; have hq := HQ.later hb; clear HQ hb; have HQ := hq; clear hq)
        (try go_simp)
        refine hKK.out _ _ ⟨HQ.b0.cell 0, HQ.b0.cell 1, CB.rangeB HQ.tl.b0, HQ.tl.tl.b0.cell 1, HQ.tl.tl.b0.cell 2, HQ⟩ (fun hHeld => ?_)
        clear hKK KK
        (try simp only [Act.put, List.getElem_toArray, List.getElem_cons_zero, List.getElem_cons_succ, List.setIfInBounds_toArray, List.set_cons_zero, List.set_cons_succ])
        refine wpAnyH_take (i := 3) (v := ?_) rfl (by kernel_rfl) (by kernel_rfl) (by kernel_rfl) (fun _ _ _ h => h) (Or.inl ⟨by rfl, ?_⟩) (by assumption) ?_
        rotate_left
        · intro w' hSw; (try dsimp only at hSw); obtain ⟨hs0, hs1, hs2, hs3, hs4, hs5⟩ := hSw; go_simp; (try with_reducible rfl)
        (try simp only [Act.put, List.getElem_toArray, List.getElem_cons_zero, List.getElem_cons_succ, List.setIfInBounds_toArray, List.set_cons_zero, List.set_cons_succ])
        refine wpAnyH_take (i := 4) (v := ?_) rfl (by kernel_rfl) (by kernel_rfl) (by kernel_rfl) (fun _ _ _ h => h) (Or.inl ⟨by rfl, ?_⟩) (by assumption) ?_
        rotate_left
        · intro w' hSw; (try dsimp only at hSw); obtain ⟨hs0, hs1, hs2, hs3, hs4, hs5⟩ := hSw; go_simp; (try with_reducible rfl)
        (try simp only [Act.put, List.getElem_toArray, List.getElem_cons_zero, List.getElem_cons_succ, List.setIfInBounds_toArray, List.set_cons_zero, List.set_cons_succ])
        refine wpAnyH_take (i := 5) (v := ?_) rfl (by kernel_rfl) (by kernel_rfl) (by kernel_rfl) (fun _ _ _ h => h) (Or.inl ⟨by rfl, ?_⟩) (by assumption) ?_
        rotate_left
        · intro w' hSw; (try dsimp only at hSw); obtain ⟨hs0, hs1, hs2, hs3, hs4, hs5⟩ := hSw; go_simp; (try with_reducible rfl)
        (try simp only [Act.put, List.getElem_toArray, List.getElem_cons_zero, List.getElem_cons_succ, List.setIfInBounds_toArray, List.set_cons_zero, List.set_cons_succ])
        refine wpAnyH_take (i := 6) (v := ?_) rfl (by kernel_rfl) (by kernel_rfl) (by kernel_rfl) (fun _ _ _ h => h) (Or.inl ⟨by rfl, ?_⟩) (by assumption) ?_
        rotate_left
        · intro w' hSw; (try dsimp only at hSw); obtain ⟨hs0, hs1, hs2, hs3, hs4, hs5⟩ := hSw; go_simp; (try with_reducible rfl)
        (try simp only [Act.put, List.getElem_toArray, List.getElem_cons_zero, List.getElem_cons_succ, List.setIfInBounds_toArray, List.set_cons_zero, List.set_cons_succ])
        refine wpAnyH_take (i := 7) (v := ?_) rfl (by kernel_rfl) (by kernel_rfl) (by kernel_rfl) (fun _ _ _ h => h) (Or.inl ⟨by rfl, ?_⟩) (by assumption) ?_
        rotate_left
        · intro w' hSw; (try dsimp only at hSw); obtain ⟨hs0, hs1, hs2, hs3, hs4, hs5⟩ := hSw; go_simp; (try with_reducible rfl)
        (try simp only [Act.put, List.getElem_toArray, List.getElem_cons_zero, List.getElem_cons_succ, List.setIfInBounds_toArray, List.set_cons_zero, List.set_cons_succ])
        refine wpAnyH_take (i := 8) (v := ?_) rfl (by kernel_rfl) (by kernel_rfl) (by kernel_rfl) (fun _ _ _ h => h) (Or.inl ⟨by rfl, ?_⟩) (by assumption) ?_
        rotate_left
        · intro w' hSw; (try dsimp only at hSw); obtain ⟨hs0, hs1, hs2, hs3, hs4, hs5⟩ := hSw; go_simp; (try with_reducible rfl)
        (try simp only [Act.put, List.getElem_toArray, List.getElem_cons_zero, List.getElem_cons_succ, List.setIfInBounds_toArray, List.set_cons_zero, List.set_cons_succ])
        refine wpAnyH_take (i := 9) (v := ?_) rfl (by kernel_rfl) (by kernel_rfl) (by kernel_rfl) (fun _ _ _ h => h) (Or.inl ⟨by rfl, ?_⟩) (by assumption) ?_
        rotate_left
        · intro w' hSw; (try dsimp only at hSw); obtain ⟨hs0, hs1, hs2, hs3, hs4, hs5⟩ := hSw; go_simp; (try with_reducible rfl)
        (try simp only [Act.put, List.getElem_toArray, List.getElem_cons_zero, List.getElem_cons_succ, List.setIfInBounds_toArray, List.set_cons_zero, List.set_cons_succ])
        refine wpAnyH_take (i := 11) (v := _) rfl (by kernel_rfl) (by kernel_rfl) (by kernel_rfl) (fun _ _ _ h => h) (yieldsIf_load_mid (by rfl) 31 (.tmp 9) rfl (w2.heap.size) 0 rfl (bsL h') _ (fun w' hh => hh.2.2.1) Try.underlying31 rfl HZ.out) (by assumption) ?_
        (try simp only [Act.put, List.getElem_toArray, List.getElem_cons_zero, List.getElem_cons_succ, List.setIfInBounds_toArray, List.set_cons_zero, List.set_cons_succ])
        refine wpAnyH_take (i := 12) (v := ?_) rfl (by kernel_rfl) (by kernel_rfl) (by kernel_rfl) (fun _ _ _ h => h) (Or.inl ⟨by rfl, ?_⟩) (by assumption) ?_
        rotate_left
        · intro w' hSw; (try dsimp only at hSw); obtain ⟨hs0, hs1, hs2, hs3, hs4, hs5⟩ := hSw; go_simp; (try with_reducible rfl)
        (try simp only [Act.put, List.getElem_toArray, List.getElem_cons_zero, List.getElem_cons_succ, List.setIfInBounds_toArray, List.set_cons_zero, List.set_cons_succ])
        refine wpAnyH_take (i := 13) (v := ?_) rfl (by kernel_rfl) (by kernel_rfl) (by kernel_rfl) (fun _ _ _ h => h) (Or.inl ⟨by rfl, ?_⟩) (by assumption) ?_
        rotate_left
        · intro w' hSw; (try dsimp only at hSw); obtain ⟨hs0, hs1, hs2, hs3, hs4, hs5⟩ := hSw; go_simp; (try with_reducible rfl)
        (try simp only [Act.put, List.getElem_toArray, List.getElem_cons_zero, List.getElem_cons_succ, List.setIfInBounds_toArray, List.set_cons_zero, List.set_cons_succ])
        refine wpAnyH_take (i := 14) (v := ?_) rfl (by kernel_rfl) (by kernel_rfl) (by kernel_rfl) (fun _ _ _ h => h) (Or.inl ⟨by rfl, ?_⟩) (by assumption) ?_
        rotate_left
        · intro w' hSw; (try dsimp only at hSw); obtain ⟨hs0, hs1, hs2, hs3, hs4, hs5⟩ := hSw; go_simp; (try with_reducible rfl)
        (try simp only [Act.put, List.getElem_toArray, List.getElem_cons_zero, List.getElem_cons_succ, List.setIfInBounds_toArray, List.set_cons_zero, List.set_cons_succ])
        refine wpAnyH_take (i := 15) (v := ?_) rfl (by kernel_rfl) (by kernel_rfl) (by kernel_rfl) (fun _ _ _ h => h) (Or.inl ⟨by rfl, ?_⟩) (by assumption) ?_
        rotate_left
        · intro w' hSw; (try dsimp only at hSw); obtain ⟨hs0, hs1, hs2, hs3, hs4, hs5⟩ := hSw; go_simp; (try with_reducible rfl)
        (try simp only [Act.put, List.getElem_toArray, List.getElem_cons_zero, List.getElem_cons_succ, List.setIfInBounds_toArray, List.set_cons_zero, List.set_cons_succ])
        refine wpAnyH_ready (rs := [10]) (by kernel_rfl) (by simp) ?_
        refine AllReadyH.cons rfl (fun KK hKK => ?_) AllReadyH.nil
        go_simp
        ((with_reducible refine (CH.out _).mono ?_); rintro e' w9 ⟨rfl, hb⟩; have hq := HQ.later hb; clear HQ hb; have HQ := hq; clear hq)
        (try go_simp)
        refine hKK.out _ _ ⟨HQ.b0.cell 0, HQ.b0.cell 1, CB.rangeB HQ.tl.b0, HQ.tl.tl.b0.cell 1, HQ.tl.tl.b0.cell 2, HQ⟩ (fun hHeld => ?_)
        clear hKK KK
        (try simp only [Act.put, List.getElem_toArray, List.getElem_cons_zero, List.getElem_cons_succ, List.setIfInBounds_toArray, List.set_cons_zero, List.set_cons_succ])
        refine wpAnyH_ready (rs := [16]) (by kernel_rfl) (by simp) ?_
        refine AllReadyH.cons rfl (fun KK hKK => ?_) AllReadyH.nil
        go_simp
        ((with_reducible refine (CRH.out _).mono ?_); rintro e' w9 ⟨rfl, hb⟩; have hq := HQ.later hb; clear HQ hb; have HQ := hq; clear hq)
        (try go_simp)
        refine hKK.out _ _ ⟨HQ.b0.cell 0, HQ.b0.cell 1, CB.rangeB HQ.tl.b0, HQ.tl.tl.b0.cell 1, HQ.tl.tl.b0.cell 2, HQ⟩ (fun hHeld => ?_)
        clear hKK KK
        (try simp only [Act.put, List.getElem_toArray, List.getElem_cons_zero, List.getElem_cons_succ, List.setIfInBounds_toArray, List.set_cons_zero, List.set_cons_succ])
        refine wpAnyH_take (i := 17) (v := ?_) rfl (by kernel_rfl) (by kernel_rfl) (by kernel_rfl) (fun _ _ _ h => h) (Or.inl ⟨by rfl, ?_⟩) (by assumption) ?_
        rotate_left
        · intro w' hSw; (try dsimp only at hSw); obtain ⟨hs0, hs1, hs2, hs3, hs4, hs5⟩ := hSw; go_simp; (try with_reducible rfl)
        (try simp only [Act.put, List.getElem_toArray, List.getElem_cons_zero, List.getElem_cons_succ, List.setIfInBounds_toArray, List.set_cons_zero, List.set_cons_succ])
        refine wpAnyH_take (i := 18) (v := ?_) rfl (by kernel_rfl) (by kernel_rfl) (by kernel_rfl) (fun _ _ _ h => h) (Or.inl ⟨by rfl, ?_⟩) (by assumption) ?_
        rotate_left
        · intro w' hSw; (try dsimp only at hSw); obtain ⟨hs0, hs1, hs2, hs3, hs4, hs5⟩ := hSw; go_simp; (try with_reducible rfl)
        (try simp only [Act.put, List.getElem_toArray, List.getElem_cons_zero, List.getElem_cons_succ, List.setIfInBounds_toArray, List.set_cons_zero, List.set_cons_succ])
        refine wpAnyH_done (by kernel_rfl) ?_ _
        refine NoPanic.normal ?_
        have HR := hi (show AtG w [(w1.heap.size, 27, lcs h'), (w2.heap.size, 31, (bsL h').toArray)] w9 by unfold lcs; rw [HW2.out.1, HW2.out.2]; exact .of2 HQ.b0 HQ.tl.b0 HQ.below)
        clear HQ
        go_wp2
        go_roundw
        case rel => exact ⟨k + 1, h', by omega, by go_num, HR⟩
        case measure => simp [intOf]; omega
      · subst hD3
        obtain ⟨h', hh⟩ : ∃ h', dropR h = h' := ⟨_, rfl⟩
        have CAL := hi (fun W => alike_any h' W)
        have CH := hi (fun W => has_any h' G P W)
        have CRH := hi (fun W => rhas_any h' G P W)
        obtain ⟨vv, hvv⟩ : ∃ v, h' (plc G P) = v := ⟨_, rfl⟩
        rw [hvv] at CH CRH
        have hne : (vv != vv) = false := by simp
        have HZ := hi (size_ref h')
        have HZ0 := hi (size_ref h)
        have HONE := hi (oneR h')
        have HSZ := hi (sizeR h')
        obtain ⟨n1, h3⟩ : ∃ a, wd h' 0 = a := ⟨_, rfl⟩
        obtain ⟨n2, h4⟩ : ∃ a, wd h' 1 = a := ⟨_, rfl⟩
        have CD := hi (fun W => drop_any h W)
        have CRD := hi (fun W => rdrop_any h W)
        obtain ⟨bb, hbb⟩ : ∃ b, dropB h = b := ⟨_, rfl⟩
        rw [hh, hbb] at CD CRD
        have hbn : (bb != bb) = false := by simp
        unfold lv lcs at CD CAL CH
        unfold rv bsA at CRD CAL CRH
        rw [h1, h2] at CD
        rw [h3, h4] at CD CAL CH
        have HW2 := hi (And.intro h3 h4)
        clear h1 h2 h3 h4 hh hvv hbb
        obtain ⟨nn1, nn2, nn3, nn4⟩ := HNE.out.2
        go_wp2_with (first
          | (go_at_call 16; ((with_reducible refine (CD.out _).mono ?_); rintro e w3 ⟨rfl, hb⟩; have H3 := hi ((HX.out.later hb).new 27 #[.int .u32 (n1 : Int), .int .u32 (n2 : Int)]); have HM8 := hi (HX.out.later hb).b0.lt; have HM9 := hi (HX.out.later hb).tl.b0.lt; have HMX := hi (HX.out.later hb).tl.tl.b0.lt; have R3 := hi (CB.rangeB (f := h) H3.out.tl.tl.b0); clear hb))
          | (refine wpList_load_mid rfl 31 (.tmp 9) rfl w2.heap.size 0 rfl (bsL h) _ R3.out Try.underlying31 rfl HZ0.out ?_)
          | (go_at_call 17; ((with_reducible refine (CRD.out _).mono ?_); rintro e w4 ⟨rfl, hb⟩; have H4 := hi (H3.out.later hb); have HMS := hi H4.out.b0.lt; have hn4 := H4.out.new 31 (bsA f0); have HT := hi (show World.there _ w4.heap.size 0 (bsL h').toArray.size by rw [show (bsL h').toArray.size = 64 from bsA_size h']; exact CB.thereB hn4.b0 (bsA_size f0)); have H5 := hi (show AtG w [(w4.heap.size, 31, (bsL h').toArray), (w3.heap.size, 27, #[.int .u32 (n1 : Int), .int .u32 (n2 : Int)]), (w1.heap.size, 27, #[.int .u32 (l1 : Int), .int .u32 (l2 : Int)]), (w2.heap.size, 31, (bsL h).toArray), (wr.heap.size, 35, #[.int .i64 3, .int .i64 G, .int .i64 P])] ((w4.alloc (.cells (bsA f0) 31)).setCells w4.heap.size 0 (bsL h')) from five hn4 H4.out.below.size (fun e => by have := H4.out.b0.lt; omega) (fun e => by have := H4.out.tl.b0.lt; omega) (fun e => by have := H4.out.tl.tl.b0.lt; omega) (fun e => by have := H4.out.tl.tl.tl.b0.lt; omega) h'); clear hb hn4))
          | (refine wpList_alloc_ref rfl rfl ?_)
          | (refine wpList_store_mid rfl 31 (.tmp 14) (.tmp 93) rfl w4.heap.size 0 (bsL h').toArray rfl rfl HT.out HSZ.out HONE.out ?_; dsimp only; obtain ⟨W5, hW5⟩ : ∃ W5, (w4.alloc (.cells (bsA f0) 31)).setCells w4.heap.size 0 (bsL h') = W5 := ⟨_, rfl⟩; rw [hW5] at H5; rw [hW5]; clear hW5; obtain ⟨m0, m1⟩ := H5.out.tl.b0.two))
        have HD := H5.out.drew
        have hm8 := HM8.out
        have hm9 := HM9.out
        have hmx := HMX.out
        have hms := HMS.out
        have hl9 := HNE.out.1
        have hw9 := HLT.out
        clear H3 H4 H5 HX HT R3 s0 s1 d0 d1 d2 CD CRD
        refine wp_region_noPanic ?_
        refine wp_region_held_drew (S := (fun w' => w'.cell? ⟨w3.heap.size, 0, none⟩ = some (.int .u32 (n1 : Int)) ∧ w'.cell? ⟨w3.heap.size, 1, none⟩ = some (.int .u32 (n2 : Int)) ∧ w'.rangeAt w4.heap.size 0 (bsL h') ∧ AtG w [(w4.heap.size, 31, (bsL h').toArray), (w3.heap.size, 27, #[.int .u32 (n1 : Int), .int .u32 (n2 : Int)])] w')) (by kernel_rfl) ⟨HD.tl.b0.cell 0, HD.tl.b0.cell 1, CB.rangeB (f := h') HD.b0, .of2 HD.b0 HD.tl.b0 HD.below⟩ (fun hHeld => ?_)
        (try simp only [Array.replicate_succ, Array.replicate_zero, List.push_toArray, List.nil_append, List.cons_append])
        refine wpAnyH_take (i := 0) (v := ?_) rfl (by kernel_rfl) (by kernel_rfl) (by kernel_rfl) (fun _ _ _ h => h) (Or.inl ⟨by rfl, ?_⟩) (by assumption) ?_
        rotate_left
        · intro w' hSw; (try dsimp only at hSw); obtain ⟨hs0, hs1, hs2, hs3⟩ := hSw; go_simp; (try with_reducible rfl)
        (try simp only [Act.put, List.getElem_toArray, List.getElem_cons_zero, List.setIfInBounds_toArray, List.set_cons_zero, List.set_cons_succ])
        refine wpAnyH_take (i := 1) (v := _) rfl (by kernel_rfl) (by kernel_rfl) (by kernel_rfl) (fun _ _ _ h => h) (yieldsIf_load_mid (by rfl) 31 (.tmp 14) rfl w4.heap.size 0 rfl (bsL h') _ (fun w' hh => hh.2.2.1) Try.underlying31 rfl HZ.out) (by assumption) ?_
        (try simp only [Act.put, List.getElem_toArray, List.getElem_cons_zero, List.getElem_cons_succ, List.setIfInBounds_toArray, List.set_cons_zero, List.set_cons_succ])
        obtain ⟨Wd, hWd⟩ : ∃ Wd, W5.drew = Wd := ⟨_, rfl⟩
        rw [hWd] at HD ⊢
        clear hWd
        have f8 := HD.tl.tl.b0.frozen
        obtain ⟨e0, e1⟩ := HD.tl.tl.b0.two
        have s5 := st5 HD (by have := HL8.out; omega) (by omega) (by omega) nn1 nn2 (.int .u32 (n1 : Int)) (.int .u32 (n2 : Int))
        refine wpAnyH_ready (rs := [2]) (by kernel_rfl) (by simp) ?_
        refine AllReadyH.cons rfl (fun KK hKK => ?_) AllReadyH.nil
        go_simp
        refine hKK.out _ _ ⟨s5.tl.b0.cell 0, s5.tl.b0.cell 1, CB.rangeB (f := h') s5.b0, .of2 s5.b0 s5.tl.b0 s5.below⟩ (fun hHeld => ?_)
        clear hKK KK
        (try simp only [Act.put, List.getElem_toArray, List.getElem_cons_zero, List.getElem_cons_succ, List.setIfInBounds_toArray, List.set_cons_zero, List.set_cons_succ])
        have HT5 : World.there ((Wd.setCell ⟨w1.heap.size, 0, none⟩ (.int .u32 (n1 : Int))).setCell ⟨w1.heap.size, 1, none⟩ (.int .u32 (n2 : Int))) w2.heap.size 0 (bsL h').toArray.size := by rw [show (bsL h').toArray.size = 64 from bsA_size h']; exact CB.thereB s5.tl.tl.tl.b0 (bsA_size h)
        have s6 := sr5 s5 hl9 (by omega) (by omega) nn3 nn4 h'
        refine wpAnyH_ready (rs := [3]) (by kernel_rfl) (by simp) ?_
        refine AllReadyH.cons rfl (fun KK hKK => ?_) AllReadyH.nil
        rw [if_pos (by rfl)]
        refine wp_store_mid 31 (.tmp 9) (.tmp 99) rfl w2.heap.size 0 (bsL h').toArray rfl rfl HT5 HSZ.out HONE.out ?_
        dsimp only
        refine hKK.out _ _ ⟨s6.tl.b0.cell 0, s6.tl.b0.cell 1, CB.rangeB (f := h') s6.b0, .of2 s6.b0 s6.tl.b0 s6.below⟩ (fun hHeld => ?_)
        clear hKK KK
        (try simp only [Act.put, List.getElem_toArray, List.getElem_cons_zero, List.getElem_cons_succ])
        refine wpAnyH_done (by kernel_rfl) ?_ _
        refine NoPanic.normal ?_
        have HE := hi (show AtG w [(w1.heap.size, 27, #[.int .u32 (n1 : Int), .int .u32 (n2 : Int)]), (w2.heap.size, 31, (bsL h').toArray), (wr.heap.size, 35, #[.int .i64 3, .int .i64 G, .int .i64 P])] (World.setCells ((Wd.setCell ⟨w1.heap.size, 0, none⟩ (.int .u32 (n1 : Int))).setCell ⟨w1.heap.size, 1, none⟩ (.int .u32 (n2 : Int))) w2.heap.size 0 (bsL h')) from .of3 s6.tl.tl.b0 s6.tl.tl.tl.b0 s6.tl.tl.tl.tl.b0 s6.below)
        clear s5 s6 HT5 f8 e0 e1 HD hm8 hm9 hmx hms hl9 hw9 m0 m1
        obtain ⟨W6, hW6⟩ : ∃ W6, World.setCells ((Wd.setCell ⟨w1.heap.size, 0, none⟩ (.int .u32 (n1 : Int))).setCell ⟨w1.heap.size, 1, none⟩ (.int .u32 (n2 : Int))) w2.heap.size 0 (bsL h') = W6 := ⟨_, rfl⟩
        rw [hW6] at HE ⊢
        clear hW6
        obtain ⟨m0, m1⟩ := HE.out.b0.two
        obtain ⟨y0, y1, y2⟩ := HE.out.tl.tl.b0.three
        go_wp2
        have HQ := HE.out.drew
        clear HE
        refine wp_region_noPanic ?_
        refine wp_region_held_drew (S := (fun w' => w'.cell? ⟨w1.heap.size, 0, none⟩ = some (.int .u32 (n1 : Int)) ∧ w'.cell? ⟨w1.heap.size, 1, none⟩ = some (.int .u32 (n2 : Int)) ∧ w'.rangeAt (w2.heap.size) 0 (bsL h') ∧ w'.cell? ⟨wr.heap.size, 1, none⟩ = some (.int .i64 G) ∧ w'.cell? ⟨wr.heap.size, 2, none⟩ = some (.int .i64 P) ∧ AtG w [(w1.heap.size, 27, #[.int .u32 (n1 : Int), .int .u32 (n2 : Int)]), (w2.heap.size, 31, (bsL h').toArray), (wr.heap.size, 35, #[.int .i64 3, .int .i64 G, .int .i64 P])] w')) (by kernel_rfl) ⟨HQ.b0.cell 0, HQ.b0.cell 1, CB.rangeB HQ.tl.b0, HQ.tl.tl.b0.cell 1, HQ.tl.tl.b0.cell 2, HQ⟩ (fun hHeld => ?_)
        (try simp only [Array.replicate_succ, Array.replicate_zero, List.push_toArray, List.nil_append, List.cons_append])
        refine wpAnyH_take (i := 0) (v := ?_) rfl (by kernel_rfl) (by kernel_rfl) (by kernel_rfl) (fun _ _ _ h => h) (Or.inl ⟨by rfl, ?_⟩) (by assumption) ?_
        rotate_left
        · intro w' hSw; (try dsimp only at hSw); obtain ⟨hs0, hs1, hs2, hs3, hs4, hs5⟩ := hSw; go_simp; (try with_reducible rfl)
        (try simp only [Act.put, List.getElem_toArray, List.getElem_cons_zero, List.setIfInBounds_toArray, List.set_cons_zero, List.set_cons_succ])
        refine wpAnyH_take (i := 1) (v := _) rfl (by kernel_rfl) (by kernel_rfl) (by kernel_rfl) (fun _ _ _ h => h) (yieldsIf_load_mid (by rfl) 31 (.tmp 9) rfl (w2.heap.size) 0 rfl (bsL h') _ (fun w' hh => hh.2.2.1) Try.underlying31 rfl HZ.out) (by assumption) ?_
        (try simp only [Act.put, List.getElem_toArray, List.getElem_cons_zero, List.getElem_cons_succ, List.setIfInBounds_toArray, List.set_cons_zero, List.set_cons_succ])
        refine wpAnyH_ready (rs := [2]) (by kernel_rfl) (by simp) ?_
        refine AllReadyH.cons rfl (fun KK hKK => ?_) AllReadyH.nil
        go_simp
        ((with_reducible refine (CAL.out _).mono ?_); rintro e' w9 ⟨rfl, hb⟩; have hq := HQ.later hb; clear HQ hb; have HQ := hq; clear hq)
        (try go_simp)
        refine hKK.out _ _ ⟨HQ.b0.cell 0, HQ.b0.cell 1, CB.rangeB HQ.tl.b0, HQ.tl.tl.b0.cell 1, HQ.tl.tl.b0.cell 2, HQ⟩ (fun hHeld => ?_)
        clear hKK KK
        (try simp only [Act.put, List.getElem_toArray, List.getElem_cons_zero, List.getElem_cons_succ, List.setIfInBounds_toArray, List.set_cons_zero, List.set_cons_succ])
        refine wpAnyH_take (i := 3) (v := ?_) rfl (by kernel_rfl) (by kernel_rfl) (by kernel_rfl) (fun _ _ _ h => h) (Or.inl ⟨by rfl, ?_⟩) (by assumption) ?_
        rotate_left
        · intro w' hSw; (try dsimp only at hSw); obtain ⟨hs0, hs1, hs2, hs3, hs4, hs5⟩ := hSw; go_simp; (try with_reducible rfl)
        (try simp only [Act.put, List.getElem_toArray, List.getElem_cons_zero, List.getElem_cons_succ, List.setIfInBounds_toArray, List.set_cons_zero, List.set_cons_succ])
        refine wpAnyH_take (i := 4) (v := ?_) rfl (by kernel_rfl) (by kernel_rfl) (by kernel_rfl) (fun _ _ _ h => h) (Or.inl ⟨by rfl, ?_⟩) (by assumption) ?_
        rotate_left
        · intro w' hSw; (try dsimp only at hSw); obtain ⟨hs0, hs1, hs2, hs3, hs4, hs5⟩ := hSw; go_simp; (try with_reducible rfl)
        (try simp only [Act.put, List.getElem_toArray, List.getElem_cons_zero, List.getElem_cons_succ, List.setIfInBounds_toArray, List.set_cons_zero, List.set_cons_succ])
        refine wpAnyH_take (i := 5) (v := ?_) rfl (by kernel_rfl) (by kernel_rfl) (by kernel_rfl) (fun _ _ _ h => h) (Or.inl ⟨by rfl, ?_⟩) (by assumption) ?_
        rotate_left
        · intro w' hSw; (try dsimp only at hSw); obtain ⟨hs0, hs1, hs2, hs3, hs4, hs5⟩ := hSw; go_simp; (try with_reducible rfl)
        (try simp only [Act.put, List.getElem_toArray, List.getElem_cons_zero, List.getElem_cons_succ, List.setIfInBounds_toArray, List.set_cons_zero, List.set_cons_succ])
        refine wpAnyH_take (i := 6) (v := ?_) rfl (by kernel_rfl) (by kernel_rfl) (by kernel_rfl) (fun _ _ _ h => h) (Or.inl ⟨by rfl, ?_⟩) (by assumption) ?_
        rotate_left
        · intro w' hSw; (try dsimp only at hSw); obtain ⟨hs0, hs1, hs2, hs3, hs4, hs5⟩ := hSw; go_simp; (try with_reducible rfl)
        (try simp only [Act.put, List.getElem_toArray, List.getElem_cons_zero, List.getElem_cons_succ, List.setIfInBounds_toArray, List.set_cons_zero, List.set_cons_succ])
        refine wpAnyH_take (i := 7) (v := ?_) rfl (by kernel_rfl) (by kernel_rfl) (by kernel_rfl) (fun _ _ _ h => h) (Or.inl ⟨by rfl, ?_⟩) (by assumption) ?_
        rotate_left
        · intro w' hSw; (try dsimp only at hSw); obtain ⟨hs0, hs1, hs2, hs3, hs4, hs5⟩ := hSw; go_simp; (try with_reducible rfl)
        (try simp only [Act.put, List.getElem_toArray, List.getElem_cons_zero, List.getElem_cons_succ, List.setIfInBounds_toArray, List.set_cons_zero, List.set_cons_succ])
        refine wpAnyH_take (i := 8) (v := ?_) rfl (by kernel_rfl) (by kernel_rfl) (by kernel_rfl) (fun _ _ _ h => h) (Or.inl ⟨by rfl, ?_⟩) (by assumption) ?_
        rotate_left
        · intro w' hSw; (try dsimp only at hSw); obtain ⟨hs0, hs1, hs2, hs3, hs4, hs5⟩ := hSw; go_simp; (try with_reducible rfl)
        (try simp only [Act.put, List.getElem_toArray, List.getElem_cons_zero, List.getElem_cons_succ, List.setIfInBounds_toArray, List.set_cons_zero, List.set_cons_succ])
        refine wpAnyH_take (i := 9) (v := ?_) rfl (by kernel_rfl) (by kernel_rfl) (by kernel_rfl) (fun _ _ _ h => h) (Or.inl ⟨by rfl, ?_⟩) (by assumption) ?_
        rotate_left
        · intro w' hSw; (try dsimp only at hSw); obtain ⟨hs0, hs1, hs2, hs3, hs4, hs5⟩ := hSw; go_simp; (try with_reducible rfl)
        (try simp only [Act.put, List.getElem_toArray, List.getElem_cons_zero, List.getElem_cons_succ, List.setIfInBounds_toArray, List.set_cons_zero, List.set_cons_succ])
        refine wpAnyH_take (i := 11) (v := _) rfl (by kernel_rfl) (by kernel_rfl) (by kernel_rfl) (fun _ _ _ h => h) (yieldsIf_load_mid (by rfl) 31 (.tmp 9) rfl (w2.heap.size) 0 rfl (bsL h') _ (fun w' hh => hh.2.2.1) Try.underlying31 rfl HZ.out) (by assumption) ?_
        (try simp only [Act.put, List.getElem_toArray, List.getElem_cons_zero, List.getElem_cons_succ, List.setIfInBounds_toArray, List.set_cons_zero, List.set_cons_succ])
        refine wpAnyH_take (i := 12) (v := ?_) rfl (by kernel_rfl) (by kernel_rfl) (by kernel_rfl) (fun _ _ _ h => h) (Or.inl ⟨by rfl, ?_⟩) (by assumption) ?_
        rotate_left
        · intro w' hSw; (try dsimp only at hSw); obtain ⟨hs0, hs1, hs2, hs3, hs4, hs5⟩ := hSw; go_simp; (try with_reducible rfl)
        (try simp only [Act.put, List.getElem_toArray, List.getElem_cons_zero, List.getElem_cons_succ, List.setIfInBounds_toArray, List.set_cons_zero, List.set_cons_succ])
        refine wpAnyH_take (i := 13) (v := ?_) rfl (by kernel_rfl) (by kernel_rfl) (by kernel_rfl) (fun _ _ _ h => h) (Or.inl ⟨by rfl, ?_⟩) (by assumption) ?_
        rotate_left
        · intro w' hSw; (try dsimp only at hSw); obtain ⟨hs0, hs1, hs2, hs3, hs4, hs5⟩ := hSw; go_simp; (try with_reducible rfl)
        (try simp only [Act.put, List.getElem_toArray, List.getElem_cons_zero, List.getElem_cons_succ, List.setIfInBounds_toArray, List.set_cons_zero, List.set_cons_succ])
        refine wpAnyH_take (i := 14) (v := ?_) rfl (by kernel_rfl) (by kernel_rfl) (by kernel_rfl) (fun _ _ _ h => h) (Or.inl ⟨by rfl, ?_⟩) (by assumption) ?_
        rotate_left
        · intro w' hSw; (try dsimp only at hSw); obtain ⟨hs0, hs1, hs2, hs3, hs4, hs5⟩ := hSw; go_simp; (try with_reducible rfl)
        (try simp only [Act.put, List.getElem_toArray, List.getElem_cons_zero, List.getElem_cons_succ, List.setIfInBounds_toArray, List.set_cons_zero, List.set_cons_succ])
        refine wpAnyH_take (i := 15) (v := ?_) rfl (by kernel_rfl) (by kernel_rfl) (by kernel_rfl) (fun _ _ _ h => h) (Or.inl ⟨by rfl, ?_⟩) (by assumption) ?_
        rotate_left
        · intro w' hSw; (try dsimp only at hSw); obtain ⟨hs0, hs1, hs2, hs3, hs4, hs5⟩ := hSw; go_simp; (try with_reducible rfl)
        (try simp only [Act.put, List.getElem_toArray, List.getElem_cons_zero, List.getElem_cons_succ, List.setIfInBounds_toArray, List.set_cons_zero, List.set_cons_succ])
        refine wpAnyH_ready (rs := [10]) (by kernel_rfl) (by simp) ?_
        refine AllReadyH.cons rfl (fun KK hKK => ?_) AllReadyH.nil
        go_simp
        ((with_reducible refine (CH.out _).mono ?_); rintro e' w9 ⟨rfl, hb⟩; have hq := HQ.later hb; clear HQ hb; have HQ := hq; clear hq)
        (try go_simp)
        refine hKK.out _ _ ⟨HQ.b0.cell 0, HQ.b0.cell 1, CB.rangeB HQ.tl.b0, HQ.tl.tl.b0.cell 1, HQ.tl.tl.b0.cell 2, HQ⟩ (fun hHeld => ?_)
        clear hKK KK
        (try simp only [Act.put, List.getElem_toArray, List.getElem_cons_zero, List.getElem_cons_succ, List.setIfInBounds_toArray, List.set_cons_zero, List.set_cons_succ])
        refine wpAnyH_ready (rs := [16]) (by kernel_rfl) (by simp) ?_
        refine AllReadyH.cons rfl (fun KK hKK => ?_) AllReadyH.nil
        go_simp
        ((with_reducible refine (CRH.out _).mono ?_); rintro e' w9 ⟨rfl, hb⟩; have hq := HQ.later hb; clear HQ hb; have HQ := hq; clear hq)
        (try go_simp)
        refine hKK.out _ _ ⟨HQ.b0.cell 0, HQ.b0.cell 1, CB.rangeB HQ.tl.b0, HQ.tl.tl.b0.cell 1, HQ.tl.tl.b0.cell 2, HQ⟩ (fun hHeld => ?_)
        clear hKK KK
        (try simp only [Act.put, List.getElem_toArray, List.getElem_cons_zero, List.getElem_cons_succ, List.setIfInBounds_toArray, List.set_cons_zero, List.set_cons_succ])
        refine wpAnyH_take (i := 17) (v := ?_) rfl (by kernel_rfl) (by kernel_rfl) (by kernel_rfl) (fun _ _ _ h => h) (Or.inl ⟨by rfl, ?_⟩) (by assumption) ?_
        rotate_left
        · intro w' hSw; (try dsimp only at hSw); obtain ⟨hs0, hs1, hs2, hs3, hs4, hs5⟩ := hSw; go_simp; (try with_reducible rfl)
        (try simp only [Act.put, List.getElem_toArray, List.getElem_cons_zero, List.getElem_cons_succ, List.setIfInBounds_toArray, List.set_cons_zero, List.set_cons_succ])
        refine wpAnyH_take (i := 18) (v := ?_) rfl (by kernel_rfl) (by kernel_rfl) (by kernel_rfl) (fun _ _ _ h => h) (Or.inl ⟨by rfl, ?_⟩) (by assumption) ?_
        rotate_left
        · intro w' hSw; (try dsimp only at hSw); obtain ⟨hs0, hs1, hs2, hs3, hs4, hs5⟩ := hSw; go_simp; (try with_reducible rfl)
        (try simp only [Act.put, List.getElem_toArray, List.getElem_cons_zero, List.getElem_cons_succ, List.setIfInBounds_toArray, List.set_cons_zero, List.set_cons_succ])
        refine wpAnyH_done (by kernel_rfl) ?_ _
        refine NoPanic.normal ?_
        have HR := hi (show AtG w [(w1.heap.size, 27, lcs h'), (w2.heap.size, 31, (bsL h').toArray)] w9 by unfold lcs; rw [HW2.out.1, HW2.out.2]; exact .of2 HQ.b0 HQ.tl.b0 HQ.below)
        clear HQ
        go_wp2
        go_roundw
        case rel => exact ⟨k + 1, h', by omega, by go_num, HR⟩
        case measure => simp [intOf]; omega
      · have q1 : (D == 1) = false := by simp; omega
        have q2 : (D == 2) = false := by simp; omega
        have q3 : (D == 3) = false := by simp; omega
        obtain ⟨h', hh⟩ : ∃ h', h = h' := ⟨_, rfl⟩
        have CAL := hi (fun W => alike_any h' W)
        have CH := hi (fun W => has_any h' G P W)
        have CRH := hi (fun W => rhas_any h' G P W)
        obtain ⟨vv, hvv⟩ : ∃ v, h' (plc G P) = v := ⟨_, rfl⟩
        rw [hvv] at CH CRH
        have hne : (vv != vv) = false := by simp
        have HZ := hi (size_ref h')
        have HZ0 := hi (size_ref h)
        have HONE := hi (oneR h')
        have HSZ := hi (sizeR h')
        obtain ⟨n1, h3⟩ : ∃ a, wd h' 0 = a := ⟨_, rfl⟩
        obtain ⟨n2, h4⟩ : ∃ a, wd h' 1 = a := ⟨_, rfl⟩
        subst hh
        have e1 := h1.symm.trans h3
        have e2 := h2.symm.trans h4
        subst e1 e2
        unfold lv lcs at CAL CH
        unfold rv bsA at CAL CRH
        rw [h3, h4] at CAL CH
        have HW2 := hi (And.intro h3 h4)
        clear h3 h4 hvv
        go_wp2
        have HE := HX
        clear HX d0 d1 d2
        have HQ := HE.out.drew
        clear HE
        refine wp_region_noPanic ?_
        refine wp_region_held_drew (S := (fun w' => w'.cell? ⟨w1.heap.size, 0, none⟩ = some (.int .u32 (l1 : Int)) ∧ w'.cell? ⟨w1.heap.size, 1, none⟩ = some (.int .u32 (l2 : Int)) ∧ w'.rangeAt (w2.heap.size) 0 (bsL h) ∧ w'.cell? ⟨wr.heap.size, 1, none⟩ = some (.int .i64 G) ∧ w'.cell? ⟨wr.heap.size, 2, none⟩ = some (.int .i64 P) ∧ AtG w [(w1.heap.size, 27, #[.int .u32 (l1 : Int), .int .u32 (l2 : Int)]), (w2.heap.size, 31, (bsL h).toArray), (wr.heap.size, 35, #[.int .i64 D, .int .i64 G, .int .i64 P])] w')) (by kernel_rfl) ⟨HQ.b0.cell 0, HQ.b0.cell 1, CB.rangeB HQ.tl.b0, HQ.tl.tl.b0.cell 1, HQ.tl.tl.b0.cell 2, HQ⟩ (fun hHeld => ?_)
        (try simp only [Array.replicate_succ, Array.replicate_zero, List.push_toArray, List.nil_append, List.cons_append])
        refine wpAnyH_take (i := 0) (v := ?_) rfl (by kernel_rfl) (by kernel_rfl) (by kernel_rfl) (fun _ _ _ h => h) (Or.inl ⟨by rfl, ?_⟩) (by assumption) ?_
        rotate_left
        · intro w' hSw; (try dsimp only at hSw); obtain ⟨hs0, hs1, hs2, hs3, hs4, hs5⟩ := hSw; go_simp; (try with_reducible rfl)
        (try simp only [Act.put, List.getElem_toArray, List.getElem_cons_zero, List.setIfInBounds_toArray, List.set_cons_zero, List.set_cons_succ])
        refine wpAnyH_take (i := 1) (v := _) rfl (by kernel_rfl) (by kernel_rfl) (by kernel_rfl) (fun _ _ _ h => h) (yieldsIf_load_mid (by rfl) 31 (.tmp 9) rfl (w2.heap.size) 0 rfl (bsL h) _ (fun w' hh => hh.2.2.1) Try.underlying31 rfl HZ.out) (by assumption) ?_
        (try simp only [Act.put, List.getElem_toArray, List.getElem_cons_zero, List.getElem_cons_succ, List.setIfInBounds_toArray, List.set_cons_zero, List.set_cons_succ])
        refine wpAnyH_ready (rs := [2]) (by kernel_rfl) (by simp) ?_
        refine AllReadyH.cons rfl (fun KK hKK => ?_) AllReadyH.nil
        go_simp
        ((with_reducible refine (CAL.out _).mono ?_); rintro e' w9 ⟨rfl, hb⟩; have hq := HQ.later hb; clear HQ hb; have HQ := hq; clear hq)
        (try go_simp)
        refine hKK.out _ _ ⟨HQ.b0.cell 0, HQ.b0.cell 1, CB.rangeB HQ.tl.b0, HQ.tl.tl.b0.cell 1, HQ.tl.tl.b0.cell 2, HQ⟩ (fun hHeld => ?_)
        clear hKK KK
        (try simp only [Act.put, List.getElem_toArray, List.getElem_cons_zero, List.getElem_cons_succ, List.setIfInBounds_toArray, List.set_cons_zero, List.set_cons_succ])
        refine wpAnyH_take (i := 3) (v := ?_) rfl (by kernel_rfl) (by kernel_rfl) (by kernel_rfl) (fun _ _ _ h => h) (Or.inl ⟨by rfl, ?_⟩) (by assumption) ?_
        rotate_left
        · intro w' hSw; (try dsimp only at hSw); obtain ⟨hs0, hs1, hs2, hs3, hs4, hs5⟩ := hSw; go_simp; (try with_reducible rfl)
        (try simp only [Act.put, List.getElem_toArray, List.getElem_cons_zero, List.getElem_cons_succ, List.setIfInBounds_toArray, List.set_cons_zero, List.set_cons_succ])
        refine wpAnyH_take (i := 4) (v := ?_) rfl (by kernel_rfl) (by kernel_rfl) (by kernel_rfl) (fun _ _ _ h => h) (Or.inl ⟨by rfl, ?_⟩) (by assumption) ?_
        rotate_left
        · intro w' hSw; (try dsimp only at hSw); obtain ⟨hs0, hs1, hs2, hs3, hs4, hs5⟩ := hSw; go_simp; (try with_reducible rfl)
        (try simp only [Act.put, List.getElem_toArray, List.getElem_cons_zero, List.getElem_cons_succ, List.setIfInBounds_toArray, List.set_cons_zero, List.set_cons_succ])
        refine wpAnyH_take (i := 5) (v := ?_) rfl (by kernel_rfl) (by kernel_rfl) (by kernel_rfl) (fun _ _ _ h => h) (Or.inl ⟨by rfl, ?_⟩) (by assumption) ?_
        rotate_left
        · intro w' hSw; (try dsimp only at hSw); obtain ⟨hs0, hs1, hs2, hs3, hs4, hs5⟩ := hSw; go_simp; (try with_reducible rfl)
        (try simp only [Act.put, List.getElem_toArray, List.getElem_cons_zero, List.getElem_cons_succ, List.setIfInBounds_toArray, List.set_cons_zero, List.set_cons_succ])
        refine wpAnyH_take (i := 6) (v := ?_) rfl (by kernel_rfl) (by kernel_rfl) (by kernel_rfl) (fun _ _ _ h => h) (Or.inl ⟨by rfl, ?_⟩) (by assumption) ?_
        rotate_left
        · intro w' hSw; (try dsimp only at hSw); obtain ⟨hs0, hs1, hs2, hs3, hs4, hs5⟩ := hSw; go_simp; (try with_reducible rfl)
        (try simp only [Act.put, List.getElem_toArray, List.getElem_cons_zero, List.getElem_cons_succ, List.setIfInBounds_toArray, List.set_cons_zero, List.set_cons_succ])
        refine wpAnyH_take (i := 7) (v := ?_) rfl (by kernel_rfl) (by kernel_rfl) (by kernel_rfl) (fun _ _ _ h => h) (Or.inl ⟨by rfl, ?_⟩) (by assumption) ?_
        rotate_left
        · intro w' hSw; (try dsimp only at hSw); obtain ⟨hs0, hs1, hs2, hs3, hs4, hs5⟩ := hSw; go_simp; (try with_reducible rfl)
        (try simp only [Act.put, List.getElem_toArray, List.getElem_cons_zero, List.getElem_cons_succ, List.setIfInBounds_toArray, List.set_cons_zero, List.set_cons_succ])
        refine wpAnyH_take (i := 8) (v := ?_) rfl (by kernel_rfl) (by kernel_rfl) (by kernel_rfl) (fun _ _ _ h => h) (Or.inl ⟨by rfl, ?_⟩) (by assumption) ?_
        rotate_left
        · intro w' hSw; (try dsimp only at hSw); obtain ⟨hs0, hs1, hs2, hs3, hs4, hs5⟩ := hSw; go_simp; (try with_reducible rfl)
        (try simp only [Act.put, List.getElem_toArray, List.getElem_cons_zero, List.getElem_cons_succ, List.setIfInBounds_toArray, List.set_cons_zero, List.set_cons_succ])
        refine wpAnyH_take (i := 9) (v := ?_) rfl (by kernel_rfl) (by kernel_rfl) (by kernel_rfl) (fun _ _ _ h => h) (Or.inl ⟨by rfl, ?_⟩) (by assumption) ?_
        rotate_left
        · intro w' hSw; (try dsimp only at hSw); obtain ⟨hs0, hs1, hs2, hs3, hs4, hs5⟩ := hSw; go_simp; (try with_reducible rfl)
        (try simp only [Act.put, List.getElem_toArray, List.getElem_cons_zero, List.getElem_cons_succ, List.setIfInBounds_toArray, List.set_cons_zero, List.set_cons_succ])
        refine wpAnyH_take (i := 11) (v := _) rfl (by kernel_rfl) (by kernel_rfl) (by kernel_rfl) (fun _ _ _ h => h) (yieldsIf_load_mid (by rfl) 31 (.tmp 9) rfl (w2.heap.size) 0 rfl (bsL h) _ (fun w' hh => hh.2.2.1) Try.underlying31 rfl HZ.out) (by assumption) ?_
        (try simp only [Act.put, List.getElem_toArray, List.getElem_cons_zero, List.getElem_cons_succ, List.setIfInBounds_toArray, List.set_cons_zero, List.set_cons_succ])
        refine wpAnyH_take (i := 12) (v := ?_) rfl (by kernel_rfl) (by kernel_rfl) (by kernel_rfl) (fun _ _ _ h => h) (Or.inl ⟨by rfl, ?_⟩) (by assumption) ?_
        rotate_left
        · intro w' hSw; (try dsimp only at hSw); obtain ⟨hs0, hs1, hs2, hs3, hs4, hs5⟩ := hSw; go_simp; (try with_reducible rfl)
        (try simp only [Act.put, List.getElem_toArray, List.getElem_cons_zero, List.getElem_cons_succ, List.setIfInBounds_toArray, List.set_cons_zero, List.set_cons_succ])
        refine wpAnyH_take (i := 13) (v := ?_) rfl (by kernel_rfl) (by kernel_rfl) (by kernel_rfl) (fun _ _ _ h => h) (Or.inl ⟨by rfl, ?_⟩) (by assumption) ?_
        rotate_left
        · intro w' hSw; (try dsimp only at hSw); obtain ⟨hs0, hs1, hs2, hs3, hs4, hs5⟩ := hSw; go_simp; (try with_reducible rfl)
        (try simp only [Act.put, List.getElem_toArray, List.getElem_cons_zero, List.getElem_cons_succ, List.setIfInBounds_toArray, List.set_cons_zero, List.set_cons_succ])
        refine wpAnyH_take (i := 14) (v := ?_) rfl (by kernel_rfl) (by kernel_rfl) (by kernel_rfl) (fun _ _ _ h => h) (Or.inl ⟨by rfl, ?_⟩) (by assumption) ?_
        rotate_left
        · intro w' hSw; (try dsimp only at hSw); obtain ⟨hs0, hs1, hs2, hs3, hs4, hs5⟩ := hSw; go_simp; (try with_reducible rfl)
        (try simp only [Act.put, List.getElem_toArray, List.getElem_cons_zero, List.getElem_cons_succ, List.setIfInBounds_toArray, List.set_cons_zero, List.set_cons_succ])
        refine wpAnyH_take (i := 15) (v := ?_) rfl (by kernel_rfl) (by kernel_rfl) (by kernel_rfl) (fun _ _ _ h => h) (Or.inl ⟨by rfl, ?_⟩) (by assumption) ?_
        rotate_left
        · intro w' hSw; (try dsimp only at hSw); obtain ⟨hs0, hs1, hs2, hs3, hs4, hs5⟩ := hSw; go_simp; (try with_reducible rfl)
        (try simp only [Act.put, List.getElem_toArray, List.getElem_cons_zero, List.getElem_cons_succ, List.setIfInBounds_toArray, List.set_cons_zero, List.set_cons_succ])
        refine wpAnyH_ready (rs := [10]) (by kernel_rfl) (by simp) ?_
        refine AllReadyH.cons rfl (fun KK hKK => ?_) AllReadyH.nil
        go_simp
        ((with_reducible refine (CH.out _).mono ?_); rintro e' w9 ⟨rfl, hb⟩; have hq := HQ.later hb; clear HQ hb; have HQ := hq; clear hq)
        (try go_simp)
        refine hKK.out _ _ ⟨HQ.b0.cell 0, HQ.b0.cell 1, CB.rangeB HQ.tl.b0, HQ.tl.tl.b0.cell 1, HQ.tl.tl.b0.cell 2, HQ⟩ (fun hHeld => ?_)
        clear hKK KK
        (try simp only [Act.put, List.getElem_toArray, List.getElem_cons_zero, List.getElem_cons_succ, List.setIfInBounds_toArray, List.set_cons_zero, List.set_cons_succ])
        refine wpAnyH_ready (rs := [16]) (by kernel_rfl) (by simp) ?_
        refine AllReadyH.cons rfl (fun KK hKK => ?_) AllReadyH.nil
        go_simp
        ((with_reducible refine (CRH.out _).mono ?_); rintro e' w9 ⟨rfl, hb⟩; have hq := HQ.later hb; clear HQ hb; have HQ := hq; clear hq)
        (try go_simp)
        refine hKK.out _ _ ⟨HQ.b0.cell 0, HQ.b0.cell 1, CB.rangeB HQ.tl.b0, HQ.tl.tl.b0.cell 1, HQ.tl.tl.b0.cell 2, HQ⟩ (fun hHeld => ?_)
        clear hKK KK
        (try simp only [Act.put, List.getElem_toArray, List.getElem_cons_zero, List.getElem_cons_succ, List.setIfInBounds_toArray, List.set_cons_zero, List.set_cons_succ])
        refine wpAnyH_take (i := 17) (v := ?_) rfl (by kernel_rfl) (by kernel_rfl) (by kernel_rfl) (fun _ _ _ h => h) (Or.inl ⟨by rfl, ?_⟩) (by assumption) ?_
        rotate_left
        · intro w' hSw; (try dsimp only at hSw); obtain ⟨hs0, hs1, hs2, hs3, hs4, hs5⟩ := hSw; go_simp; (try with_reducible rfl)
        (try simp only [Act.put, List.getElem_toArray, List.getElem_cons_zero, List.getElem_cons_succ, List.setIfInBounds_toArray, List.set_cons_zero, List.set_cons_succ])
        refine wpAnyH_take (i := 18) (v := ?_) rfl (by kernel_rfl) (by kernel_rfl) (by kernel_rfl) (fun _ _ _ h => h) (Or.inl ⟨by rfl, ?_⟩) (by assumption) ?_
        rotate_left
        · intro w' hSw; (try dsimp only at hSw); obtain ⟨hs0, hs1, hs2, hs3, hs4, hs5⟩ := hSw; go_simp; (try with_reducible rfl)
        (try simp only [Act.put, List.getElem_toArray, List.getElem_cons_zero, List.getElem_cons_succ, List.setIfInBounds_toArray, List.set_cons_zero, List.set_cons_succ])
        refine wpAnyH_done (by kernel_rfl) ?_ _
        refine NoPanic.normal ?_
        have HR := hi (show AtG w [(w1.heap.size, 27, lcs h), (w2.heap.size, 31, (bsL h).toArray)] w9 by unfold lcs; rw [HW2.out.1, HW2.out.2]; exact .of2 HQ.b0 HQ.tl.b0 HQ.below)
        clear HQ
        go_wp2
        go_roundw
        case rel => exact ⟨k + 1, h, by omega, by go_num, HR⟩
        case measure => simp [intOf]; omega
    · obtain rfl : n = k := by omega
      go_wp2
      go_ret
      exact ⟨rfl, HP.out.below⟩

end Go.Proofs.Ythfcgedlpnbojaa
