import Derived.Test.YtggeakkofcaklaaGreatMg48
namespace Go.Proofs.YtggeakkofcaklaaGreat
open Go.ChangeShapes Go.WideShapes Go.ChangeAt Go.RowKit Go.Shelf
set_option linter.unusedVariables false
attribute [local go_sem] Oper.semAt_some
attribute [local go_sem high] eqlLn neqLn guardL
theorem eqLn_same (e l h a en : Bool) (g p : Int) : eqLn e l h a en g p e l h a en g p = true := by simp [eqLn, eqI]
theorem eqLn_lat (e l a en : Bool) (g p : Int) : eqLn e l true a en g p e l false a en g p = false := by simp [eqLn, eqI]
structure LowC (w : World) (p q : Nat) (b c : Nat → Nat) (D' : Ds) (p2 q2 : Nat) (b2 c2 : Nat → Nat) (D : Ds) (g : Int) (vv : Nat) (G : Nat → Prop) (W : World) : Prop where
  di : DiAt W p q b c D'
  dc : DiAt W p2 q2 b2 c2 D
  gb : CB W w.heap.size 3 #[.int .i64 g]
  vb : CB W (w.heap.size + 1) 28 #[.int .u64 vv]
  rb : CB W (w.heap.size + 1 + 1) 4 #[.bool false]
  bc : CB W q2 24 #[.pointer (some ⟨b2 0, 0, none⟩)]
  below : Below w.heap.size w W
  ge : ∀ i, G i → q2 < i
  lp : w.heap.size + 2 < p
  qp : q ≤ p2
theorem FrOk.lowC {β : Type} (w : World) (p q : Nat) (b c : Nat → Nat) (D' : Ds) (p2 q2 : Nat) (b2 c2 : Nat → Nat) (D : Ds) (g : Int) (vv : Nat) : FrOk (fun (_ : β) G W => LowC w p q b c D' p2 q2 b2 c2 D g vv G W) :=
  ⟨fun s F A A' h k => by
    have hp := h.di.rng 0 (by omega)
    have hp2 := h.dc.rng 0 (by omega)
    have hlp := h.lp
    have hqp := h.qp
    exact ⟨h.di.kept k (fun i x y => by have := h.ge i x; have := y.2; omega), h.dc.kept k (fun i x y => by have := h.ge i x; have := y.2; omega), h.gb.heap (k.block _ h.gb.lt (fun x => by have := h.ge _ x; omega)), h.vb.heap (k.block _ h.vb.lt (fun x => by have := h.ge _ x; omega)), h.rb.heap (k.block _ h.rb.lt (fun x => by have := h.ge _ x; omega)), h.bc.heap (k.block _ h.bc.lt (fun x => by have := h.ge _ x; omega)), h.below.trans (k.toBelow h.below.size (fun i x => by have := h.ge _ x; omega)), h.ge, h.lp, h.qp⟩,
   fun s F G A h k => ⟨h.di, h.dc, h.gb, h.vb, h.rb, h.bc, h.below, fun i x => by rcases k i x with y | y; exact h.ge i y; exact Nat.lt_of_lt_of_le h.bc.lt y, h.lp, h.qp⟩⟩
theorem LowC.set {w : World} {p q : Nat} {b c : Nat → Nat} {D' : Ds} {p2 q2 : Nat} {b2 c2 : Nat → Nat} {D : Ds} {g : Int} {vv : Nat} {G : Nat → Prop} {W W' : World} (h : LowC w p q b c D' p2 q2 b2 c2 D g vv G W) (k : Below (q2 + 1) W W') : LowC w p q b c D' p2 q2 b2 c2 D g vv G W' := by
  have hp := h.di.rng 0 (by omega)
  have hp2 := h.dc.rng 0 (by omega)
  have hlp := h.lp
  have hqp := h.qp
  exact ⟨h.di.same k.size (fun i x y => k.block i (by omega)), h.dc.same k.size (fun i x y => k.block i (by omega)), h.gb.heap (k.block _ (by omega)), h.vb.heap (k.block _ (by omega)), h.rb.heap (k.block _ (by omega)), h.bc.heap (k.block _ (by omega)), h.below.trans (k.mono (by omega)), h.ge, h.lp, h.qp⟩
theorem LowC.none {w : World} {p q : Nat} {b c : Nat → Nat} {D' : Ds} {p2 q2 : Nat} {b2 c2 : Nat → Nat} {D : Ds} {g : Int} {vv : Nat} {G : Nat → Prop} {W : World} (h : LowC w p q b c D' p2 q2 b2 c2 D g vv G W) : LowC w p q b c D' p2 q2 b2 c2 D g vv (fun _ => False) W := ⟨h.di, h.dc, h.gb, h.vb, h.rb, h.bc, h.below, fun i x => x.elim, h.lp, h.qp⟩
structure CalI (w : World) (p q : Nat) (b c : Nat → Nat) (D' : Ds) (p2 q2 : Nat) (b2 c2 : Nat → Nat) (D : Ds) (g : Int) (vv : Nat) (mb k kb : Nat) (rs : List Nat) (W : World) : Prop where
  low : LowC w p q b c D' p2 q2 b2 c2 D g vv (fun _ => False) W
  bm : CB W mb 3 #[.int .i64 (turnS D D' k)]
  bk : CB W kb 3 #[.int .i64 k]
  ms : Marks (mb + 1) rs W
  qm : q2 < mb
  mk' : mb < kb
theorem CalI.later {w : World} {p q : Nat} {b c : Nat → Nat} {D' : Ds} {p2 q2 : Nat} {b2 c2 : Nat → Nat} {D : Ds} {g : Int} {vv : Nat} {mb k kb : Nat} {rs : List Nat} {W W' : World} (h : CalI w p q b c D' p2 q2 b2 c2 D g vv mb k kb rs W) (j : Below W.heap.size W W') : CalI w p q b c D' p2 q2 b2 c2 D g vv mb k kb rs W' :=
  ⟨h.low.set (j.mono h.low.bc.lt), h.bm.below j, h.bk.below j, h.ms.below j, h.qm, h.mk'⟩
def CalJ (w : World) (p q : Nat) (b c : Nat → Nat) (D' : Ds) (p2 q2 : Nat) (b2 c2 : Nat → Nat) (D : Ds) (g : Int) (vv : Nat) (mb k kb : Nat) (rs : List Nat) (pre : List It) (G : Nat → Prop) (V : World) : Prop :=
  OwnB mb 3 (fun s : List It => #[.int .i64 ((turnS D D' k + (s.filter (turnB D k)).length : Nat) : Int)]) pre G V ∧ OwnB kb 3 (fun _ : List It => #[.int .i64 k]) pre G V ∧ LowC w p q b c D' p2 q2 b2 c2 D g vv G V ∧ ((∀ i, i ∈ rs → ¬ G i) ∧ Marks (mb + 1) rs V)
theorem CalJ.fr (w : World) (p q : Nat) (b c : Nat → Nat) (D' : Ds) (p2 q2 : Nat) (b2 c2 : Nat → Nat) (D : Ds) (g : Int) (vv : Nat) (mb k kb : Nat) (rs : List Nat) : FrOk (CalJ w p q b c D' p2 q2 b2 c2 D g vv mb k kb rs) :=
  (FrOk.ownB _ _ _).and ((FrOk.ownB _ _ _).and ((FrOk.lowC _ _ _ _ _ _ _ _ _ _ _ _ _).and (FrOk.reads (· ∈ rs) (fun _ V => Marks (mb + 1) rs V) (fun s A h => h.lt) (fun s A A' h _ e => h.heap e))))
theorem CalI.begin {w : World} {p q : Nat} {b c : Nat → Nat} {D' : Ds} {p2 q2 : Nat} {b2 c2 : Nat → Nat} {D : Ds} {g : Int} {vv : Nat} {mb k kb : Nat} {rs : List Nat} {W : World} (h : CalI w p q b c D' p2 q2 b2 c2 D g vv mb k kb rs W) : CalJ w p q b c D' p2 q2 b2 c2 D g vv mb k kb rs [] (fun _ => False) W :=
  ⟨⟨fun x => x, h.bm⟩, ⟨fun x => x, h.bk⟩, h.low, fun i hi x => x, h.ms⟩
theorem CalJ.over {w : World} {p q : Nat} {b c : Nat → Nat} {D' : Ds} {p2 q2 : Nat} {b2 c2 : Nat → Nat} {D : Ds} {g : Int} {vv : Nat} {mb k kb : Nat} {rs : List Nat} {V W' : World} {G : Nat → Prop} {ys : List It} {r : Nat} (h : CalJ w p q b c D' p2 q2 b2 c2 D g vv mb k kb rs ys G V) (hy : ys = seenL D' k) (hr : V.heap[r]? = some (.deferred (some []))) (hr1 : mb + 1 ≤ r) (hr2 : r ∉ rs)
    (j : Below V.heap.size V W') (hk : CB W' V.heap.size 3 #[.int .i64 (k + 1 : Nat)]) (qm : q2 < mb) : CalI w p q b c D' p2 q2 b2 c2 D g vv mb (k + 1) V.heap.size (r :: rs) W' := by
  obtain ⟨⟨_, h1⟩, _, h2, _, hm⟩ := h
  subst hy
  exact ⟨h2.none.set (j.mono h2.bc.lt), h1.below j, hk, (hm.below j).cons hr1 ((j.block r (Array.getElem?_eq_some_iff.1 hr).1).trans hr) hr2, qm, h1.lt⟩
theorem CalJ.put {w : World} {p q : Nat} {b c : Nat → Nat} {D' : Ds} {p2 q2 : Nat} {b2 c2 : Nat → Nat} {D : Ds} {g : Int} {vv : Nat} {mb k kb : Nat} {rs : List Nat} {V W2 : World} {G R : Nat → Prop} {pre : List It} {x : It} (h : CalJ w p q b c D' p2 q2 b2 c2 D g vv mb k kb rs pre G V) (hx : turnB D k x = true) (qm : q2 < mb) (hkb : mb < kb)
    (j : Below V.heap.size V W2) (hFL : ∀ i, G i ∨ R i → i < V.heap.size) (hR : ∀ i, R i → i ≠ mb) {m : Nat} (hm : turnS D D' k + (pre.filter (turnB D k)).length = m) :
    KF G R V (W2.setCell ⟨mb, 0, none⟩ (.int .i64 ((m : Int) + 1))) ∧ CalJ w p q b c D' p2 q2 b2 c2 D g vv mb k kb rs (pre ++ [x]) G (W2.setCell ⟨mb, 0, none⟩ (.int .i64 ((m : Int) + 1))) := by
  subst hm
  obtain ⟨⟨h1, h2⟩, ⟨h3, h4⟩, h5, h6, h7⟩ := h
  have hml := h2.lt
  have hs : ∀ i, i ≠ mb → (W2.setCell ⟨mb, 0, none⟩ (.int .i64 (((turnS D D' k + (pre.filter (turnB D k)).length : Nat) : Int) + 1))).heap[i]? = W2.heap[i]? := fun i hi => Below.heap_setCell W2 ⟨mb, 0, none⟩ _ i hi
  refine ⟨⟨by rw [World.size_setCell]; exact j.size, fun i q => ?_⟩, ⟨h1, ?_⟩, ⟨h3, ?_⟩, ?_, h6, ?_⟩
  · rw [hs i (fun e => by subst e; rcases q with q | q; exact h1 q; exact hR _ q rfl)]
    exact j.block i (hFL i q)
  · have k9 := (h2.below j).set 0 (.int .i64 (((turnS D D' k + (pre.filter (turnB D k)).length : Nat) : Int) + 1))
    dsimp only
    rw [turn_yes hx]
    simpa [Int.add_assoc] using k9
  · exact (h4.below j).other mb 0 _ (by omega)
  · exact h5.set ((j.mono h5.bc.lt).setCell (p := ⟨mb, 0, none⟩) (show q2 + 1 ≤ mb by omega) _)
  · exact (h7.below j).heap (fun r hr => hs r (by have := (h7.2 r hr).1; omega))
theorem CalJ.skip {w : World} {p q : Nat} {b c : Nat → Nat} {D' : Ds} {p2 q2 : Nat} {b2 c2 : Nat → Nat} {D : Ds} {g : Int} {vv : Nat} {mb k kb : Nat} {rs : List Nat} {V : World} {G : Nat → Prop} {pre : List It} {x : It} (h : CalJ w p q b c D' p2 q2 b2 c2 D g vv mb k kb rs pre G V) (hx : turnB D k x = false) : CalJ w p q b c D' p2 q2 b2 c2 D g vv mb k kb rs (pre ++ [x]) G V := by
  obtain ⟨⟨h1, h2⟩, r⟩ := h
  refine ⟨⟨h1, ?_⟩, r⟩
  dsimp only
  rw [turn_no hx]
  exact h2
def kOf17 (a : Act) (W : World) : Nat := match a.tmps.getD 17 undef with
  | .pointer (some p) => match W.cell? p with
    | some (.int _ i) => i.toNat
    | _ => 0
  | _ => 0
def CalA (f : Int) (v : Value) (fr g : Int) (vv : Nat) (nn : Int) (w : World) (n9 p q : Nat) (b c : Nat → Nat) (D' : Ds) (p2 q2 : Nat) (b2 c2 : Nat → Nat) (D : Ds) (mb : Nat) (a : Act) (W : World) : Prop := ∃ (k kb : Nat) (rs : List Nat) (e64 e65 e66 e67 e68 e69 e70 e71 e72 e106 : Value), a = { tmps := #[.int .u8 f, v, .int .i64 fr, .int .i64 g, .int .u64 vv, undef, undef, undef, .pointer (some ⟨w.heap.size, 0, none⟩), .pointer (some ⟨w.heap.size + 1, 0, none⟩), .pointer (some ⟨w.heap.size + 1 + 1, 0, none⟩), .bool true, .pointer (some ⟨b 0, 0, none⟩), .pointer (some ⟨q2, 0, none⟩), .int .i64 nn, .int .i64 0, .pointer (some ⟨mb, 0, none⟩), .pointer (some ⟨kb, 0, none⟩), undef, undef, undef, undef, .bool true, .bool true, .bool false, .int .u8 f, v, .pointer (some ⟨b 0, 0, none⟩), .bool true, .bool false, .bool false, .pointer (some ⟨b 0, 0, none⟩), .bool false, .bool false, .pointer (some ⟨b 0, 0, none⟩), .pointer (some ⟨b2 0, 0, none⟩), .pointer (some ⟨b2 0, 0, none⟩), .bool false, .tuple #[.int .i64 nn, .int .i64 0], .pointer (some ⟨b 0, 0, none⟩), .int .i64 fr, .int .i64 g, .int .u64 vv, .tuple #[.int .i64 nn, .int .i64 0], .int .i64 nn, .int .i64 0, .int .i64 0, .bool false, undef, undef, undef, undef, undef, undef, undef, undef, undef, undef, undef, undef, undef, undef, undef, undef, e64, e65, e66, e67, e68, e69, e70, e71, e72, undef, undef, undef, undef, undef, undef, undef, undef, undef, undef, undef, undef, undef, undef, undef, undef, undef, undef, undef, undef, undef, undef, undef, undef, undef, undef, undef, undef, undef, undef, undef, undef, undef, e106, undef, undef, undef, undef, undef, undef, undef, undef, undef], defers := rs.map markD } ∧ k ≤ n9 ∧ CalI w p q b c D' p2 q2 b2 c2 D g vv mb k kb rs W
set_option maxRecDepth 100000 in
set_option maxHeartbeats 16000000 in
theorem calls_law (f : Int) (v : Value) (xs : List Xa) (fr g : Int) (vv : Nat) (w : World) (hf0 : 0 ≤ f) (hf1 : f < 256) (hfr : Int64 fr) (hvv : vv < 18446744073709551616) (h : ActsAt w v xs) (hl : xs.length ≤ 9223372036854775806) :
    Calls Tryz.prog 8 #[.int .u8 f, v, .int .i64 fr, .int .i64 g, .int .u64 vv] w fun e w' => e = .returned (.bool true) ∧ Below w.heap.size w w' := by
  have HP := hi (fun W (k : Below w.heap.size w W) => played_any f 0 v xs W hf0 hf1 (by decide) (by decide) (h.below k) hl)
  clear h hl
  have b2a := bal_two w (.cells #[.int .i64 g] 3) (.cells #[.int .u64 vv] 28)
  have HB0 := hi (b2a.alloc b2a.size (.cells #[.bool false] 4))
  have HG0 := hi (((CB.new w 3 #[.int .i64 g]).alloc (.cells #[.int .u64 vv] 28)).alloc (.cells #[.bool false] 4))
  have HV0 := hi ((cb_second (w := w) (o := .cells #[.int .i64 g] 3) (cs := #[.int .u64 vv]) (t := 28)).alloc (.cells #[.bool false] 4))
  have HR0 := hi (show CB (((w.alloc (.cells #[.int .i64 g] 3)).alloc (.cells #[.int .u64 vv] 28)).alloc (.cells #[.bool false] 4)) (w.heap.size + 1 + 1) 4 #[.bool false] from by simpa using CB.new ((w.alloc (.cells #[.int .i64 g] 3)).alloc (.cells #[.int .u64 vv] 28)) 4 #[.bool false])
  clear b2a
  refine (callsIn_wide (n := 6)).1 ?_
  refine callsIn_of_wp_marks Tryz.func8 rfl trivial ?_ rfl
  simp only [Tryz.ntmps8, List.size_toArray, List.length_cons, List.length_nil, Nat.reduceAdd, Nat.reduceSub, Array.replicate_succ, Array.replicate_zero, List.push_toArray, List.append_toArray, List.nil_append, List.cons_append]
  refine wpIn_wide.2 ?_
  go_wp2_with (first
    | (go_at_call 10; ((with_reducible refine (awake_any _).mono ?_); rintro e w1 ⟨rfl, hb⟩; have HB1 := hi (HB0.out.trans (hb.mono HB0.out.size)); have HR1 := hi (HR0.out.below hb); have HG1 := hi (HG0.out.below hb); have HV1 := hi (HV0.out.below hb); clear hb))
    | (go_at_call 20; ((with_reducible refine (HP.out _ HB1.out).mono ?_); rintro e w2 ⟨p, q, b, c, D, rfl, hd⟩; have HD := hi hd; have CPY := hi (copy_dist hd.di hd.ok); clear hd))
    | (go_at_call 12; ((with_reducible refine CPY.out.mono ?_); rintro e w3 ⟨b2, c2, rfl, hc, hb⟩; have hal := bal w3 (.cells #[.pointer (some ⟨b2 0, 0, none⟩)] 24); have HDC := hi (hc.below hal); have hbb := hb.trans (hal.mono hb.size); have HDD := hi (HD.out.later hbb); have HBC := hi (CB.new w3 24 #[.pointer (some ⟨b2 0, 0, none⟩)]); have cb0 := HBC.out.cell 0; have HR3 := hi ((HR1.out.below HD.out.below).below hbb); have HG3 := hi ((HG1.out.below HD.out.below).below hbb); have HV3 := hi ((HV1.out.below HD.out.below).below hbb); have gg0 := HG3.out.cell 0; have vv0 := HV3.out.cell 0; have HQ := hi (show q ≤ w2.heap.size ∧ w2.heap.size ≤ w3.heap.size from ⟨HD.out.di.le, hb.size⟩); have CL := hi (call_dist HDD.out.di HDD.out.ok fr g vv hvv); clear hal hc hb hbb)))
  have hok := HD.out.ok
  obtain ⟨n9, hn9⟩ : ∃ n9, D.cs.length = n9 := ⟨_, rfl⟩
  have hn8 : n9 ≤ 8 := by have := hok.n8; omega
  have HLP := hi (show w.heap.size + 2 < p from by have := HR1.out.lt; have := HD.out.lo; omega)
  have HB4 := hi (HB1.out.trans (HDD.out.below.mono HB1.out.size))
  by_cases hh : hasN D.cs.length fr = true
  · have hcd : callDV D fr g vv = (callL D (decV vv).id g (toL (decV vv) fr D.cs.length), 0) := by unfold callDV; rw [if_pos hh]
    rw [hcd] at CL
    obtain ⟨ks, hks⟩ : ∃ ks, toL (decV vv) fr D.cs.length = ks := ⟨_, rfl⟩
    have hkin : ∀ k ∈ ks, k < D.cs.length := fun k hk => by rw [← hks] at hk; exact toL_in hk
    have hkl : ks.length ≤ n9 := by
      rw [← hks, ← hn9]
      refine Nat.le_trans (upto_len _ _) ?_
      unfold capN
      omega
    rw [hks] at CL
    have ok' := callL_ok hok (decV vv).id g ks hkin
    have hlen := callL_len D (decV vv).id g ks
    have htold := turns_told hok (decV vv).id g ks hkin
    have hcnt := callL_count D (decV vv).id g ks
    have hbd : ∀ k, k ≤ n9 → turnS D (callL D (decV vv).id g ks).1 k ≤ 8 := fun k hk => by
      have h1 := turnS_le hok (decV vv).id g ks hkin k (by omega)
      have h2 := hitS_le D (decV vv).id g ks k
      have h3 : callN D (decV vv).id g ks ≤ ks.length := List.length_filter_le _ _
      omega
    have hturn : ∀ k : Nat, k < n9 → ∀ x ∈ seenL (callL D (decV vv).id g ks).1 k, turnB D k x = true → x.1 = ((vv / 2 ^ 24 % 16 : Nat) : Int) ∧ x.2.ln = { (getV D k x.1).1 with st := ⟨(getV D k x.1).1.st.e, (getV D k x.1).1.st.l, true, (getV D k x.1).1.st.a⟩ } ∧ x.2.ln.g = g := fun k hk x hx ht => by
      rcases turn_is hok (decV vv).id g ks hkin (k := k) (by omega) hx with z | z
      · rw [ht] at z; cases z
      · exact ⟨z.2.1, z.2.2⟩
    obtain ⟨⟨D', nn⟩, hR⟩ : ∃ R, callL D (decV vv).id g ks = R := ⟨_, rfl⟩
    rw [hR] at CL ok' hlen htold hcnt hbd hturn
    dsimp only at CL ok' hlen htold hcnt hbd hturn
    rw [hn9] at hlen htold
    have hnn : (turnS D D' n9 : Int) ≤ nn := by omega
    have hnl : (nn : Int) ≤ n9 := by omega
    obtain ⟨ni, hni⟩ : ∃ ni : Int, (nn : Int) = ni := ⟨_, rfl⟩
    rw [hni] at CL hnn hnl
    have CO := hi (fun W (z : DiAt W p q b c D') => show Calls Tryz.prog 21 #[.pointer (some ⟨b 0, 0, none⟩)] W fun e w' => e = .returned (.int .i64 n9) ∧ W = w' from by rw [← hlen]; exact cores_any z)
    have SEE := hi (fun W (k : Nat) (z : DiAt W p q b c D') => seen_dist z ok' (k : Int))
    have GT0 := hi (fun W (k : Nat) (id : Int) (hid : Int64 id) (z : DiAt W w2.heap.size w3.heap.size b2 c2 D) => get_dist z hok (k := (k : Int)) hid)
    have HOK' := hi ok'
    have HTU := hi hturn
    have HBD := hi hbd
    have HNN := hi hnn
    have hq24 : bits .and .u64 ((vv : Int) / 16777216) 15 = ((vv / 2 ^ 24 % 16 : Nat) : Int) := by
      rw [show (vv : Int) / 16777216 = ((vv / 2 ^ 24 : Nat) : Int) by omega, show (15 : Int) = ((15 : Nat) : Int) from rfl, u64_and_nat _ _ (by omega) (by decide), nat_mask4]
    clear hcd hks hkin hkl htold hcnt hbd hturn hR hni hh
    (with_reducible refine CL.out.mono ?_)
    rintro e w5 ⟨rfl, hA⟩
    obtain ⟨W6, hW6, HI0⟩ : ∃ W, ((w5.alloc (.cells #[.int .i64 0] 3)).alloc (.cells #[.int .i64 0] 3)) = W ∧ CalI w p q b c D' w2.heap.size w3.heap.size b2 c2 D g vv w5.heap.size 0 (w5.heap.size + 1) [] W := by
      have hlp := HLP.out
      have hqq := HQ.out
      have hk5 : Below w5.heap.size w5 ((w5.alloc (.cells #[.int .i64 0] 3)).alloc (.cells #[.int .i64 0] 3)) := bal_two w5 _ _
      have hbc := HBC.out.keptB hA.kept (fun z => by have := z.2; omega)
      refine ⟨_, rfl, ⟨(LowC.set (W := w5) ⟨hA.di, HDC.out.kept hA.kept (fun i z y => by have := z.2; have := y.1; omega), HG3.out.keptB hA.kept (fun z => by have := z.1; omega), HV3.out.keptB hA.kept (fun z => by have := z.1; omega), HR3.out.keptB hA.kept (fun z => by have := z.1; omega), hbc, HB4.out.trans (hA.kept.toBelow HB4.out.size (fun i z => by have := z.1; omega)), fun i x => x.elim, HLP.out, by omega⟩ (hk5.mono hbc.lt)), ?_, ?_, Marks.nil _ _, hbc.lt, by omega⟩⟩
      · exact (CB.new w5 3 #[.int .i64 0]).alloc _
      · exact cb_second
    have HI0 := hi HI0
    have HQM := hi HI0.out.qm
    have HMN := hi HI0.out.low.lp
    have HQP := hi HI0.out.low.qp
    have gg5 := HI0.out.low.gb.cell 0
    clear hA CL CPY HD HDC HDD HBC HR3 HG3 HV3 HB4 HR1 HG1 HV1 HB0 HG0 HV0 HR0 HP HLP HB1 HQ cb0 gg0 vv0
    have HW6 := hi hW6
    clear hW6
    go_wp2
    rw [HW6.out]
    clear HW6
    obtain ⟨mb, hmb⟩ : ∃ mb, w5.heap.size = mb := ⟨_, rfl⟩
    obtain ⟨p2, hp2⟩ : ∃ p2, w2.heap.size = p2 := ⟨_, rfl⟩
    obtain ⟨q2, hq2⟩ : ∃ q2, w3.heap.size = q2 := ⟨_, rfl⟩
    rw [hmb, hp2, hq2] at HI0
    rw [hmb, hq2] at HQM
    rw [hq2] at ⊢
    rw [hmb] at ⊢
    rw [hp2, hq2] at GT0
    clear hmb hp2 hq2
    refine wp_loop (CalA f v fr g vv ni w n9 p q b c D' p2 q2 b2 c2 D mb) (fun a W => n9 - kOf17 a W) ?_ ?_
    · exact ⟨0, mb + 1, [], _, _, _, _, _, _, _, _, _, _, rfl, Nat.zero_le _, HI0.out⟩
    · rintro a W ⟨k, kb, rs, e64, e65, e66, e67, e68, e69, e70, e71, e72, e106, rfl, hk, hI⟩
      have HI := hi hI
      have HKO := hi (show ∀ t d, kOf17 { tmps := t, defers := d } W = k ∨ t.getD 17 undef ≠ .pointer (some ⟨kb, 0, none⟩) from fun t d => by
        by_cases ht : t.getD 17 undef = .pointer (some ⟨kb, 0, none⟩)
        · left
          unfold kOf17
          simp only [ht, hI.bk.cell 0]
          simp
        · exact .inr ht)
      have HID := hi (show CalI w p q b c D' p2 q2 b2 c2 D g vv mb k kb rs W.drew from hI.later (Below.drewN (m := 1) (Below.refl _ _)))
      clear hI
      by_cases hlt : k < n9
      · have t1 : decide ((k : Int) < n9) = true := by simp; omega
        have hlt' : (k : Int) < n9 := by omega
        go_wp2
        refine wp_region_noPanic ?_
        refine wp_region_last_drew (S := (fun W' => CB W' kb 3 #[.int .i64 k] ∧ DiAt W' p q b c D')) [] (by kernel_rfl) ⟨HI.out.bk.drew, HI.out.low.di.drew⟩ (fun hHeld => ?_)
        (try simp only [Array.replicate_succ, Array.replicate_zero, List.push_toArray, List.nil_append, List.cons_append])
        refine wpAnyF_take (i := 0) (v := ?_) (by kernel_rfl) (by kernel_rfl) rfl (by kernel_rfl) (by kernel_rfl) (by kernel_rfl) (fun _ _ _ h => h) (Or.inl ⟨by rfl, ?_⟩) (by assumption) ?_
        rotate_left
        · intro w' hSw; (try dsimp only at hSw); have k0 := hSw.1.cell 0; go_simp; (try with_reducible rfl)
        (try simp only [Act.put, List.getElem_toArray, List.getElem_cons_zero, List.setIfInBounds_toArray, List.set_cons_zero, List.set_cons_succ])
        refine wpAnyF_take (i := 1) (v := ?_) (by kernel_rfl) (by kernel_rfl) rfl (by kernel_rfl) (by kernel_rfl) (by kernel_rfl) (fun _ _ _ h => h) (Or.inl ⟨by rfl, ?_⟩) (by assumption) ?_
        rotate_left
        · intro w' hSw; (try dsimp only at hSw); have k0 := hSw.1.cell 0; go_simp; (try with_reducible rfl)
        (try simp only [Act.put, List.getElem_toArray, List.getElem_cons_zero, List.getElem_cons_succ, List.setIfInBounds_toArray, List.set_cons_zero, List.set_cons_succ])
        refine wpAnyF_ready (rs := [2]) (by kernel_rfl) (by simp) ?_
        refine AllReadyF.cons rfl (fun KK hKK => ?_) AllReadyF.nil
        go_simp
        ((with_reducible refine (CO.out _ hHeld.2).mono ?_); rintro e' w15 ⟨rfl, rfl⟩)
        (try go_simp)
        refine hKK.out _ _ hHeld (fun hHeld => ?_)
        clear hKK KK
        (try simp only [Act.put, List.getElem_toArray, List.getElem_cons_zero, List.getElem_cons_succ, List.setIfInBounds_toArray, List.set_cons_zero, List.set_cons_succ])
        refine wpAnyF_take (i := 3) (v := ?_) (by kernel_rfl) (by kernel_rfl) rfl (by kernel_rfl) (by kernel_rfl) (by kernel_rfl) (fun _ _ _ h => h) (Or.inl ⟨by rfl, ?_⟩) (by assumption) ?_
        rotate_left
        · intro w' hSw; (try dsimp only at hSw); have k0 := hSw.1.cell 0; go_simp; (try with_reducible rfl)
        (try simp only [Act.put, List.getElem_toArray, List.getElem_cons_zero, List.getElem_cons_succ, List.setIfInBounds_toArray, List.set_cons_zero, List.set_cons_succ])
        refine wpAnyF_done (by kernel_rfl) ?_ _
        refine NoPanic.normal ?_
        have HDD := hi HID.out.low.di
        have kd0 := HI.out.bk.cell 0
        clear hHeld
        go_wp2_with (go_at_call 29; ((with_reducible refine (SEE.out _ _ HDD.out).mono ?_); rintro e w6 ⟨R, gf, lb, rfl, hR, hit, hb⟩; have HBG := hi (HID.out.later hb).begin; have HIT := hi hit; have S6 := hi hb.size; have HRO := hi (show ∀ i, R i → i ≠ mb from fun i r e => by subst e; have h9 := HID.out.bm.lt; rcases hR i r with ⟨_, z⟩ | z; (have := HID.out.qm; have := HID.out.low.qp; have := HID.out.low.dc.rng 0 (by omega); omega); omega); clear hit hb hR))
        obtain ⟨gf', lb', eq9, eg, hh6, hq⟩ := HIT.out
        obtain ⟨rfl, rfl⟩ : gf = gf' ∧ lb = lb' := by simpa using eq9
        have hRw := HIT.out.lt
        have HRW := hi hRw
        have hst := hq w6 (Nat.le_refl _) (fun _ _ => rfl)
        clear hq eq9
        refine (wpIn_wide (n := 6)).1 ?_
        refine range_fr (n := 6) (by omega) (gf := gf) (lb := lb) rfl eg hst (Below.refl _ _) (fun _ => rfl) hRw
          (fun _ => False) (fun i x => x.elim)
          (CalJ w p q b c D' p2 q2 b2 c2 D g vv mb k kb rs)
          (fun cd pre G V => False)
          (CalJ.fr w p q b c D' p2 q2 b2 c2 D g vv mb k kb rs)
          (fun _ => ⟨fun _ _ _ _ h _ => h, fun _ _ _ _ h _ => h⟩)
          HBG.out
          (fun x a' G V => ∃ Bx, OwnB Bx 58 (fun _ : Unit => x.2.ln.cs.toArray) () G V ∧ a' = { tmps := #[.int .u8 f, v, .int .i64 fr, .int .i64 g, .int .u64 vv, undef, undef, undef, .pointer (some ⟨w.heap.size, 0, none⟩), .pointer (some ⟨w.heap.size + 1, 0, none⟩), .pointer (some ⟨w.heap.size + 1 + 1, 0, none⟩), .bool true, .pointer (some ⟨b 0, 0, none⟩), .pointer (some ⟨q2, 0, none⟩), .int .i64 ni, .int .i64 0, .pointer (some ⟨mb, 0, none⟩), .pointer (some ⟨kb, 0, none⟩), .int .i64 x.1, .pointer (some ⟨Bx, 0, none⟩), undef, undef, .bool true, .bool true, .bool false, .int .u8 f, v, .pointer (some ⟨b 0, 0, none⟩), .bool true, .bool false, .bool false, .pointer (some ⟨b 0, 0, none⟩), .bool false, .bool false, .pointer (some ⟨b 0, 0, none⟩), .pointer (some ⟨b2 0, 0, none⟩), .pointer (some ⟨b2 0, 0, none⟩), .bool false, .tuple #[.int .i64 ni, .int .i64 0], .pointer (some ⟨b 0, 0, none⟩), .int .i64 fr, .int .i64 g, .int .u64 vv, .tuple #[.int .i64 ni, .int .i64 0], .int .i64 ni, .int .i64 0, .int .i64 0, .bool false, undef, undef, undef, undef, undef, undef, undef, undef, undef, undef, undef, undef, undef, undef, undef, undef, .int .i64 k, .pointer (some ⟨b 0, 0, none⟩), .int .i64 n9, .bool true, e68, e69, .pointer (some ⟨b 0, 0, none⟩), .int .i64 k, .func (.func gf) #[] lb, .int .i64 x.1, x.2.ln.v, undef, undef, undef, undef, undef, undef, undef, undef, undef, undef, undef, undef, undef, undef, undef, undef, undef, undef, undef, undef, undef, undef, undef, undef, undef, undef, undef, undef, undef, undef, undef, e106, undef, undef, undef, undef, undef, undef, undef, undef, undef], defers := [] })
          (fun x a' => ⟨fun s F A A' q w => by obtain ⟨Bx, e1, e2⟩ := q; exact ⟨Bx, (FrOk.ownB Bx 58 (fun (_ : Unit) => x.2.ln.cs.toArray)).st () F A A' e1 w, e2⟩, fun s F G A q w => by obtain ⟨Bx, e1, e2⟩ := q; exact ⟨Bx, (FrOk.ownB Bx 58 (fun (_ : Unit) => x.2.ln.cs.toArray)).sub () F G A e1 w, e2⟩⟩)
          ?assign ?body ?done ?stop
        case assign =>
          rintro l' pre ⟨id, ⟨⟨⟨e, lb', q', a⟩, en, gr, pp⟩, s⟩⟩ G V K h hFG hG hsz hK
          have hkf : KF G R V (V.alloc (.cells #[.bool e, .bool lb', .bool q', .bool a, .bool en, .int .i64 gr, .int .i64 pp] 58)) := KF.of_below (bal V _) (fun i x => by rcases x with x | x; exact (hG i x).1; have := HRW.out i x; omega)
          have hJ := (CalJ.fr w p q b c D' p2 q2 b2 c2 D g vv mb k kb rs).st _ _ _ _ h (Kept.of (bal V (.cells #[.bool e, .bool lb', .bool q', .bool a, .bool en, .int .i64 gr, .int .i64 pp] 58)))
          gi_wp2
          exact hK _ _ hkf hJ ⟨V.heap.size, ⟨fun x => by have := (hG _ x).1; omega, CB.new _ _ _⟩, rfl⟩
        case body =>
          rintro l' pre ⟨id, ⟨⟨⟨e2, l2, h1, a2⟩, n2, g2, p2'⟩, s⟩⟩ a' G V hFG hG hsz hJ ⟨Bx, ⟨hBn, hbx⟩, rfl⟩ hpx
          have hmem := hpx.subset (show (id, (⟨⟨⟨e2, l2, h1, a2⟩, n2, g2, p2'⟩, s⟩ : En)) ∈ pre ++ [(id, ⟨⟨⟨e2, l2, h1, a2⟩, n2, g2, p2'⟩, s⟩)] by simp)
          have hid : Int64 id := by
            have h1 := HOK'.out.m
            obtain ⟨j, _, hj, ⟨i, hi, h9⟩ | ⟨i, hi, h9, _⟩⟩ := seen_mem hmem
            · have := HOK'.out.own j hj
              simp only [Prod.mk.injEq] at h9
              constructor <;> show _ ≤ _ <;> omega
            · simp only [Prod.mk.injEq] at h9
              constructor <;> show _ ≤ _ <;> omega
          replace hbx : CB V Bx 58 #[.bool e2, .bool l2, .bool h1, .bool a2, .bool n2, .int .i64 g2, .int .i64 p2'] := hbx
          have HJ := hi hJ
          have HGG := hi hG
          have HLO := hi hJ.2.2.1
          have HFL := hi (show ∀ i, G i ∨ R i → i < V.heap.size from fun i z => by rcases z with z | z; exact (hG i z).1; have := HRW.out i z; omega)
          have hkb0 := hJ.2.1.2.cell 0
          have hcb0 := hJ.2.2.1.bc.cell 0
          have hmm9 : (pre.filter (turnB D k)).length ≤ 96 := by
            have z1 := List.length_filter_le (turnB D k) pre
            have z2 := hpx.length_le
            have z3 := seenL_len HOK'.out (k : Int)
            rw [List.length_append] at z2
            omega
          obtain ⟨mm, hmm⟩ : ∃ mm, turnS D D' k + (pre.filter (turnB D k)).length = mm := ⟨_, rfl⟩
          have HMM := hi hmm
          have hmb9 : mm ≤ 200 := by have := HBD.out k (by omega); omega
          have hmbx := hJ.1.2
          dsimp only at hmbx
          rw [hmm] at hmbx
          have HMB := hi hmbx
          have HBX := hi hbx
          have HMK := hi (show mb < kb from HI.out.mk')
          have gt0 := GT0.out V k id hid hJ.2.2.1.dc
          by_cases ht : turnB D k (id, (⟨⟨⟨e2, l2, h1, a2⟩, n2, g2, p2'⟩, s⟩ : En)) = true
          · obtain ⟨t3, t4, t5⟩ := HTU.out k hlt _ hmem ht
            have HTB := hi ht
            dsimp only at t3 t4 t5
            have hgv : (getV D k id).1 = ⟨⟨e2, l2, false, a2⟩, n2, g2, p2'⟩ ∧ h1 = true := by
              obtain ⟨⟨⟨e3, l3, h3, a3⟩, n3, g3, p3⟩, hG3⟩ : ∃ R, (getV D k id).1 = R := ⟨_, rfl⟩
              rw [hG3] at t4 ⊢
              simp only [Ln.mk.injEq, St.mk.injEq] at t4
              obtain ⟨⟨rfl, rfl, rfl, rfl⟩, rfl, rfl, rfl⟩ := t4
              cases h3
              · exact ⟨rfl, rfl⟩
              · exfalso
                unfold turnB at ht
                dsimp only at ht
                rw [hG3] at ht
                simp at ht
            obtain ⟨hgv, rfl⟩ := hgv
            obtain ⟨er, her⟩ : ∃ er, (getV D k id).2 = er := ⟨_, rfl⟩
            rw [hgv, her] at gt0
            have GT := hi (show Calls Tryz.prog 26 #[.pointer (some ⟨b2 0, 0, none⟩), .int .i64 k, .int .i64 id] V fun e w' => e = .returned (.tuple #[.agg #[.bool e2, .bool l2, .bool false, .bool a2, .bool n2, .int .i64 g2, .int .i64 p2'], .int .i64 er]) ∧ Below V.heap.size V w' from gt0)
            have el1 := eqLn_lat e2 l2 a2 n2 g2 p2'
            have el2 := eqLn_same e2 l2 true a2 n2 g2 p2'
            have dg : (g2 != g) = false := by simp [t5]
            obtain ⟨q9, hq9⟩ : ∃ q9, vv / 2 ^ 24 % 16 = q9 := ⟨_, rfl⟩
            have hq15 : q9 < 16 := by omega
            rw [hq9] at t3
            have hq24 : bits .and .u64 ((vv : Int) / 16777216) 15 = (q9 : Int) := by rw [← hq9]; exact hq24
            have hqw : IntKind.i64.wrap (q9 : Int) = q9 := by rw [IntKind.wrap_i64]; omega
            have hwm : IntKind.i64.wrap ((mm : Int) + 1) = (mm : Int) + 1 := by rw [IntKind.wrap_i64]; omega
            subst t3
            clear hJ hG hbx hmbx gt0 hmm hmm9 hpx hmem ht t4 t5 hgv her hq9 hid
            gi_wp2_with (first
              | (refine ⟨trivial, ?_⟩; gi_at_call 26; ((with_reducible refine (CallsIn.inRound l' (callsIn_wide.2 GT.out)).mono ?_); rintro e9 V1 ⟨rfl, hb⟩; have hb2 := hb.alloc hb.size (.cells #[.bool e2, .bool l2, .bool false, .bool a2, .bool n2, .int .i64 g2, .int .i64 p2'] 58); have HB2 := hi hb2; have x2 := (HBX.out.below hb2); have xc0 := x2.cell 0; have xc1 := x2.cell 1; have xc2 := x2.cell 2; have xc3 := x2.cell 3; have xc4 := x2.cell 4; have xc5 := x2.cell 5; have xc6 := x2.cell 6; have hb3 := hb.alloc hb.size (.cells #[.bool e2, .bool l2, .bool true, .bool a2, .bool n2, .int .i64 g2, .int .i64 p2'] 58); have HB3 := hi hb3; have x3 := HBX.out.below hb3; have xd0 := x3.cell 0; have xd1 := x3.cell 1; have xd2 := x3.cell 2; have xd3 := x3.cell 3; have xd4 := x3.cell 4; have xd5 := x3.cell 5; have xd6 := x3.cell 6; have M2 := HMB.out.below hb3; have m0 := M2.cell 0; have mf := M2.frozen; have gb0 := (HLO.out.gb.below hb3).cell 0; have vb0 := (HLO.out.vb.below hb3).cell 0; clear hb hb2 hb3 x2 x3 M2))
              | gi_in)
            exact CalJ.put HJ.out HTB.out HQM.out HMK.out HB3.out HFL.out HRO.out HMM.out
          · have ht' : turnB D k (id, (⟨⟨⟨e2, l2, h1, a2⟩, n2, g2, p2'⟩, s⟩ : En)) = false := by simpa using ht
            have HTB := hi ht'
            have hgv : (⟨⟨e2, l2, h1, a2⟩, n2, g2, p2'⟩ : Ln) = (getV D k id).1 := by
              unfold turnB at ht'
              simpa using ht'
            obtain ⟨er, her⟩ : ∃ er, (getV D k id).2 = er := ⟨_, rfl⟩
            rw [← hgv, her] at gt0
            have GT := hi (show Calls Tryz.prog 26 #[.pointer (some ⟨b2 0, 0, none⟩), .int .i64 k, .int .i64 id] V fun e w' => e = .returned (.tuple #[.agg #[.bool e2, .bool l2, .bool h1, .bool a2, .bool n2, .int .i64 g2, .int .i64 p2'], .int .i64 er]) ∧ Below V.heap.size V w' from gt0)
            have el1 := eqLn_same e2 l2 h1 a2 n2 g2 p2'
            clear hJ hG hbx hmbx gt0 hmm hmm9 hpx hmem ht ht' hgv her hid
            gi_wp2_with (first
              | (refine ⟨trivial, ?_⟩; gi_at_call 26; ((with_reducible refine (CallsIn.inRound l' (callsIn_wide.2 GT.out)).mono ?_); rintro e9 V1 ⟨rfl, hb⟩; have hb2 := hb.alloc hb.size (.cells #[.bool e2, .bool l2, .bool h1, .bool a2, .bool n2, .int .i64 g2, .int .i64 p2'] 58); have HB2 := hi hb2; have x2 := (HBX.out.below hb2); have xc0 := x2.cell 0; have xc1 := x2.cell 1; have xc2 := x2.cell 2; have xc3 := x2.cell 3; have xc4 := x2.cell 4; have xc5 := x2.cell 5; have xc6 := x2.cell 6; clear hb hb2 x2))
              | gi_in)
            exact ⟨KF.of_below HB2.out HFL.out, ((CalJ.fr w p q b c D' p2 q2 b2 c2 D g vv mb k kb rs).st _ _ _ _ HJ.out (Kept.of HB2.out)).skip HTB.out⟩
        case done =>
          rintro ys G V hys hFG hJ hK hs2
          have hkc := hJ.2.1.2.cell 0
          have hw9 : IntKind.i64.wrap ((k : Int) + 1) = ((k + 1 : Nat) : Int) := by rw [IntKind.wrap_i64]; omega
          have HOV := hi (fun W' (j : Below V.heap.size V W') (hk : CB W' V.heap.size 3 #[.int .i64 (k + 1 : Nat)]) => hJ.over hys hK (by have := HID.out.bm.lt; have := S6.out; omega) (fun hm => by have := HID.out.ms.lt _ hm; have := S6.out; omega) j hk HQM.out)
          clear hJ hK hst
          go_wp2
          refine ⟨⟨k + 1, V.heap.size, w6.heap.size :: rs, _, _, _, _, _, _, _, _, _, _, rfl, by omega, HOV.out _ (bal V _) (CB.new V _ _)⟩, ?_⟩
          have e1 := (HKO.out #[.int .u8 f, v, .int .i64 fr, .int .i64 g, .int .u64 vv, undef, undef, undef, .pointer (some ⟨w.heap.size, 0, none⟩), .pointer (some ⟨w.heap.size + 1, 0, none⟩), .pointer (some ⟨w.heap.size + 1 + 1, 0, none⟩), .bool true, .pointer (some ⟨b 0, 0, none⟩), .pointer (some ⟨q2, 0, none⟩), .int .i64 ni, .int .i64 0, .pointer (some ⟨mb, 0, none⟩), .pointer (some ⟨kb, 0, none⟩), undef, undef, undef, undef, .bool true, .bool true, .bool false, .int .u8 f, v, .pointer (some ⟨b 0, 0, none⟩), .bool true, .bool false, .bool false, .pointer (some ⟨b 0, 0, none⟩), .bool false, .bool false, .pointer (some ⟨b 0, 0, none⟩), .pointer (some ⟨b2 0, 0, none⟩), .pointer (some ⟨b2 0, 0, none⟩), .bool false, .tuple #[.int .i64 ni, .int .i64 0], .pointer (some ⟨b 0, 0, none⟩), .int .i64 fr, .int .i64 g, .int .u64 vv, .tuple #[.int .i64 ni, .int .i64 0], .int .i64 ni, .int .i64 0, .int .i64 0, .bool false, undef, undef, undef, undef, undef, undef, undef, undef, undef, undef, undef, undef, undef, undef, undef, undef, e64, e65, e66, e67, e68, e69, e70, e71, e72, undef, undef, undef, undef, undef, undef, undef, undef, undef, undef, undef, undef, undef, undef, undef, undef, undef, undef, undef, undef, undef, undef, undef, undef, undef, undef, undef, undef, undef, undef, undef, undef, undef, e106, undef, undef, undef, undef, undef, undef, undef, undef, undef] (rs.map markD)).resolve_right (fun z => z rfl)
          rw [e1]
          have e2 : ∀ (t : Array Value) (d : List Deferred), t.getD 17 undef = .pointer (some ⟨V.heap.size, 0, none⟩) → kOf17 { tmps := t, defers := d } (V.alloc (.cells #[.int .i64 ((k : Int) + 1)] 3)) = k + 1 := fun t d ht => by
            unfold kOf17
            simp only [ht, (CB.new V 3 #[.int .i64 ((k : Int) + 1)]).cell 0]
            simp
            try omega
          rw [e2 _ _ rfl]
          omega
        case stop =>
          rintro c pre G V _ _ h _ _
          exact h.elim
      · have t1 : decide ((k : Int) < n9) = false := by simp; omega
        have hlt' : ¬ (k : Int) < n9 := by omega
        have hkn : k = n9 := by omega
        have hnn2 : (turnS D D' k : Int) ≤ ni := by rw [hkn]; exact HNN.out
        obtain ⟨tt, htt⟩ : ∃ tt : Int, (turnS D D' k : Int) = tt := ⟨_, rfl⟩
        have mm0 := HI.out.bm.cell 0
        rw [htt] at hnn2 mm0
        have dle : decide (tt ≤ ni) = true := decide_eq_true hnn2
        have dle2 : decide (ni ≤ (n9 : Int)) = true := decide_eq_true hnl
        clear hkn htt
        go_wp2
        refine wp_region_noPanic ?_
        refine wp_region_last_drew (S := (fun W' => CB W' kb 3 #[.int .i64 k] ∧ DiAt W' p q b c D')) [] (by kernel_rfl) ⟨HI.out.bk.drew, HI.out.low.di.drew⟩ (fun hHeld => ?_)
        (try simp only [Array.replicate_succ, Array.replicate_zero, List.push_toArray, List.nil_append, List.cons_append])
        refine wpAnyF_take (i := 0) (v := ?_) (by kernel_rfl) (by kernel_rfl) rfl (by kernel_rfl) (by kernel_rfl) (by kernel_rfl) (fun _ _ _ h => h) (Or.inl ⟨by rfl, ?_⟩) (by assumption) ?_
        rotate_left
        · intro w' hSw; (try dsimp only at hSw); have k0 := hSw.1.cell 0; go_simp; (try with_reducible rfl)
        (try simp only [Act.put, List.getElem_toArray, List.getElem_cons_zero, List.setIfInBounds_toArray, List.set_cons_zero, List.set_cons_succ])
        refine wpAnyF_take (i := 1) (v := ?_) (by kernel_rfl) (by kernel_rfl) rfl (by kernel_rfl) (by kernel_rfl) (by kernel_rfl) (fun _ _ _ h => h) (Or.inl ⟨by rfl, ?_⟩) (by assumption) ?_
        rotate_left
        · intro w' hSw; (try dsimp only at hSw); have k0 := hSw.1.cell 0; go_simp; (try with_reducible rfl)
        (try simp only [Act.put, List.getElem_toArray, List.getElem_cons_zero, List.getElem_cons_succ, List.setIfInBounds_toArray, List.set_cons_zero, List.set_cons_succ])
        refine wpAnyF_ready (rs := [2]) (by kernel_rfl) (by simp) ?_
        refine AllReadyF.cons rfl (fun KK hKK => ?_) AllReadyF.nil
        go_simp
        ((with_reducible refine (CO.out _ hHeld.2).mono ?_); rintro e' w15 ⟨rfl, rfl⟩)
        (try go_simp)
        refine hKK.out _ _ hHeld (fun hHeld => ?_)
        clear hKK KK
        (try simp only [Act.put, List.getElem_toArray, List.getElem_cons_zero, List.getElem_cons_succ, List.setIfInBounds_toArray, List.set_cons_zero, List.set_cons_succ])
        refine wpAnyF_take (i := 3) (v := ?_) (by kernel_rfl) (by kernel_rfl) rfl (by kernel_rfl) (by kernel_rfl) (by kernel_rfl) (fun _ _ _ h => h) (Or.inl ⟨by rfl, ?_⟩) (by assumption) ?_
        rotate_left
        · intro w' hSw; (try dsimp only at hSw); have k0 := hSw.1.cell 0; go_simp; (try with_reducible rfl)
        (try simp only [Act.put, List.getElem_toArray, List.getElem_cons_zero, List.getElem_cons_succ, List.setIfInBounds_toArray, List.set_cons_zero, List.set_cons_succ])
        refine wpAnyF_done (by kernel_rfl) ?_ _
        refine NoPanic.normal ?_
        have hrb := HID.out.low.rb
        have rb0 := HI.out.low.rb.cell 0
        have rbf := HI.out.low.rb.frozen
        have HDD := hi HID.out.low.di
        clear hHeld
        go_wp2_with (go_at_call 21; ((with_reducible refine (CO.out _ HDD.out).mono ?_); rintro e w9 ⟨rfl, rfl⟩))
        have hlw : w.heap.size + 1 + 1 < mb := by have := HID.out.low.lp; have := HID.out.low.qp; have := HID.out.qm; have := HID.out.low.di.rng 0 (by omega); have := HID.out.low.dc.rng 0 (by omega); omega
        refine leaves_marks rs (mb + 1) (W.drew.setCell ⟨w.heap.size + 1 + 1, 0, none⟩ (.bool true)) (by rw [World.size_setCell]; exact HID.out.bm.lt) (HID.out.ms.heap (fun r hr => Below.heap_setCell _ ⟨w.heap.size + 1 + 1, 0, none⟩ (.bool true) r (by have := (HID.out.ms.2 r hr).1; show r ≠ w.heap.size + 1 + 1; omega))) (fun W' hb hn => ?_)
        exact ⟨_, results_cellb rfl _ _ (w.heap.size + 1 + 1) true rfl ((hrb.set 0 (.bool true)).heap (hb.block _ (by omega))), rfl, (HID.out.low.below.setCell (p := ⟨w.heap.size + 1 + 1, 0, none⟩) (show w.heap.size ≤ w.heap.size + 1 + 1 by omega) (.bool true)).trans (hb.mono (by omega))⟩
  · have hcd : callDV D fr g vv = ((D, 0), 130) := by unfold callDV; rw [if_neg hh]
    rw [hcd] at CL
    dsimp only at CL
    have CO := hi (fun W (z : DiAt W p q b c D) => show Calls Tryz.prog 21 #[.pointer (some ⟨b 0, 0, none⟩)] W fun e w' => e = .returned (.int .i64 n9) ∧ W = w' from by rw [← hn9]; exact cores_any z)
    (with_reducible refine CL.out.mono ?_)
    rintro e w5 ⟨rfl, hA⟩
    have hrb := HR3.out.keptB hA.kept (fun z => by have := z.1; have := HLP.out; omega)
    have rb0 := hrb.cell 0
    have rbf := hrb.frozen
    have HRB := hi hrb
    have HDI := hi hA.di
    have HBB := hi (HB4.out.trans (hA.kept.toBelow HB4.out.size (fun i z => by have := z.1; have := HLP.out; omega)))
    have hh2 : ¬ (0 ≤ fr ∧ fr < n9) := by simpa [hasN, hn9] using hh
    clear hA hrb hcd hh CL CPY HD HDC HDD HBC HR3 HG3 HV3 HB4 HR1 HG1 HV1 HB0 HG0 HV0 HR0 HP HLP HB1 HQ cb0 gg0 vv0 hok hn9
    by_cases hneg : fr < 0
    · have dn : decide (fr < 0) = true := decide_eq_true hneg
      clear hh2
      go_wp2
      exact ⟨_, results_cellb rfl _ _ (w.heap.size + 1 + 1) true rfl (HRB.out.set 0 (.bool true)), rfl, HBB.out.setCell (p := ⟨w.heap.size + 1 + 1, 0, none⟩) (show w.heap.size ≤ w.heap.size + 1 + 1 by omega) _⟩
    · have dn : decide (fr < 0) = false := decide_eq_false hneg
      have hge : (n9 : Int) ≤ fr := by omega
      clear hh2
      have dge : decide ((n9 : Int) ≤ fr) = true := decide_eq_true hge
      go_wp2_with (go_at_call 21; ((with_reducible refine (CO.out _ HDI.out).mono ?_); rintro e w9 ⟨rfl, rfl⟩))
      exact ⟨_, results_cellb rfl _ _ (w.heap.size + 1 + 1) true rfl (HRB.out.set 0 (.bool true)), rfl, HBB.out.setCell (p := ⟨w.heap.size + 1 + 1, 0, none⟩) (show w.heap.size ≤ w.heap.size + 1 + 1 by omega) _⟩
end Go.Proofs.YtggeakkofcaklaaGreat
