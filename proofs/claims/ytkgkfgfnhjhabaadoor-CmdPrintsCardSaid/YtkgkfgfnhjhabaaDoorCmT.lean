/-
  Package cmd: Parse at every string.
-/
import Derived.Test.YtkgkfgfnhjhabaaDoorCmJ
import Derived.Test.YtkgkfgfnhjhabaaDoorCmS
namespace Go.Proofs.YtkgkfgfnhjhabaaDoor
open Go.ChangeShapes Go.WideShapes Go.ChangeAt Go.RowKit Go.Shelf
set_option linter.unusedVariables false
set_option linter.unusedSimpArgs false
attribute [local go_sem] Oper.semAt_some

theorem opOf_cases (nm : List UInt8) : opOf nm = 0 ∨ known (opOf nm) = true := by
  unfold opOf
  repeat' split
  all_goals first | exact .inl rfl | exact .inr (by decide)
theorem kop_opOf (nm : List UInt8) : kop (opOf nm) = opOf nm := by
  rcases opOf_cases nm with h | h
  · rw [h]; decide
  · exact kop_yes h
theorem parse_len : ∀ (L : List Nat) (s : Ns × List UInt8), (L.foldl parseS s).2.length ≤ s.2.length
  | [], s => Nat.le_refl _
  | x :: L, s => Nat.le_trans (parse_len L (parseS s x)) (tailL_len s.2)
theorem parseN_len (t : List UInt8) (L : List Nat) : (parseN t L).2.length ≤ t.length := parse_len L (_, t)
theorem ba_size (l : List UInt8) : (⟨l.toArray⟩ : ByteArray).size = l.length := by simp [ByteArray.size]

/-- What Parse keeps through its loop. -/
structure PaI (w : World) (Q P : Nat) (o : Int) (nm : ByteArray) (hs : Int) (ns : Ns) (rest : ByteArray) (V : World) : Prop where
  s : CB V Q 9 #[.string rest]
  k : CB V P 71 (Kd.cs o nm hs)
  n : CB V (P + 1) 73 (Ns.cs ns)
  r : CB V w.heap.size 24 Cm.zero.cs
  below : Below w.heap.size w V
theorem PaI.later {w : World} {Q P : Nat} {o : Int} {nm : ByteArray} {hs : Int} {ns : Ns} {rest : ByteArray} {V V' : World} (h : PaI w Q P o nm hs ns rest V) (k : Below V.heap.size V V') : PaI w Q P o nm hs ns rest V' := ⟨h.s.below k, h.k.below k, h.n.below k, h.r.below k, h.below.trans (k.mono h.below.size)⟩
theorem PaI.abl {w : World} {Q P B : Nat} {o : Int} {nm : ByteArray} {hs : Int} {ns : List Nat → Ns} {rest : List Nat → ByteArray} (hq : Q < B) (hp : P + 1 < B) (hw : w.heap.size < B) : AbL B 0 (fun pre V => PaI w Q P o nm hs (ns pre) (rest pre) V) := fun s A A' row h hg hr => by
  have ne : ∀ b, b < B → some b ≠ row := fun b hb e => by rcases hr b e.symm with ⟨h1, _⟩ | ⟨h1, h2⟩ <;> omega
  exact ⟨h.s.kept hg (ne _ (by omega)), h.k.kept hg (ne _ (by omega)), h.n.kept hg (ne _ (by omega)), h.r.kept hg (ne _ (by omega)), h.below.grown hg h.below.size (fun r e => by rcases hr r e with ⟨h1, _⟩ | ⟨h1, h2⟩ <;> omega)⟩
theorem PaI.putS {w : World} {Q P : Nat} {o : Int} {nm : ByteArray} {hs : Int} {ns : Ns} {rest rest' : ByteArray} {V : World} (h : PaI w Q P o nm hs ns rest V) (hw : w.heap.size < Q) (hq : Q < P) : PaI w Q P o nm hs ns rest' (V.setCell ⟨Q, 0, none⟩ (.string rest')) :=
  ⟨h.s.set 0 _, h.k.other _ _ _ (by omega), h.n.other _ _ _ (by omega), h.r.other _ _ _ (by omega), below_set h.below (by omega) _⟩
theorem PaI.putN {w : World} {Q P : Nat} {o : Int} {nm : ByteArray} {hs : Int} {ns : Ns} {rest : ByteArray} {V : World} (h : PaI w Q P o nm hs ns rest V) (hw : w.heap.size < Q) (hq : Q < P) {x : Nat} (hx : x < 9) (v : Int) : PaI w Q P o nm hs (upd ns x v) rest (V.setCell ⟨P + 1, x, none⟩ (.int .i64 v)) :=
  ⟨h.s.other _ _ _ (by omega), h.k.other _ _ _ (by omega), by rw [← ns_set _ hx]; exact h.n.set x _, h.r.other _ _ _ (by omega), below_set h.below (by omega) _⟩

set_option maxRecDepth 100000 in
set_option maxHeartbeats 4000000 in
theorem parse_any (s : ByteArray) (hlim : s.size ≤ 281474976710656) (w : World) (hT : TabW w) (hE : ErrW w) : Calls Tryd.prog 28 #[.string s] w fun e w' => e = .returned (.tuple #[(parR s.data.toList).v, .int .i64 (errN (parOk s.data.toList))]) ∧ Below w.heap.size w w' := by
  obtain ⟨l, hl⟩ : ∃ l, s.data.toList = l := ⟨_, rfl⟩
  have hll : l.length ≤ 281474976710656 := by rw [← hl, ← Lib.size_eq]; exact hlim
  have hsl : s = ⟨l.toArray⟩ := by have h := (ba_mk s).symm; rw [hl] at h; exact h
  have HCT := hi (fun W => cut_any s hlim W)
  rw [hl] at HCT ⊢
  obtain ⟨hd, hhd⟩ : ∃ hd : ByteArray, ⟨(headL l).toArray⟩ = hd := ⟨_, rfl⟩
  obtain ⟨tl, htl⟩ : ∃ tl : ByteArray, ⟨(tailL l).toArray⟩ = tl := ⟨_, rfl⟩
  rw [hhd, htl] at HCT
  have hdl : hd.data.toList = headL l := by rw [← hhd]
  have HBY := hi (fun W => byName_any hd W)
  rw [hdl] at HBY
  have hkk := kop_opOf (headL l)
  have hD0 : parC l = joinC (opOf (headL l)) (parseN (tailL l) (fieldsL (opOf (headL l)))).1 := rfl
  obtain ⟨op, hop⟩ : ∃ op, opOf (headL l) = op := ⟨_, rfl⟩
  rw [hop] at HBY hkk hD0
  have HAL := hi (fun W => all_any (kop op) (nmB op) (hasN op) W)
  rw [← hkk] at hD0
  have HO0 := hi hkk
  rw [show joinC (kop op) (parseN (tailL l) (fieldsL (kop op))).1 = joinC (kop op) (parseN (tailL l) (fieldsL op)).1 by rw [hkk]] at hD0
  obtain ⟨o, ho⟩ : ∃ o, kop op = o := ⟨_, rfl⟩
  obtain ⟨nm, hnm⟩ : ∃ nm, nmB op = nm := ⟨_, rfl⟩
  obtain ⟨hs, hhs⟩ : ∃ hs, hasN op = hs := ⟨_, rfl⟩
  obtain ⟨kn, hkn⟩ : ∃ kn, known op = kn := ⟨_, rfl⟩
  rw [ho, hnm, hhs] at HBY HAL
  rw [hkn] at HBY
  rw [ho] at hD0
  have HO := hi (And.intro ho (And.intro hnm hhs))
  obtain ⟨L, hL⟩ : ∃ L, fieldsL op = L := ⟨_, rfl⟩
  rw [hL] at hD0
  have HL := hi hL
  obtain ⟨t, ht⟩ : ∃ t, tailL l = t := ⟨_, rfl⟩
  rw [ht] at hD0
  have htll : t.length ≤ 281474976710656 := by rw [← ht]; exact Nat.le_trans (tailL_len l) hll
  have HTL := hi (And.intro htll (show tl = ⟨t.toArray⟩ by rw [← htl, ht]))
  have HJ := hi (fun W => join_any o nm hs (parseN t L).1 W)
  rw [← hD0] at HJ
  have hba : i64B (parC l).addr := by rw [hD0]; exact wrap64_b _
  have HEN := hi (fun W hW => print_any (parC l) hba W hW)
  have HR := hi (show parR l = if parOk l = true then parC l else Cm.zero from rfl)
  have HK := hi (show parOk l = (validC (parC l) && decide (textC (parC l) = l)) from rfl)
  have HEW := hi (show validC (parC l) = true → (txB (parC l)) = ⟨(textC (parC l)).toArray⟩ from fun h => by rw [txB, if_pos h])
  obtain ⟨dr, hdr⟩ : ∃ dr, parR l = dr := ⟨_, rfl⟩
  obtain ⟨dk, hdk⟩ : ∃ dk, parOk l = dk := ⟨_, rfl⟩
  obtain ⟨D, hD⟩ : ∃ D, parC l = D := ⟨_, rfl⟩
  obtain ⟨vd, hvd⟩ : ∃ vd, validC D = vd := ⟨_, rfl⟩
  obtain ⟨en, hen⟩ : ∃ en, txB D = en := ⟨_, rfl⟩
  rw [hdr, hdk]
  rw [hD] at HJ HEN HR HK HEW
  rw [hdr, hdk] at HR
  rw [hdk] at HK
  rw [hvd] at HEN HK HEW
  rw [hen] at HEN HEW
  have HSL := hi hsl
  have HTW := hi hT
  have HER := hi hE
  clear hl hll hsl hhd htl hdl hkk hD0 hop ho hnm hhs hkn hL ht htll hba hdr hdk hD hvd hen hT hE
  obtain ⟨d1, d2, d3, d4, d5, d6, d7, d8, d9⟩ := D
  dsimp only [Cm.v] at HJ HEN ⊢
  refine (callsIn_wide (n := 6)).1 ?_
  refine callsIn_of_wp_marks Tryd.func28 rfl trivial ?_ rfl
  simp only [Tryd.ntmps28, List.size_toArray, List.length_cons, List.length_nil, Nat.reduceAdd, Nat.reduceSub, Array.replicate_succ, Array.replicate_zero, List.push_toArray, List.append_toArray, List.nil_append, List.cons_append]
  refine wpIn_wide.2 ?_
  go_wp2_with (first
    | (go_at_call 53; ((with_reducible refine (HCT.out _).mono ?_); rintro e w1 ⟨⟨b1, rfl⟩, hb1⟩; have HC0 := hi ((CB.new w 24 Cm.zero.cs).below hb1); have HB1 := hi ((bal w (.cells Cm.zero.cs 24)).trans (hb1.mono (by simp))); have hlt : w.heap.size < w1.heap.size := HC0.out.lt; clear hb1))
    | (go_at_call 54; ((with_reducible refine (HBY.out _).mono ?_); rintro e w2 ⟨rfl, hb2⟩; have HB2 := hi hb2; have hlt2 : w1.heap.size < w2.heap.size := ((CB.new w1 9 #[.string tl]).below hb2).lt; clear hb2))
    | (go_at_call 31; ((with_reducible refine (HAL.out _).mono ?_); rintro e w3 ⟨rfl, rfl⟩)))
  obtain ⟨W3, hW3⟩ : ∃ W3, ((w2.alloc (.cells (Kd.cs o nm hs) 71)).alloc (.cells (Ns.cs nz) 73)).alloc (.cells (Kd.cs o nm hs) 71) = W3 := ⟨_, rfl⟩
  have hz3 : W3.heap.size = w2.heap.size + 3 := by rw [← hW3]; simp
  have H3 : PaI w w1.heap.size w2.heap.size o nm hs nz tl W3 ∧ CB W3 (w2.heap.size + 1 + 1) 71 (Kd.cs o nm hs) := by
    rw [← hW3]
    have b3 := bal_three w2 (.cells (Kd.cs o nm hs) 71) (.cells (Ns.cs nz) 73) (.cells (Kd.cs o nm hs) 71)
    have k1 := (CB.new w1 9 #[.string tl]).below HB2.out
    have k2 := (HC0.out.alloc (.cells #[.string tl] 9)).below HB2.out
    have b1 : Below w.heap.size w w2 := (HB1.out.alloc HB1.out.size _).trans (HB2.out.mono (by have := HB1.out.size; simp; omega))
    exact ⟨⟨k1.below b3, ((CB.new w2 _ _).alloc _).alloc _, cb_second.alloc _, k2.below b3, b1.trans (b3.mono b1.size)⟩, cb_third⟩
  have HW3 := hi hW3
  clear hW3
  change Code.wp _ _ _ _ (((w2.alloc (.cells (Kd.cs o nm hs) 71)).alloc (.cells (Ns.cs nz) 73)).alloc (.cells (Kd.cs o nm hs) 71))
  rw [HW3.out]
  have hst := all_stops (w2.heap.size + 1 + 1) op W3 (by have := H3.2; unfold kdBox; rw [HO.out.1, HO.out.2.1, HO.out.2.2]; exact this)
  have H3 := hi H3.1
  rw [HL.out] at hst
  have HL9 := hi (fun x (hx : x ∈ L) => fieldsL_lt op x (by rw [HL.out]; exact hx))
  refine (wpIn_wide (n := 6)).1 ?_
  refine range_win (n := 6) (by omega) (gf := 60) (lb := #[.pointer (some ⟨w2.heap.size + 1 + 1, 0, none⟩)]) rfl (enters_of Tryd.func60 (by kernel_rfl) rfl)
    hst (fun a b => Stays.trans a b) (fun W l o o' h1 h2 h3 h4 => stays_put (by omega)) (Below.refl _ _) (fun _ => rfl)
    (fun pre V => PaI w w1.heap.size w2.heap.size o nm hs (parseN t pre).1 ⟨(parseN t pre).2.toArray⟩ V)
    (fun cd pre V => False)
    (PaI.abl (by omega) (by omega) (by omega))
    (fun _ _ _ _ _ hs _ _ => hs)
    (by have := H3.out; rw [HTL.out.2] at this; exact this)
    (fun x a' V => a' = { tmps := #[.string s, undef, .pointer (some ⟨w.heap.size, 0, none⟩), .int .i64 0, .string hd, .pointer (some ⟨w1.heap.size, 0, none⟩), .bool b1, .pointer (some ⟨w2.heap.size, 0, none⟩), .bool kn, .pointer (some ⟨w2.heap.size + 1, 0, none⟩), .int .i64 x, undef, undef, undef, undef, .tuple #[.string hd, .string tl, .bool b1], .string s, .tuple #[.string hd, .string tl, .bool b1], .string hd, .string tl, .bool b1, .tuple #[Kd.v o nm hs, .bool kn], .string hd, .tuple #[Kd.v o nm hs, .bool kn], Kd.v o nm hs, .bool kn, .agg #[.int .i64 o, .string nm, .int .i64 hs], .func (.func 60) #[] #[.pointer (some ⟨w2.heap.size + 1 + 1, 0, none⟩)], .int .i64 x, undef, undef, undef, undef, undef, undef, undef, undef, undef, undef, undef, undef, undef, undef, undef, undef, undef, undef, undef, undef, undef, undef, undef, undef, undef, undef, undef, undef, undef, undef], defers := [] })
    (fun x a' => AbL.pure _ _ _)
    ?assign ?body ?done ?stop
  case assign =>
    rintro l' pre x V K h hsz hK
    rw [zip_one]
    gi_wp2
    exact hK _ _ (KW.refl _ _) (Stays.refl _ _ _) h rfl
  case body =>
    rintro l' pre x a' V hsz hI rfl hpx
    have hxL : x ∈ L := hpx.subset (by simp)
    have hx9 : x < 9 := HL9.out x hxL
    have hrl := parseN_len t pre
    have htt := HTL.out.1
    have hpn := parseN_snoc t pre x
    obtain ⟨ns, hns⟩ : ∃ ns, (parseN t pre).1 = ns := ⟨_, rfl⟩
    obtain ⟨rl, hrl2⟩ : ∃ rl, (parseN t pre).2 = rl := ⟨_, rfl⟩
    unfold parseS at hpn
    rw [hns, hrl2] at hpn hI
    rw [hrl2] at hrl
    obtain ⟨rb, hrb⟩ : ∃ rb : ByteArray, ⟨rl.toArray⟩ = rb := ⟨_, rfl⟩
    have hrbl : rb.data.toList = rl := by rw [← hrb]
    have hrbs : rb.size ≤ 281474976710656 := by rw [← hrb, ba_size]; omega
    have HC2 := hi (fun W => cut_any rb hrbs W)
    rw [hrbl] at HC2
    obtain ⟨hd2, hhd2⟩ : ∃ hd2 : ByteArray, ⟨(headL rl).toArray⟩ = hd2 := ⟨_, rfl⟩
    have hhs2 : hd2.size ≤ 281474976710656 := by rw [← hhd2, ba_size]; have := headL_len rl; omega
    have HAT := hi (fun W hW => atoi_any hd2 hhs2 W hW)
    rw [show hd2.data.toList = headL rl by rw [← hhd2]] at HAT
    obtain ⟨tl2, htl2⟩ : ∃ tl2 : ByteArray, ⟨(tailL rl).toArray⟩ = tl2 := ⟨_, rfl⟩
    rw [hhd2, htl2] at HC2
    obtain ⟨v, hv⟩ : ∃ v, atoiV (headL rl) = v := ⟨_, rfl⟩
    rw [hv] at HAT
    have HNX := hi (show (parseN t (pre ++ [x])).1 = upd ns x v ∧ (⟨(parseN t (pre ++ [x])).2.toArray⟩ : ByteArray) = tl2 by rw [hpn, hv]; exact ⟨rfl, htl2⟩)
    rw [hrb] at hI
    have HI := hi hI
    have HX := hi hx9
    have q0 := hI.s.cell 0
    have x1 : (x : Int) < 9 := by omega
    have hwz : w2.heap.size + 1 < V.heap.size := by omega
    clear hI hpx hxL hx9 hrl htt hpn hns hrl2 hrb hrbl hrbs hhd2 hhs2 htl2 hv
    gi_wp2_with (first
      | (refine ⟨trivial, ?_⟩; gi_at_call 53; ((with_reducible refine (CallsIn.inRound l' (callsIn_wide.2 (HC2.out _))).mono ?_); rintro e' w5 ⟨⟨b5, rfl⟩, hb5⟩; have HB5 := hi hb5; have HI5 := hi (HI.out.later hb5); have HI6 := hi (HI5.out.putS (rest' := tl2) hlt hlt2); have sc := HI5.out.s.cell 0; have sf := HI5.out.s.frozen; have hv5 : V.heap.size ≤ w5.heap.size := hb5.size; clear hb5))
      | (refine ⟨trivial, ?_⟩; gi_at_call 55; ((with_reducible refine (CallsIn.inRound l' (callsIn_wide.2 (HAT.out _ (HER.out.below HI6.out.below)))).mono ?_); rintro e' w6 ⟨⟨v6, rfl⟩, hb6⟩; have HB6 := hi hb6; have HI7 := hi (HI6.out.later hb6); have nc := HI7.out.n.ns HX.out; have nf := HI7.out.n.frozen; clear hb6 sc sf))
      | gi_in)
    refine ⟨(((KW.of_below HB5.out).trans (KW.set _ _ _)).trans (KW.of_below HB6.out)).trans (KW.set _ _ _), (((Stays.below HB5.out (by omega)).trans (stays_set (by omega))).trans (Stays.below HB6.out (by simp; omega))).trans (stays_set (by omega)), ?_⟩
    show PaI w w1.heap.size w2.heap.size o nm hs (parseN t (pre ++ [x])).1 ⟨(parseN t (pre ++ [x])).2.toArray⟩ _
    rw [HNX.out.1, HNX.out.2]
    exact HI7.out.putN hlt hlt2 HX.out v
  case done =>
    rintro ys V rfl hI hK hs2
    obtain ⟨ow, how⟩ : ∃ ow, (parseN t ys).1 = ow := ⟨_, rfl⟩
    rw [how] at hI HJ
    obtain ⟨k0, k1, k2⟩ := hI.k.three
    obtain ⟨n0, n1, n2, n3, n4, n5, n6, n7, n8⟩ := CB.nine hI.n
    have HI := hi hI
    have HDM := hi hK
    have hzv : w.heap.size < V.heap.size := by omega
    clear hI hK how
    have hb0 : w2.heap.size < W3.heap.size := by omega
    have hzw : w.heap.size < W3.heap.size := by omega
    cases vd
    · have hdk : dk = false := by have := HK.out; simpa using this
      subst hdk
      have hdr : dr = Cm.zero := by have := HR.out; simpa using this
      subst hdr
      rw [show errN false = 160 from rfl] at HEN
      clear HK HR HEW
      go_wp2_with (first
        | (go_at_call 36; ((with_reducible refine (HJ.out _).mono ?_); rintro e7 w7 ⟨rfl, hb7⟩; have HI7 := hi (HI.out.later hb7); have HM7 := hi ((hb7.block _ (Array.getElem?_eq_some_iff.1 HDM.out).1).trans HDM.out); have hz7 : V.heap.size ≤ w7.heap.size := hb7.size; clear hb7))
        | (go_at_call 26; ((with_reducible refine (HEN.out _ (HTW.out.below (HI7.out.below.alloc HI7.out.below.size _))).mono ?_); rintro e8 w8 ⟨rfl, hb8⟩; have hbe := (bal w7 (.cells (Cm.cs ⟨d1, d2, d3, d4, d5, d6, d7, d8, d9⟩) 24)).trans (hb8.mono (by simp)); have HI8 := hi (HI7.out.later hbe); have HM8 := hi ((hbe.block _ (Array.getElem?_eq_some_iff.1 HM7.out).1).trans HM7.out); obtain ⟨r0, r1, r2, r3, r4, r5, r6, r7, r8⟩ := CB.nine HI8.out.r; have rf := HI8.out.r.frozen; have hnd := (CB.new w7 24 (Cm.cs ⟨d1, d2, d3, d4, d5, d6, d7, d8, d9⟩)).below hb8; obtain ⟨e0, e1, e2, e3, e4, e5, e6, e7, e8⟩ := CB.nine hnd; have hz8 : w7.heap.size < w8.heap.size := hnd.lt; have hz9 : w.heap.size < w8.heap.size := HI8.out.r.lt; clear hnd hb8 hbe)))
      have hDM : (set9 w8 w.heap.size (.int .i64 0) (.int .i64 0) (.int .i64 0) (.int .i64 0) (.int .i64 0) (.int .i64 0) (.int .i64 0) (.int .i64 0) (.bool false)).heap[W3.heap.size]? = some (.deferred (some [])) := by
        have h1 := HM8.out
        rw [heap_set9 _ _ _ _ _ _ _ _ _ _ _ _ (by omega)]
        exact h1
      rw [hz3] at hDM
      refine ⟨by simp, .inl ⟨_, _, rfl, run_takeDeferred hDM, ?_⟩⟩
      exact ⟨_, results_cmt rfl _ _ w.heap.size _ _ _ _ _ _ _ _ _ _ rfl rfl (CB.putO (by omega) (CB.set9 HI8.out.r _ _ _ _ _ _ _ _ _)), rfl, below_put (below_set9 HI8.out.below (Nat.le_refl _) _ _ _ _ _ _ _ _ _) _ (by simp; omega) (by omega)⟩
    · have hew := HEW.out rfl
      have hdk := HK.out
      rw [Bool.true_and] at hdk
      rw [show errN true = 0 from rfl] at HEN
      have hdr := HR.out
      have hsl := HSL.out
      by_cases hq : textC ⟨d1, d2, d3, d4, d5, d6, d7, d8, d9⟩ = l
      · have hdk2 : dk = true := by rw [hdk]; simpa using hq
        have hes : en = s := by rw [hew, hsl, hq]
        subst hdk2 hes
        have hdr2 : dr = ⟨d1, d2, d3, d4, d5, d6, d7, d8, d9⟩ := by simpa using hdr
        subst hdr2
        clear hdr hdk hew hsl hq HK HR HEW
        go_wp2_with (first
          | (go_at_call 36; ((with_reducible refine (HJ.out _).mono ?_); rintro e7 w7 ⟨rfl, hb7⟩; have HI7 := hi (HI.out.later hb7); have HM7 := hi ((hb7.block _ (Array.getElem?_eq_some_iff.1 HDM.out).1).trans HDM.out); have hz7 : V.heap.size ≤ w7.heap.size := hb7.size; clear hb7))
          | (go_at_call 26; ((with_reducible refine (HEN.out _ (HTW.out.below (HI7.out.below.alloc HI7.out.below.size _))).mono ?_); rintro e8 w8 ⟨rfl, hb8⟩; have hbe := (bal w7 (.cells (Cm.cs ⟨d1, d2, d3, d4, d5, d6, d7, d8, d9⟩) 24)).trans (hb8.mono (by simp)); have HI8 := hi (HI7.out.later hbe); have HM8 := hi ((hbe.block _ (Array.getElem?_eq_some_iff.1 HM7.out).1).trans HM7.out); obtain ⟨r0, r1, r2, r3, r4, r5, r6, r7, r8⟩ := CB.nine HI8.out.r; have rf := HI8.out.r.frozen; have hnd := (CB.new w7 24 (Cm.cs ⟨d1, d2, d3, d4, d5, d6, d7, d8, d9⟩)).below hb8; obtain ⟨e0, e1, e2, e3, e4, e5, e6, e7, e8⟩ := CB.nine hnd; have hz8 : w7.heap.size < w8.heap.size := hnd.lt; have hz9 : w.heap.size < w8.heap.size := HI8.out.r.lt; clear hnd hb8 hbe)))
        have hDM : (set9 w8 w.heap.size (.int .i64 d1) (.int .i64 d2) (.int .i64 d3) (.int .i64 d4) (.int .i64 d5) (.int .i64 d6) (.int .i64 d7) (.int .i64 d8) (.bool d9)).heap[W3.heap.size]? = some (.deferred (some [])) := by
          have h1 := HM8.out
          rw [heap_set9 _ _ _ _ _ _ _ _ _ _ _ _ (by omega)]
          exact h1
        rw [hz3] at hDM
        refine ⟨by simp, .inl ⟨_, _, rfl, run_takeDeferred hDM, ?_⟩⟩
        exact ⟨_, results_cmt rfl _ _ w.heap.size _ _ _ _ _ _ _ _ _ _ rfl rfl (CB.putO (by omega) (CB.set9 HI8.out.r _ _ _ _ _ _ _ _ _)), rfl, below_put (below_set9 HI8.out.below (Nat.le_refl _) _ _ _ _ _ _ _ _ _) _ (by simp; omega) (by omega)⟩
      · have hdk2 : dk = false := by rw [hdk]; simpa using hq
        have hne : (en.toList == s.toList) = false := by
          rw [beq_eq_false_iff_ne, ByteArray.toList_eq, ByteArray.toList_eq, hew, hsl]
          exact hq
        subst hdk2
        have hdr2 : dr = Cm.zero := by simpa using hdr
        subst hdr2
        clear hdr hdk hew hsl hq HK HR HEW
        go_wp2_with (first
          | (go_at_call 36; ((with_reducible refine (HJ.out _).mono ?_); rintro e7 w7 ⟨rfl, hb7⟩; have HI7 := hi (HI.out.later hb7); have HM7 := hi ((hb7.block _ (Array.getElem?_eq_some_iff.1 HDM.out).1).trans HDM.out); have hz7 : V.heap.size ≤ w7.heap.size := hb7.size; clear hb7))
          | (go_at_call 26; ((with_reducible refine (HEN.out _ (HTW.out.below (HI7.out.below.alloc HI7.out.below.size _))).mono ?_); rintro e8 w8 ⟨rfl, hb8⟩; have hbe := (bal w7 (.cells (Cm.cs ⟨d1, d2, d3, d4, d5, d6, d7, d8, d9⟩) 24)).trans (hb8.mono (by simp)); have HI8 := hi (HI7.out.later hbe); have HM8 := hi ((hbe.block _ (Array.getElem?_eq_some_iff.1 HM7.out).1).trans HM7.out); obtain ⟨r0, r1, r2, r3, r4, r5, r6, r7, r8⟩ := CB.nine HI8.out.r; have rf := HI8.out.r.frozen; have hnd := (CB.new w7 24 (Cm.cs ⟨d1, d2, d3, d4, d5, d6, d7, d8, d9⟩)).below hb8; obtain ⟨e0, e1, e2, e3, e4, e5, e6, e7, e8⟩ := CB.nine hnd; have hz8 : w7.heap.size < w8.heap.size := hnd.lt; have hz9 : w.heap.size < w8.heap.size := HI8.out.r.lt; clear hnd hb8 hbe)))
        have hDM : (set9 w8 w.heap.size (.int .i64 0) (.int .i64 0) (.int .i64 0) (.int .i64 0) (.int .i64 0) (.int .i64 0) (.int .i64 0) (.int .i64 0) (.bool false)).heap[W3.heap.size]? = some (.deferred (some [])) := by
          have h1 := HM8.out
          rw [heap_set9 _ _ _ _ _ _ _ _ _ _ _ _ (by omega)]
          exact h1
        rw [hz3] at hDM
        refine ⟨by simp, .inl ⟨_, _, rfl, run_takeDeferred hDM, ?_⟩⟩
        exact ⟨_, results_cmt rfl _ _ w.heap.size _ _ _ _ _ _ _ _ _ _ rfl rfl (CB.putO (by omega) (CB.set9 HI8.out.r _ _ _ _ _ _ _ _ _)), rfl, below_put (below_set9 HI8.out.below (Nat.le_refl _) _ _ _ _ _ _ _ _ _) _ (by simp; omega) (by omega)⟩
  case stop =>
    rintro cd pre V hpre h _ _
    exact h.elim

end Go.Proofs.YtkgkfgfnhjhabaaDoor
