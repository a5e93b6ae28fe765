/-
  Package cmd: Decode at every call.
-/
import Derived.Test.YtfnokpajendlmaaCmG
namespace Go.Proofs.Ytfnokpajendlmaa
open Go.ChangeShapes Go.WideShapes Go.ChangeAt Go.RowKit Go.Shelf
set_option linter.unusedVariables false
set_option linter.unusedSimpArgs false
attribute [local go_sem] Oper.semAt_some
attribute [local go_sem high] eql_w neq_w guard_w

theorem u64_and_nat {a b : Nat} (ha : a < 18446744073709551616) (hb : b < 18446744073709551616) : bits .and .u64 (a : Int) (b : Int) = ((a &&& b : Nat) : Int) := by
  show IntKind.u64.wrap ((BitVec.ofInt 64 (a : Int) &&& BitVec.ofInt 64 (b : Int)).toNat : Int) = _
  have e : (BitVec.ofInt 64 (a : Int) &&& BitVec.ofInt 64 (b : Int)).toNat = a &&& b := by
    rw [BitVec.toNat_and, BitVec.ofInt_natCast, BitVec.ofInt_natCast, BitVec.toNat_ofNat, BitVec.toNat_ofNat, Nat.mod_eq_of_lt (show a < 2 ^ 64 by omega), Nat.mod_eq_of_lt (show b < 2 ^ 64 by omega)]
  have : a &&& b ≤ a := Nat.and_le_left
  rw [e, IntKind.wrap_u64]; omega
theorem and_pr (a x : Nat) (hx : x < 9) : a &&& (pr x - 1) = a % pr x := by
  have : x = 0 ∨ x = 1 ∨ x = 2 ∨ x = 3 ∨ x = 4 ∨ x = 5 ∨ x = 6 ∨ x = 7 ∨ x = 8 := by omega
  rcases this with rfl | rfl | rfl | rfl | rfl | rfl | rfl | rfl | rfl
  all_goals first
    | exact Nat.and_two_pow_sub_one_eq_mod a 32
    | exact Nat.and_two_pow_sub_one_eq_mod a 16
    | exact Nat.and_two_pow_sub_one_eq_mod a 5
    | exact Nat.and_two_pow_sub_one_eq_mod a 40
    | exact Nat.and_two_pow_sub_one_eq_mod a 1
theorem pr_le (x : Nat) (hx : x < 9) : 1 ≤ pr x ∧ pr x ≤ 1099511627776 := by
  have : x = 0 ∨ x = 1 ∨ x = 2 ∨ x = 3 ∨ x = 4 ∨ x = 5 ∨ x = 6 ∨ x = 7 ∨ x = 8 := by omega
  rcases this with rfl | rfl | rfl | rfl | rfl | rfl | rfl | rfl | rfl <;> decide
theorem dec_val {x : Nat} {ws : Ws} (hx : x < 9) (hw : ws (pw x) < 18446744073709551616) :
    IntKind.i64.wrap (bits .and .u64 ((ws (pw x) : Int) / 2 ^ min (pf x) 64) (IntKind.u64.wrap ((pr x : Int) - 1))) = decN ws x := by
  have hp := pr_le x hx
  have e1 : IntKind.u64.wrap ((pr x : Int) - 1) = ((pr x - 1 : Nat) : Int) := by rw [IntKind.wrap_u64]; omega
  have e2 : (ws (pw x) : Int) / 2 ^ min (pf x) 64 = ((ws (pw x) / pm x : Nat) : Int) := by rw [pm_pow x hx]; exact (Int.natCast_ediv _ _).symm
  have h3 : ws (pw x) / pm x ≤ ws (pw x) := Nat.div_le_self _ _
  rw [e1, e2, u64_and_nat (by omega) (by omega), and_pr _ x hx, decN]
  have h4 : ws (pw x) / pm x % pr x < pr x := Nat.mod_lt _ (by omega)
  rw [IntKind.wrap_i64]; omega

/-- What Decode keeps through its loop. -/
structure DeI (w : World) (P : Nat) (o : Int) (nm : ByteArray) (hs : Int) (ws : Ws) (ns : Ns) (V : World) : Prop where
  k : CB V P 119 (Kd.cs o nm hs)
  n : CB V (P + 1) 123 (Ns.cs ns)
  b : CB V w.heap.size 94 (Ws.cs ws)
  r : CB V (w.heap.size + 1) 36 Cm.zero.cs
  below : Below w.heap.size w V
theorem DeI.later {w : World} {P : Nat} {o : Int} {nm : ByteArray} {hs : Int} {ws : Ws} {ns : Ns} {V V' : World} (h : DeI w P o nm hs ws ns V) (k : Below V.heap.size V V') : DeI w P o nm hs ws ns V' := ⟨h.k.below k, h.n.below k, h.b.below k, h.r.below k, h.below.trans (k.mono h.below.size)⟩
theorem DeI.abl {w : World} {P B : Nat} {o : Int} {nm : ByteArray} {hs : Int} {ws : Ws} {ns : List Nat → Ns} (hp : P + 1 < B) (hw : w.heap.size + 1 < B) : AbL B 0 (fun pre V => DeI w P o nm hs ws (ns pre) V) := fun s A A' row h hg hr => by
  have ne : ∀ b, b < B → some b ≠ row := fun b hb e => by rcases hr b e.symm with ⟨h1, _⟩ | ⟨h1, h2⟩ <;> omega
  exact ⟨h.k.kept hg (ne _ (by omega)), h.n.kept hg (ne _ (by omega)), h.b.kept hg (ne _ (by omega)), h.r.kept hg (ne _ (by omega)), h.below.grown hg h.below.size (fun r e => by rcases hr r e with ⟨h1, _⟩ | ⟨h1, h2⟩ <;> omega)⟩
structure DeS (w : World) (P b5 : Nat) (o : Int) (nm : ByteArray) (hs : Int) (ws : Ws) (ns : Ns) (x : Nat) (V : World) : Prop where
  p0 : V.cell? ⟨b5, 0, none⟩ = some (.int .i64 (pw x))
  p1 : V.cell? ⟨b5, 1, none⟩ = some (.int .i64 (pf x))
  p2 : V.cell? ⟨b5, 2, none⟩ = some (.int .i64 (pb x))
  wc : V.cell? ⟨w.heap.size, pw x, none⟩ = some (.int .u64 (ws (pw x)))
  j : DeI w P o nm hs ws ns V ∧ CB V b5 129 #[.int .i64 (pw x), .int .i64 (pf x), .int .i64 (pb x)]
theorem DeS.of {w : World} {P b5 : Nat} {o : Int} {nm : ByteArray} {hs : Int} {ws : Ws} {ns : Ns} {x : Nat} {V : World} (h : DeI w P o nm hs ws ns V) (k : CB V b5 129 #[.int .i64 (pw x), .int .i64 (pf x), .int .i64 (pb x)]) : DeS w P b5 o nm hs ws ns x V :=
  ⟨k.cell 0, k.cell 1, k.cell 2, h.b.ws (pw_lt x), h, k⟩
theorem DeS.later {w : World} {P b5 : Nat} {o : Int} {nm : ByteArray} {hs : Int} {ws : Ws} {ns : Ns} {x : Nat} {V V' : World} (h : DeS w P b5 o nm hs ws ns x V) (k : Below V.heap.size V V') : DeS w P b5 o nm hs ws ns x V' := DeS.of (h.j.1.later k) (h.j.2.below k)
theorem DeI.put {w : World} {P : Nat} {o : Int} {nm : ByteArray} {hs : Int} {ws : Ws} {ns : Ns} {V : World} (h : DeI w P o nm hs ws ns V) (hp : w.heap.size + 1 < P) {x : Nat} (hx : x < 9) (v : Int) : DeI w P o nm hs ws (upd ns x v) (V.setCell ⟨P + 1, x, none⟩ (.int .i64 v)) :=
  ⟨h.k.other _ _ _ (by omega), by rw [← ns_set _ hx]; exact h.n.set x _, h.b.other _ _ _ (by omega), h.r.other _ _ _ (by omega), below_set h.below (by omega) _⟩
theorem results_cmt {fn : Func} {c t : Tmp} (h : fn.results = #[.cell c 36, .tmp t]) (tmps : Array Value) (w : World) (b : Nat) (v0 v1 v2 v3 v4 v5 v6 v7 v8 v : Value) (hp : tmps.getD c undef = .pointer (some ⟨b, 0, none⟩)) (ht : tmps.getD t undef = v) (hb : CB w b 36 #[v0, v1, v2, v3, v4, v5, v6, v7, v8]) :
    (results fn tmps).run Try.prog w = .ok (.tuple #[.agg #[v0, v1, v2, v3, v4, v5, v6, v7, v8], v]) w := by
  have hp' : tmps[c]?.getD undef = .pointer (some ⟨b, 0, none⟩) := by simpa using hp
  have ht' : tmps[t]?.getD undef = v := by simpa using ht
  have c0 := hb.cell 0
  have c1 := hb.cell 1
  have c2 := hb.cell 2
  have c3 := hb.cell 3
  have c4 := hb.cell 4
  have c5 := hb.cell 5
  have c6 := hb.cell 6
  have c7 := hb.cell 7
  have c8 := hb.cell 8
  simp at c0 c1 c2 c3 c4 c5 c6 c7 c8
  simp [results, h, go_sem, hp', ht', c0, c1, c2, c3, c4, c5, c6, c7, c8]
theorem wrap64_b (n : Int) : i64B (wrap64 n) := by unfold wrap64 i64B; omega

set_option maxRecDepth 100000 in
set_option maxHeartbeats 4000000 in
theorem decode_any (ws : Ws) (hws : ∀ j, ws j < 18446744073709551616) (w : World) : Calls Try.prog 54 #[Wv ws] w fun e w' => e = .returned (.tuple #[(decR ws).v, .int .i64 (errN (decOk ws))]) ∧ Below w.heap.size w w' := by
  obtain ⟨m, hm⟩ : ∃ m, ws 0 % 256 = m := ⟨_, rfl⟩
  have hm256 : m < 256 := by omega
  have h255 : bits .and .u64 (ws 0 : Int) 255 = (m : Int) := by
    rw [show (255 : Int) = ((255 : Nat) : Int) from rfl, u64_and_nat (hws 0) (by decide), ← hm]
    congr 1
    exact Nat.and_two_pow_sub_one_eq_mod (ws 0) 8
  have HBY := hi (fun W => byOp_any (m : Int) W)
  have HAL := hi (fun W => all_any (kop m) (nmB m) (hasN m) W)
  have hopw : opW ws = (m : Int) := by rw [opW, hm]
  have hD0 : decC ws = joinC (kop m) (ownF (decN ws) (fieldsL m)) := by rw [decC, hopw]
  obtain ⟨o, ho⟩ : ∃ o, kop (m : Int) = o := ⟨_, rfl⟩
  obtain ⟨nm, hnm⟩ : ∃ nm, nmB (m : Int) = nm := ⟨_, rfl⟩
  obtain ⟨hs, hhs⟩ : ∃ hs, hasN (m : Int) = hs := ⟨_, rfl⟩
  obtain ⟨kn, hkn⟩ : ∃ kn, known (m : Int) = kn := ⟨_, rfl⟩
  rw [ho, hnm, hhs] at HBY HAL
  rw [hkn] at HBY
  rw [ho] at hD0
  have HO := hi (And.intro ho (And.intro hnm hhs))
  obtain ⟨L, hL⟩ : ∃ L, fieldsL (m : Int) = L := ⟨_, rfl⟩
  rw [hL] at hD0
  have HL := hi hL
  have HJ := hi (fun W => join_any o nm hs (ownF (decN ws) L) W)
  rw [← hD0] at HJ
  have hba : i64B (decC ws).addr := by rw [hD0]; exact wrap64_b _
  have HEN := hi (fun W => encode_any (decC ws) hba W)
  have HR := hi (show decR ws = if decOk ws = true then decC ws else Cm.zero from rfl)
  have HK := hi (show decOk ws = (validC (decC ws) && sameW (wordsC (decC ws)) ws) from rfl)
  have HEW := hi (show encW (decC ws) = if validC (decC ws) = true then wordsC (decC ws) else fun _ => 0 from rfl)
  obtain ⟨dr, hdr⟩ : ∃ dr, decR ws = dr := ⟨_, rfl⟩
  obtain ⟨dk, hdk⟩ : ∃ dk, decOk ws = dk := ⟨_, rfl⟩
  obtain ⟨D, hD⟩ : ∃ D, decC ws = D := ⟨_, rfl⟩
  obtain ⟨vd, hvd⟩ : ∃ vd, validC D = vd := ⟨_, rfl⟩
  obtain ⟨en, hen⟩ : ∃ en, encW D = en := ⟨_, rfl⟩
  rw [hdr, hdk]
  rw [hD] at HJ HEN HR HK HEW
  rw [hdr, hdk] at HR
  rw [hdk] at HK
  rw [hvd] at HEN HK HEW
  rw [hen] at HEN HEW
  have HWS := hi hws
  clear hm hopw hD0 ho hnm hhs hkn hL hba hdr hdk hD hvd hen hws
  obtain ⟨d1, d2, d3, d4, d5, d6, d7, d8, d9⟩ := D
  dsimp only [Cm.v] at HJ HEN ⊢
  refine (callsIn_wide (n := 6)).1 ?_
  refine callsIn_of_wp_marks Try.func54 rfl trivial ?_ rfl
  simp only [Try.ntmps54, List.size_toArray, List.length_cons, List.length_nil, Nat.reduceAdd, Nat.reduceSub, Array.replicate_succ, Array.replicate_zero, List.push_toArray, List.append_toArray, List.nil_append, List.cons_append]
  refine wpIn_wide.2 ?_
  go_wp2_with (first
    | (go_at_call 69; ((with_reducible refine (HBY.out _).mono ?_); rintro e w1 ⟨rfl, hb1⟩; have HB1 := hi hb1; have hlt : w.heap.size + 1 < w1.heap.size := (cb_second (w := w) (o := .cells (Ws.cs ws) 94) (cs := Cm.zero.cs) (t := 36) |>.below hb1).lt; have hlt2 := Nat.lt_of_succ_lt hlt; clear hb1))
    | (go_at_call 70; ((with_reducible refine (HAL.out _).mono ?_); rintro e w3 ⟨rfl, rfl⟩)))
  obtain ⟨W3, hW3⟩ : ∃ W3, ((w1.alloc (.cells (Kd.cs o nm hs) 119)).alloc (.cells (Ns.cs nz) 123)).alloc (.cells (Kd.cs o nm hs) 119) = W3 := ⟨_, rfl⟩
  have hz3 : W3.heap.size = w1.heap.size + 3 := by rw [← hW3]; simp
  have H3 : DeI w w1.heap.size o nm hs ws nz W3 ∧ CB W3 (w1.heap.size + 1 + 1) 119 (Kd.cs o nm hs) := by
    rw [← hW3]
    have b3 := bal_three w1 (.cells (Kd.cs o nm hs) 119) (.cells (Ns.cs nz) 123) (.cells (Kd.cs o nm hs) 119)
    have k1 := ((CB.new w 94 (Ws.cs ws)).alloc (.cells Cm.zero.cs 36)).below HB1.out
    have k2 := (cb_second (w := w) (o := .cells (Ws.cs ws) 94) (cs := Cm.zero.cs) (t := 36)).below HB1.out
    have b1 : Below w.heap.size w w1 := (bal_two w _ _).trans (HB1.out.mono (by simp; omega))
    exact ⟨⟨((CB.new w1 _ _).alloc _).alloc _, cb_second.alloc _, k1.below b3, k2.below b3, b1.trans (b3.mono b1.size)⟩, cb_third⟩
  have HW3 := hi hW3
  clear hW3
  change Code.wp _ _ _ _ (((w1.alloc (.cells (Kd.cs o nm hs) 119)).alloc (.cells (Ns.cs nz) 123)).alloc (.cells (Kd.cs o nm hs) 119))
  rw [HW3.out]
  have hst := all_stops (w1.heap.size + 1 + 1) (m : Int) W3 (by have := H3.2; unfold kdBox; rw [HO.out.1, HO.out.2.1, HO.out.2.2]; exact this)
  have H3 := hi H3.1
  rw [HL.out] at hst
  have HL9 := hi (fun x (hx : x ∈ L) => fieldsL_lt (m : Int) x (by rw [HL.out]; exact hx))
  refine (wpIn_wide (n := 6)).1 ?_
  refine range_win (n := 6) (by omega) (gf := 80) (lb := #[.pointer (some ⟨w1.heap.size + 1 + 1, 0, none⟩)]) rfl (enters_of Try.func80 (by kernel_rfl) rfl)
    hst (fun a b => Stays.trans a b) (fun W l o o' h1 h2 h3 h4 => stays_put (by omega)) (Below.refl _ _) (fun _ => rfl)
    (fun pre V => DeI w w1.heap.size o nm hs ws (ownF (decN ws) pre) V)
    (fun cd pre V => False)
    (DeI.abl (by omega) (by omega))
    (fun _ _ _ _ _ hs _ _ => hs)
    (by rw [ownF_nil]; exact H3.out)
    (fun x a' V => a' = { tmps := #[.agg #[.int .u64 (ws 0), .int .u64 (ws 1), .int .u64 (ws 2), .int .u64 (ws 3)], .pointer (some ⟨w.heap.size, 0, none⟩), .pointer (some ⟨w.heap.size + 1, 0, none⟩), .int .i64 0, .pointer (some ⟨w1.heap.size, 0, none⟩), .bool kn, .pointer (some ⟨w1.heap.size + 1, 0, none⟩), .int .i64 x, undef, undef, undef, undef, .tuple #[Kd.v o nm hs, .bool kn], .pointer (some ⟨w.heap.size, 0, none⟩), .int .u64 (ws 0), .int .u64 m, .int .i64 m, .tuple #[Kd.v o nm hs, .bool kn], Kd.v o nm hs, .bool kn, .agg #[.int .i64 o, .string nm, .int .i64 hs], .func (.func 80) #[] #[.pointer (some ⟨w1.heap.size + 1 + 1, 0, none⟩)], .int .i64 x, undef, undef, undef, undef, undef, undef, undef, undef, undef, undef, undef, undef, undef, undef, undef, undef, undef, undef, undef, undef, undef, undef, undef, undef, undef, undef, undef, undef, undef, undef, undef, undef, undef], defers := [] })
    (fun x a' => AbL.pure _ _ _)
    ?assign ?body ?done ?stop
  case assign =>
    rintro l' pre x V K h hsz hK
    rw [zip_one]
    gi_wp2
    exact hK _ _ (KW.refl _ _) (Stays.refl _ _ _) h rfl
  case body =>
    rintro l' pre x a' V hsz hI rfl hpx
    have hxL : x ∈ L := hpx.subset (by simp)
    have hx9 : x < 9 := HL9.out x hxL
    have HPL := hi (fun W => place_any x hx9 W)
    have HMO := hi (fun W => most_any x hx9 W)
    obtain ⟨ns, hns⟩ : ∃ ns, ownF (decN ws) pre = ns := ⟨_, rfl⟩
    have HNX := hi (show ownF (decN ws) (pre ++ [x]) = upd ns x (decN ws x) by rw [← hns, ownF_snoc])
    rw [hns] at hI
    have HI := hi hI
    have HX := hi hx9
    clear hI hpx hxL hx9 hns
    have hwz : w1.heap.size + 1 < V.heap.size := by omega
    gi_wp2_with (first
      | (refine ⟨trivial, ?_⟩; gi_at_call 71; ((with_reducible refine (CallsIn.inRound l' (callsIn_wide.2 (HPL.out _))).mono ?_); rintro e' w5 ⟨rfl, hb5⟩; have HB5 := hi hb5; clear hb5))
      | gi_in)
    have hB5 := HB5.out.alloc HB5.out.size (.cells #[.int .i64 (pw x), .int .i64 (pf x), .int .i64 (pb x)] 129)
    have hI5 := HI.out.later hB5
    have hn5 := CB.new w5 129 #[.int .i64 (pw x), .int .i64 (pf x), .int .i64 (pb x)]
    have hv5 : V.heap.size ≤ w5.heap.size := HB5.out.size
    obtain ⟨W5, hW5⟩ : ∃ W5, w5.alloc (.cells #[.int .i64 (pw x), .int .i64 (pf x), .int .i64 (pb x)] 129) = W5 := ⟨_, rfl⟩
    rw [hW5] at hB5 hI5 hn5
    rw [hW5]
    have hz5 : w5.heap.size < W5.heap.size := hn5.lt
    have HS5 := hi (DeS.of hI5 hn5)
    have x1 : (x : Int) < 9 := by have := HX.out; omega
    have x2 : (pw x : Int) < 4 := by have := pw_lt x; omega
    have HBV := hi hB5
    clear hW5 hI5 hn5 hB5
    refine region_last_r (S := (fun w' => DeS w w1.heap.size w5.heap.size o nm hs ws ns x w')) [14] (by kernel_rfl) (by rfl) (HS5.out.later (below_drew W5)) (fun hHeld => ?_)
    (try simp only [Array.replicate_succ, Array.replicate_zero, List.push_toArray, List.nil_append, List.cons_append])
    refine wpAnyF_take (i := 0) (v := ?_) (by kernel_rfl) (by kernel_rfl) rfl (by kernel_rfl) (by kernel_rfl) (by kernel_rfl) (fun _ _ _ h => h) (Or.inl ⟨by rfl, ?_⟩) (by assumption) ?_
    rotate_left
    · intro w' hSw; (try dsimp only at hSw); go_simp; (try with_reducible rfl)
    (try simp only [Act.put, List.getElem_toArray, List.getElem_cons_zero, List.getElem_cons_succ, List.setIfInBounds_toArray, List.set_cons_zero, List.set_cons_succ])
    refine wpAnyF_take (i := 1) (v := ?_) (by kernel_rfl) (by kernel_rfl) rfl (by kernel_rfl) (by kernel_rfl) (by kernel_rfl) (fun _ _ _ h => h) (Or.inl ⟨by rfl, ?_⟩) (by assumption) ?_
    rotate_left
    · intro w' hSw; (try dsimp only at hSw); go_simp; (try with_reducible rfl)
    (try simp only [Act.put, List.getElem_toArray, List.getElem_cons_zero, List.getElem_cons_succ, List.setIfInBounds_toArray, List.set_cons_zero, List.set_cons_succ])
    refine wpAnyF_take (i := 2) (v := ?_) (by kernel_rfl) (by kernel_rfl) rfl (by kernel_rfl) (by kernel_rfl) (by kernel_rfl) (fun _ _ _ h => h) (Or.inl ⟨by rfl, ?_⟩) (by assumption) ?_
    rotate_left
    · intro w' hSw; (try dsimp only at hSw); obtain ⟨p0, p1, p2, wc, jj⟩ := hSw; clear jj; go_simp; (try with_reducible rfl)
    (try simp only [Act.put, List.getElem_toArray, List.getElem_cons_zero, List.getElem_cons_succ, List.setIfInBounds_toArray, List.set_cons_zero, List.set_cons_succ])
    refine wpAnyF_take (i := 3) (v := ?_) (by kernel_rfl) (by kernel_rfl) rfl (by kernel_rfl) (by kernel_rfl) (by kernel_rfl) (fun _ _ _ h => h) (Or.inl ⟨by rfl, ?_⟩) (by assumption) ?_
    rotate_left
    · intro w' hSw; (try dsimp only at hSw); go_simp; (try with_reducible rfl)
    (try simp only [Act.put, List.getElem_toArray, List.getElem_cons_zero, List.getElem_cons_succ, List.setIfInBounds_toArray, List.set_cons_zero, List.set_cons_succ])
    refine wpAnyF_take (i := 4) (v := ?_) (by kernel_rfl) (by kernel_rfl) rfl (by kernel_rfl) (by kernel_rfl) (by kernel_rfl) (fun _ _ _ h => h) (Or.inl ⟨by rfl, ?_⟩) (by assumption) ?_
    rotate_left
    · intro w' hSw; (try dsimp only at hSw); obtain ⟨p0, p1, p2, wc, jj⟩ := hSw; clear jj; go_simp; (try with_reducible rfl)
    (try simp only [Act.put, List.getElem_toArray, List.getElem_cons_zero, List.getElem_cons_succ, List.setIfInBounds_toArray, List.set_cons_zero, List.set_cons_succ])
    refine wpAnyF_take (i := 5) (v := ?_) (by kernel_rfl) (by kernel_rfl) rfl (by kernel_rfl) (by kernel_rfl) (by kernel_rfl) (fun _ _ _ h => h) (Or.inl ⟨by rfl, ?_⟩) (by assumption) ?_
    rotate_left
    · intro w' hSw; (try dsimp only at hSw); go_simp; (try with_reducible rfl)
    (try simp only [Act.put, List.getElem_toArray, List.getElem_cons_zero, List.getElem_cons_succ, List.setIfInBounds_toArray, List.set_cons_zero, List.set_cons_succ])
    refine wpAnyF_take (i := 6) (v := ?_) (by kernel_rfl) (by kernel_rfl) rfl (by kernel_rfl) (by kernel_rfl) (by kernel_rfl) (fun _ _ _ h => h) (Or.inl ⟨by rfl, ?_⟩) (by assumption) ?_
    rotate_left
    · intro w' hSw; (try dsimp only at hSw); obtain ⟨p0, p1, p2, wc, jj⟩ := hSw; clear jj; go_simp; (try with_reducible rfl)
    (try simp only [Act.put, List.getElem_toArray, List.getElem_cons_zero, List.getElem_cons_succ, List.setIfInBounds_toArray, List.set_cons_zero, List.set_cons_succ])
    refine wpAnyF_take (i := 7) (v := ?_) (by kernel_rfl) (by kernel_rfl) rfl (by kernel_rfl) (by kernel_rfl) (by kernel_rfl) (fun _ _ _ h => h) (Or.inl ⟨by rfl, ?_⟩) (by assumption) ?_
    rotate_left
    · intro w' hSw; (try dsimp only at hSw); go_simp; (try with_reducible rfl)
    (try simp only [Act.put, List.getElem_toArray, List.getElem_cons_zero, List.getElem_cons_succ, List.setIfInBounds_toArray, List.set_cons_zero, List.set_cons_succ])
    refine wpAnyF_take (i := 8) (v := ?_) (by kernel_rfl) (by kernel_rfl) rfl (by kernel_rfl) (by kernel_rfl) (by kernel_rfl) (fun _ _ _ h => h) (Or.inl ⟨by rfl, ?_⟩) (by assumption) ?_
    rotate_left
    · intro w' hSw; (try dsimp only at hSw); obtain ⟨p0, p1, p2, wc, jj⟩ := hSw; clear jj; go_simp; (try with_reducible rfl)
    (try simp only [Act.put, List.getElem_toArray, List.getElem_cons_zero, List.getElem_cons_succ, List.setIfInBounds_toArray, List.set_cons_zero, List.set_cons_succ])
    refine wpAnyF_ready (rs := [9]) (by kernel_rfl) (by simp) ?_
    refine AllReadyF.cons rfl (fun KK hKK => ?_) AllReadyF.nil
    go_simp
    ((with_reducible refine (HMO.out _).mono ?_); rintro e' w6 ⟨rfl, hb6⟩; have HB6 := hi hb6; have hH6 := hHeld.later hb6; clear hb6)
    (try go_simp)
    refine hKK.out _ _ hH6 (fun hHeld => ?_)
    clear hKK KK
    (try simp only [Act.put, List.getElem_toArray, List.getElem_cons_zero, List.getElem_cons_succ, List.setIfInBounds_toArray, List.set_cons_zero, List.set_cons_succ])
    refine wpAnyF_take (i := 10) (v := ?_) (by kernel_rfl) (by kernel_rfl) rfl (by kernel_rfl) (by kernel_rfl) (by kernel_rfl) (fun _ _ _ h => h) (Or.inl ⟨by rfl, ?_⟩) (by assumption) ?_
    rotate_left
    · intro w' hSw; (try dsimp only at hSw); go_simp; (try with_reducible rfl)
    (try simp only [Act.put, List.getElem_toArray, List.getElem_cons_zero, List.getElem_cons_succ, List.setIfInBounds_toArray, List.set_cons_zero, List.set_cons_succ])
    refine wpAnyF_take (i := 11) (v := ?_) (by kernel_rfl) (by kernel_rfl) rfl (by kernel_rfl) (by kernel_rfl) (by kernel_rfl) (fun _ _ _ h => h) (Or.inl ⟨by rfl, ?_⟩) (by assumption) ?_
    rotate_left
    · intro w' hSw; (try dsimp only at hSw); go_simp; (try with_reducible rfl)
    (try simp only [Act.put, List.getElem_toArray, List.getElem_cons_zero, List.getElem_cons_succ, List.setIfInBounds_toArray, List.set_cons_zero, List.set_cons_succ])
    refine wpAnyF_take (i := 12) (v := ?_) (by kernel_rfl) (by kernel_rfl) rfl (by kernel_rfl) (by kernel_rfl) (by kernel_rfl) (fun _ _ _ h => h) (Or.inl ⟨by rfl, ?_⟩) (by assumption) ?_
    rotate_left
    · intro w' hSw; (try dsimp only at hSw); go_simp; (try with_reducible rfl)
    (try simp only [Act.put, List.getElem_toArray, List.getElem_cons_zero, List.getElem_cons_succ, List.setIfInBounds_toArray, List.set_cons_zero, List.set_cons_succ])
    refine wpAnyF_take (i := 13) (v := ?_) (by kernel_rfl) (by kernel_rfl) rfl (by kernel_rfl) (by kernel_rfl) (by kernel_rfl) (fun _ _ _ h => h) (Or.inl ⟨by rfl, ?_⟩) (by assumption) ?_
    rotate_left
    · intro w' hSw; (try dsimp only at hSw); go_simp; (try with_reducible rfl)
    (try simp only [Act.put, List.getElem_toArray, List.getElem_cons_zero, List.getElem_cons_succ, List.setIfInBounds_toArray, List.set_cons_zero, List.set_cons_succ])
    refine wpAnyF_ready (rs := [14]) (by kernel_rfl) (by simp) ?_
    refine AllReadyF.last (by kernel_rfl) rfl (fun KK hKK => ?_) AllReadyF.nil
    have nc := hH6.j.1.n.ns HX.out
    have nf := hH6.j.1.n.frozen
    go_simp
    refine hKK.out _ _ ?_
    clear hKK KK
    (try simp only [Act.put, List.getElem_toArray, List.getElem_cons_zero, List.getElem_cons_succ, List.setIfInBounds_toArray, List.set_cons_zero, List.set_cons_succ])
    refine wpAnyF_done (by kernel_rfl) ?_ _
    refine normQ_in ?_
    have hdv := dec_val (x := x) (ws := ws) HX.out (HWS.out _)
    rw [hdv]
    have hJ6 := hH6.j.1.put (by omega) HX.out (decN ws x)
    refine ⟨(((KW.of_below HBV.out).trans (kw_drew W5)).trans (KW.of_below HB6.out)).trans (KW.set _ _ _), (((Stays.below HBV.out (by omega)).trans (stays_drew W5)).trans (Stays.below HB6.out (by show _ ≤ W5.heap.size; have := HBV.out.size; omega))).trans (stays_set (by omega)), ?_⟩
    show DeI w w1.heap.size o nm hs ws (ownF (decN ws) (pre ++ [x])) _
    rw [HNX.out]
    exact hJ6
  case done =>
    rintro ys V rfl hI hK hs2
    obtain ⟨ow, how⟩ : ∃ ow, ownF (decN ws) ys = ow := ⟨_, rfl⟩
    rw [how] at hI HJ
    obtain ⟨k0, k1, k2⟩ := hI.k.three
    obtain ⟨n0, n1, n2, n3, n4, n5, n6, n7, n8⟩ := CB.nine hI.n
    have HI := hi hI
    have HDM := hi hK
    have hzv : w.heap.size + 1 < V.heap.size := by omega
    clear hI hK how
    have hb0 : w1.heap.size < W3.heap.size := by omega
    cases vd
    · have hdk : dk = false := by have := HK.out; simpa using this
      subst hdk
      have hdr : dr = Cm.zero := by have := HR.out; simpa using this
      subst hdr
      rw [show errN false = 160 from rfl] at HEN
      clear HK HR HEW
      go_wp2_with (first
        | (go_at_call 73; ((with_reducible refine (HJ.out _).mono ?_); rintro e7 w7 ⟨rfl, hb7⟩; have HI7 := hi (HI.out.later hb7); have HM7 := hi ((hb7.block _ (Array.getElem?_eq_some_iff.1 HDM.out).1).trans HDM.out); have hz7 : V.heap.size ≤ w7.heap.size := hb7.size; clear hb7))
        | (go_at_call 56; ((with_reducible refine (HEN.out _).mono ?_); rintro e8 w8 ⟨rfl, hb8⟩; have hbe := (bal w7 (.cells (Cm.cs ⟨d1, d2, d3, d4, d5, d6, d7, d8, d9⟩) 36)).trans (hb8.mono (by simp)); have HI8 := hi (HI7.out.later hbe); have HM8 := hi ((hbe.block _ (Array.getElem?_eq_some_iff.1 HM7.out).1).trans HM7.out); obtain ⟨b0, b1, b2, b3⟩ := CB.four HI8.out.b; obtain ⟨r0, r1, r2, r3, r4, r5, r6, r7, r8⟩ := CB.nine HI8.out.r; have rf := HI8.out.r.frozen; have hnd := (CB.new w7 36 (Cm.cs ⟨d1, d2, d3, d4, d5, d6, d7, d8, d9⟩)).below hb8; obtain ⟨e0, e1, e2, e3, e4, e5, e6, e7, e8⟩ := CB.nine hnd; have hz8 : w7.heap.size < w8.heap.size := hnd.lt; have hz9 : w.heap.size < w8.heap.size := HI8.out.b.lt; have hz10 : w.heap.size + 1 < w8.heap.size := HI8.out.r.lt; clear hnd hb8 hbe)))
      have hDM : ((set9 w8 (w.heap.size + 1) (.int .i64 0) (.int .i64 0) (.int .i64 0) (.int .i64 0) (.int .i64 0) (.int .i64 0) (.int .i64 0) (.int .i64 0) (.bool false)).alloc (.cells (Ws.cs en) 94)).heap[W3.heap.size]? = some (.deferred (some [])) := by
        have h1 := HM8.out
        have h2 := (Array.getElem?_eq_some_iff.1 h1).1
        rw [Below.heap_alloc _ _ _ (by simp; omega), heap_set9 _ _ _ _ _ _ _ _ _ _ _ _ (by omega)]
        exact h1
      rw [hz3] at hDM
      refine ⟨by simp, .inl ⟨_, _, rfl, run_takeDeferred hDM, ?_⟩⟩
      exact ⟨_, results_cmt rfl _ _ (w.heap.size + 1) _ _ _ _ _ _ _ _ _ _ rfl rfl (CB.putO (by omega) ((CB.set9 HI8.out.r _ _ _ _ _ _ _ _ _).alloc _)), rfl, below_put ((below_set9 HI8.out.below (by omega) _ _ _ _ _ _ _ _ _).alloc (by simp; omega) _) _ (by simp; omega) (by omega)⟩
    · have hew : en = wordsC ⟨d1, d2, d3, d4, d5, d6, d7, d8, d9⟩ := by have := HEW.out; simpa using this
      obtain ⟨q, hq⟩ : ∃ q, eqW (en 0) (en 1) (en 2) (en 3) (ws 0) (ws 1) (ws 2) (ws 3) = q := ⟨_, rfl⟩
      have hq2 : sameW (wordsC ⟨d1, d2, d3, d4, d5, d6, d7, d8, d9⟩) ws = q := by rw [← hew, ← eqW_iff, hq]
      have hdk : dk = q := by rw [HK.out, hq2, Bool.true_and]
      subst hdk
      rw [show errN true = 0 from rfl] at HEN
      have hdr := HR.out
      clear HK HR HEW hew hq2
      cases dk
      · have hdr2 : dr = Cm.zero := by simpa using hdr
        subst hdr2
        clear hdr
        go_wp2_with (first
          | (go_at_call 73; ((with_reducible refine (HJ.out _).mono ?_); rintro e7 w7 ⟨rfl, hb7⟩; have HI7 := hi (HI.out.later hb7); have HM7 := hi ((hb7.block _ (Array.getElem?_eq_some_iff.1 HDM.out).1).trans HDM.out); have hz7 : V.heap.size ≤ w7.heap.size := hb7.size; clear hb7))
          | (go_at_call 56; ((with_reducible refine (HEN.out _).mono ?_); rintro e8 w8 ⟨rfl, hb8⟩; have hbe := (bal w7 (.cells (Cm.cs ⟨d1, d2, d3, d4, d5, d6, d7, d8, d9⟩) 36)).trans (hb8.mono (by simp)); have HI8 := hi (HI7.out.later hbe); have HM8 := hi ((hbe.block _ (Array.getElem?_eq_some_iff.1 HM7.out).1).trans HM7.out); obtain ⟨b0, b1, b2, b3⟩ := CB.four HI8.out.b; obtain ⟨r0, r1, r2, r3, r4, r5, r6, r7, r8⟩ := CB.nine HI8.out.r; have rf := HI8.out.r.frozen; have hnd := (CB.new w7 36 (Cm.cs ⟨d1, d2, d3, d4, d5, d6, d7, d8, d9⟩)).below hb8; obtain ⟨e0, e1, e2, e3, e4, e5, e6, e7, e8⟩ := CB.nine hnd; have hz8 : w7.heap.size < w8.heap.size := hnd.lt; have hz9 : w.heap.size < w8.heap.size := HI8.out.b.lt; have hz10 : w.heap.size + 1 < w8.heap.size := HI8.out.r.lt; clear hnd hb8 hbe)))
        have hDM : ((set9 w8 (w.heap.size + 1) (.int .i64 0) (.int .i64 0) (.int .i64 0) (.int .i64 0) (.int .i64 0) (.int .i64 0) (.int .i64 0) (.int .i64 0) (.bool false)).alloc (.cells (Ws.cs en) 94)).heap[W3.heap.size]? = some (.deferred (some [])) := by
          have h1 := HM8.out
          have h2 := (Array.getElem?_eq_some_iff.1 h1).1
          rw [Below.heap_alloc _ _ _ (by simp; omega), heap_set9 _ _ _ _ _ _ _ _ _ _ _ _ (by omega)]
          exact h1
        rw [hz3] at hDM
        refine ⟨by simp, .inl ⟨_, _, rfl, run_takeDeferred hDM, ?_⟩⟩
        exact ⟨_, results_cmt rfl _ _ (w.heap.size + 1) _ _ _ _ _ _ _ _ _ _ rfl rfl (CB.putO (by omega) ((CB.set9 HI8.out.r _ _ _ _ _ _ _ _ _).alloc _)), rfl, below_put ((below_set9 HI8.out.below (by omega) _ _ _ _ _ _ _ _ _).alloc (by simp; omega) _) _ (by simp; omega) (by omega)⟩
      · have hdr2 : dr = ⟨d1, d2, d3, d4, d5, d6, d7, d8, d9⟩ := by simpa using hdr
        subst hdr2
        clear hdr
        go_wp2_with (first
          | (go_at_call 73; ((with_reducible refine (HJ.out _).mono ?_); rintro e7 w7 ⟨rfl, hb7⟩; have HI7 := hi (HI.out.later hb7); have HM7 := hi ((hb7.block _ (Array.getElem?_eq_some_iff.1 HDM.out).1).trans HDM.out); have hz7 : V.heap.size ≤ w7.heap.size := hb7.size; clear hb7))
          | (go_at_call 56; ((with_reducible refine (HEN.out _).mono ?_); rintro e8 w8 ⟨rfl, hb8⟩; have hbe := (bal w7 (.cells (Cm.cs ⟨d1, d2, d3, d4, d5, d6, d7, d8, d9⟩) 36)).trans (hb8.mono (by simp)); have HI8 := hi (HI7.out.later hbe); have HM8 := hi ((hbe.block _ (Array.getElem?_eq_some_iff.1 HM7.out).1).trans HM7.out); obtain ⟨b0, b1, b2, b3⟩ := CB.four HI8.out.b; obtain ⟨r0, r1, r2, r3, r4, r5, r6, r7, r8⟩ := CB.nine HI8.out.r; have rf := HI8.out.r.frozen; have hnd := (CB.new w7 36 (Cm.cs ⟨d1, d2, d3, d4, d5, d6, d7, d8, d9⟩)).below hb8; obtain ⟨e0, e1, e2, e3, e4, e5, e6, e7, e8⟩ := CB.nine hnd; have hz8 : w7.heap.size < w8.heap.size := hnd.lt; have hz9 : w.heap.size < w8.heap.size := HI8.out.b.lt; have hz10 : w.heap.size + 1 < w8.heap.size := HI8.out.r.lt; clear hnd hb8 hbe)))
        have hDM : ((set9 w8 (w.heap.size + 1) (.int .i64 d1) (.int .i64 d2) (.int .i64 d3) (.int .i64 d4) (.int .i64 d5) (.int .i64 d6) (.int .i64 d7) (.int .i64 d8) (.bool d9)).alloc (.cells (Ws.cs en) 94)).heap[W3.heap.size]? = some (.deferred (some [])) := by
          have h1 := HM8.out
          have h2 := (Array.getElem?_eq_some_iff.1 h1).1
          rw [Below.heap_alloc _ _ _ (by simp; omega), heap_set9 _ _ _ _ _ _ _ _ _ _ _ _ (by omega)]
          exact h1
        rw [hz3] at hDM
        refine ⟨by simp, .inl ⟨_, _, rfl, run_takeDeferred hDM, ?_⟩⟩
        exact ⟨_, results_cmt rfl _ _ (w.heap.size + 1) _ _ _ _ _ _ _ _ _ _ rfl rfl (CB.putO (by omega) ((CB.set9 HI8.out.r _ _ _ _ _ _ _ _ _).alloc _)), rfl, below_put ((below_set9 HI8.out.below (by omega) _ _ _ _ _ _ _ _ _).alloc (by simp; omega) _) _ (by simp; omega) (by omega)⟩
  case stop =>
    rintro cd pre V hpre h _ _
    exact h.elim

end Go.Proofs.Ytfnokpajendlmaa
