/-
  Package cmd: Encode at every call.
-/
import Derived.Test.YtfnokpajendlmaaCmF
namespace Go.Proofs.Ytfnokpajendlmaa
open Go.ChangeShapes Go.WideShapes Go.ChangeAt Go.RowKit Go.Shelf
set_option linter.unusedVariables false
set_option linter.unusedSimpArgs false
attribute [local go_sem] Oper.semAt_some

theorem ws_at (n : Ws) {x : Nat} (h : x < 4) : (Ws.cs n)[x]? = some (.int .u64 (n x)) := by
  have : x = 0 ∨ x = 1 ∨ x = 2 ∨ x = 3 := by omega
  rcases this with rfl | rfl | rfl | rfl <;> rfl
theorem ws_set (n : Ws) {x : Nat} (h : x < 4) (v : Nat) : (Ws.cs n).setIfInBounds x (.int .u64 v) = Ws.cs (fun j => if j = x then v else n j) := by
  have : x = 0 ∨ x = 1 ∨ x = 2 ∨ x = 3 := by omega
  rcases this with rfl | rfl | rfl | rfl <;> rfl
theorem CB.ws {W : World} {b : Nat} {t : TypeId} {n : Ws} (h : CB W b t (Ws.cs n)) {x : Nat} (hx : x < 4) : W.cell? ⟨b, x, none⟩ = some (.int .u64 (n x)) := (h.cell x).trans (ws_at n hx)
theorem pw_lt (x : Nat) : pw x < 4 := by unfold pw; split <;> omega
abbrev Wv (n : Ws) : Value := .agg #[.int .u64 (n 0), .int .u64 (n 1), .int .u64 (n 2), .int .u64 (n 3)]
theorem results_w {fn : Func} {c t : Tmp} (h : fn.results = #[.cell c 94, .tmp t]) (tmps : Array Value) (w : World) (b : Nat) (v0 v1 v2 v3 v : Value) (hp : tmps.getD c undef = .pointer (some ⟨b, 0, none⟩)) (ht : tmps.getD t undef = v) (hb : CB w b 94 #[v0, v1, v2, v3]) :
    (results fn tmps).run Try.prog w = .ok (.tuple #[.agg #[v0, v1, v2, v3], v]) w := by
  have hp' : tmps[c]?.getD undef = .pointer (some ⟨b, 0, none⟩) := by simpa using hp
  have ht' : tmps[t]?.getD undef = v := by simpa using ht
  have c0 := hb.cell 0
  have c1 := hb.cell 1
  have c2 := hb.cell 2
  have c3 := hb.cell 3
  simp at c0 c1 c2 c3
  simp [results, h, go_sem, hp', ht', c0, c1, c2, c3]
theorem CB.four {W : World} {b : Nat} {t : TypeId} {p q r s : Value} (h : CB W b t #[p, q, r, s]) : W.cell? ⟨b, 0, none⟩ = some p ∧ W.cell? ⟨b, 1, none⟩ = some q ∧ W.cell? ⟨b, 2, none⟩ = some r ∧ W.cell? ⟨b, 3, none⟩ = some s := ⟨h.cell 0, h.cell 1, h.cell 2, h.cell 3⟩
abbrev wz : Ws := fun _ => 0
abbrev set4 (W : World) (b : Nat) (v0 v1 v2 v3 : Value) : World := (((W.setCell ⟨b, 0, none⟩ v0).setCell ⟨b, 1, none⟩ v1).setCell ⟨b, 2, none⟩ v2).setCell ⟨b, 3, none⟩ v3
theorem CB.set4 {W : World} {b : Nat} {t : TypeId} {a0 a1 a2 a3 : Value} (h : CB W b t #[a0, a1, a2, a3]) (v0 v1 v2 v3 : Value) : CB (set4 W b v0 v1 v2 v3) b t #[v0, v1, v2, v3] := (((h.set 0 v0).set 1 v1).set 2 v2).set 3 v3
theorem below_set4 {n : Nat} {w W : World} (h : Below n w W) {b : Nat} (hb : n ≤ b) (v0 v1 v2 v3 : Value) : Below n w (set4 W b v0 v1 v2 v3) := below_set (below_set (below_set (below_set h hb _) hb _) hb _) hb _

/-- What Encode keeps through its loop: the words, the numbers, the result's place. -/
structure EnI (w : World) (m g : Nat) (own : Ns) (ws : Ws) (V : World) : Prop where
  ws : CB V m 94 (Ws.cs ws)
  n : CB V g 123 (Ns.cs own)
  r : CB V (w.heap.size + 1) 94 (Ws.cs wz)
  below : Below w.heap.size w V
theorem EnI.later {w : World} {m g : Nat} {own : Ns} {ws : Ws} {V V' : World} (h : EnI w m g own ws V) (k : Below V.heap.size V V') : EnI w m g own ws V' := ⟨h.ws.below k, h.n.below k, h.r.below k, h.below.trans (k.mono h.below.size)⟩
theorem EnI.abl {w : World} {m g B : Nat} {own : Ns} {ws : List Nat → Ws} (hm : m < B) (hg' : g < B) (hw : w.heap.size + 1 < B) : AbL B 0 (fun pre V => EnI w m g own (ws pre) V) := fun s A A' row h hg hr => by
  have ne : ∀ b, b < B → some b ≠ row := fun b hb e => by rcases hr b e.symm with ⟨h1, _⟩ | ⟨h1, h2⟩ <;> omega
  exact ⟨h.ws.kept hg (ne _ (by omega)), h.n.kept hg (ne _ (by omega)), h.r.kept hg (ne _ (by omega)), h.below.grown hg h.below.size (fun r e => by rcases hr r e with ⟨h1, _⟩ | ⟨h1, h2⟩ <;> omega)⟩
theorem EnI.step {w : World} {m g : Nat} {own : Ns} {ws : Ws} {V : World} (h : EnI w m g own ws V) (hm : w.heap.size + 1 < m) (hn : g ≠ m) {x : Nat} (n : Ns) : EnI w m g own (stepW n ws x) (V.setCell ⟨m, pw x, none⟩ (.int .u64 ((stepW n ws x) (pw x) : Nat))) := by
  refine ⟨?_, h.n.other _ _ _ hn, h.r.other _ _ _ (by omega), below_set h.below (by omega) _⟩
  have := h.ws.set (pw x) (.int .u64 ((stepW n ws x) (pw x) : Nat))
  rw [ws_set _ (pw_lt x)] at this
  have e : (fun j => if j = pw x then (stepW n ws x) (pw x) else ws j) = stepW n ws x := by
    funext j
    simp only [stepW]
    split
    · rename_i hj; subst hj; simp
    · rfl
  rwa [e] at this

theorem u64_or_nat {a b : Nat} (ha : a < 18446744073709551616) (hb : b < 18446744073709551616) : bits .or .u64 (a : Int) (b : Int) = ((a ||| b : Nat) : Int) := by
  show IntKind.u64.wrap ((BitVec.ofInt 64 (a : Int) ||| BitVec.ofInt 64 (b : Int)).toNat : Int) = _
  have e : (BitVec.ofInt 64 (a : Int) ||| BitVec.ofInt 64 (b : Int)).toNat = a ||| b := by
    rw [BitVec.toNat_or, BitVec.ofInt_natCast, BitVec.ofInt_natCast, BitVec.toNat_ofNat, BitVec.toNat_ofNat, Nat.mod_eq_of_lt (show a < 2 ^ 64 by omega), Nat.mod_eq_of_lt (show b < 2 ^ 64 by omega)]
  have : a ||| b < 2 ^ 64 := Nat.or_lt_two_pow (by omega) (by omega)
  rw [e, IntKind.wrap_u64]; omega
theorem pm_pr (x : Nat) (hx : x < 9) (n : Nat) (h : n < pr x) : pm x * n < 18446744073709551616 := by
  have : x = 0 ∨ x = 1 ∨ x = 2 ∨ x = 3 ∨ x = 4 ∨ x = 5 ∨ x = 6 ∨ x = 7 ∨ x = 8 := by omega
  rcases this with rfl | rfl | rfl | rfl | rfl | rfl | rfl | rfl | rfl <;> (simp only [pm, pr] at h ⊢; omega)
theorem pm_pow (x : Nat) (hx : x < 9) : (2 : Int) ^ min (pf x) 64 = (pm x : Int) := by
  have : x = 0 ∨ x = 1 ∨ x = 2 ∨ x = 3 ∨ x = 4 ∨ x = 5 ∨ x = 6 ∨ x = 7 ∨ x = 8 := by omega
  rcases this with rfl | rfl | rfl | rfl | rfl | rfl | rfl | rfl | rfl <;> decide +kernel
theorem fold_lt {n : Ns} (j : Nat) : ∀ (L : List Nat) (ws : Ws), (∀ f ∈ L, f < 9 ∧ (n f).toNat < pr f) → ws j < 18446744073709551616 → (L.foldl (stepW n) ws) j < 18446744073709551616
  | [], ws, _, h => h
  | x :: L, ws, hL, h => by
    rw [List.foldl_cons]
    refine fold_lt j L _ (fun f hf => hL f (List.mem_cons_of_mem _ hf)) ?_
    have hx := hL x List.mem_cons_self
    have h1 := pm_pr x hx.1 _ hx.2
    simp only [stepW]
    split
    · exact Nat.or_lt_two_pow (n := 64) h h1
    · exact h
theorem step_val {x : Nat} {n : Ns} {ws : Ws} (hx : x < 9) (h0 : 0 ≤ n x) (h1 : n x < pr x) (hw : ws (pw x) < 18446744073709551616) :
    bits .or .u64 (ws (pw x) : Int) (IntKind.u64.wrap (IntKind.u64.wrap (n x) * 2 ^ min (pf x) 64)) = ((stepW n ws x (pw x) : Nat) : Int) := by
  obtain ⟨v, hv⟩ : ∃ v : Nat, n x = v := ⟨(n x).toNat, by omega⟩
  have hp := pm_pr x hx v (by omega)
  have hpr : pr x ≤ 18446744073709551616 := by
    have : x = 0 ∨ x = 1 ∨ x = 2 ∨ x = 3 ∨ x = 4 ∨ x = 5 ∨ x = 6 ∨ x = 7 ∨ x = 8 := by omega
    rcases this with rfl | rfl | rfl | rfl | rfl | rfl | rfl | rfl | rfl <;> decide
  have e1 : IntKind.u64.wrap (n x) = (v : Int) := by rw [hv, IntKind.wrap_u64]; omega
  rw [e1, pm_pow x hx]
  have e2 : (v : Int) * (pm x : Int) = ((pm x * v : Nat) : Int) := by rw [Int.natCast_mul, Int.mul_comm]
  rw [e2]
  have e3 : IntKind.u64.wrap ((pm x * v : Nat) : Int) = ((pm x * v : Nat) : Int) := by rw [IntKind.wrap_u64]; omega
  rw [e3, u64_or_nat hw hp]
  simp [stepW, hv]

set_option maxRecDepth 100000 in
set_option maxHeartbeats 4000000 in
theorem encode_any (c : Cm) (hc : i64B c.addr) (w : World) : Calls Try.prog 56 #[c.v] w fun e w' => e = .returned (.tuple #[Wv (encW c), .int .i64 (errN (validC c))]) ∧ Below w.heap.size w w' := by
  have HSP := hi (fun W => split_any c hc W)
  have HAL := hi (fun W => all_any (kop c.op) (nmB c.op) (hasN c.op) W)
  have HV := hi (fun h : validC c = true => And.intro (validC_known h) (validC_fits h))
  have HE := hi (show encW c = if validC c = true then wordsC c else fun _ => 0 from rfl)
  have HWL := hi (fun h : validC c = true => words_lt h)
  obtain ⟨nums, hn⟩ : ∃ n, numC c = n := ⟨_, rfl⟩
  obtain ⟨vd, hvd⟩ : ∃ vd, validC c = vd := ⟨_, rfl⟩
  unfold wordsC at HE HWL
  rw [hn] at HSP HV HE HWL
  rw [hvd] at HSP HV HE HWL ⊢
  obtain ⟨en, hen⟩ : ∃ en, encW c = en := ⟨_, rfl⟩
  rw [hen] at HE ⊢
  clear hn hvd hen hc
  obtain ⟨op, dev, ev, num, coll, tgt, bit, addr, valid⟩ := c
  dsimp only [Cm.v] at HSP HAL HV HE HWL ⊢
  obtain ⟨o, ho⟩ : ∃ o, kop op = o := ⟨_, rfl⟩
  obtain ⟨nm, hnm⟩ : ∃ nm, nmB op = nm := ⟨_, rfl⟩
  obtain ⟨hs, hhs⟩ : ∃ hs, hasN op = hs := ⟨_, rfl⟩
  rw [ho, hnm, hhs] at HSP HAL
  have HO := hi (And.intro ho (And.intro hnm hhs))
  obtain ⟨ow, how⟩ : ∃ ow, ownF nums (fieldsL op) = ow := ⟨_, rfl⟩
  rw [how] at HSP
  have HOW := hi how
  clear ho hnm hhs how
  cases vd
  · have he : en = wz := by have := HE.out; simpa using this
    subst he
    clear HV HE HWL HOW HO HAL
    go_enter Try.func56, Try.ntmps56
    go_wp2_with (first
      | (go_at_call 74; ((with_reducible refine (HSP.out _).mono ?_); rintro e w1 ⟨rfl, hb1⟩; have HB1 := hi (And.intro (cb_second (w := w) (o := .cells (Cm.cs ⟨op, dev, ev, num, coll, tgt, bit, addr, valid⟩) 36) (cs := Ws.cs wz) (t := 94) |>.below hb1) ((bal_two w _ _).trans (hb1.mono (by simp; omega)))); obtain ⟨q0, q1, q2, q3⟩ := CB.four (cb_second (w := w) (cs := Ws.cs wz) (t := 94) |>.below hb1); have qf := (cb_second (w := w) (cs := Ws.cs wz) (t := 94) |>.below hb1).frozen; have hlt := (cb_second (w := w) (cs := Ws.cs wz) (t := 94) |>.below hb1).lt; have hlt2 := Nat.lt_of_succ_lt hlt; clear hb1)))
    exact bodyPost_ret (results_w rfl _ _ (w.heap.size + 1) _ _ _ _ _ rfl rfl (((HB1.out.1.set4 _ _ _ _).alloc _).alloc _)) rfl ⟨rfl, ((below_set4 HB1.out.2 (by omega) _ _ _ _).alloc (by simp; omega) _).alloc (by simp; omega) _⟩
  · obtain ⟨hk, hf⟩ := HV.out rfl
    have hb15 : 0 ≤ op ∧ op ≤ 15 := by rcases known_cases hk with e | e | e | e | e | e | e | e | e | e | e | e <;> omega
    obtain rfl : op = o := by rw [← HO.out.1, kop_yes hk]
    have hwo : IntKind.u64.wrap op = op := by rw [IntKind.wrap_u64]; omega
    have HLT := hi (HWL.out rfl)
    have HEN := hi (show en = wordsN op.toNat nums (fieldsL op) by have := HE.out; rwa [if_pos rfl] at this)
    have HF := hi hf
    clear hk hf HV HE HWL
    obtain ⟨m, rfl⟩ : ∃ m : Nat, op = (m : Int) := ⟨op.toNat, by omega⟩
    have hm15 : m ≤ 15 := by omega
    rw [Int.toNat_natCast] at HEN HLT
    obtain ⟨L, hL⟩ : ∃ L, fieldsL (m : Int) = L := ⟨_, rfl⟩
    rw [hL] at HOW HF HEN HLT
    have HL := hi hL
    clear hL hb15
    refine (callsIn_wide (n := 6)).1 ?_
    refine callsIn_of_wp_marks Try.func56 rfl trivial ?_ rfl
    simp only [Try.ntmps56, List.size_toArray, List.length_cons, List.length_nil, Nat.reduceAdd, Nat.reduceSub, Array.replicate_succ, Array.replicate_zero, List.push_toArray, List.append_toArray, List.nil_append, List.cons_append]
    refine wpIn_wide.2 ?_
    go_wp2_with (first
      | (go_at_call 74; ((with_reducible refine (HSP.out _).mono ?_); rintro e w1 ⟨rfl, hb1⟩; have HB1 := hi (And.intro (cb_second (w := w) (o := .cells (Cm.cs ⟨(m : Int), dev, ev, num, coll, tgt, bit, addr, valid⟩) 36) (cs := Ws.cs wz) (t := 94) |>.below hb1) ((bal_two w _ _).trans (hb1.mono (by simp; omega)))); have hlt := (cb_second (w := w) (cs := Ws.cs wz) (t := 94) |>.below hb1).lt; have hlt2 := Nat.lt_of_succ_lt hlt; clear hb1))
      | (go_at_call 70; ((with_reducible refine (HAL.out _).mono ?_); rintro e w3 ⟨rfl, rfl⟩)))
    -- RANGE
    obtain ⟨W3, hW3⟩ : ∃ W3, (((w1.alloc (.cells (Kd.cs m nm hs) 119)).alloc (.cells (Ns.cs ow) 123)).alloc (.cells (Ws.cs (ws0 m)) 94)).alloc (.cells (Kd.cs m nm hs) 119) = W3 := ⟨_, rfl⟩
    have hz3 : W3.heap.size = w1.heap.size + 4 := by rw [← hW3]; simp
    have H3 : EnI w (w1.heap.size + 1 + 1) (w1.heap.size + 1) ow (ws0 m) W3 ∧ CB W3 (w1.heap.size + 1 + 1 + 1) 119 (Kd.cs m nm hs) := by
      rw [← hW3]
      have b3 := (bal_three w1 (.cells (Kd.cs m nm hs) 119) (.cells (Ns.cs ow) 123) (.cells (Ws.cs (ws0 m)) 94)).alloc (by simp; omega) (.cells (Kd.cs m nm hs) 119)
      refine ⟨⟨cb_third.alloc _, (cb_second.alloc _).alloc _, HB1.out.1.below b3, HB1.out.2.trans (b3.mono HB1.out.2.size)⟩, ?_⟩
      have := CB.new (((w1.alloc (.cells (Kd.cs m nm hs) 119)).alloc (.cells (Ns.cs ow) 123)).alloc (.cells (Ws.cs (ws0 m)) 94)) 119 (Kd.cs m nm hs)
      rwa [World.size_alloc, World.size_alloc, World.size_alloc] at this
    have HW3 := hi hW3
    clear hW3
    change Code.wp _ _ _ _ ((((w1.alloc (.cells (Kd.cs m nm hs) 119)).alloc (.cells (Ns.cs ow) 123)).alloc (.cells (Ws.cs (ws0 m)) 94)).alloc (.cells (Kd.cs m nm hs) 119))
    rw [HW3.out]
    have hst := all_stops (w1.heap.size + 1 + 1 + 1) (m : Int) W3 (by have := H3.2; unfold kdBox; rw [HO.out.1, HO.out.2.1, HO.out.2.2]; exact this)
    have H3 := hi H3.1
    rw [HL.out] at hst
    have HL9 := hi (fun x (hx : x ∈ L) => fieldsL_lt (m : Int) x (by rw [HL.out]; exact hx))
    clear hwo
    refine (wpIn_wide (n := 6)).1 ?_
    refine range_win (n := 6) (by omega) (gf := 80) (lb := #[.pointer (some ⟨w1.heap.size + 1 + 1 + 1, 0, none⟩)]) rfl (enters_of Try.func80 (by kernel_rfl) rfl)
      hst (fun a b => Stays.trans a b) (fun W l o o' h1 h2 h3 h4 => stays_put (by omega)) (Below.refl _ _) (fun _ => rfl)
      (fun pre V => EnI w (w1.heap.size + 1 + 1) (w1.heap.size + 1) ow (wordsN m nums pre) V)
      (fun cd pre V => False)
      (EnI.abl (by omega) (by omega) (by omega))
      (fun _ _ _ _ _ hs _ _ => hs)
      H3.out
      (fun x a' V => a' = { tmps := #[.agg #[.int .i64 m, .int .i64 dev, .int .i64 ev, .int .i64 num, .int .i64 coll, .int .i64 tgt, .int .i64 bit, .int .i64 addr, .bool valid], .pointer (some ⟨w.heap.size, 0, none⟩), .pointer (some ⟨w.heap.size + 1, 0, none⟩), .int .i64 0, .pointer (some ⟨w1.heap.size, 0, none⟩), .pointer (some ⟨w1.heap.size + 1, 0, none⟩), .bool true, .pointer (some ⟨w1.heap.size + 1 + 1, 0, none⟩), .int .i64 x, undef, .tuple #[Kd.v m nm hs, Nv ow, .bool true], .agg #[.int .i64 m, .int .i64 dev, .int .i64 ev, .int .i64 num, .int .i64 coll, .int .i64 tgt, .int .i64 bit, .int .i64 addr, .bool valid], .tuple #[Kd.v m nm hs, Nv ow, .bool true], Kd.v m nm hs, Nv ow, .bool true, .bool true, .bool false, undef, .pointer (some ⟨w1.heap.size, 0, none⟩), .int .i64 m, .int .u64 m, .agg #[.int .u64 m, .int .u64 0, .int .u64 0, .int .u64 0], .agg #[.int .i64 m, .string nm, .int .i64 hs], .func (.func 80) #[] #[.pointer (some ⟨w1.heap.size + 1 + 1 + 1, 0, none⟩)], .int .i64 x, undef, undef, undef, undef, undef, undef, undef, undef, undef, undef, undef, undef, undef, undef, undef, undef], defers := [] })
      (fun x a' => AbL.pure _ _ _)
      ?assign ?body ?done ?stop
    case assign =>
      rintro l' pre x V K h hsz hK
      rw [zip_one]
      gi_wp2
      exact hK _ _ (KW.refl _ _) (Stays.refl _ _ _) h rfl
    case body =>
      rintro l' pre x a' V hsz hI rfl hpx
      have hxL : x ∈ L := hpx.subset (by simp)
      have hx9 : x < 9 := HL9.out x hxL
      have hfx := fits_iff.1 (HF.out x hxL)
      have hox : ow x = nums x := by rw [← HOW.out]; simp [ownF, hxL]
      have HPL := hi (fun W => place_any x hx9 W)
      have HI := hi hI
      obtain ⟨ws, hws⟩ : ∃ ws, wordsN m nums pre = ws := ⟨_, rfl⟩
      rw [hws] at HI
      have HWS := hi (show ws (pw x) < 18446744073709551616 by
        rw [← hws]
        exact fold_lt (pw x) pre _ (fun f hf => ⟨HL9.out f (hpx.subset (by simp [hf])), by have := fits_iff.1 (HF.out f (hpx.subset (by simp [hf]))); omega⟩) (by simp only [ws0]; split <;> omega))
      have HNX := hi (show wordsN m nums (pre ++ [x]) = stepW nums ws x by rw [wordsN_snoc, hws])
      have HX := hi (And.intro hx9 (And.intro hfx hox))
      clear hI hpx hxL hx9 hfx hox hws
      have hwz : w1.heap.size + 1 + 1 < V.heap.size := by omega
      gi_wp2_with (first
        | (refine ⟨trivial, ?_⟩; gi_at_call 71; ((with_reducible refine (CallsIn.inRound l' (callsIn_wide.2 (HPL.out _))).mono ?_); rintro e' w5 ⟨rfl, hb5⟩; have HB5 := hi hb5; clear hb5))
        | gi_in)
      have hB5 := HB5.out.alloc HB5.out.size (.cells #[.int .i64 (pw x), .int .i64 (pf x), .int .i64 (pb x)] 129)
      have hI5 := HI.out.later hB5
      have hn5 := CB.new w5 129 #[.int .i64 (pw x), .int .i64 (pf x), .int .i64 (pb x)]
      have hv5 : V.heap.size ≤ w5.heap.size := HB5.out.size
      obtain ⟨W5, hW5⟩ : ∃ W5, w5.alloc (.cells #[.int .i64 (pw x), .int .i64 (pf x), .int .i64 (pb x)] 129) = W5 := ⟨_, rfl⟩
      rw [hW5] at hB5 hI5 hn5
      rw [hW5]
      have hz5 : w5.heap.size < W5.heap.size := hn5.lt
      have HC := hi (show W5.cell? ⟨w5.heap.size, 0, none⟩ = some (.int .i64 (pw x)) ∧ W5.cell? ⟨w5.heap.size, 1, none⟩ = some (.int .i64 (pf x)) ∧ W5.cell? ⟨w1.heap.size + 1 + 1, pw x, none⟩ = some (.int .u64 (ws (pw x))) ∧ W5.cell? ⟨w1.heap.size + 1, x, none⟩ = some (.int .i64 (ow x)) from
        ⟨hn5.cell 0, hn5.cell 1, hI5.ws.ws (pw_lt x), hI5.n.ns HX.out.1⟩)
      have wf := hI5.ws.frozen
      have wc := HC.out.2.2.1
      have x1 : (x : Int) < 9 := by have := HX.out.1; omega
      have x2 : (pw x : Int) < 4 := by have := pw_lt x; omega
      have HI5 := hi hI5
      have HBV := hi hB5
      clear hW5 hI5 hn5 hB5
      refine region_last_r (S := (fun w' => w'.cell? ⟨w5.heap.size, 0, none⟩ = some (.int .i64 (pw x)) ∧ w'.cell? ⟨w5.heap.size, 1, none⟩ = some (.int .i64 (pf x)) ∧ w'.cell? ⟨w1.heap.size + 1 + 1, pw x, none⟩ = some (.int .u64 (ws (pw x))) ∧ w'.cell? ⟨w1.heap.size + 1, x, none⟩ = some (.int .i64 (ow x)))) [13] (by kernel_rfl) (by rfl) ⟨HC.out.1, HC.out.2.1, HC.out.2.2.1, HC.out.2.2.2⟩ (fun hHeld => ?_)
      (try simp only [Array.replicate_succ, Array.replicate_zero, List.push_toArray, List.nil_append, List.cons_append])
      refine wpAnyF_take (i := 0) (v := ?_) (by kernel_rfl) (by kernel_rfl) rfl (by kernel_rfl) (by kernel_rfl) (by kernel_rfl) (fun _ _ _ h => h) (Or.inl ⟨by rfl, ?_⟩) (by assumption) ?_
      rotate_left
      · intro w' hSw; (try dsimp only at hSw); go_simp; (try with_reducible rfl)
      (try simp only [Act.put, List.getElem_toArray, List.getElem_cons_zero, List.getElem_cons_succ, List.setIfInBounds_toArray, List.set_cons_zero, List.set_cons_succ])
      refine wpAnyF_take (i := 1) (v := ?_) (by kernel_rfl) (by kernel_rfl) rfl (by kernel_rfl) (by kernel_rfl) (by kernel_rfl) (fun _ _ _ h => h) (Or.inl ⟨by rfl, ?_⟩) (by assumption) ?_
      rotate_left
      · intro w' hSw; (try dsimp only at hSw); obtain ⟨p0, p1, wc, nc⟩ := hSw; go_simp; (try with_reducible rfl)
      (try simp only [Act.put, List.getElem_toArray, List.getElem_cons_zero, List.getElem_cons_succ, List.setIfInBounds_toArray, List.set_cons_zero, List.set_cons_succ])
      refine wpAnyF_take (i := 2) (v := ?_) (by kernel_rfl) (by kernel_rfl) rfl (by kernel_rfl) (by kernel_rfl) (by kernel_rfl) (fun _ _ _ h => h) (Or.inl ⟨by rfl, ?_⟩) (by assumption) ?_
      rotate_left
      · intro w' hSw; (try dsimp only at hSw); go_simp; (try with_reducible rfl)
      (try simp only [Act.put, List.getElem_toArray, List.getElem_cons_zero, List.getElem_cons_succ, List.setIfInBounds_toArray, List.set_cons_zero, List.set_cons_succ])
      refine wpAnyF_take (i := 3) (v := ?_) (by kernel_rfl) (by kernel_rfl) rfl (by kernel_rfl) (by kernel_rfl) (by kernel_rfl) (fun _ _ _ h => h) (Or.inl ⟨by rfl, ?_⟩) (by assumption) ?_
      rotate_left
      · intro w' hSw; (try dsimp only at hSw); obtain ⟨p0, p1, wc, nc⟩ := hSw; go_simp; (try with_reducible rfl)
      (try simp only [Act.put, List.getElem_toArray, List.getElem_cons_zero, List.getElem_cons_succ, List.setIfInBounds_toArray, List.set_cons_zero, List.set_cons_succ])
      refine wpAnyF_take (i := 4) (v := ?_) (by kernel_rfl) (by kernel_rfl) rfl (by kernel_rfl) (by kernel_rfl) (by kernel_rfl) (fun _ _ _ h => h) (Or.inl ⟨by rfl, ?_⟩) (by assumption) ?_
      rotate_left
      · intro w' hSw; (try dsimp only at hSw); go_simp; (try with_reducible rfl)
      (try simp only [Act.put, List.getElem_toArray, List.getElem_cons_zero, List.getElem_cons_succ, List.setIfInBounds_toArray, List.set_cons_zero, List.set_cons_succ])
      refine wpAnyF_take (i := 5) (v := ?_) (by kernel_rfl) (by kernel_rfl) rfl (by kernel_rfl) (by kernel_rfl) (by kernel_rfl) (fun _ _ _ h => h) (Or.inl ⟨by rfl, ?_⟩) (by assumption) ?_
      rotate_left
      · intro w' hSw; (try dsimp only at hSw); go_simp; (try with_reducible rfl)
      (try simp only [Act.put, List.getElem_toArray, List.getElem_cons_zero, List.getElem_cons_succ, List.setIfInBounds_toArray, List.set_cons_zero, List.set_cons_succ])
      refine wpAnyF_take (i := 6) (v := ?_) (by kernel_rfl) (by kernel_rfl) rfl (by kernel_rfl) (by kernel_rfl) (by kernel_rfl) (fun _ _ _ h => h) (Or.inl ⟨by rfl, ?_⟩) (by assumption) ?_
      rotate_left
      · intro w' hSw; (try dsimp only at hSw); obtain ⟨p0, p1, wc, nc⟩ := hSw; go_simp; (try with_reducible rfl)
      (try simp only [Act.put, List.getElem_toArray, List.getElem_cons_zero, List.getElem_cons_succ, List.setIfInBounds_toArray, List.set_cons_zero, List.set_cons_succ])
      refine wpAnyF_take (i := 7) (v := ?_) (by kernel_rfl) (by kernel_rfl) rfl (by kernel_rfl) (by kernel_rfl) (by kernel_rfl) (fun _ _ _ h => h) (Or.inl ⟨by rfl, ?_⟩) (by assumption) ?_
      rotate_left
      · intro w' hSw; (try dsimp only at hSw); go_simp; (try with_reducible rfl)
      (try simp only [Act.put, List.getElem_toArray, List.getElem_cons_zero, List.getElem_cons_succ, List.setIfInBounds_toArray, List.set_cons_zero, List.set_cons_succ])
      refine wpAnyF_take (i := 8) (v := ?_) (by kernel_rfl) (by kernel_rfl) rfl (by kernel_rfl) (by kernel_rfl) (by kernel_rfl) (fun _ _ _ h => h) (Or.inl ⟨by rfl, ?_⟩) (by assumption) ?_
      rotate_left
      · intro w' hSw; (try dsimp only at hSw); go_simp; (try with_reducible rfl)
      (try simp only [Act.put, List.getElem_toArray, List.getElem_cons_zero, List.getElem_cons_succ, List.setIfInBounds_toArray, List.set_cons_zero, List.set_cons_succ])
      refine wpAnyF_take (i := 9) (v := ?_) (by kernel_rfl) (by kernel_rfl) rfl (by kernel_rfl) (by kernel_rfl) (by kernel_rfl) (fun _ _ _ h => h) (Or.inl ⟨by rfl, ?_⟩) (by assumption) ?_
      rotate_left
      · intro w' hSw; (try dsimp only at hSw); obtain ⟨p0, p1, wc, nc⟩ := hSw; go_simp; (try with_reducible rfl)
      (try simp only [Act.put, List.getElem_toArray, List.getElem_cons_zero, List.getElem_cons_succ, List.setIfInBounds_toArray, List.set_cons_zero, List.set_cons_succ])
      refine wpAnyF_take (i := 10) (v := ?_) (by kernel_rfl) (by kernel_rfl) rfl (by kernel_rfl) (by kernel_rfl) (by kernel_rfl) (fun _ _ _ h => h) (Or.inl ⟨by rfl, ?_⟩) (by assumption) ?_
      rotate_left
      · intro w' hSw; (try dsimp only at hSw); go_simp; (try with_reducible rfl)
      (try simp only [Act.put, List.getElem_toArray, List.getElem_cons_zero, List.getElem_cons_succ, List.setIfInBounds_toArray, List.set_cons_zero, List.set_cons_succ])
      refine wpAnyF_take (i := 11) (v := ?_) (by kernel_rfl) (by kernel_rfl) rfl (by kernel_rfl) (by kernel_rfl) (by kernel_rfl) (fun _ _ _ h => h) (Or.inl ⟨by rfl, ?_⟩) (by assumption) ?_
      rotate_left
      · intro w' hSw; (try dsimp only at hSw); go_simp; (try with_reducible rfl)
      (try simp only [Act.put, List.getElem_toArray, List.getElem_cons_zero, List.getElem_cons_succ, List.setIfInBounds_toArray, List.set_cons_zero, List.set_cons_succ])
      refine wpAnyF_take (i := 12) (v := ?_) (by kernel_rfl) (by kernel_rfl) rfl (by kernel_rfl) (by kernel_rfl) (by kernel_rfl) (fun _ _ _ h => h) (Or.inl ⟨by rfl, ?_⟩) (by assumption) ?_
      rotate_left
      · intro w' hSw; (try dsimp only at hSw); go_simp; (try with_reducible rfl)
      (try simp only [Act.put, List.getElem_toArray, List.getElem_cons_zero, List.getElem_cons_succ, List.setIfInBounds_toArray, List.set_cons_zero, List.set_cons_succ])
      refine wpAnyF_ready (rs := [13]) (by kernel_rfl) (by simp) ?_
      refine AllReadyF.last (by kernel_rfl) rfl (fun KK hKK => ?_) AllReadyF.nil
      go_simp
      refine hKK.out _ _ ?_
      clear hKK KK
      (try simp only [Act.put, List.getElem_toArray, List.getElem_cons_zero, List.getElem_cons_succ, List.setIfInBounds_toArray, List.set_cons_zero, List.set_cons_succ])
      refine wpAnyF_done (by kernel_rfl) ?_ _
      refine normQ_in ?_
      have hsv := step_val (x := x) (n := nums) (ws := ws) HX.out.1 HX.out.2.1.1 HX.out.2.1.2 HWS.out
      rw [← HX.out.2.2] at hsv
      rw [HX.out.2.2] at hsv
      have hI6 := (HI5.out.step (by omega) (by omega) nums (x := x)).later (below_drew _)
      rw [← hsv] at hI6
      refine ⟨((KW.of_below HBV.out).trans (KW.set _ _ _)).trans (kw_drew _), ((Stays.below HBV.out (by omega)).trans (stays_set (by omega))).trans (stays_drew _), ?_⟩
      show EnI w (w1.heap.size + 1 + 1) (w1.heap.size + 1) ow (wordsN m nums (pre ++ [x])) _
      rw [HNX.out, HX.out.2.2]
      exact hI6
    case done =>
      rintro ys V rfl hI hK hs2
      obtain ⟨q0, q1, q2, q3⟩ := CB.four hI.ws
      obtain ⟨r0, r1, r2, r3⟩ := CB.four hI.r
      have rf := hI.r.frozen
      rw [hz3] at hK
      have HI := hi hI
      have hEN := HEN.out
      have hDM : (set4 V (w.heap.size + 1) (.int .u64 (wordsN m nums ys 0)) (.int .u64 (wordsN m nums ys 1)) (.int .u64 (wordsN m nums ys 2)) (.int .u64 (wordsN m nums ys 3))).heap[w1.heap.size + 4]? = some (.deferred (some [])) := by
        rw [Below.heap_setCell _ ⟨w.heap.size + 1, 3, none⟩ _ _ (by show w1.heap.size + 4 ≠ w.heap.size + 1; omega), Below.heap_setCell _ ⟨w.heap.size + 1, 2, none⟩ _ _ (by show w1.heap.size + 4 ≠ w.heap.size + 1; omega), Below.heap_setCell _ ⟨w.heap.size + 1, 1, none⟩ _ _ (by show w1.heap.size + 4 ≠ w.heap.size + 1; omega), Below.heap_setCell _ ⟨w.heap.size + 1, 0, none⟩ _ _ (by show w1.heap.size + 4 ≠ w.heap.size + 1; omega)]
        exact hK
      have HDM := hi hDM
      clear hDM hK hI
      subst hEN
      go_wp2
      refine ⟨by simp, .inl ⟨_, _, rfl, run_takeDeferred HDM.out, ?_⟩⟩
      exact ⟨_, results_w rfl _ _ (w.heap.size + 1) _ _ _ _ _ rfl rfl (CB.putO (by omega) (HI.out.r.set4 _ _ _ _)), rfl, below_put (below_set4 HI.out.below (by omega) _ _ _ _) _ (by simp; exact HI.out.below.size) (by omega)⟩
    case stop =>
      rintro cd pre V hpre h _ _
      exact h.elim

end Go.Proofs.Ytfnokpajendlmaa
