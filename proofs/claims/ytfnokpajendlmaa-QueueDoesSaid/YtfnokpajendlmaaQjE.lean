/-
  The document's Encode where it encodes nothing.
  The document's Encode, plain: sums of words, rows of fields.
  The document's Encode at every command.
  The document's Encode at every command (roads joined); its Print.
-/
import Derived.Test.YtfnokpajendlmaaCmFa
import Derived.Test.YtfnokpajendlmaaCmG
import Derived.Test.YtfnokpajendlmaaLast
namespace Go.Proofs.Ytfnokpajendlmaa
open Go.ChangeShapes Go.WideShapes Go.ChangeAt Go.RowKit
set_option linter.unusedVariables false
set_option linter.unusedSimpArgs false

set_option maxRecDepth 100000 in
set_option maxHeartbeats 2000000 in
theorem renc_no (c : Cm) (b : Bool) (hb : b = false ∨ known c.op = false) (HF : ∀ W, Calls Try.prog 65 #[c.v] W fun e w' => (∃ v, e = .returned (.tuple #[v, .bool b])) ∧ Below W.heap.size W w') (w : World) :
    Calls Try.prog 57 #[c.v] w fun e w' => e = .returned (.tuple #[Wv wz, .bool false]) ∧ Below w.heap.size w w' := by
  have HF := hi HF
  have HK := hi (fun W => dknown_any c.op W)
  have HC := hi (And.intro ((CB.new w 36 c.cs).alloc (.cells (Ws.cs wz) 94)) (cb_second (w := w) (o := .cells c.cs 36) (cs := Ws.cs wz) (t := 94)))
  obtain ⟨kn, hkn⟩ : ∃ kn, known c.op = kn := ⟨_, rfl⟩
  rw [hkn] at HK hb
  clear hkn
  obtain ⟨c1, c2, c3, c4, c5, c6, c7, c8, c9⟩ := c
  dsimp only [Cm.v, Cm.cs] at HF HC HK ⊢
  cases b
  · clear hb
    go_enter Try.func57, Try.ntmps57
    go_wp2_with (go_at_call 65; ((with_reducible refine (HF.out _).mono ?_); rintro e w1 ⟨⟨v, rfl⟩, hb1⟩; have HR := hi (HC.out.2.below hb1); obtain ⟨r0, r1, r2, r3⟩ := CB.four HR.out; have rf := HR.out.frozen; have hz := HR.out.lt; have HB := hi ((bal_two w _ _).trans (hb1.mono (by simp; omega))); clear hb1))
    exact bodyPost_ret (results_w rfl _ _ (w.heap.size + 1) _ _ _ _ _ rfl rfl (HR.out.set4 _ _ _ _)) rfl ⟨rfl, below_set4 HB.out (by omega) _ _ _ _⟩
  · have hk : kn = false := by simpa using hb
    subst hk
    clear hb
    go_enter Try.func57, Try.ntmps57
    go_wp2_with (first
      | (go_at_call 65; ((with_reducible refine (HF.out _).mono ?_); rintro e w1 ⟨⟨v, rfl⟩, hb1⟩; have HR1 := hi (And.intro (HC.out.1.below hb1) (HC.out.2.below hb1)); obtain ⟨q0, q1, q2, q3, q4, q5, q6, q7, q8⟩ := CB.nine HR1.out.1; have HB1 := hi ((bal_two w _ _).trans (hb1.mono (by simp; omega))); clear hb1))
      | (go_at_call 66; ((with_reducible refine (HK.out _).mono ?_); rintro e w2 ⟨rfl, hb2⟩; have HR := hi (HR1.out.2.below hb2); obtain ⟨r0, r1, r2, r3⟩ := CB.four HR.out; have rf := HR.out.frozen; have hz := HR.out.lt; have HB := hi (HB1.out.trans (hb2.mono HB1.out.size)); clear hb2 q0 q1 q2 q3 q4 q5 q6 q7 q8)))
    exact bodyPost_ret (results_w rfl _ _ (w.heap.size + 1) _ _ _ _ _ rfl rfl (HR.out.set4 _ _ _ _)) rfl ⟨rfl, below_set4 HB.out (by omega) _ _ _ _⟩

theorem wrong8 {c : Cm} (hF : c.Fair) (h : c.op = 8) (hw : c.addr < 0 ∨ c.addr % 256 ≠ 0) : validC c = false := by
  cases hv : validC c
  · rfl
  · exfalso
    have hf := validC_fits hv
    have hj := validC_join hv
    obtain ⟨op, dev, ev, num, coll, tgt, bit, addr, valid⟩ := c
    dsimp only at h hw
    subst h
    have h7 := fits_iff.1 (hf 7 (show 7 ∈ fieldsL 8 by decide))
    have hpr : (pr 7 : Int) = 1099511627776 := rfl
    rw [hpr] at h7
    have h1 : 0 ≤ addr.tdiv 256 := h7.1
    have h2 : addr.tdiv 256 < 1099511627776 := h7.2
    have ha := congrArg Cm.addr hj
    have ha2 : RowKit.wrap64 (addr.tdiv 256 * 256) = addr := by simpa [joinC, ownF, numC, fieldsL] using ha
    have : RowKit.wrap64 (addr.tdiv 256 * 256) = addr.tdiv 256 * 256 := by unfold RowKit.wrap64; omega
    omega

end Go.Proofs.Ytfnokpajendlmaa

namespace Go.Proofs.Ytfnokpajendlmaa
open Go.ChangeShapes Go.WideShapes Go.ChangeAt Go.RowKit
set_option linter.unusedVariables false
set_option linter.unusedSimpArgs false

theorem flat4 {F : Nat → List Value} (hF : ∀ x, (F x).length = 4) : ∀ (L : List Nat) (i j x : Nat), L[i]? = some x → j < 4 → (L.flatMap F)[4 * i + j]? = (F x)[j]?
  | [], i, j, x, h, _ => by simp at h
  | y :: L, 0, j, x, h, hj => by
    simp at h; subst h
    rw [List.flatMap_cons, List.getElem?_append_left (by rw [hF]; omega)]
    simp
  | y :: L, i + 1, j, x, h, hj => by
    simp at h
    rw [List.flatMap_cons, List.getElem?_append_right (by rw [hF]; omega), hF]
    rw [show 4 * (i + 1) + j - 4 = 4 * i + j by omega]
    exact flat4 hF L i j x h hj
theorem flat4_len {F : Nat → List Value} (hF : ∀ x, (F x).length = 4) (L : List Nat) : (L.flatMap F).length = 4 * L.length := by
  induction L with
  | nil => rfl
  | cons y L ih => rw [List.flatMap_cons, List.length_append, hF, ih, List.length_cons]; omega

/-- The words as the document adds them. -/
abbrev Zs := Nat → Int
abbrev Zs.cs (z : Zs) : Array Value := #[.int .u64 (z 0), .int .u64 (z 1), .int .u64 (z 2), .int .u64 (z 3)]
def z0 (op : Int) : Zs := fun j => if j = 0 then op else 0
def stepZ (n : Ns) (z : Zs) (x : Nat) : Zs := fun j => if j = pw x then IntKind.u64.wrap (z j + IntKind.u64.wrap (IntKind.u64.wrap (n x) * 2 ^ min (pf x) 64)) else z j
def zN (op : Int) (n : Ns) (L : List Nat) : Zs := L.foldl (stepZ n) (z0 op)
theorem zN_snoc (op : Int) (n : Ns) (L : List Nat) (x : Nat) : zN op n (L ++ [x]) = stepZ n (zN op n L) x := by simp [zN]
theorem add_le (n : Ns) (j : Nat) : ∀ (L : List Nat) (ws : Ws), ws j ≤ (L.foldl (addW n) ws) j
  | [], ws => Nat.le_refl _
  | x :: L, ws => by
    rw [List.foldl_cons]
    refine Nat.le_trans ?_ (add_le n j L _)
    simp only [addW]; split <;> omega
theorem step_sum {x : Nat} {n : Ns} {ws : Ws} {z : Zs} (hx : x < 9) (h0 : 0 ≤ n x) (h1 : n x < pr x) (hz : ∀ j, z j = (ws j : Int)) (hl : addW n ws x (pw x) < 18446744073709551616) : ∀ j, stepZ n z x j = (addW n ws x j : Int) := by
  intro j
  simp only [stepZ, addW] at hl ⊢
  by_cases e : j = pw x
  · subst e
    simp only [if_true] at hl ⊢
    obtain ⟨v, hv⟩ : ∃ v : Nat, n x = v := ⟨(n x).toNat, by omega⟩
    have hp := pm_pr x hx v (by omega)
    have hpr : pr x ≤ 18446744073709551616 := by
      have : x = 0 ∨ x = 1 ∨ x = 2 ∨ x = 3 ∨ x = 4 ∨ x = 5 ∨ x = 6 ∨ x = 7 ∨ x = 8 := by omega
      rcases this with rfl | rfl | rfl | rfl | rfl | rfl | rfl | rfl | rfl <;> decide
    have e1 : IntKind.u64.wrap (n x) = (v : Int) := by rw [hv, IntKind.wrap_u64]; omega
    rw [e1, pm_pow x hx]
    have e2 : (v : Int) * (pm x : Int) = ((pm x * v : Nat) : Int) := by rw [Int.natCast_mul, Int.mul_comm]
    rw [e2]
    have e3 : IntKind.u64.wrap ((pm x * v : Nat) : Int) = ((pm x * v : Nat) : Int) := by rw [IntKind.wrap_u64]; omega
    have e4 : (n x).toNat = v := by omega
    rw [e3, hz, e4]
    rw [e4] at hl
    rw [IntKind.wrap_u64]; omega
  · simp only [e, if_false]; exact hz j
theorem fold_sum {n : Ns} : ∀ (L : List Nat) (ws : Ws) (z : Zs), (∀ f ∈ L, f < 9 ∧ 0 ≤ n f ∧ n f < pr f) → (∀ j, z j = (ws j : Int)) → (∀ j, (L.foldl (addW n) ws) j < 18446744073709551616) → ∀ j, (L.foldl (stepZ n) z) j = ((L.foldl (addW n) ws) j : Int)
  | [], ws, z, _, hz, _ => hz
  | x :: L, ws, z, hL, hz, hl => by
    have hx := hL x List.mem_cons_self
    simp only [List.foldl_cons] at hl ⊢
    exact fold_sum L _ _ (fun f hf => hL f (List.mem_cons_of_mem _ hf)) (step_sum hx.1 hx.2.1 hx.2.2 hz (Nat.lt_of_le_of_lt (add_le n _ L _) (hl _))) hl
/-- A command that is right has the document's words. -/
theorem zN_valid {c : Cm} (h : validC c = true) : ∀ j, zN c.op (numC c) (fieldsL c.op) j = (encW c j : Int) := by
  have hk := validC_known h
  have hf := validC_fits h
  have hl := words_lt h
  have hop : 0 ≤ c.op := by rcases known_cases hk with e | e | e | e | e | e | e | e | e | e | e | e <;> omega
  rw [encW, if_pos h]
  rw [wordsC, words_sums hk hf] at hl ⊢
  refine fold_sum _ _ _ (fun f hm => ⟨fieldsL_lt _ f hm, fits_iff.1 (hf f hm)⟩) (fun j => ?_) hl
  simp only [z0, ws0]; split <;> omega
theorem encW_no {c : Cm} (h : validC c = false) : encW c = wz := by rw [encW, if_neg (by rw [h]; decide)]
theorem validC_of {c : Cm} (hk : known c.op = true) : validC c = ((fieldsL c.op).all (fun f => fits f (numC c f)) && okF c) := by
  simp only [validC, okF, hk, Bool.true_and]
theorem fieldsL_ne {op : Int} (h : known op = true) : 0 < (fieldsL op).length := by
  rcases known_cases h with rfl | rfl | rfl | rfl | rfl | rfl | rfl | rfl | rfl | rfl | rfl | rfl <;> decide
theorem fdl_len (op : Int) : (fieldsL op).length ≤ 4 := by
  cases hk : known op
  · rw [fieldsL_no hk]; simp
  · rcases known_cases hk with rfl | rfl | rfl | rfl | rfl | rfl | rfl | rfl | rfl | rfl | rfl | rfl <;> decide
theorem row_form {W : World} {base n : Nat} {v : Value} {xs : List Value} (h : W.ownsRow base 115 4 v n xs) (hn : 0 < n) : ∃ g cap, v = .slice (some ⟨g, 0, none⟩) n cap ∧ base ≤ g ∧ g < W.heap.size ∧ n ≤ cap := by
  have hlt := h.lt
  rcases h.2 with ⟨_, h0⟩ | ⟨g, cap, cur, rfl, hb, hg, hc, _⟩
  · omega
  · exact ⟨g, cap, rfl, (hlt g (by simp [Value.ownBlock])).1, (hlt g (by simp [Value.ownBlock])).2, hc⟩
theorem fc_len (a b c d : Int) : (fc a b c d).length = 4 := rfl
/-- The cells of a row of fields. -/
theorem row_cells {W : World} {base g n cap : Nat} {c : Cm} {L : List Nat} (hL : fieldsL c.op = L) (h : W.ownsRow base 115 4 (.slice (some ⟨g, 0, none⟩) n cap) n (fdX c)) {i x : Nat} (hi : L[i]? = some x) :
    W.cell? ⟨g, i * 4, none⟩ = some (.int .i64 (pw x)) ∧ W.cell? ⟨g, i * 4 + 1, none⟩ = some (.int .i64 (pf x)) ∧ W.cell? ⟨g, i * 4 + 2, none⟩ = some (.int .i64 (pb x)) ∧ W.cell? ⟨g, i * 4 + 3, none⟩ = some (.int .i64 (numC c x)) := by
  have hlen : (fdX c).length = n * 4 := h.1
  have hl2 : (fdX c).length = 4 * L.length := by rw [fdX, hL]; exact flat4_len (fun _ => fc_len _ _ _ _) L
  have hil : i < L.length := (List.getElem?_eq_some_iff.1 hi).1
  have key : ∀ j, j < 4 → W.cell? ⟨g, i * 4 + j, none⟩ = (fc (pw x) (pf x) (pb x) (numC c x))[j]? := fun j hj => by
    rw [h.cellAt (i * 4 + j) (by omega), fdX, hL, Nat.mul_comm i 4]
    exact flat4 (F := fun f => fc (pw f) (pf f) (pb f) (numC c f)) (fun _ => fc_len _ _ _ _) L i j x hi hj
  exact ⟨key 0 (by omega), key 1 (by omega), key 2 (by omega), key 3 (by omega)⟩

end Go.Proofs.Ytfnokpajendlmaa

namespace Go.Proofs.Ytfnokpajendlmaa
open Go.ChangeShapes Go.WideShapes Go.ChangeAt Go.RowKit
set_option linter.unusedVariables false
set_option linter.unusedSimpArgs false

/-- What the document's Encode keeps through its loop. -/
structure ReI (w : World) (m base n : Nat) (v : Value) (xs : List Value) (z : Zs) (V : World) : Prop where
  ws : CB V m 94 (Zs.cs z)
  r : CB V (w.heap.size + 1) 94 (Ws.cs wz)
  row : V.ownsRow base 115 4 v n xs
  below : Below w.heap.size w V
theorem ReI.later {w : World} {m base n : Nat} {v : Value} {xs : List Value} {z : Zs} {V V' : World} (h : ReI w m base n v xs z V) (k : Below V.heap.size V V') : ReI w m base n v xs z V' := ⟨h.ws.below k, h.r.below k, fd_later h.row k, h.below.trans (k.mono h.below.size)⟩
theorem zs_at (z : Zs) {x : Nat} (h : x < 4) : (Zs.cs z)[x]? = some (.int .u64 (z x)) := by
  have : x = 0 ∨ x = 1 ∨ x = 2 ∨ x = 3 := by omega
  rcases this with rfl | rfl | rfl | rfl <;> rfl
theorem zs_set (z : Zs) {x : Nat} (h : x < 4) (v : Int) : (Zs.cs z).setIfInBounds x (.int .u64 v) = Zs.cs (fun j => if j = x then v else z j) := by
  have : x = 0 ∨ x = 1 ∨ x = 2 ∨ x = 3 := by omega
  rcases this with rfl | rfl | rfl | rfl <;> rfl
theorem CB.zs {W : World} {b : Nat} {t : TypeId} {z : Zs} (h : CB W b t (Zs.cs z)) {x : Nat} (hx : x < 4) : W.cell? ⟨b, x, none⟩ = some (.int .u64 (z x)) := (h.cell x).trans (zs_at z hx)
theorem ReI.step {w : World} {m base n : Nat} {v : Value} {xs : List Value} {z : Zs} {V : World} (h : ReI w m base n v xs z V) (hm : w.heap.size + 1 < m) (hv : v.ownBlock ≠ some m) {x : Nat} (N : Ns) : ReI w m base n v xs (stepZ N z x) (V.setCell ⟨m, pw x, none⟩ (.int .u64 (stepZ N z x (pw x)))) := by
  refine ⟨?_, h.r.other _ _ _ (by omega), ownsRow_setCell_other h.row hv _, below_set h.below (by omega) _⟩
  have := h.ws.set (pw x) (.int .u64 (stepZ N z x (pw x)))
  rw [zs_set _ (pw_lt x)] at this
  have e : (fun j => if j = pw x then (stepZ N z x) (pw x) else z j) = stepZ N z x := by
    funext j
    by_cases hj : j = pw x
    · subst hj; simp
    · simp only [stepZ, hj, if_false]
  rwa [e] at this
theorem pb_pow (x : Nat) (hx : x < 9) : RowKit.wrap64 (2 ^ min (pb x) 64) = (pr x : Int) := by
  have : x = 0 ∨ x = 1 ∨ x = 2 ∨ x = 3 ∨ x = 4 ∨ x = 5 ∨ x = 6 ∨ x = 7 ∨ x = 8 := by omega
  rcases this with rfl | rfl | rfl | rfl | rfl | rfl | rfl | rfl | rfl <;> decide +kernel

theorem row_zero {W : World} {base n : Nat} {v : Value} {xs : List Value} (h : W.ownsRow base 115 4 v n xs) : W.ownsRow 0 115 4 v n xs :=
  ⟨h.1, h.2.elim Or.inl fun ⟨g, cap, cur, hv, hg, r⟩ => Or.inr ⟨g, cap, cur, hv, Nat.zero_le _, r⟩⟩

set_option maxRecDepth 100000 in
set_option maxHeartbeats 4000000 in
theorem renc_loop (c : Cm) (hk : known c.op = true) (hok : okF c = true) (HF : ∀ W, Calls Try.prog 65 #[c.v] W (FdPost c W)) (w : World) :
    Calls Try.prog 57 #[c.v] w fun e w' => e = .returned (.tuple #[Wv (encW c), .bool (validC c)]) ∧ Below w.heap.size w w' := by
  have hop : 0 ≤ c.op ∧ c.op ≤ 15 := by rcases known_cases hk with e | e | e | e | e | e | e | e | e | e | e | e <;> omega
  have HF := hi HF
  have HK := hi (fun W => dknown_any c.op W)
  rw [hk] at HK
  have HV := hi (validC_of hk)
  rw [hok, Bool.and_true] at HV
  have HZ := hi (fun h : validC c = true => zN_valid h)
  have HNO := hi (fun h : validC c = false => encW_no h)
  have HC := hi (And.intro ((CB.new w 36 c.cs).alloc (.cells (Ws.cs wz) 94)) (cb_second (w := w) (o := .cells c.cs 36) (cs := Ws.cs wz) (t := 94)))
  obtain ⟨L, hL⟩ : ∃ L, fieldsL c.op = L := ⟨_, rfl⟩
  have HL := hi hL
  have hL4 : L.length ≤ 4 := by rw [← hL]; exact fdl_len _
  have HL0 := hi (show 0 < L.length by rw [← hL]; exact fieldsL_ne hk)
  have HL9 := hi (fun x (hx : x ∈ L) => fieldsL_lt c.op x (by rw [hL]; exact hx))
  obtain ⟨X, hX⟩ : ∃ X, fdX c = X := ⟨_, rfl⟩
  have HX := hi hX
  obtain ⟨nums, hn⟩ : ∃ n, numC c = n := ⟨_, rfl⟩
  have HRC := hi (fun (W : World) (base g n cap i x : Nat) (h : W.ownsRow base 115 4 (.slice (some ⟨g, 0, none⟩) n cap) n (fdX c)) (hi : L[i]? = some x) => row_cells hL h hi)
  unfold FdPost at HF
  rw [hok] at HF
  rw [hL, hX] at HF
  rw [hX, hn] at HRC
  rw [hL, hn] at HV HZ
  clear hL hX hn hok
  obtain ⟨vd, hvd⟩ : ∃ vd, validC c = vd := ⟨_, rfl⟩
  obtain ⟨en, hen⟩ : ∃ en, encW c = en := ⟨_, rfl⟩
  rw [hvd, hen] at HZ HNO ⊢
  rw [hvd] at HV
  clear hvd hen HX HL hk
  obtain ⟨c1, c2, c3, c4, c5, c6, c7, c8, c9⟩ := c
  dsimp only [Cm.v, Cm.cs] at HF HC HK HZ HL9 hop ⊢
  have hwo : IntKind.u64.wrap c1 = c1 := by rw [IntKind.wrap_u64]; omega
  go_enter Try.func57, Try.ntmps57
  go_wp2_with (first
    | (go_at_call 65; ((with_reducible refine (HF.out _).mono ?_); rintro e w1 ⟨⟨v, rfl, hrow⟩, hb1⟩; obtain ⟨g, cap, rfl, hg1, hg2, hcap⟩ := row_form hrow HL0.out; have HR1 := hi (And.intro (HC.out.1.below hb1) (HC.out.2.below hb1)); have HROW := hi hrow; obtain ⟨q0, q1, q2, q3, q4, q5, q6, q7, q8⟩ := CB.nine HR1.out.1; have HB1 := hi ((bal_two w _ _).trans (hb1.mono (by simp; omega))); clear hb1 hrow))
    | (go_at_call 66; ((with_reducible refine (HK.out _).mono ?_); rintro e w2 ⟨rfl, hb2⟩; have HR := hi (HR1.out.2.below hb2); have HROW2 := hi (fd_later HROW.out hb2); have rc0 := (HR1.out.1.below hb2).cell 0; have HB := hi (HB1.out.trans (hb2.mono HB1.out.size)); have hg3 := Nat.lt_of_lt_of_le hg2 hb2.size; clear hb2 q0 q1 q2 q3 q4 q5 q6 q7 q8)))
  have HI0 := hi (show ReI w w2.heap.size 0 L.length (.slice (some ⟨g, 0, none⟩) L.length cap) X (zN c1 nums (L.take 0)) (w2.alloc (.cells #[.int .u64 c1, .int .u64 0, .int .u64 0, .int .u64 0] 94)) from
    ⟨CB.new _ _ _, HR.out.alloc _, row_zero (HROW2.out.alloc _), HB.out.alloc HB.out.size _⟩)
  have hwm : w.heap.size + 1 < w2.heap.size := HR.out.lt
  clear rc0 HR HROW2 HB hwo
  go_loopw [7] (fun i wr => ∃ k : Nat, k ≤ L.length ∧ i = .int .i64 k ∧ Hi ((∀ j x, j < k → L[j]? = some x → fits x (nums x) = true) ∧ ReI w w2.heap.size 0 L.length (.slice (some ⟨g, 0, none⟩) L.length cap) X (zN c1 nums (L.take k)) wr)) (fun i _ => L.length - (intOf i).toNat)
  case atStart => exact ⟨0, by omega, rfl, hi ⟨fun j x h => absurd h (by omega), HI0.out⟩⟩
  case round =>
    obtain ⟨k, hkl, rfl, HJ⟩ := hrel
    by_cases hlt : k < L.length
    · obtain ⟨x, hx⟩ : ∃ x, L[k]? = some x := ⟨_, List.getElem?_eq_getElem hlt⟩
      have hxL : x ∈ L := List.mem_of_getElem? hx
      have hx9 : x < 9 := HL9.out x hxL
      obtain ⟨k0, k1, k2, k3⟩ := HRC.out _ _ _ _ _ _ _ HJ.out.2.row hx
      have kf := HJ.out.2.row.frozenAt
      have htk : L.take (k + 1) = L.take k ++ [x] := by rw [List.take_add_one, hx]; rfl
      have HX := hi (And.intro hx (And.intro hx9 (And.intro htk (And.intro hxL hlt))))
      have x1 : (k : Int) < (L.length : Int) := by omega
      have hp := pb_pow x hx9
      have hw4 := pw_lt x
      clear hx htk hxL hx9
      go_wp2
      have hnew := CB.new wr 115 #[.int .i64 (pw x), .int .i64 (pf x), .int .i64 (pb x), .int .i64 (nums x)]
      have HJ8 := hi (HJ.out.2.later (bal wr (.cells #[.int .i64 (pw x), .int .i64 (pf x), .int .i64 (pb x), .int .i64 (nums x)] 115)))
      obtain ⟨W8, hW8⟩ : ∃ W8, wr.alloc (.cells #[.int .i64 (pw x), .int .i64 (pf x), .int .i64 (pb x), .int .i64 (nums x)] 115) = W8 := ⟨_, rfl⟩
      rw [hW8] at hnew HJ8 ⊢
      have hwr : w2.heap.size < wr.heap.size := HJ.out.2.ws.lt
      obtain ⟨n0, n1, n2, n3⟩ := CB.four hnew
      have nf := hnew.frozen
      have rf := HJ8.out.r.frozen
      have rz := HJ8.out.r.lt
      obtain ⟨r0, r1, r2, r3⟩ := CB.four HJ8.out.r
      clear hW8 k0 k1 k2 k3 kf
      by_cases hneg : nums x < 0
      · have hvd : vd = false := by
          rw [HV.out, ← Bool.not_eq_true, List.all_eq_true]
          intro h
          have := fits_iff.1 (h x HX.out.2.2.2.1)
          omega
        subst hvd
        obtain rfl := HNO.out rfl
        go_region
        go_wp2
        exact bodyPost_ret (results_w rfl _ _ (w.heap.size + 1) _ _ _ _ _ rfl rfl (HJ8.out.r.drew.set4 _ _ _ _)) rfl ⟨rfl, below_set4 HJ8.out.below.drew (by omega) _ _ _ _⟩
      · by_cases hbig : (pr x : Int) ≤ nums x
        · have hvd : vd = false := by
            rw [HV.out, ← Bool.not_eq_true, List.all_eq_true]
            intro h
            have := fits_iff.1 (h x HX.out.2.2.2.1)
            omega
          subst hvd
          obtain rfl := HNO.out rfl
          go_region
          go_wp2
          exact bodyPost_ret (results_w rfl _ _ (w.heap.size + 1) _ _ _ _ _ rfl rfl (HJ8.out.r.drew.set4 _ _ _ _)) rfl ⟨rfl, below_set4 HJ8.out.below.drew (by omega) _ _ _ _⟩
        · go_region
          go_wp2
          have nw := HJ8.out.ws.zs hw4
          have wf := HJ8.out.ws.frozen
          have hwl := HJ8.out.ws.lt
          have x2 : (pw x : Int) < 4 := by omega
          -- REGION
          refine wp_region_noPanic ?_
          refine wp_region_last_drew (S := (fun w' => w'.cell? ⟨wr.heap.size, 0, none⟩ = some (.int .i64 (pw x)) ∧ w'.cell? ⟨wr.heap.size, 1, none⟩ = some (.int .i64 (pf x)) ∧ w'.cell? ⟨wr.heap.size, 3, none⟩ = some (.int .i64 (nums x)) ∧ w'.cell? ⟨w2.heap.size, pw x, none⟩ = some (.int .u64 (zN c1 nums (L.take k) (pw x))))) [14] (by kernel_rfl) ⟨n0, n1, n3, nw⟩ (fun hHeld => ?_)
          (try simp only [Array.replicate_succ, Array.replicate_zero, List.push_toArray, List.nil_append, List.cons_append])
          refine wpAnyF_take (i := 0) (v := ?_) (by kernel_rfl) (by kernel_rfl) rfl (by kernel_rfl) (by kernel_rfl) (by kernel_rfl) (fun _ _ _ h => h) (Or.inl ⟨by rfl, ?_⟩) (by assumption) ?_
          rotate_left
          · intro w' hSw; (try dsimp only at hSw); go_simp; (try with_reducible rfl)
          (try simp only [Act.put, List.getElem_toArray, List.getElem_cons_zero, List.getElem_cons_succ, List.setIfInBounds_toArray, List.set_cons_zero, List.set_cons_succ])
          refine wpAnyF_take (i := 1) (v := ?_) (by kernel_rfl) (by kernel_rfl) rfl (by kernel_rfl) (by kernel_rfl) (by kernel_rfl) (fun _ _ _ h => h) (Or.inl ⟨by rfl, ?_⟩) (by assumption) ?_
          rotate_left
          · intro w' hSw; (try dsimp only at hSw); obtain ⟨p0, p1, p3, wc⟩ := hSw; go_simp; (try with_reducible rfl)
          (try simp only [Act.put, List.getElem_toArray, List.getElem_cons_zero, List.getElem_cons_succ, List.setIfInBounds_toArray, List.set_cons_zero, List.set_cons_succ])
          refine wpAnyF_take (i := 2) (v := ?_) (by kernel_rfl) (by kernel_rfl) rfl (by kernel_rfl) (by kernel_rfl) (by kernel_rfl) (fun _ _ _ h => h) (Or.inl ⟨by rfl, ?_⟩) (by assumption) ?_
          rotate_left
          · intro w' hSw; (try dsimp only at hSw); go_simp; (try with_reducible rfl)
          (try simp only [Act.put, List.getElem_toArray, List.getElem_cons_zero, List.getElem_cons_succ, List.setIfInBounds_toArray, List.set_cons_zero, List.set_cons_succ])
          refine wpAnyF_take (i := 3) (v := ?_) (by kernel_rfl) (by kernel_rfl) rfl (by kernel_rfl) (by kernel_rfl) (by kernel_rfl) (fun _ _ _ h => h) (Or.inl ⟨by rfl, ?_⟩) (by assumption) ?_
          rotate_left
          · intro w' hSw; (try dsimp only at hSw); obtain ⟨p0, p1, p3, wc⟩ := hSw; go_simp; (try with_reducible rfl)
          (try simp only [Act.put, List.getElem_toArray, List.getElem_cons_zero, List.getElem_cons_succ, List.setIfInBounds_toArray, List.set_cons_zero, List.set_cons_succ])
          refine wpAnyF_take (i := 4) (v := ?_) (by kernel_rfl) (by kernel_rfl) rfl (by kernel_rfl) (by kernel_rfl) (by kernel_rfl) (fun _ _ _ h => h) (Or.inl ⟨by rfl, ?_⟩) (by assumption) ?_
          rotate_left
          · intro w' hSw; (try dsimp only at hSw); go_simp; (try with_reducible rfl)
          (try simp only [Act.put, List.getElem_toArray, List.getElem_cons_zero, List.getElem_cons_succ, List.setIfInBounds_toArray, List.set_cons_zero, List.set_cons_succ])
          refine wpAnyF_take (i := 5) (v := ?_) (by kernel_rfl) (by kernel_rfl) rfl (by kernel_rfl) (by kernel_rfl) (by kernel_rfl) (fun _ _ _ h => h) (Or.inl ⟨by rfl, ?_⟩) (by assumption) ?_
          rotate_left
          · intro w' hSw; (try dsimp only at hSw); obtain ⟨p0, p1, p3, wc⟩ := hSw; go_simp; (try with_reducible rfl)
          (try simp only [Act.put, List.getElem_toArray, List.getElem_cons_zero, List.getElem_cons_succ, List.setIfInBounds_toArray, List.set_cons_zero, List.set_cons_succ])
          refine wpAnyF_take (i := 6) (v := ?_) (by kernel_rfl) (by kernel_rfl) rfl (by kernel_rfl) (by kernel_rfl) (by kernel_rfl) (fun _ _ _ h => h) (Or.inl ⟨by rfl, ?_⟩) (by assumption) ?_
          rotate_left
          · intro w' hSw; (try dsimp only at hSw); go_simp; (try with_reducible rfl)
          (try simp only [Act.put, List.getElem_toArray, List.getElem_cons_zero, List.getElem_cons_succ, List.setIfInBounds_toArray, List.set_cons_zero, List.set_cons_succ])
          refine wpAnyF_take (i := 7) (v := ?_) (by kernel_rfl) (by kernel_rfl) rfl (by kernel_rfl) (by kernel_rfl) (by kernel_rfl) (fun _ _ _ h => h) (Or.inl ⟨by rfl, ?_⟩) (by assumption) ?_
          rotate_left
          · intro w' hSw; (try dsimp only at hSw); obtain ⟨p0, p1, p3, wc⟩ := hSw; go_simp; (try with_reducible rfl)
          (try simp only [Act.put, List.getElem_toArray, List.getElem_cons_zero, List.getElem_cons_succ, List.setIfInBounds_toArray, List.set_cons_zero, List.set_cons_succ])
          refine wpAnyF_take (i := 8) (v := ?_) (by kernel_rfl) (by kernel_rfl) rfl (by kernel_rfl) (by kernel_rfl) (by kernel_rfl) (fun _ _ _ h => h) (Or.inl ⟨by rfl, ?_⟩) (by assumption) ?_
          rotate_left
          · intro w' hSw; (try dsimp only at hSw); go_simp; (try with_reducible rfl)
          (try simp only [Act.put, List.getElem_toArray, List.getElem_cons_zero, List.getElem_cons_succ, List.setIfInBounds_toArray, List.set_cons_zero, List.set_cons_succ])
          refine wpAnyF_take (i := 9) (v := ?_) (by kernel_rfl) (by kernel_rfl) rfl (by kernel_rfl) (by kernel_rfl) (by kernel_rfl) (fun _ _ _ h => h) (Or.inl ⟨by rfl, ?_⟩) (by assumption) ?_
          rotate_left
          · intro w' hSw; (try dsimp only at hSw); go_simp; (try with_reducible rfl)
          (try simp only [Act.put, List.getElem_toArray, List.getElem_cons_zero, List.getElem_cons_succ, List.setIfInBounds_toArray, List.set_cons_zero, List.set_cons_succ])
          refine wpAnyF_take (i := 10) (v := ?_) (by kernel_rfl) (by kernel_rfl) rfl (by kernel_rfl) (by kernel_rfl) (by kernel_rfl) (fun _ _ _ h => h) (Or.inl ⟨by rfl, ?_⟩) (by assumption) ?_
          rotate_left
          · intro w' hSw; (try dsimp only at hSw); obtain ⟨p0, p1, p3, wc⟩ := hSw; go_simp; (try with_reducible rfl)
          (try simp only [Act.put, List.getElem_toArray, List.getElem_cons_zero, List.getElem_cons_succ, List.setIfInBounds_toArray, List.set_cons_zero, List.set_cons_succ])
          refine wpAnyF_take (i := 11) (v := ?_) (by kernel_rfl) (by kernel_rfl) rfl (by kernel_rfl) (by kernel_rfl) (by kernel_rfl) (fun _ _ _ h => h) (Or.inl ⟨by rfl, ?_⟩) (by assumption) ?_
          rotate_left
          · intro w' hSw; (try dsimp only at hSw); go_simp; (try with_reducible rfl)
          (try simp only [Act.put, List.getElem_toArray, List.getElem_cons_zero, List.getElem_cons_succ, List.setIfInBounds_toArray, List.set_cons_zero, List.set_cons_succ])
          refine wpAnyF_take (i := 12) (v := ?_) (by kernel_rfl) (by kernel_rfl) rfl (by kernel_rfl) (by kernel_rfl) (by kernel_rfl) (fun _ _ _ h => h) (Or.inl ⟨by rfl, ?_⟩) (by assumption) ?_
          rotate_left
          · intro w' hSw; (try dsimp only at hSw); go_simp; (try with_reducible rfl)
          (try simp only [Act.put, List.getElem_toArray, List.getElem_cons_zero, List.getElem_cons_succ, List.setIfInBounds_toArray, List.set_cons_zero, List.set_cons_succ])
          refine wpAnyF_take (i := 13) (v := ?_) (by kernel_rfl) (by kernel_rfl) rfl (by kernel_rfl) (by kernel_rfl) (by kernel_rfl) (fun _ _ _ h => h) (Or.inl ⟨by rfl, ?_⟩) (by assumption) ?_
          rotate_left
          · intro w' hSw; (try dsimp only at hSw); go_simp; (try with_reducible rfl)
          (try simp only [Act.put, List.getElem_toArray, List.getElem_cons_zero, List.getElem_cons_succ, List.setIfInBounds_toArray, List.set_cons_zero, List.set_cons_succ])
          refine wpAnyF_ready (rs := [14]) (by kernel_rfl) (by simp) ?_
          refine AllReadyF.last (by kernel_rfl) rfl (fun KK hKK => ?_) AllReadyF.nil
          go_simp
          refine hKK.out _ _ ?_
          clear hKK KK
          (try simp only [Act.put, List.getElem_toArray, List.getElem_cons_zero, List.getElem_cons_succ, List.setIfInBounds_toArray, List.set_cons_zero, List.set_cons_succ])
          refine wpAnyF_done (by kernel_rfl) ?_ _
          refine NoPanic.normal ?_
          -- END
          go_wp2
          go_roundw
          case rel =>
            refine ⟨k + 1, HX.out.2.2.2.2, by go_num, hi ⟨fun j y hj hy => ?_, ?_⟩⟩
            · by_cases e : j = k
              · subst e
                rw [HX.out.1] at hy
                obtain rfl : x = y := by simpa using hy
                exact fits_iff.2 ⟨by omega, by omega⟩
              · exact HJ.out.1 j y (by omega) hy
            · rw [HX.out.2.2.1, zN_snoc]
              have hst := HJ8.out.step (x := x) (by omega) (by simp [Value.ownBlock]; omega) nums
              have hsv : stepZ nums (zN c1 nums (L.take k)) x (pw x) = IntKind.u64.wrap (zN c1 nums (L.take k) (pw x) + IntKind.u64.wrap (IntKind.u64.wrap (nums x) * 2 ^ min (pf x) 64)) := by simp only [stepZ, if_true]
              rw [hsv] at hst
              exact (hst.later (below_drew' _)).later (below_drew' _)
          case measure => have := HX.out.2.2.2.2; simp [intOf]; omega
    · have e : k = L.length := by omega
      subst e
      rw [List.take_length] at HJ
      have x1 : ¬ (L.length : Int) < (L.length : Int) := by omega
      have hvd : vd = true := by
        rw [HV.out, List.all_eq_true]
        intro x hx
        obtain ⟨j, hj⟩ := List.getElem?_of_mem hx
        exact HJ.out.1 j x (List.getElem?_eq_some_iff.1 hj).1 hj
      subst hvd
      obtain ⟨q0, q1, q2, q3⟩ := CB.four HJ.out.2.ws
      have rf := HJ.out.2.r.frozen
      have hz := HJ.out.2.r.lt
      obtain ⟨r0, r1, r2, r3⟩ := CB.four HJ.out.2.r
      have E0 := HZ.out rfl 0
      have E1 := HZ.out rfl 1
      have E2 := HZ.out rfl 2
      have E3 := HZ.out rfl 3
      rw [E0] at q0
      rw [E1] at q1
      rw [E2] at q2
      rw [E3] at q3
      clear E0 E1 E2 E3 hkl hlt
      go_wp2
      exact bodyPost_ret (results_w rfl _ _ (w.heap.size + 1) _ _ _ _ _ rfl rfl (HJ.out.2.r.set4 _ _ _ _)) rfl ⟨rfl, below_set4 HJ.out.2.below (by omega) _ _ _ _⟩

end Go.Proofs.Ytfnokpajendlmaa

namespace Go.Proofs.Ytfnokpajendlmaa
open Go.ChangeShapes Go.WideShapes Go.ChangeAt Go.RowKit Go.Shelf
set_option linter.unusedVariables false
set_option linter.unusedSimpArgs false

theorem validC_unknown {c : Cm} (h : known c.op = false) : validC c = false := by simp [validC, h]
/-- The document's Encode at every command. -/
theorem renc_any (c : Cm) (hF : c.Fair) (w : World) : Calls Try.prog 57 #[c.v] w fun e w' => e = .returned (.tuple #[Wv (encW c), .bool (validC c)]) ∧ Below w.heap.size w w' := by
  have no : ∀ b, b = false ∨ known c.op = false → validC c = false → (∀ W, Calls Try.prog 65 #[c.v] W fun e w' => (∃ v, e = .returned (.tuple #[v, .bool b])) ∧ Below W.heap.size W w') →
      Calls Try.prog 57 #[c.v] w fun e w' => e = .returned (.tuple #[Wv (encW c), .bool (validC c)]) ∧ Below w.heap.size w w' := fun b hb hv HF => by
    rw [encW_no hv, hv]
    exact renc_no c b hb HF w
  by_cases hk : known c.op = true
  · by_cases h8 : c.op = 8 ∧ (c.addr < 0 ∨ c.addr % 256 ≠ 0)
    · refine no false (.inl rfl) (wrong8 hF h8.1 h8.2) (fun W => ?_)
      obtain ⟨op, dev, ev, num, coll, tgt, bit, addr, valid⟩ := c
      obtain ⟨h8, ha⟩ := h8
      dsimp only at h8 ha
      subst h8
      by_cases h0 : addr < 0
      · exact (fields_8a dev ev num coll tgt bit addr valid h0 W).mono fun e w' h => ⟨⟨_, h.1⟩, h.2⟩
      · exact (fields_8b dev ev num coll tgt bit addr valid (by omega) (by omega) W).mono fun e w' h => ⟨⟨_, h.1⟩, h.2⟩
    · have HF := fun W => fields_known c hk hF (fun e => by omega) W
      cases hok : okF c
      · refine no false (.inl rfl) (by rw [validC_of hk, hok, Bool.and_false]) (fun W => ?_)
        refine (HF W).mono fun e w' h => ?_
        unfold FdPost at h
        rw [hok] at h
        obtain ⟨⟨v, h1, _⟩, h2⟩ := h
        exact ⟨⟨v, h1⟩, h2⟩
      · exact renc_loop c hk hok HF w
  · have hk : known c.op = false := by simpa using hk
    have hv := validC_unknown hk
    obtain ⟨op, dev, ev, num, coll, tgt, bit, addr, valid⟩ := c
    exact no (eqCm ⟨0, 0, ev, num, coll, tgt, bit, addr, valid⟩ ⟨0, 0, 0, 0, 0, 0, 0, 0, false⟩) (.inr hk) hv (fun W => fields_no op dev ev num coll tgt bit addr valid hk W)


end Go.Proofs.Ytfnokpajendlmaa
