/-
  The law FrameHolds at every input.
-/
import Derived.Test.YtjgamfonpagkbaaLawH
namespace Go.Proofs.Ytjgamfonpagkbaa
open Go.ChangeShapes Go.WideShapes Go.ChangeAt Go.RowKit Go.Shelf
set_option linter.unusedVariables false
attribute [local go_sem] Oper.semAt_some

/-! ### Plain -/
theorem wrL_keep {α : Type} (φ : Ln → α) {p : Pl} (hφ : ∀ id l x, φ (chgV id l p.r x) = φ l) {f0 : Int} {v : Nat} {es : List En} (j : Nat) : ∀ ks : List Nat, φ (nthE (wrL p f0 v es ks).1 j).ln = φ (nthE es j).ln :=
  list_snoc rfl (fun ks k ih => by
    rw [wrL_snoc, wrK]
    by_cases e : plcK f0 p.f k = j
    · subst e
      by_cases hl : plcK f0 p.f k < (wrL p f0 v es ks).1.length
      · rw [nthE_set_self hl]
        exact (hφ _ _ _).trans ih
      · rw [List.set_eq_of_length_le (by omega)]
        exact ih
    · rw [nthE_set_ne e]
      exact ih)
theorem groups_stay (A B f0 : Int) (v : Nat) (es : List En) : readV ⟨4, B, 32⟩ 32 f0 (writeV ⟨11, A, 4⟩ 4 f0 v es).1 = readV ⟨4, B, 32⟩ 32 f0 es := by
  unfold readV
  rw [writeV_len]
  refine readL_congr _ (fun k _ => ?_)
  have := wrL_keep (fun l => l.g) (p := ⟨11, A, 4⟩) (fun id l x => rfl) (f0 := f0) (v := v) (es := es) (plcK f0 B k) (presL f0 es.length A 4)
  show (nthE _ _).ln.g.toNat = (nthE _ _).ln.g.toNat
  rw [show (nthE (writeV ⟨11, A, 4⟩ 4 f0 v es).1 (plcK f0 B k)).ln.g = (nthE es (plcK f0 B k)).ln.g from this]
theorem field_eight (v k : Nat) : fieldN 8 v k = v / 2 ^ (8 * k) % 256 := by
  apply Nat.eq_of_testBit_eq
  intro i
  rw [fieldN, sumB_bit, show (256 : Nat) = 2 ^ 8 from rfl, Nat.testBit_mod_two_pow, Nat.testBit_div_two_pow, Nat.add_comm i]
theorem holds_p (A f0 : Int) (v : Nat) (es : List En) {k : Nat} (hk : k < 4) (h : hasB f0 es.length (A + k) = true) : (nthE (writeV ⟨11, A, 4⟩ 4 f0 v es).1 (plcK f0 A k)).ln.p = bits .and .i64 ((v / 2 ^ (8 * k) : Nat) : Int) 248 := by
  have := writeV_at (p := ⟨11, A, 4⟩) (c := 4) (v := v) hk h
  dsimp only at this
  rw [this]
  show realV (fieldN 8 v k : Nat) = _
  rw [show (248 : Int) = ((248 : Nat) : Int) from rfl, and_low _ 248 (by decide), realV, field_eight]
  congr 2
  unfold low8
  omega
theorem holds_g (B f0 : Int) (v : Nat) (es : List En) {k : Nat} (hk : k < 32) (h : hasB f0 es.length (B + k) = true) : (nthE (writeV ⟨4, B, 32⟩ 32 f0 v es).1 (plcK f0 B k)).ln.g = ((if v.testBit k then 1 else 0 : Nat) : Int) := by
  have := writeV_at (p := ⟨4, B, 32⟩) (c := 32) (v := v) hk h
  dsimp only at this
  rw [this]
  show ((fieldN 1 v k : Nat) : Int) = _
  rw [field_one]
theorem and_one32 (x i : Nat) (hx : x < 4294967296) : bits .and .u32 ((x : Int) / 2 ^ i) 1 = ((if x.testBit i then 1 else 0 : Nat) : Int) := by
  have e1 : ((x : Int) / 2 ^ i) = ((x / 2 ^ i : Nat) : Int) := by
    rw [Int.natCast_ediv, Int.natCast_pow]; rfl
  rw [e1, show (1 : Int) = ((1 : Nat) : Int) from rfl, u32_and_nat _ _ (Nat.lt_of_le_of_lt (Nat.div_le_self _ _) hx) (by decide)]
  congr 1
  rw [Nat.and_one_is_mod, Nat.testBit_eq_decide_div_mod_eq]
  by_cases h : x / 2 ^ i % 2 = 1
  · simp [h]
  · simp [h]; omega

/-- Where the law stands: the bank, both places' boxes. -/
structure HW (w : World) (b g cap P Q : Nat) (f0 A B : Int) (es : List En) (W : World) : Prop where
  bk : BkF w b g cap f0 es W
  p : CB W P 37 #[.int .i64 11, .int .i64 A, .int .i64 4]
  q : CB W Q 37 #[.int .i64 4, .int .i64 B, .int .i64 32]
  n : P ≠ g ∧ Q ≠ g
theorem HW.later {w W W' : World} {b g cap P Q : Nat} {f0 A B : Int} {es : List En} (h : HW w b g cap P Q f0 A B es W) (k : Below W.heap.size W W') : HW w b g cap P Q f0 A B es W' := ⟨h.bk.later k, h.p.below k, h.q.below k, h.n⟩
theorem HW.wrote {w W W' : World} {b g cap P Q : Nat} {f0 A B : Int} {es : List En} {r : Pl} {c v : Nat} (h : HW w b g cap P Q f0 A B es W) (k : After W b g cap f0 (writeV r c f0 v es).1 W') : HW w b g cap P Q f0 A B (writeV r c f0 v es).1 W' := ⟨h.bk.write k, h.p.keptB k.kept h.n.1, h.q.keptB k.kept h.n.2, h.n⟩

set_option maxRecDepth 100000 in
set_option maxHeartbeats 16000000 in
theorem lawHolds_any (f n : Int) (v : Value) (xs : List Ac11) (id : Int) (vv : Nat) (w : World) (hf0 : 0 ≤ f) (hf1 : f < 256) (hn0 : 0 ≤ n) (hn1 : n < 256) (h : ActsAt w v xs) (hl : xs.length ≤ 9223372036854775806) (hi0 : 0 ≤ id) (hi1 : id < 256) (hv : vv < 4294967296) :
    Calls Try.prog 5 #[.int .u8 f, .int .u8 n, v, .int .u8 id, .int .u32 vv] w fun e w' => e = .returned (.bool true) ∧ Below w.heap.size w w' := by
  have CP := hi (fun W (hW : Below w.heap.size w W) => played_any f n v xs W hf0 hf1 hn0 hn1 (h.below hW) hl)
  have hwid := u8_i64 hi0 hi1
  clear h
  go_enter Try.func5, Try.ntmps5
  go_wp2_with (first
    | (go_at_call 9; ((with_reducible refine (awake_any _).mono ?_); rintro e' w1 ⟨rfl, hb⟩; have HB1 := hi hb; clear hb))
    | (go_at_call 16; ((with_reducible refine (CP.out _ HB1.out).mono ?_); rintro e' w2 ⟨b, g, cap, f0, es, rfl, hB⟩; have HK2 := hi hB; clear hB)))
  have HPA := hi (show PlOk ⟨11, id / 4 * 4, 4⟩ 4 from ⟨rfl, by decide, by show 0 ≤ id / 4 * 4; omega, by show id / 4 * 4 + _ ≤ _; omega⟩)
  have HPB := hi (show PlOk ⟨4, id / 32 * 32, 32⟩ 32 from ⟨rfl, by decide, by show 0 ≤ id / 32 * 32; omega, by show id / 32 * 32 + _ ≤ _; omega⟩)
  have hA0 : 0 ≤ id / 4 * 4 ∧ id / 4 * 4 < 256 := by omega
  have hB0 : 0 ≤ id / 32 * 32 ∧ id / 32 * 32 < 256 := by omega
  obtain ⟨A, hA⟩ : ∃ A, id / 4 * 4 = A := ⟨_, rfl⟩
  obtain ⟨B, hB⟩ : ∃ B, id / 32 * 32 = B := ⟨_, rfl⟩
  rw [hA] at HPA hA0 ⊢
  rw [hB] at HPB hB0 ⊢
  have hg2 := HK2.out.bk.row.lt
  have hs2 := HK2.out.below.size
  have HH0 := hi (show HW w1 b g cap w2.heap.size (w2.heap.size + 1) f0 A B es ((w2.alloc (.cells #[.int .i64 11, .int .i64 A, .int .i64 4] 37)).alloc (.cells #[.int .i64 4, .int .i64 B, .int .i64 32] 37)) from
    ⟨(HK2.out.later (bal w2 _)).later (bal _ _), (CB.new w2 _ _).alloc _, cb_second, by omega, by omega⟩)
  obtain ⟨w4, hw4⟩ : ∃ w4, (w2.alloc (.cells #[.int .i64 11, .int .i64 A, .int .i64 4] 37)).alloc (.cells #[.int .i64 4, .int .i64 B, .int .i64 32] 37) = w4 := ⟨_, rfl⟩
  obtain ⟨P, hP⟩ : ∃ P, w2.heap.size = P := ⟨_, rfl⟩
  rw [hP] at HH0 ⊢
  obtain ⟨Q, hQ⟩ : ∃ Q, P + 1 = Q := ⟨_, rfl⟩
  rw [hQ, hw4] at HH0
  rw [hQ, hw4]
  have HVL := hi (show vv < 18446744073709551616 by omega)
  have hwv : IntKind.u64.wrap (vv : Int) = vv := by rw [IntKind.wrap_u64]; omega
  have HGS := hi (groups_stay A B f0 vv es)
  have HHP := hi (fun k (hk : k < 4) h => holds_p A f0 vv es hk h)
  have CR := hi (fun es' W (hW : HW w1 b g cap P Q f0 A B es' W) => (read_any (p := ⟨4, B, 32⟩) hW.bk.bk hW.bk.fit hW.bk.fine HPB.out).mono (R' := fun e' W' => e' = .returned (.int .u64 (readV ⟨4, B, 32⟩ 32 f0 es' : Nat)) ∧ HW w1 b g cap P Q f0 A B es' W') (fun e' W' ⟨h1, h2⟩ => ⟨h1, hW.later h2⟩))
  have CG := hi (fun es' i W (hW : HW w1 b g cap P Q f0 A B es' W) (hi' : Int64 i) => (get_any (id := i) hW.bk.bk hW.bk.fit hi').mono (R' := fun e' W' => e' = .returned (.tuple #[(getR f0 es' i).1.v, .int .i64 (getR f0 es' i).2]) ∧ HW w1 b g cap P Q f0 A B es' W') (fun e' W' ⟨h1, h2⟩ => ⟨h1, hW.later h2⟩))
  obtain ⟨es1, hes1⟩ : ∃ es1, (writeV ⟨11, A, 4⟩ 4 f0 vv es).1 = es1 := ⟨_, rfl⟩
  have CW1 := hi (fun W (hW : HW w1 b g cap P Q f0 A B es W) => (write_any (p := ⟨11, A, 4⟩) (v := vv) hW.bk.bk hW.bk.fit hW.bk.fine HPA.out HVL.out).mono (R' := fun e' W' => (∃ c1 : Nat, e' = .returned (.int .i64 c1)) ∧ HW w1 b g cap P Q f0 A B es1 W') (fun e' W' ⟨h1, h2⟩ => ⟨⟨_, h1⟩, by rw [← hes1]; exact hW.wrote h2⟩))
  have HL1 := hi (show es1.length = es.length by rw [← hes1]; exact writeV_len _ _ _ _ _)
  rw [hes1] at HGS HHP
  have HHG := hi (fun k (hk : k < 32) h => holds_g B f0 vv es1 hk h)
  obtain ⟨es2, hes2⟩ : ∃ es2, (writeV ⟨4, B, 32⟩ 32 f0 vv es1).1 = es2 := ⟨_, rfl⟩
  have CW2 := hi (fun W (hW : HW w1 b g cap P Q f0 A B es1 W) => (write_any (p := ⟨4, B, 32⟩) (v := vv) hW.bk.bk hW.bk.fit hW.bk.fine HPB.out HVL.out).mono (R' := fun e' W' => (∃ c1 : Nat, e' = .returned (.int .i64 c1)) ∧ HW w1 b g cap P Q f0 A B es2 W') (fun e' W' ⟨h1, h2⟩ => ⟨⟨_, h1⟩, by rw [← hes2]; exact hW.wrote h2⟩))
  have HL2 := hi (show es2.length = es1.length by rw [← hes2]; exact writeV_len _ _ _ _ _)
  rw [hes2] at HHG
  have CR0 := hi (fun W hW => CR.out es W hW)
  have CR1 := hi (fun W hW => CR.out es1 W hW)
  rw [HGS.out] at CR1
  obtain ⟨gr0, hgr0⟩ : ∃ gr0, readV ⟨4, B, 32⟩ 32 f0 es = gr0 := ⟨_, rfl⟩
  rw [hgr0] at CR0 CR1
  clear hes1 hes2 hw4 hP hQ hA hB hg2 hs2 HGS hgr0 CR HPA HPB CP hwid HK2
  refine (CR0.out _ HH0.out).mono ?_
  rintro e' v1 ⟨rfl, hH⟩
  obtain ⟨p0, p1, p2⟩ := hH.p.pl
  obtain ⟨q0, q1, q2⟩ := hH.q.pl
  have HH1 := hi hH
  clear hH
  go_wp2_with (go_at_call 18; ((with_reducible refine (CW1.out _ HH1.out).mono ?_); rintro e' v2 ⟨⟨c2, rfl⟩, hS⟩; have HH2 := hi hS; clear hS))
  -- LOOPS
  go_loopw [16] (fun i wr => ∃ k : Nat, k ≤ 4 ∧ i = .int .i64 k ∧ Hi (HW w1 b g cap P Q f0 A B es1 wr)) (fun i _ => 4 - (intOf i).toNat)
  case atStart => exact ⟨0, by omega, rfl, HH2⟩
  case round =>
    obtain ⟨k, hk, rfl, HX⟩ := hrel
    clear HH0 HH1 HH2
    obtain ⟨p0, p1, p2⟩ := HX.out.p.pl
    obtain ⟨q0, q1, q2⟩ := HX.out.q.pl
    by_cases hlt : k < 4
    · skip
      have HG := hi (CG.out es1 (A + k) wr HX.out (by constructor <;> omega))
      have hwk : IntKind.i64.wrap (A + k) = A + k := by rw [IntKind.wrap_i64]; omega
      have hwk1 : IntKind.i64.wrap ((k : Int) + 1) = ((k + 1 : Nat) : Int) := by rw [IntKind.wrap_i64]; omega
      cases hb : hasB f0 es1.length (A + k)
      · rw [show getR f0 es1 (A + k) = (En.zero, 90) by rw [getR, hb]; rfl] at HG
        dsimp only [En.zero, Ln.zero, St.zero, En.v] at HG
        clear hb
        go_wp2_with (go_at_call 19; ((with_reducible refine HG.out.mono ?_); rintro e' v3 ⟨rfl, hS⟩; have HX3 := hi (hS.later (bal v3 (.cells #[.bool false, .bool false, .bool false, .bool false, .bool false, .int .i64 0, .int .i64 0, .string ⟨#[]⟩] 54))); have HE3 := hi (CB.new v3 54 #[.bool false, .bool false, .bool false, .bool false, .bool false, .int .i64 0, .int .i64 0, .string ⟨#[]⟩]); clear hS))
        obtain ⟨v4, hv4⟩ : ∃ v4, v3.alloc (.cells #[.bool false, .bool false, .bool false, .bool false, .bool false, .int .i64 0, .int .i64 0, .string ⟨#[]⟩] 54) = v4 := ⟨_, rfl⟩
        obtain ⟨N, hN⟩ : ∃ N, v3.heap.size = N := ⟨_, rfl⟩
        rw [hN] at HE3 ⊢
        rw [hv4] at HX3 HE3 ⊢
        clear hv4 hN
        have HED := hi HE3.out.drew
        refine wp_region_noPanic ?_
        refine wp_region_last_drew (S := (fun W' => CB W' N 54 #[.bool false, .bool false, .bool false, .bool false, .bool false, .int .i64 0, .int .i64 0, .string ⟨#[]⟩])) [] (by kernel_rfl) HED.out (fun hHeld => ?_)
        (try simp only [Array.replicate_succ, Array.replicate_zero, List.push_toArray, List.nil_append, List.cons_append])
        refine wpAnyF_take (i := 0) (v := ?_) (by kernel_rfl) (by kernel_rfl) rfl (by kernel_rfl) (by kernel_rfl) (by kernel_rfl) (fun _ _ _ h => h) (Or.inl ⟨by rfl, ?_⟩) (by assumption) ?_
        rotate_left
        · intro w' hSw; (try dsimp only at hSw); skip; go_simp; (try with_reducible rfl)
        (try simp only [Act.put, List.getElem_toArray, List.getElem_cons_zero, List.setIfInBounds_toArray, List.set_cons_zero, List.set_cons_succ])
        refine wpAnyF_take (i := 1) (v := ?_) (by kernel_rfl) (by kernel_rfl) rfl (by kernel_rfl) (by kernel_rfl) (by kernel_rfl) (fun _ _ _ h => h) (Or.inl ⟨by rfl, ?_⟩) (by assumption) ?_
        rotate_left
        · intro w' hSw; (try dsimp only at hSw); skip; go_simp; (try with_reducible rfl)
        (try simp only [Act.put, List.getElem_toArray, List.getElem_cons_zero, List.getElem_cons_succ, List.setIfInBounds_toArray, List.set_cons_zero, List.set_cons_succ])
        refine wpAnyF_take (i := 2) (v := ?_) (by kernel_rfl) (by kernel_rfl) rfl (by kernel_rfl) (by kernel_rfl) (by kernel_rfl) (fun _ _ _ h => h) (Or.inl ⟨by rfl, ?_⟩) (by assumption) ?_
        rotate_left
        · intro w' hSw; (try dsimp only at hSw); skip; go_simp; (try with_reducible rfl)
        (try simp only [Act.put, List.getElem_toArray, List.getElem_cons_zero, List.getElem_cons_succ, List.setIfInBounds_toArray, List.set_cons_zero, List.set_cons_succ])
        refine wpAnyF_take (i := 3) (v := undef) (by kernel_rfl) (by kernel_rfl) rfl (by kernel_rfl) (by kernel_rfl) (by kernel_rfl) (fun _ _ _ h => h) (Or.inr ⟨by rfl, rfl⟩) (by assumption) ?_
        (try simp only [Act.put, List.getElem_toArray, List.getElem_cons_zero, List.getElem_cons_succ, List.setIfInBounds_toArray, List.set_cons_zero, List.set_cons_succ])
        refine wpAnyF_take (i := 4) (v := undef) (by kernel_rfl) (by kernel_rfl) rfl (by kernel_rfl) (by kernel_rfl) (by kernel_rfl) (fun _ _ _ h => h) (Or.inr ⟨by rfl, rfl⟩) (by assumption) ?_
        (try simp only [Act.put, List.getElem_toArray, List.getElem_cons_zero, List.getElem_cons_succ, List.setIfInBounds_toArray, List.set_cons_zero, List.set_cons_succ])
        refine wpAnyF_take (i := 5) (v := undef) (by kernel_rfl) (by kernel_rfl) rfl (by kernel_rfl) (by kernel_rfl) (by kernel_rfl) (fun _ _ _ h => h) (Or.inr ⟨by rfl, rfl⟩) (by assumption) ?_
        (try simp only [Act.put, List.getElem_toArray, List.getElem_cons_zero, List.getElem_cons_succ, List.setIfInBounds_toArray, List.set_cons_zero, List.set_cons_succ])
        refine wpAnyF_take (i := 6) (v := undef) (by kernel_rfl) (by kernel_rfl) rfl (by kernel_rfl) (by kernel_rfl) (by kernel_rfl) (fun _ _ _ h => h) (Or.inr ⟨by rfl, rfl⟩) (by assumption) ?_
        (try simp only [Act.put, List.getElem_toArray, List.getElem_cons_zero, List.getElem_cons_succ, List.setIfInBounds_toArray, List.set_cons_zero, List.set_cons_succ])
        refine wpAnyF_take (i := 7) (v := undef) (by kernel_rfl) (by kernel_rfl) rfl (by kernel_rfl) (by kernel_rfl) (by kernel_rfl) (fun _ _ _ h => h) (Or.inr ⟨by rfl, rfl⟩) (by assumption) ?_
        (try simp only [Act.put, List.getElem_toArray, List.getElem_cons_zero, List.getElem_cons_succ, List.setIfInBounds_toArray, List.set_cons_zero, List.set_cons_succ])
        refine wpAnyF_take (i := 8) (v := undef) (by kernel_rfl) (by kernel_rfl) rfl (by kernel_rfl) (by kernel_rfl) (by kernel_rfl) (fun _ _ _ h => h) (Or.inr ⟨by rfl, rfl⟩) (by assumption) ?_
        (try simp only [Act.put, List.getElem_toArray, List.getElem_cons_zero, List.getElem_cons_succ, List.setIfInBounds_toArray, List.set_cons_zero, List.set_cons_succ])
        refine wpAnyF_take (i := 9) (v := undef) (by kernel_rfl) (by kernel_rfl) rfl (by kernel_rfl) (by kernel_rfl) (by kernel_rfl) (fun _ _ _ h => h) (Or.inr ⟨by rfl, rfl⟩) (by assumption) ?_
        (try simp only [Act.put, List.getElem_toArray, List.getElem_cons_zero, List.getElem_cons_succ, List.setIfInBounds_toArray, List.set_cons_zero, List.set_cons_succ])
        refine wpAnyF_take (i := 10) (v := undef) (by kernel_rfl) (by kernel_rfl) rfl (by kernel_rfl) (by kernel_rfl) (by kernel_rfl) (fun _ _ _ h => h) (Or.inr ⟨by rfl, rfl⟩) (by assumption) ?_
        (try simp only [Act.put, List.getElem_toArray, List.getElem_cons_zero, List.getElem_cons_succ, List.setIfInBounds_toArray, List.set_cons_zero, List.set_cons_succ])
        refine wpAnyF_take (i := 11) (v := undef) (by kernel_rfl) (by kernel_rfl) rfl (by kernel_rfl) (by kernel_rfl) (by kernel_rfl) (fun _ _ _ h => h) (Or.inr ⟨by rfl, rfl⟩) (by assumption) ?_
        (try simp only [Act.put, List.getElem_toArray, List.getElem_cons_zero, List.getElem_cons_succ, List.setIfInBounds_toArray, List.set_cons_zero, List.set_cons_succ])
        refine wpAnyF_take (i := 12) (v := undef) (by kernel_rfl) (by kernel_rfl) rfl (by kernel_rfl) (by kernel_rfl) (by kernel_rfl) (fun _ _ _ h => h) (Or.inr ⟨by rfl, rfl⟩) (by assumption) ?_
        (try simp only [Act.put, List.getElem_toArray, List.getElem_cons_zero, List.getElem_cons_succ, List.setIfInBounds_toArray, List.set_cons_zero, List.set_cons_succ])
        refine wpAnyF_take (i := 13) (v := ?_) (by kernel_rfl) (by kernel_rfl) rfl (by kernel_rfl) (by kernel_rfl) (by kernel_rfl) (fun _ _ _ h => h) (Or.inl ⟨by rfl, ?_⟩) (by assumption) ?_
        rotate_left
        · intro w' hSw; (try dsimp only at hSw); skip; go_simp; (try with_reducible rfl)
        (try simp only [Act.put, List.getElem_toArray, List.getElem_cons_zero, List.getElem_cons_succ, List.setIfInBounds_toArray, List.set_cons_zero, List.set_cons_succ])
        refine wpAnyF_done (by kernel_rfl) ?_ _
        refine NoPanic.normal ?_
        have HXD := hi (HX3.out.later (Below.drewN (m := 1) (Below.refl _ _)))
        go_wp2
        go_roundw
        case rel => exact ⟨k + 1, by omega, by go_num, HXD⟩
        case measure => simp only [intOf]; omega
      · rw [show getR f0 es1 (A + k) = (nthE es1 (plcK f0 A k), 0) by rw [getR, hb]; rfl] at HG
        have hval := HHP.out k hlt (by rw [← HL1.out]; exact hb)
        have hw8 : IntKind.i64.wrap (8 * (k : Int)) = ((8 * k : Nat) : Int) := by rw [IntKind.wrap_i64]; omega
        obtain ⟨sh, hsh⟩ : ∃ sh, 8 * k = sh := ⟨_, rfl⟩
        rw [hsh] at hval hw8
        have hsl : sh < 32 := by omega
        have hq0 : (vv : Int) / 2 ^ sh = ((vv / 2 ^ sh : Nat) : Int) := by rw [Int.natCast_ediv, Int.natCast_pow]; rfl
        have hql : vv / 2 ^ sh < 4294967296 := Nat.lt_of_le_of_lt (Nat.div_le_self _ _) hv
        have hwq : IntKind.i64.wrap ((vv : Int) / 2 ^ sh) = ((vv / 2 ^ sh : Nat) : Int) := by rw [hq0]; revert hql; generalize vv / 2 ^ sh = z; intro hql; rw [IntKind.wrap_i64]; omega
        obtain ⟨qq, hqq⟩ : ∃ qq, vv / 2 ^ sh = qq := ⟨_, rfl⟩
        rw [hqq] at hwq hval
        clear hq0 hql hqq hsh
        obtain ⟨y, hy⟩ : ∃ y, nthE es1 (plcK f0 A k) = y := ⟨_, rfl⟩
        rw [hy] at HG hval
        obtain ⟨⟨⟨e, lb', q, a⟩, en, gr, pr⟩, s⟩ := y
        dsimp only [En.v] at HG hval
        have HVAL := hi hval
        clear hb hy hval
        go_wp2_with (go_at_call 19; ((with_reducible refine HG.out.mono ?_); rintro e' v3 ⟨rfl, hS⟩; have HX3 := hi (hS.later (bal v3 (.cells #[.bool e, .bool lb', .bool q, .bool a, .bool en, .int .i64 gr, .int .i64 pr, .string s] 54))); have HE3 := hi (CB.new v3 54 #[.bool e, .bool lb', .bool q, .bool a, .bool en, .int .i64 gr, .int .i64 pr, .string s]); clear hS))
        obtain ⟨v4, hv4⟩ : ∃ v4, v3.alloc (.cells #[.bool e, .bool lb', .bool q, .bool a, .bool en, .int .i64 gr, .int .i64 pr, .string s] 54) = v4 := ⟨_, rfl⟩
        obtain ⟨N, hN⟩ : ∃ N, v3.heap.size = N := ⟨_, rfl⟩
        rw [hN] at HE3 ⊢
        rw [hv4] at HX3 HE3 ⊢
        clear hv4 hN
        have HED := hi HE3.out.drew
        refine wp_region_noPanic ?_
        refine wp_region_last_drew (S := (fun W' => CB W' N 54 #[.bool e, .bool lb', .bool q, .bool a, .bool en, .int .i64 gr, .int .i64 pr, .string s])) [] (by kernel_rfl) HED.out (fun hHeld => ?_)
        (try simp only [Array.replicate_succ, Array.replicate_zero, List.push_toArray, List.nil_append, List.cons_append])
        refine wpAnyF_take (i := 0) (v := ?_) (by kernel_rfl) (by kernel_rfl) rfl (by kernel_rfl) (by kernel_rfl) (by kernel_rfl) (fun _ _ _ h => h) (Or.inl ⟨by rfl, ?_⟩) (by assumption) ?_
        rotate_left
        · intro w' hSw; (try dsimp only at hSw); obtain ⟨d0, d1, d2, d3, d4, d5, d6, d7⟩ := CB.ent (x := ⟨⟨⟨e, lb', q, a⟩, en, gr, pr⟩, s⟩) hSw; dsimp only at d0 d1 d2 d3 d4 d5 d6 d7; go_simp; (try with_reducible rfl)
        (try simp only [Act.put, List.getElem_toArray, List.getElem_cons_zero, List.setIfInBounds_toArray, List.set_cons_zero, List.set_cons_succ])
        refine wpAnyF_take (i := 1) (v := ?_) (by kernel_rfl) (by kernel_rfl) rfl (by kernel_rfl) (by kernel_rfl) (by kernel_rfl) (fun _ _ _ h => h) (Or.inl ⟨by rfl, ?_⟩) (by assumption) ?_
        rotate_left
        · intro w' hSw; (try dsimp only at hSw); obtain ⟨d0, d1, d2, d3, d4, d5, d6, d7⟩ := CB.ent (x := ⟨⟨⟨e, lb', q, a⟩, en, gr, pr⟩, s⟩) hSw; dsimp only at d0 d1 d2 d3 d4 d5 d6 d7; go_simp; (try with_reducible rfl)
        (try simp only [Act.put, List.getElem_toArray, List.getElem_cons_zero, List.getElem_cons_succ, List.setIfInBounds_toArray, List.set_cons_zero, List.set_cons_succ])
        refine wpAnyF_take (i := 2) (v := ?_) (by kernel_rfl) (by kernel_rfl) rfl (by kernel_rfl) (by kernel_rfl) (by kernel_rfl) (fun _ _ _ h => h) (Or.inl ⟨by rfl, ?_⟩) (by assumption) ?_
        rotate_left
        · intro w' hSw; (try dsimp only at hSw); obtain ⟨d0, d1, d2, d3, d4, d5, d6, d7⟩ := CB.ent (x := ⟨⟨⟨e, lb', q, a⟩, en, gr, pr⟩, s⟩) hSw; dsimp only at d0 d1 d2 d3 d4 d5 d6 d7; go_simp; (try with_reducible rfl)
        (try simp only [Act.put, List.getElem_toArray, List.getElem_cons_zero, List.getElem_cons_succ, List.setIfInBounds_toArray, List.set_cons_zero, List.set_cons_succ])
        refine wpAnyF_take (i := 3) (v := ?_) (by kernel_rfl) (by kernel_rfl) rfl (by kernel_rfl) (by kernel_rfl) (by kernel_rfl) (fun _ _ _ h => h) (Or.inl ⟨by rfl, ?_⟩) (by assumption) ?_
        rotate_left
        · intro w' hSw; (try dsimp only at hSw); obtain ⟨d0, d1, d2, d3, d4, d5, d6, d7⟩ := CB.ent (x := ⟨⟨⟨e, lb', q, a⟩, en, gr, pr⟩, s⟩) hSw; dsimp only at d0 d1 d2 d3 d4 d5 d6 d7; go_simp; (try with_reducible rfl)
        (try simp only [Act.put, List.getElem_toArray, List.getElem_cons_zero, List.getElem_cons_succ, List.setIfInBounds_toArray, List.set_cons_zero, List.set_cons_succ])
        refine wpAnyF_take (i := 4) (v := ?_) (by kernel_rfl) (by kernel_rfl) rfl (by kernel_rfl) (by kernel_rfl) (by kernel_rfl) (fun _ _ _ h => h) (Or.inl ⟨by rfl, ?_⟩) (by assumption) ?_
        rotate_left
        · intro w' hSw; (try dsimp only at hSw); obtain ⟨d0, d1, d2, d3, d4, d5, d6, d7⟩ := CB.ent (x := ⟨⟨⟨e, lb', q, a⟩, en, gr, pr⟩, s⟩) hSw; dsimp only at d0 d1 d2 d3 d4 d5 d6 d7; go_simp; (try with_reducible rfl)
        (try simp only [Act.put, List.getElem_toArray, List.getElem_cons_zero, List.getElem_cons_succ, List.setIfInBounds_toArray, List.set_cons_zero, List.set_cons_succ])
        refine wpAnyF_take (i := 5) (v := ?_) (by kernel_rfl) (by kernel_rfl) rfl (by kernel_rfl) (by kernel_rfl) (by kernel_rfl) (fun _ _ _ h => h) (Or.inl ⟨by rfl, ?_⟩) (by assumption) ?_
        rotate_left
        · intro w' hSw; (try dsimp only at hSw); obtain ⟨d0, d1, d2, d3, d4, d5, d6, d7⟩ := CB.ent (x := ⟨⟨⟨e, lb', q, a⟩, en, gr, pr⟩, s⟩) hSw; dsimp only at d0 d1 d2 d3 d4 d5 d6 d7; go_simp; (try with_reducible rfl)
        (try simp only [Act.put, List.getElem_toArray, List.getElem_cons_zero, List.getElem_cons_succ, List.setIfInBounds_toArray, List.set_cons_zero, List.set_cons_succ])
        refine wpAnyF_take (i := 6) (v := ?_) (by kernel_rfl) (by kernel_rfl) rfl (by kernel_rfl) (by kernel_rfl) (by kernel_rfl) (fun _ _ _ h => h) (Or.inl ⟨by rfl, ?_⟩) (by assumption) ?_
        rotate_left
        · intro w' hSw; (try dsimp only at hSw); obtain ⟨d0, d1, d2, d3, d4, d5, d6, d7⟩ := CB.ent (x := ⟨⟨⟨e, lb', q, a⟩, en, gr, pr⟩, s⟩) hSw; dsimp only at d0 d1 d2 d3 d4 d5 d6 d7; go_simp; (try with_reducible rfl)
        (try simp only [Act.put, List.getElem_toArray, List.getElem_cons_zero, List.getElem_cons_succ, List.setIfInBounds_toArray, List.set_cons_zero, List.set_cons_succ])
        refine wpAnyF_take (i := 7) (v := ?_) (by kernel_rfl) (by kernel_rfl) rfl (by kernel_rfl) (by kernel_rfl) (by kernel_rfl) (fun _ _ _ h => h) (Or.inl ⟨by rfl, ?_⟩) (by assumption) ?_
        rotate_left
        · intro w' hSw; (try dsimp only at hSw); obtain ⟨d0, d1, d2, d3, d4, d5, d6, d7⟩ := CB.ent (x := ⟨⟨⟨e, lb', q, a⟩, en, gr, pr⟩, s⟩) hSw; dsimp only at d0 d1 d2 d3 d4 d5 d6 d7; go_simp; (try with_reducible rfl)
        (try simp only [Act.put, List.getElem_toArray, List.getElem_cons_zero, List.getElem_cons_succ, List.setIfInBounds_toArray, List.set_cons_zero, List.set_cons_succ])
        refine wpAnyF_take (i := 8) (v := ?_) (by kernel_rfl) (by kernel_rfl) rfl (by kernel_rfl) (by kernel_rfl) (by kernel_rfl) (fun _ _ _ h => h) (Or.inl ⟨by rfl, ?_⟩) (by assumption) ?_
        rotate_left
        · intro w' hSw; (try dsimp only at hSw); obtain ⟨d0, d1, d2, d3, d4, d5, d6, d7⟩ := CB.ent (x := ⟨⟨⟨e, lb', q, a⟩, en, gr, pr⟩, s⟩) hSw; dsimp only at d0 d1 d2 d3 d4 d5 d6 d7; go_simp; (try with_reducible rfl)
        (try simp only [Act.put, List.getElem_toArray, List.getElem_cons_zero, List.getElem_cons_succ, List.setIfInBounds_toArray, List.set_cons_zero, List.set_cons_succ])
        refine wpAnyF_take (i := 9) (v := ?_) (by kernel_rfl) (by kernel_rfl) rfl (by kernel_rfl) (by kernel_rfl) (by kernel_rfl) (fun _ _ _ h => h) (Or.inl ⟨by rfl, ?_⟩) (by assumption) ?_
        rotate_left
        · intro w' hSw; (try dsimp only at hSw); obtain ⟨d0, d1, d2, d3, d4, d5, d6, d7⟩ := CB.ent (x := ⟨⟨⟨e, lb', q, a⟩, en, gr, pr⟩, s⟩) hSw; dsimp only at d0 d1 d2 d3 d4 d5 d6 d7; go_simp; (try with_reducible rfl)
        (try simp only [Act.put, List.getElem_toArray, List.getElem_cons_zero, List.getElem_cons_succ, List.setIfInBounds_toArray, List.set_cons_zero, List.set_cons_succ])
        refine wpAnyF_take (i := 10) (v := ?_) (by kernel_rfl) (by kernel_rfl) rfl (by kernel_rfl) (by kernel_rfl) (by kernel_rfl) (fun _ _ _ h => h) (Or.inl ⟨by rfl, ?_⟩) (by assumption) ?_
        rotate_left
        · intro w' hSw; (try dsimp only at hSw); obtain ⟨d0, d1, d2, d3, d4, d5, d6, d7⟩ := CB.ent (x := ⟨⟨⟨e, lb', q, a⟩, en, gr, pr⟩, s⟩) hSw; dsimp only at d0 d1 d2 d3 d4 d5 d6 d7; go_simp; (try with_reducible rfl)
        (try simp only [Act.put, List.getElem_toArray, List.getElem_cons_zero, List.getElem_cons_succ, List.setIfInBounds_toArray, List.set_cons_zero, List.set_cons_succ])
        refine wpAnyF_take (i := 11) (v := ?_) (by kernel_rfl) (by kernel_rfl) rfl (by kernel_rfl) (by kernel_rfl) (by kernel_rfl) (fun _ _ _ h => h) (Or.inl ⟨by rfl, ?_⟩) (by assumption) ?_
        rotate_left
        · intro w' hSw; (try dsimp only at hSw); obtain ⟨d0, d1, d2, d3, d4, d5, d6, d7⟩ := CB.ent (x := ⟨⟨⟨e, lb', q, a⟩, en, gr, pr⟩, s⟩) hSw; dsimp only at d0 d1 d2 d3 d4 d5 d6 d7; go_simp; (try with_reducible rfl)
        (try simp only [Act.put, List.getElem_toArray, List.getElem_cons_zero, List.getElem_cons_succ, List.setIfInBounds_toArray, List.set_cons_zero, List.set_cons_succ])
        refine wpAnyF_take (i := 12) (v := ?_) (by kernel_rfl) (by kernel_rfl) rfl (by kernel_rfl) (by kernel_rfl) (by kernel_rfl) (fun _ _ _ h => h) (Or.inl ⟨by rfl, ?_⟩) (by assumption) ?_
        rotate_left
        · intro w' hSw; (try dsimp only at hSw); obtain ⟨d0, d1, d2, d3, d4, d5, d6, d7⟩ := CB.ent (x := ⟨⟨⟨e, lb', q, a⟩, en, gr, pr⟩, s⟩) hSw; dsimp only at d0 d1 d2 d3 d4 d5 d6 d7; go_simp; (try with_reducible rfl)
        (try simp only [Act.put, List.getElem_toArray, List.getElem_cons_zero, List.getElem_cons_succ, List.setIfInBounds_toArray, List.set_cons_zero, List.set_cons_succ])
        refine wpAnyF_take (i := 13) (v := ?_) (by kernel_rfl) (by kernel_rfl) rfl (by kernel_rfl) (by kernel_rfl) (by kernel_rfl) (fun _ _ _ h => h) (Or.inl ⟨by rfl, ?_⟩) (by assumption) ?_
        rotate_left
        · intro w' hSw; (try dsimp only at hSw); obtain ⟨d0, d1, d2, d3, d4, d5, d6, d7⟩ := CB.ent (x := ⟨⟨⟨e, lb', q, a⟩, en, gr, pr⟩, s⟩) hSw; dsimp only at d0 d1 d2 d3 d4 d5 d6 d7; go_simp; (try with_reducible rfl)
        (try simp only [Act.put, List.getElem_toArray, List.getElem_cons_zero, List.getElem_cons_succ, List.setIfInBounds_toArray, List.set_cons_zero, List.set_cons_succ])
        refine wpAnyF_done (by kernel_rfl) ?_ _
        refine NoPanic.normal ?_
        have HXD := hi (HX3.out.later (Below.drewN (m := 1) (Below.refl _ _)))
        rw [show (pr != bits .and .i64 (qq : Int) 248) = false by rw [HVAL.out]; simp]
        go_wp2
        go_roundw
        case rel => exact ⟨k + 1, by omega, by go_num, HXD⟩
        case measure => simp only [intOf]; omega
    · obtain rfl : k = 4 := by omega
      go_wp2_with (first
        | (go_at_call 14; ((with_reducible refine (CR1.out _ HX.out).mono ?_); rintro e' v5 ⟨rfl, hS⟩; have HX5 := hi hS; obtain ⟨q0, q1, q2⟩ := hS.q.pl; clear hS))
        | (go_at_call 18; ((with_reducible refine (CW2.out _ HX5.out).mono ?_); rintro e' v6 ⟨⟨c6, rfl⟩, hS⟩; have HH2 := hi hS; clear hS)))
      go_loopw [19] (fun i wr => ∃ k : Nat, k ≤ 32 ∧ i = .int .i64 k ∧ Hi (HW w1 b g cap P Q f0 A B es2 wr)) (fun i _ => 32 - (intOf i).toNat)
      case atStart => exact ⟨0, by omega, rfl, HH2⟩
      case round =>
        obtain ⟨k, hk, rfl, HX⟩ := hrel
        clear HH2
        obtain ⟨q0, q1, q2⟩ := HX.out.q.pl
        by_cases hlt : k < 32
        · skip
          have HG := hi (CG.out es2 (B + k) wr HX.out (by constructor <;> omega))
          have hwk : IntKind.i64.wrap (B + k) = B + k := by rw [IntKind.wrap_i64]; omega
          have hwk1 : IntKind.i64.wrap ((k : Int) + 1) = ((k + 1 : Nat) : Int) := by rw [IntKind.wrap_i64]; omega
          cases hb : hasB f0 es2.length (B + k)
          · rw [show getR f0 es2 (B + k) = (En.zero, 90) by rw [getR, hb]; rfl] at HG
            dsimp only [En.zero, Ln.zero, St.zero, En.v] at HG
            clear hb
            go_wp2_with (go_at_call 19; ((with_reducible refine HG.out.mono ?_); rintro e' v3 ⟨rfl, hS⟩; have HX3 := hi (hS.later (bal v3 (.cells #[.bool false, .bool false, .bool false, .bool false, .bool false, .int .i64 0, .int .i64 0, .string ⟨#[]⟩] 54))); have HE3 := hi (CB.new v3 54 #[.bool false, .bool false, .bool false, .bool false, .bool false, .int .i64 0, .int .i64 0, .string ⟨#[]⟩]); clear hS))
            obtain ⟨v4, hv4⟩ : ∃ v4, v3.alloc (.cells #[.bool false, .bool false, .bool false, .bool false, .bool false, .int .i64 0, .int .i64 0, .string ⟨#[]⟩] 54) = v4 := ⟨_, rfl⟩
            obtain ⟨N, hN⟩ : ∃ N, v3.heap.size = N := ⟨_, rfl⟩
            rw [hN] at HE3 ⊢
            rw [hv4] at HX3 HE3 ⊢
            clear hv4 hN
            have HED := hi HE3.out.drew
            refine wp_region_noPanic ?_
            refine wp_region_last_drew (S := (fun W' => CB W' N 54 #[.bool false, .bool false, .bool false, .bool false, .bool false, .int .i64 0, .int .i64 0, .string ⟨#[]⟩])) [] (by kernel_rfl) HED.out (fun hHeld => ?_)
            (try simp only [Array.replicate_succ, Array.replicate_zero, List.push_toArray, List.nil_append, List.cons_append])
            refine wpAnyF_take (i := 0) (v := ?_) (by kernel_rfl) (by kernel_rfl) rfl (by kernel_rfl) (by kernel_rfl) (by kernel_rfl) (fun _ _ _ h => h) (Or.inl ⟨by rfl, ?_⟩) (by assumption) ?_
            rotate_left
            · intro w' hSw; (try dsimp only at hSw); skip; go_simp; (try with_reducible rfl)
            (try simp only [Act.put, List.getElem_toArray, List.getElem_cons_zero, List.setIfInBounds_toArray, List.set_cons_zero, List.set_cons_succ])
            refine wpAnyF_take (i := 1) (v := ?_) (by kernel_rfl) (by kernel_rfl) rfl (by kernel_rfl) (by kernel_rfl) (by kernel_rfl) (fun _ _ _ h => h) (Or.inl ⟨by rfl, ?_⟩) (by assumption) ?_
            rotate_left
            · intro w' hSw; (try dsimp only at hSw); skip; go_simp; (try with_reducible rfl)
            (try simp only [Act.put, List.getElem_toArray, List.getElem_cons_zero, List.getElem_cons_succ, List.setIfInBounds_toArray, List.set_cons_zero, List.set_cons_succ])
            refine wpAnyF_take (i := 2) (v := ?_) (by kernel_rfl) (by kernel_rfl) rfl (by kernel_rfl) (by kernel_rfl) (by kernel_rfl) (fun _ _ _ h => h) (Or.inl ⟨by rfl, ?_⟩) (by assumption) ?_
            rotate_left
            · intro w' hSw; (try dsimp only at hSw); skip; go_simp; (try with_reducible rfl)
            (try simp only [Act.put, List.getElem_toArray, List.getElem_cons_zero, List.getElem_cons_succ, List.setIfInBounds_toArray, List.set_cons_zero, List.set_cons_succ])
            refine wpAnyF_take (i := 3) (v := undef) (by kernel_rfl) (by kernel_rfl) rfl (by kernel_rfl) (by kernel_rfl) (by kernel_rfl) (fun _ _ _ h => h) (Or.inr ⟨by rfl, rfl⟩) (by assumption) ?_
            (try simp only [Act.put, List.getElem_toArray, List.getElem_cons_zero, List.getElem_cons_succ, List.setIfInBounds_toArray, List.set_cons_zero, List.set_cons_succ])
            refine wpAnyF_take (i := 4) (v := undef) (by kernel_rfl) (by kernel_rfl) rfl (by kernel_rfl) (by kernel_rfl) (by kernel_rfl) (fun _ _ _ h => h) (Or.inr ⟨by rfl, rfl⟩) (by assumption) ?_
            (try simp only [Act.put, List.getElem_toArray, List.getElem_cons_zero, List.getElem_cons_succ, List.setIfInBounds_toArray, List.set_cons_zero, List.set_cons_succ])
            refine wpAnyF_take (i := 5) (v := undef) (by kernel_rfl) (by kernel_rfl) rfl (by kernel_rfl) (by kernel_rfl) (by kernel_rfl) (fun _ _ _ h => h) (Or.inr ⟨by rfl, rfl⟩) (by assumption) ?_
            (try simp only [Act.put, List.getElem_toArray, List.getElem_cons_zero, List.getElem_cons_succ, List.setIfInBounds_toArray, List.set_cons_zero, List.set_cons_succ])
            refine wpAnyF_take (i := 6) (v := undef) (by kernel_rfl) (by kernel_rfl) rfl (by kernel_rfl) (by kernel_rfl) (by kernel_rfl) (fun _ _ _ h => h) (Or.inr ⟨by rfl, rfl⟩) (by assumption) ?_
            (try simp only [Act.put, List.getElem_toArray, List.getElem_cons_zero, List.getElem_cons_succ, List.setIfInBounds_toArray, List.set_cons_zero, List.set_cons_succ])
            refine wpAnyF_take (i := 7) (v := undef) (by kernel_rfl) (by kernel_rfl) rfl (by kernel_rfl) (by kernel_rfl) (by kernel_rfl) (fun _ _ _ h => h) (Or.inr ⟨by rfl, rfl⟩) (by assumption) ?_
            (try simp only [Act.put, List.getElem_toArray, List.getElem_cons_zero, List.getElem_cons_succ, List.setIfInBounds_toArray, List.set_cons_zero, List.set_cons_succ])
            refine wpAnyF_take (i := 8) (v := undef) (by kernel_rfl) (by kernel_rfl) rfl (by kernel_rfl) (by kernel_rfl) (by kernel_rfl) (fun _ _ _ h => h) (Or.inr ⟨by rfl, rfl⟩) (by assumption) ?_
            (try simp only [Act.put, List.getElem_toArray, List.getElem_cons_zero, List.getElem_cons_succ, List.setIfInBounds_toArray, List.set_cons_zero, List.set_cons_succ])
            refine wpAnyF_take (i := 9) (v := undef) (by kernel_rfl) (by kernel_rfl) rfl (by kernel_rfl) (by kernel_rfl) (by kernel_rfl) (fun _ _ _ h => h) (Or.inr ⟨by rfl, rfl⟩) (by assumption) ?_
            (try simp only [Act.put, List.getElem_toArray, List.getElem_cons_zero, List.getElem_cons_succ, List.setIfInBounds_toArray, List.set_cons_zero, List.set_cons_succ])
            refine wpAnyF_take (i := 10) (v := undef) (by kernel_rfl) (by kernel_rfl) rfl (by kernel_rfl) (by kernel_rfl) (by kernel_rfl) (fun _ _ _ h => h) (Or.inr ⟨by rfl, rfl⟩) (by assumption) ?_
            (try simp only [Act.put, List.getElem_toArray, List.getElem_cons_zero, List.getElem_cons_succ, List.setIfInBounds_toArray, List.set_cons_zero, List.set_cons_succ])
            refine wpAnyF_take (i := 11) (v := undef) (by kernel_rfl) (by kernel_rfl) rfl (by kernel_rfl) (by kernel_rfl) (by kernel_rfl) (fun _ _ _ h => h) (Or.inr ⟨by rfl, rfl⟩) (by assumption) ?_
            (try simp only [Act.put, List.getElem_toArray, List.getElem_cons_zero, List.getElem_cons_succ, List.setIfInBounds_toArray, List.set_cons_zero, List.set_cons_succ])
            refine wpAnyF_take (i := 12) (v := ?_) (by kernel_rfl) (by kernel_rfl) rfl (by kernel_rfl) (by kernel_rfl) (by kernel_rfl) (fun _ _ _ h => h) (Or.inl ⟨by rfl, ?_⟩) (by assumption) ?_
            rotate_left
            · intro w' hSw; (try dsimp only at hSw); skip; go_simp; (try with_reducible rfl)
            (try simp only [Act.put, List.getElem_toArray, List.getElem_cons_zero, List.getElem_cons_succ, List.setIfInBounds_toArray, List.set_cons_zero, List.set_cons_succ])
            refine wpAnyF_done (by kernel_rfl) ?_ _
            refine NoPanic.normal ?_
            have HXD := hi (HX3.out.later (Below.drewN (m := 1) (Below.refl _ _)))
            go_wp2
            go_roundw
            case rel => exact ⟨k + 1, by omega, by go_num, HXD⟩
            case measure => simp only [intOf]; omega
          · rw [show getR f0 es2 (B + k) = (nthE es2 (plcK f0 B k), 0) by rw [getR, hb]; rfl] at HG
            have hval := HHG.out k hlt (by rw [← HL2.out]; exact hb)
            have hq0 := and_one32 vv k hv
            obtain ⟨qq, hqq⟩ : ∃ qq : Nat, (if vv.testBit k then 1 else 0 : Nat) = qq := ⟨_, rfl⟩
            rw [hqq] at hq0 hval
            have hqs : qq ≤ 1 := by rw [← hqq]; split <;> omega
            have hwq : IntKind.i64.wrap (qq : Int) = qq := by rw [IntKind.wrap_i64]; omega
            clear hqq hqs
            obtain ⟨y, hy⟩ : ∃ y, nthE es2 (plcK f0 B k) = y := ⟨_, rfl⟩
            rw [hy] at HG hval
            obtain ⟨⟨⟨e, lb', q, a⟩, en, gr, pr⟩, s⟩ := y
            dsimp only [En.v] at HG hval
            have HVAL := hi hval
            clear hb hy hval
            go_wp2_with (go_at_call 19; ((with_reducible refine HG.out.mono ?_); rintro e' v3 ⟨rfl, hS⟩; have HX3 := hi (hS.later (bal v3 (.cells #[.bool e, .bool lb', .bool q, .bool a, .bool en, .int .i64 gr, .int .i64 pr, .string s] 54))); have HE3 := hi (CB.new v3 54 #[.bool e, .bool lb', .bool q, .bool a, .bool en, .int .i64 gr, .int .i64 pr, .string s]); clear hS))
            obtain ⟨v4, hv4⟩ : ∃ v4, v3.alloc (.cells #[.bool e, .bool lb', .bool q, .bool a, .bool en, .int .i64 gr, .int .i64 pr, .string s] 54) = v4 := ⟨_, rfl⟩
            obtain ⟨N, hN⟩ : ∃ N, v3.heap.size = N := ⟨_, rfl⟩
            rw [hN] at HE3 ⊢
            rw [hv4] at HX3 HE3 ⊢
            clear hv4 hN
            have HED := hi HE3.out.drew
            refine wp_region_noPanic ?_
            refine wp_region_last_drew (S := (fun W' => CB W' N 54 #[.bool e, .bool lb', .bool q, .bool a, .bool en, .int .i64 gr, .int .i64 pr, .string s])) [] (by kernel_rfl) HED.out (fun hHeld => ?_)
            (try simp only [Array.replicate_succ, Array.replicate_zero, List.push_toArray, List.nil_append, List.cons_append])
            refine wpAnyF_take (i := 0) (v := ?_) (by kernel_rfl) (by kernel_rfl) rfl (by kernel_rfl) (by kernel_rfl) (by kernel_rfl) (fun _ _ _ h => h) (Or.inl ⟨by rfl, ?_⟩) (by assumption) ?_
            rotate_left
            · intro w' hSw; (try dsimp only at hSw); obtain ⟨d0, d1, d2, d3, d4, d5, d6, d7⟩ := CB.ent (x := ⟨⟨⟨e, lb', q, a⟩, en, gr, pr⟩, s⟩) hSw; dsimp only at d0 d1 d2 d3 d4 d5 d6 d7; go_simp; (try with_reducible rfl)
            (try simp only [Act.put, List.getElem_toArray, List.getElem_cons_zero, List.setIfInBounds_toArray, List.set_cons_zero, List.set_cons_succ])
            refine wpAnyF_take (i := 1) (v := ?_) (by kernel_rfl) (by kernel_rfl) rfl (by kernel_rfl) (by kernel_rfl) (by kernel_rfl) (fun _ _ _ h => h) (Or.inl ⟨by rfl, ?_⟩) (by assumption) ?_
            rotate_left
            · intro w' hSw; (try dsimp only at hSw); obtain ⟨d0, d1, d2, d3, d4, d5, d6, d7⟩ := CB.ent (x := ⟨⟨⟨e, lb', q, a⟩, en, gr, pr⟩, s⟩) hSw; dsimp only at d0 d1 d2 d3 d4 d5 d6 d7; go_simp; (try with_reducible rfl)
            (try simp only [Act.put, List.getElem_toArray, List.getElem_cons_zero, List.getElem_cons_succ, List.setIfInBounds_toArray, List.set_cons_zero, List.set_cons_succ])
            refine wpAnyF_take (i := 2) (v := ?_) (by kernel_rfl) (by kernel_rfl) rfl (by kernel_rfl) (by kernel_rfl) (by kernel_rfl) (fun _ _ _ h => h) (Or.inl ⟨by rfl, ?_⟩) (by assumption) ?_
            rotate_left
            · intro w' hSw; (try dsimp only at hSw); obtain ⟨d0, d1, d2, d3, d4, d5, d6, d7⟩ := CB.ent (x := ⟨⟨⟨e, lb', q, a⟩, en, gr, pr⟩, s⟩) hSw; dsimp only at d0 d1 d2 d3 d4 d5 d6 d7; go_simp; (try with_reducible rfl)
            (try simp only [Act.put, List.getElem_toArray, List.getElem_cons_zero, List.getElem_cons_succ, List.setIfInBounds_toArray, List.set_cons_zero, List.set_cons_succ])
            refine wpAnyF_take (i := 3) (v := ?_) (by kernel_rfl) (by kernel_rfl) rfl (by kernel_rfl) (by kernel_rfl) (by kernel_rfl) (fun _ _ _ h => h) (Or.inl ⟨by rfl, ?_⟩) (by assumption) ?_
            rotate_left
            · intro w' hSw; (try dsimp only at hSw); obtain ⟨d0, d1, d2, d3, d4, d5, d6, d7⟩ := CB.ent (x := ⟨⟨⟨e, lb', q, a⟩, en, gr, pr⟩, s⟩) hSw; dsimp only at d0 d1 d2 d3 d4 d5 d6 d7; go_simp; (try with_reducible rfl)
            (try simp only [Act.put, List.getElem_toArray, List.getElem_cons_zero, List.getElem_cons_succ, List.setIfInBounds_toArray, List.set_cons_zero, List.set_cons_succ])
            refine wpAnyF_take (i := 4) (v := ?_) (by kernel_rfl) (by kernel_rfl) rfl (by kernel_rfl) (by kernel_rfl) (by kernel_rfl) (fun _ _ _ h => h) (Or.inl ⟨by rfl, ?_⟩) (by assumption) ?_
            rotate_left
            · intro w' hSw; (try dsimp only at hSw); obtain ⟨d0, d1, d2, d3, d4, d5, d6, d7⟩ := CB.ent (x := ⟨⟨⟨e, lb', q, a⟩, en, gr, pr⟩, s⟩) hSw; dsimp only at d0 d1 d2 d3 d4 d5 d6 d7; go_simp; (try with_reducible rfl)
            (try simp only [Act.put, List.getElem_toArray, List.getElem_cons_zero, List.getElem_cons_succ, List.setIfInBounds_toArray, List.set_cons_zero, List.set_cons_succ])
            refine wpAnyF_take (i := 5) (v := ?_) (by kernel_rfl) (by kernel_rfl) rfl (by kernel_rfl) (by kernel_rfl) (by kernel_rfl) (fun _ _ _ h => h) (Or.inl ⟨by rfl, ?_⟩) (by assumption) ?_
            rotate_left
            · intro w' hSw; (try dsimp only at hSw); obtain ⟨d0, d1, d2, d3, d4, d5, d6, d7⟩ := CB.ent (x := ⟨⟨⟨e, lb', q, a⟩, en, gr, pr⟩, s⟩) hSw; dsimp only at d0 d1 d2 d3 d4 d5 d6 d7; go_simp; (try with_reducible rfl)
            (try simp only [Act.put, List.getElem_toArray, List.getElem_cons_zero, List.getElem_cons_succ, List.setIfInBounds_toArray, List.set_cons_zero, List.set_cons_succ])
            refine wpAnyF_take (i := 6) (v := ?_) (by kernel_rfl) (by kernel_rfl) rfl (by kernel_rfl) (by kernel_rfl) (by kernel_rfl) (fun _ _ _ h => h) (Or.inl ⟨by rfl, ?_⟩) (by assumption) ?_
            rotate_left
            · intro w' hSw; (try dsimp only at hSw); obtain ⟨d0, d1, d2, d3, d4, d5, d6, d7⟩ := CB.ent (x := ⟨⟨⟨e, lb', q, a⟩, en, gr, pr⟩, s⟩) hSw; dsimp only at d0 d1 d2 d3 d4 d5 d6 d7; go_simp; (try with_reducible rfl)
            (try simp only [Act.put, List.getElem_toArray, List.getElem_cons_zero, List.getElem_cons_succ, List.setIfInBounds_toArray, List.set_cons_zero, List.set_cons_succ])
            refine wpAnyF_take (i := 7) (v := ?_) (by kernel_rfl) (by kernel_rfl) rfl (by kernel_rfl) (by kernel_rfl) (by kernel_rfl) (fun _ _ _ h => h) (Or.inl ⟨by rfl, ?_⟩) (by assumption) ?_
            rotate_left
            · intro w' hSw; (try dsimp only at hSw); obtain ⟨d0, d1, d2, d3, d4, d5, d6, d7⟩ := CB.ent (x := ⟨⟨⟨e, lb', q, a⟩, en, gr, pr⟩, s⟩) hSw; dsimp only at d0 d1 d2 d3 d4 d5 d6 d7; go_simp; (try with_reducible rfl)
            (try simp only [Act.put, List.getElem_toArray, List.getElem_cons_zero, List.getElem_cons_succ, List.setIfInBounds_toArray, List.set_cons_zero, List.set_cons_succ])
            refine wpAnyF_take (i := 8) (v := ?_) (by kernel_rfl) (by kernel_rfl) rfl (by kernel_rfl) (by kernel_rfl) (by kernel_rfl) (fun _ _ _ h => h) (Or.inl ⟨by rfl, ?_⟩) (by assumption) ?_
            rotate_left
            · intro w' hSw; (try dsimp only at hSw); obtain ⟨d0, d1, d2, d3, d4, d5, d6, d7⟩ := CB.ent (x := ⟨⟨⟨e, lb', q, a⟩, en, gr, pr⟩, s⟩) hSw; dsimp only at d0 d1 d2 d3 d4 d5 d6 d7; go_simp; (try with_reducible rfl)
            (try simp only [Act.put, List.getElem_toArray, List.getElem_cons_zero, List.getElem_cons_succ, List.setIfInBounds_toArray, List.set_cons_zero, List.set_cons_succ])
            refine wpAnyF_take (i := 9) (v := ?_) (by kernel_rfl) (by kernel_rfl) rfl (by kernel_rfl) (by kernel_rfl) (by kernel_rfl) (fun _ _ _ h => h) (Or.inl ⟨by rfl, ?_⟩) (by assumption) ?_
            rotate_left
            · intro w' hSw; (try dsimp only at hSw); obtain ⟨d0, d1, d2, d3, d4, d5, d6, d7⟩ := CB.ent (x := ⟨⟨⟨e, lb', q, a⟩, en, gr, pr⟩, s⟩) hSw; dsimp only at d0 d1 d2 d3 d4 d5 d6 d7; go_simp; (try with_reducible rfl)
            (try simp only [Act.put, List.getElem_toArray, List.getElem_cons_zero, List.getElem_cons_succ, List.setIfInBounds_toArray, List.set_cons_zero, List.set_cons_succ])
            refine wpAnyF_take (i := 10) (v := ?_) (by kernel_rfl) (by kernel_rfl) rfl (by kernel_rfl) (by kernel_rfl) (by kernel_rfl) (fun _ _ _ h => h) (Or.inl ⟨by rfl, ?_⟩) (by assumption) ?_
            rotate_left
            · intro w' hSw; (try dsimp only at hSw); obtain ⟨d0, d1, d2, d3, d4, d5, d6, d7⟩ := CB.ent (x := ⟨⟨⟨e, lb', q, a⟩, en, gr, pr⟩, s⟩) hSw; dsimp only at d0 d1 d2 d3 d4 d5 d6 d7; go_simp; (try with_reducible rfl)
            (try simp only [Act.put, List.getElem_toArray, List.getElem_cons_zero, List.getElem_cons_succ, List.setIfInBounds_toArray, List.set_cons_zero, List.set_cons_succ])
            refine wpAnyF_take (i := 11) (v := ?_) (by kernel_rfl) (by kernel_rfl) rfl (by kernel_rfl) (by kernel_rfl) (by kernel_rfl) (fun _ _ _ h => h) (Or.inl ⟨by rfl, ?_⟩) (by assumption) ?_
            rotate_left
            · intro w' hSw; (try dsimp only at hSw); obtain ⟨d0, d1, d2, d3, d4, d5, d6, d7⟩ := CB.ent (x := ⟨⟨⟨e, lb', q, a⟩, en, gr, pr⟩, s⟩) hSw; dsimp only at d0 d1 d2 d3 d4 d5 d6 d7; go_simp; (try with_reducible rfl)
            (try simp only [Act.put, List.getElem_toArray, List.getElem_cons_zero, List.getElem_cons_succ, List.setIfInBounds_toArray, List.set_cons_zero, List.set_cons_succ])
            refine wpAnyF_take (i := 12) (v := ?_) (by kernel_rfl) (by kernel_rfl) rfl (by kernel_rfl) (by kernel_rfl) (by kernel_rfl) (fun _ _ _ h => h) (Or.inl ⟨by rfl, ?_⟩) (by assumption) ?_
            rotate_left
            · intro w' hSw; (try dsimp only at hSw); obtain ⟨d0, d1, d2, d3, d4, d5, d6, d7⟩ := CB.ent (x := ⟨⟨⟨e, lb', q, a⟩, en, gr, pr⟩, s⟩) hSw; dsimp only at d0 d1 d2 d3 d4 d5 d6 d7; go_simp; (try with_reducible rfl)
            (try simp only [Act.put, List.getElem_toArray, List.getElem_cons_zero, List.getElem_cons_succ, List.setIfInBounds_toArray, List.set_cons_zero, List.set_cons_succ])
            refine wpAnyF_done (by kernel_rfl) ?_ _
            refine NoPanic.normal ?_
            have HXD := hi (HX3.out.later (Below.drewN (m := 1) (Below.refl _ _)))
            rw [show (gr != (qq : Int)) = false by rw [HVAL.out]; simp]
            go_wp2
            go_roundw
            case rel => exact ⟨k + 1, by omega, by go_num, HXD⟩
            case measure => simp only [intOf]; omega
        · obtain rfl : k = 32 := by omega
          go_wp2
          go_ret
          exact ⟨rfl, HB1.out.trans (HX.out.bk.below.mono HB1.out.size)⟩

end Go.Proofs.Ytjgamfonpagkbaa
