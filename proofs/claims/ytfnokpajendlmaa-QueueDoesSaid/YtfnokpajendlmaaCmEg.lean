/-
  The document's Decode at all words.
-/
import Derived.Test.YtfnokpajendlmaaQjP
namespace Go.Proofs.Ytfnokpajendlmaa
open Go.ChangeShapes Go.WideShapes Go.ChangeAt Go.RowKit
set_option linter.unusedVariables false
set_option linter.unusedSimpArgs false
attribute [local go_sem high] eql_w neq_w guard_w

/-- What a round of Decode holds: all that Decode keeps, the row, the field's box. -/
structure RdJ (w : World) (ws : Ws) (c : Cm) (n : Nat) (v : Value) (X : List Value) (B : Nat) (a b d e : Int) (V : World) : Prop where
  k : RdI w ws c V
  row : V.ownsRow 0 115 4 v n X
  f : CB V B 115 #[.int .i64 a, .int .i64 b, .int .i64 d, .int .i64 e]
theorem RdJ.later {w : World} {ws : Ws} {c : Cm} {n : Nat} {v : Value} {X : List Value} {B : Nat} {a b d e : Int} {V V' : World} (h : RdJ w ws c n v X B a b d e V) (k : Below V.heap.size V V') : RdJ w ws c n v X B a b d e V' := ⟨h.k.later k, fd_later h.row k, h.f.below k⟩
theorem RdJ.held {w : World} {ws : Ws} {c : Cm} {n : Nat} {v : Value} {X : List Value} {B : Nat} {a b d e : Int} {V : World} (h : RdJ w ws c n v X B a b d e V) {j : Nat} (hj : j < 4) :
    V.cell? ⟨B, 0, none⟩ = some (.int .i64 a) ∧ V.cell? ⟨B, 1, none⟩ = some (.int .i64 b) ∧ V.cell? ⟨B, 2, none⟩ = some (.int .i64 d) ∧ V.cell? ⟨w.heap.size, j, none⟩ = some (.int .u64 (ws j)) ∧ RdJ w ws c n v X B a b d e V :=
  ⟨h.f.cell 0, h.f.cell 1, h.f.cell 2, h.k.ws.ws hj, h⟩
theorem setF_0 (o d e n c t b a : Int) (v : Bool) (x : Int) : setF ⟨o, d, e, n, c, t, b, a, v⟩ 0 x = ⟨o, x, e, n, c, t, b, a, v⟩ := rfl
theorem setF_1 (o d e n c t b a : Int) (v : Bool) (x : Int) : setF ⟨o, d, e, n, c, t, b, a, v⟩ 1 x = ⟨o, d, x, n, c, t, b, a, v⟩ := rfl
theorem setF_2 (o d e n c t b a : Int) (v : Bool) (x : Int) : setF ⟨o, d, e, n, c, t, b, a, v⟩ 2 x = ⟨o, d, e, x, c, t, b, a, v⟩ := rfl
theorem setF_3 (o d e n c t b a : Int) (v : Bool) (x : Int) : setF ⟨o, d, e, n, c, t, b, a, v⟩ 3 x = ⟨o, d, e, x, c, t, b, a, v⟩ := rfl
theorem setF_4 (o d e n c t b a : Int) (v : Bool) (x : Int) : setF ⟨o, d, e, n, c, t, b, a, v⟩ 4 x = ⟨o, d, e, n, x, t, b, a, v⟩ := rfl
theorem setF_5 (o d e n c t b a : Int) (v : Bool) (x : Int) : setF ⟨o, d, e, n, c, t, b, a, v⟩ 5 x = ⟨o, d, e, n, c, x, b, a, v⟩ := rfl
theorem setF_6 (o d e n c t b a : Int) (v : Bool) (x : Int) : setF ⟨o, d, e, n, c, t, b, a, v⟩ 6 x = ⟨o, d, e, n, c, t, x, a, v⟩ := rfl
theorem setF_7 (o d e n c t b a : Int) (v : Bool) (x : Int) : setF ⟨o, d, e, n, c, t, b, a, v⟩ 7 x = ⟨o, d, e, n, c, t, b, 256 * x, v⟩ := rfl
theorem setF_8 (o d e n c t b a : Int) (v : Bool) (x : Int) : setF ⟨o, d, e, n, c, t, b, a, v⟩ 8 x = ⟨o, d, e, n, c, t, b, a, decide (x = 1)⟩ := rfl

set_option maxRecDepth 100000 in
set_option maxHeartbeats 16000000 in
theorem rdec_known (ws : Ws) (hw : ∀ j, ws j < 18446744073709551616) (hk : known (opW ws) = true) (w : World) : Calls Try.prog 50 #[Wv ws] w fun e w' => e = .returned (.tuple #[(decR ws).v, .bool (decOk ws)]) ∧ Below w.heap.size w w' := by
  obtain ⟨e1, e2⟩ := decR_of ws hk
  have hob := opW_bd ws
  have hfr : (decC ws).Fair := by rw [decC_known ws hk, foldF_join ws hk]; exact fair_join ws ⟨by omega, by omega⟩ _
  have HE := hi (fun W => renc_any (decC ws) hfr W)
  have HF := hi (fun W => fields_known ⟨opW ws, 0, 0, 0, 0, 0, 0, 0, false⟩ hk (zero_op_fair hob) (fun _ => ⟨Int.le_refl 0, rfl⟩) W)
  unfold FdPost at HF
  dsimp only [Cm.v] at HF
  have HK := hi (fun W => dknown_any (opW ws) W)
  rw [hk] at HK
  have how : IntKind.i64.wrap (opW ws) = opW ws := by rw [IntKind.wrap_i64]; omega
  have hmo : ((ws 0 : Nat) : Int) % 256 = opW ws := by unfold opW; omega
  have HDC := hi (decC_known ws hk)
  obtain ⟨cc, hcc⟩ : ∃ cc, decC ws = cc := ⟨_, rfl⟩
  rw [hcc] at HE HDC e1 e2
  obtain ⟨vd, hvd⟩ : ∃ vd, validC cc = vd := ⟨_, rfl⟩
  obtain ⟨en, hen⟩ : ∃ en, encW cc = en := ⟨_, rfl⟩
  rw [hvd, hen] at HE e1 e2
  obtain ⟨dr, hdr⟩ : ∃ dr, decR ws = dr := ⟨_, rfl⟩
  obtain ⟨dk, hdk⟩ : ∃ dk, decOk ws = dk := ⟨_, rfl⟩
  rw [hdr] at e1 ⊢
  rw [hdk] at e2 ⊢
  have HDR := hi (And.intro e1 e2)
  clear hdr hdk
  obtain ⟨L, hL⟩ : ∃ L, fieldsL (opW ws) = L := ⟨_, rfl⟩
  have hL4 : L.length ≤ 4 := by rw [← hL]; exact fdl_len _
  have HL0 := hi (show 0 < L.length by rw [← hL]; exact fieldsL_ne hk)
  have HL9 := hi (fun x (hx : x ∈ L) => fieldsL_lt (opW ws) x (by rw [hL]; exact hx))
  obtain ⟨o, ho⟩ : ∃ o, opW ws = o := ⟨_, rfl⟩
  rw [ho] at HF HK how hmo hob HDC hL
  rw [hL] at HF HDC
  have HRC := hi (fun (W : World) (base g n cap i x : Nat) (h : W.ownsRow base 115 4 (.slice (some ⟨g, 0, none⟩) n cap) n (fdX ⟨o, 0, 0, 0, 0, 0, 0, 0, false⟩)) (hi : L[i]? = some x) => row_cells (c := ⟨o, 0, 0, 0, 0, 0, 0, 0, false⟩) hL h hi)
  obtain ⟨X, hX⟩ : ∃ X, fdX ⟨o, 0, 0, 0, 0, 0, 0, 0, false⟩ = X := ⟨_, rfl⟩
  obtain ⟨ok0, hok0⟩ : ∃ b, okF ⟨o, 0, 0, 0, 0, 0, 0, 0, false⟩ = b := ⟨_, rfl⟩
  rw [hX, hok0] at HF
  rw [hX] at HRC
  obtain ⟨nz, hnz⟩ : ∃ nz, numC ⟨o, 0, 0, 0, 0, 0, 0, 0, false⟩ = nz := ⟨_, rfl⟩
  rw [hnz] at HRC
  have HW := hi hw
  clear e1 e2 hfr hk hcc hvd hen hL ho hX hok0 hnz hw
  have HI0 := hi (RdI.start w ws ⟨o, 0, 0, 0, 0, 0, 0, 0, false⟩ (.cells #[.int .i64 o, .int .i64 0, .int .i64 0, .int .i64 0, .int .i64 0, .int .i64 0, .int .i64 0, .int .i64 0, .bool false] 36))
  dsimp only [Cm.zero, Cm.cs] at HI0
  go_enter Try.func50, Try.ntmps50
  go_wp2_with (first
    | (go_at_call 65; ((with_reducible refine (HF.out _).mono ?_); rintro e w1 ⟨⟨v, rfl, hrow⟩, hb1⟩; obtain ⟨g, cap, rfl, hg1, hg2, hcap⟩ := row_form hrow HL0.out; have HI1 := hi (And.intro (HI0.out.later hb1) (row_zero hrow)); obtain ⟨k0, k1, k2, k3, k4, k5, k6, k7, k8⟩ := CB.cm9 HI1.out.1.c; clear hb1 hrow k1 k2 k3 k4 k5 k6 k7 k8))
    | (go_at_call 66; ((with_reducible refine (HK.out _).mono ?_); rintro e w2 ⟨rfl, hb2⟩; have HI2 := hi (show RdI w ws (foldF o (decN ws) (L.take 0)) w2 ∧ w2.ownsRow 0 115 4 (.slice (some ⟨g, 0, none⟩) L.length cap) L.length X from And.intro (HI1.out.1.later hb2) (fd_later HI1.out.2 hb2)); have hg3 := Nat.lt_of_lt_of_le hg2 hb2.size; clear k0 hb2)))
  have hgl : w.heap.size + 1 + 1 < g := by simp at hg1; omega
  clear hg1 hg2
  go_loopw [8] (fun i wr => ∃ k : Nat, k ≤ L.length ∧ i = .int .i64 k ∧ Hi (RdI w ws (foldF o (decN ws) (L.take k)) wr ∧ wr.ownsRow 0 115 4 (.slice (some ⟨g, 0, none⟩) L.length cap) L.length X)) (fun i _ => L.length - (intOf i).toNat)
  case atStart => exact ⟨0, by omega, rfl, HI2⟩
  case round =>
    obtain ⟨k, hkl, rfl, HJ⟩ := hrel
    by_cases hlt : k < L.length
    · obtain ⟨x, hx⟩ : ∃ x, L[k]? = some x := ⟨_, List.getElem?_eq_getElem hlt⟩
      have hxL : x ∈ L := List.mem_of_getElem? hx
      have hx9 : x < 9 := HL9.out x hxL
      obtain ⟨k0, k1, k2, k3⟩ := HRC.out _ _ _ _ _ _ _ HJ.out.2 hx
      have kf := HJ.out.2.frozenAt
      have HNX := hi (And.intro hlt (show foldF o (decN ws) (L.take (k + 1)) = setF (foldF o (decN ws) (L.take k)) x (decN ws x) by
        rw [show L.take (k + 1) = L.take k ++ [x] by rw [List.take_add_one, hx]; rfl, foldF_snoc]))
      obtain ⟨fc, hfc⟩ : ∃ fc, foldF o (decN ws) (L.take k) = fc := ⟨_, rfl⟩
      rw [hfc] at HNX HJ
      have x1 : (k : Int) < (L.length : Int) := by omega
      have hx9' : x = 0 ∨ x = 1 ∨ x = 2 ∨ x = 3 ∨ x = 4 ∨ x = 5 ∨ x = 6 ∨ x = 7 ∨ x = 8 := by omega
      obtain ⟨f1, f2, f3, f4, f5, f6, f7, f8, f9⟩ := fc
      clear hx hxL hx9 hfc
      rcases hx9' with rfl | rfl | rfl | rfl | rfl | rfl | rfl | rfl | rfl
      · -- case 0
        dsimp only [pw, pf, pb] at k0 k1 k2
        have HP := hi (fun W => part_32_32 (ws 0) (HW.out 0) W)
        go_wp2
        have HJ8 := hi (show RdJ w ws ⟨f1, f2, f3, f4, f5, f6, f7, f8, f9⟩ L.length (.slice (some ⟨g, 0, none⟩) L.length cap) X wr.heap.size 0 32 32 (nz 0) (wr.alloc (.cells #[.int .i64 0, .int .i64 32, .int .i64 32, .int .i64 (nz 0)] 115)) from
          ⟨HJ.out.1.later (bal _ _), fd_later HJ.out.2 (bal _ _), CB.new _ _ _⟩)
        obtain ⟨W8, hW8⟩ : ∃ W8, wr.alloc (.cells #[.int .i64 0, .int .i64 32, .int .i64 32, .int .i64 (nz 0)] 115) = W8 := ⟨_, rfl⟩
        rw [hW8] at HJ8 ⊢
        clear hW8 k0 k1 k2 k3 kf
        refine wp_region_noPanic ?_
        refine wp_region_last_drew (S := (fun w' => w'.cell? ⟨wr.heap.size, 0, none⟩ = some (.int .i64 0) ∧ w'.cell? ⟨wr.heap.size, 1, none⟩ = some (.int .i64 32) ∧ w'.cell? ⟨wr.heap.size, 2, none⟩ = some (.int .i64 32) ∧ w'.cell? ⟨w.heap.size, 0, none⟩ = some (.int .u64 (ws 0)) ∧ RdJ w ws ⟨f1, f2, f3, f4, f5, f6, f7, f8, f9⟩ L.length (.slice (some ⟨g, 0, none⟩) L.length cap) X wr.heap.size 0 32 32 (nz 0) w')) [] (by kernel_rfl) ((HJ8.out.later (below_drew' _)).held (j := 0) (by decide)) (fun hHeld => ?_)
        (try simp only [Array.replicate_succ, Array.replicate_zero, List.push_toArray, List.nil_append, List.cons_append])
        refine wpAnyF_take (i := 0) (v := ?_) (by kernel_rfl) (by kernel_rfl) rfl (by kernel_rfl) (by kernel_rfl) (by kernel_rfl) (fun _ _ _ h => h) (Or.inl ⟨by rfl, ?_⟩) (by assumption) ?_
        rotate_left
        · intro w' hSw; (try dsimp only at hSw); go_simp; (try with_reducible rfl)
        (try simp only [Act.put, List.getElem_toArray, List.getElem_cons_zero, List.getElem_cons_succ, List.setIfInBounds_toArray, List.set_cons_zero, List.set_cons_succ])
        refine wpAnyF_take (i := 1) (v := ?_) (by kernel_rfl) (by kernel_rfl) rfl (by kernel_rfl) (by kernel_rfl) (by kernel_rfl) (fun _ _ _ h => h) (Or.inl ⟨by rfl, ?_⟩) (by assumption) ?_
        rotate_left
        · intro w' hSw; (try dsimp only at hSw); obtain ⟨p0, p1, p2, wc, jj⟩ := hSw; clear jj; go_simp; (try with_reducible rfl)
        (try simp only [Act.put, List.getElem_toArray, List.getElem_cons_zero, List.getElem_cons_succ, List.setIfInBounds_toArray, List.set_cons_zero, List.set_cons_succ])
        refine wpAnyF_take (i := 2) (v := ?_) (by kernel_rfl) (by kernel_rfl) rfl (by kernel_rfl) (by kernel_rfl) (by kernel_rfl) (fun _ _ _ h => h) (Or.inl ⟨by rfl, ?_⟩) (by assumption) ?_
        rotate_left
        · intro w' hSw; (try dsimp only at hSw); go_simp; (try with_reducible rfl)
        (try simp only [Act.put, List.getElem_toArray, List.getElem_cons_zero, List.getElem_cons_succ, List.setIfInBounds_toArray, List.set_cons_zero, List.set_cons_succ])
        refine wpAnyF_take (i := 3) (v := ?_) (by kernel_rfl) (by kernel_rfl) rfl (by kernel_rfl) (by kernel_rfl) (by kernel_rfl) (fun _ _ _ h => h) (Or.inl ⟨by rfl, ?_⟩) (by assumption) ?_
        rotate_left
        · intro w' hSw; (try dsimp only at hSw); obtain ⟨p0, p1, p2, wc, jj⟩ := hSw; clear jj; go_simp; (try with_reducible rfl)
        (try simp only [Act.put, List.getElem_toArray, List.getElem_cons_zero, List.getElem_cons_succ, List.setIfInBounds_toArray, List.set_cons_zero, List.set_cons_succ])
        refine wpAnyF_take (i := 4) (v := ?_) (by kernel_rfl) (by kernel_rfl) rfl (by kernel_rfl) (by kernel_rfl) (by kernel_rfl) (fun _ _ _ h => h) (Or.inl ⟨by rfl, ?_⟩) (by assumption) ?_
        rotate_left
        · intro w' hSw; (try dsimp only at hSw); go_simp; (try with_reducible rfl)
        (try simp only [Act.put, List.getElem_toArray, List.getElem_cons_zero, List.getElem_cons_succ, List.setIfInBounds_toArray, List.set_cons_zero, List.set_cons_succ])
        refine wpAnyF_take (i := 5) (v := ?_) (by kernel_rfl) (by kernel_rfl) rfl (by kernel_rfl) (by kernel_rfl) (by kernel_rfl) (fun _ _ _ h => h) (Or.inl ⟨by rfl, ?_⟩) (by assumption) ?_
        rotate_left
        · intro w' hSw; (try dsimp only at hSw); obtain ⟨p0, p1, p2, wc, jj⟩ := hSw; clear jj; go_simp; (try with_reducible rfl)
        (try simp only [Act.put, List.getElem_toArray, List.getElem_cons_zero, List.getElem_cons_succ, List.setIfInBounds_toArray, List.set_cons_zero, List.set_cons_succ])
        refine wpAnyF_take (i := 6) (v := ?_) (by kernel_rfl) (by kernel_rfl) rfl (by kernel_rfl) (by kernel_rfl) (by kernel_rfl) (fun _ _ _ h => h) (Or.inl ⟨by rfl, ?_⟩) (by assumption) ?_
        rotate_left
        · intro w' hSw; (try dsimp only at hSw); go_simp; (try with_reducible rfl)
        (try simp only [Act.put, List.getElem_toArray, List.getElem_cons_zero, List.getElem_cons_succ, List.setIfInBounds_toArray, List.set_cons_zero, List.set_cons_succ])
        refine wpAnyF_take (i := 7) (v := ?_) (by kernel_rfl) (by kernel_rfl) rfl (by kernel_rfl) (by kernel_rfl) (by kernel_rfl) (fun _ _ _ h => h) (Or.inl ⟨by rfl, ?_⟩) (by assumption) ?_
        rotate_left
        · intro w' hSw; (try dsimp only at hSw); obtain ⟨p0, p1, p2, wc, jj⟩ := hSw; clear jj; go_simp; (try with_reducible rfl)
        (try simp only [Act.put, List.getElem_toArray, List.getElem_cons_zero, List.getElem_cons_succ, List.setIfInBounds_toArray, List.set_cons_zero, List.set_cons_succ])
        refine wpAnyF_ready (rs := [8]) (by kernel_rfl) (by simp) ?_
        refine AllReadyF.cons rfl (fun KK hKK => ?_) AllReadyF.nil
        go_simp
        ((with_reducible refine (HP.out _).mono ?_); rintro e' w5 ⟨rfl, hb5⟩; have hH5 := (hHeld.2.2.2.2.later hb5).held (j := 0) (by decide); clear hb5)
        (try go_simp)
        refine hKK.out _ _ hH5 (fun hHeld => ?_)
        clear hKK KK
        (try simp only [Act.put, List.getElem_toArray, List.getElem_cons_zero, List.getElem_cons_succ, List.setIfInBounds_toArray, List.set_cons_zero, List.set_cons_succ])
        refine wpAnyF_take (i := 9) (v := ?_) (by kernel_rfl) (by kernel_rfl) rfl (by kernel_rfl) (by kernel_rfl) (by kernel_rfl) (fun _ _ _ h => h) (Or.inl ⟨by rfl, ?_⟩) (by assumption) ?_
        rotate_left
        · intro w' hSw; (try dsimp only at hSw); go_simp; (try with_reducible rfl)
        (try simp only [Act.put, List.getElem_toArray, List.getElem_cons_zero, List.getElem_cons_succ, List.setIfInBounds_toArray, List.set_cons_zero, List.set_cons_succ])
        refine wpAnyF_done (by kernel_rfl) ?_ _
        refine NoPanic.normal ?_
        obtain ⟨p0, p1, p2, _, hJ5⟩ := hHeld
        have HJ5 := hi hJ5
        obtain ⟨q0, q1, q2, q3, q4, q5, q6, q7, q8⟩ := CB.cm9 hJ5.k.c
        have qf := hJ5.k.c.frozen
        clear hJ5 hHeld
        go_wp2
        go_roundw
        case rel =>
          refine ⟨k + 1, HNX.out.1, by go_num, hi ?_⟩
          rw [HNX.out.2, setF_0]
          refine ⟨HJ5.out.k.put 1 _ (by first | rfl | (simp [Cm.cs, decN, pw, pm, pr])), ownsRow_setCell_other HJ5.out.row (by simp [Value.ownBlock]; omega) _⟩
        case measure => have := HNX.out.1; simp [intOf]; omega
      · -- case 1
        dsimp only [pw, pf, pb] at k0 k1 k2
        have HP := hi (fun W => part_0_32 (ws 1) (HW.out 1) W)
        go_wp2
        have HJ8 := hi (show RdJ w ws ⟨f1, f2, f3, f4, f5, f6, f7, f8, f9⟩ L.length (.slice (some ⟨g, 0, none⟩) L.length cap) X wr.heap.size 1 0 32 (nz 1) (wr.alloc (.cells #[.int .i64 1, .int .i64 0, .int .i64 32, .int .i64 (nz 1)] 115)) from
          ⟨HJ.out.1.later (bal _ _), fd_later HJ.out.2 (bal _ _), CB.new _ _ _⟩)
        obtain ⟨W8, hW8⟩ : ∃ W8, wr.alloc (.cells #[.int .i64 1, .int .i64 0, .int .i64 32, .int .i64 (nz 1)] 115) = W8 := ⟨_, rfl⟩
        rw [hW8] at HJ8 ⊢
        clear hW8 k0 k1 k2 k3 kf
        refine wp_region_noPanic ?_
        refine wp_region_last_drew (S := (fun w' => w'.cell? ⟨wr.heap.size, 0, none⟩ = some (.int .i64 1) ∧ w'.cell? ⟨wr.heap.size, 1, none⟩ = some (.int .i64 0) ∧ w'.cell? ⟨wr.heap.size, 2, none⟩ = some (.int .i64 32) ∧ w'.cell? ⟨w.heap.size, 1, none⟩ = some (.int .u64 (ws 1)) ∧ RdJ w ws ⟨f1, f2, f3, f4, f5, f6, f7, f8, f9⟩ L.length (.slice (some ⟨g, 0, none⟩) L.length cap) X wr.heap.size 1 0 32 (nz 1) w')) [] (by kernel_rfl) ((HJ8.out.later (below_drew' _)).held (j := 1) (by decide)) (fun hHeld => ?_)
        (try simp only [Array.replicate_succ, Array.replicate_zero, List.push_toArray, List.nil_append, List.cons_append])
        refine wpAnyF_take (i := 0) (v := ?_) (by kernel_rfl) (by kernel_rfl) rfl (by kernel_rfl) (by kernel_rfl) (by kernel_rfl) (fun _ _ _ h => h) (Or.inl ⟨by rfl, ?_⟩) (by assumption) ?_
        rotate_left
        · intro w' hSw; (try dsimp only at hSw); go_simp; (try with_reducible rfl)
        (try simp only [Act.put, List.getElem_toArray, List.getElem_cons_zero, List.getElem_cons_succ, List.setIfInBounds_toArray, List.set_cons_zero, List.set_cons_succ])
        refine wpAnyF_take (i := 1) (v := ?_) (by kernel_rfl) (by kernel_rfl) rfl (by kernel_rfl) (by kernel_rfl) (by kernel_rfl) (fun _ _ _ h => h) (Or.inl ⟨by rfl, ?_⟩) (by assumption) ?_
        rotate_left
        · intro w' hSw; (try dsimp only at hSw); obtain ⟨p0, p1, p2, wc, jj⟩ := hSw; clear jj; go_simp; (try with_reducible rfl)
        (try simp only [Act.put, List.getElem_toArray, List.getElem_cons_zero, List.getElem_cons_succ, List.setIfInBounds_toArray, List.set_cons_zero, List.set_cons_succ])
        refine wpAnyF_take (i := 2) (v := ?_) (by kernel_rfl) (by kernel_rfl) rfl (by kernel_rfl) (by kernel_rfl) (by kernel_rfl) (fun _ _ _ h => h) (Or.inl ⟨by rfl, ?_⟩) (by assumption) ?_
        rotate_left
        · intro w' hSw; (try dsimp only at hSw); go_simp; (try with_reducible rfl)
        (try simp only [Act.put, List.getElem_toArray, List.getElem_cons_zero, List.getElem_cons_succ, List.setIfInBounds_toArray, List.set_cons_zero, List.set_cons_succ])
        refine wpAnyF_take (i := 3) (v := ?_) (by kernel_rfl) (by kernel_rfl) rfl (by kernel_rfl) (by kernel_rfl) (by kernel_rfl) (fun _ _ _ h => h) (Or.inl ⟨by rfl, ?_⟩) (by assumption) ?_
        rotate_left
        · intro w' hSw; (try dsimp only at hSw); obtain ⟨p0, p1, p2, wc, jj⟩ := hSw; clear jj; go_simp; (try with_reducible rfl)
        (try simp only [Act.put, List.getElem_toArray, List.getElem_cons_zero, List.getElem_cons_succ, List.setIfInBounds_toArray, List.set_cons_zero, List.set_cons_succ])
        refine wpAnyF_take (i := 4) (v := ?_) (by kernel_rfl) (by kernel_rfl) rfl (by kernel_rfl) (by kernel_rfl) (by kernel_rfl) (fun _ _ _ h => h) (Or.inl ⟨by rfl, ?_⟩) (by assumption) ?_
        rotate_left
        · intro w' hSw; (try dsimp only at hSw); go_simp; (try with_reducible rfl)
        (try simp only [Act.put, List.getElem_toArray, List.getElem_cons_zero, List.getElem_cons_succ, List.setIfInBounds_toArray, List.set_cons_zero, List.set_cons_succ])
        refine wpAnyF_take (i := 5) (v := ?_) (by kernel_rfl) (by kernel_rfl) rfl (by kernel_rfl) (by kernel_rfl) (by kernel_rfl) (fun _ _ _ h => h) (Or.inl ⟨by rfl, ?_⟩) (by assumption) ?_
        rotate_left
        · intro w' hSw; (try dsimp only at hSw); obtain ⟨p0, p1, p2, wc, jj⟩ := hSw; clear jj; go_simp; (try with_reducible rfl)
        (try simp only [Act.put, List.getElem_toArray, List.getElem_cons_zero, List.getElem_cons_succ, List.setIfInBounds_toArray, List.set_cons_zero, List.set_cons_succ])
        refine wpAnyF_take (i := 6) (v := ?_) (by kernel_rfl) (by kernel_rfl) rfl (by kernel_rfl) (by kernel_rfl) (by kernel_rfl) (fun _ _ _ h => h) (Or.inl ⟨by rfl, ?_⟩) (by assumption) ?_
        rotate_left
        · intro w' hSw; (try dsimp only at hSw); go_simp; (try with_reducible rfl)
        (try simp only [Act.put, List.getElem_toArray, List.getElem_cons_zero, List.getElem_cons_succ, List.setIfInBounds_toArray, List.set_cons_zero, List.set_cons_succ])
        refine wpAnyF_take (i := 7) (v := ?_) (by kernel_rfl) (by kernel_rfl) rfl (by kernel_rfl) (by kernel_rfl) (by kernel_rfl) (fun _ _ _ h => h) (Or.inl ⟨by rfl, ?_⟩) (by assumption) ?_
        rotate_left
        · intro w' hSw; (try dsimp only at hSw); obtain ⟨p0, p1, p2, wc, jj⟩ := hSw; clear jj; go_simp; (try with_reducible rfl)
        (try simp only [Act.put, List.getElem_toArray, List.getElem_cons_zero, List.getElem_cons_succ, List.setIfInBounds_toArray, List.set_cons_zero, List.set_cons_succ])
        refine wpAnyF_ready (rs := [8]) (by kernel_rfl) (by simp) ?_
        refine AllReadyF.cons rfl (fun KK hKK => ?_) AllReadyF.nil
        go_simp
        ((with_reducible refine (HP.out _).mono ?_); rintro e' w5 ⟨rfl, hb5⟩; have hH5 := (hHeld.2.2.2.2.later hb5).held (j := 1) (by decide); clear hb5)
        (try go_simp)
        refine hKK.out _ _ hH5 (fun hHeld => ?_)
        clear hKK KK
        (try simp only [Act.put, List.getElem_toArray, List.getElem_cons_zero, List.getElem_cons_succ, List.setIfInBounds_toArray, List.set_cons_zero, List.set_cons_succ])
        refine wpAnyF_take (i := 9) (v := ?_) (by kernel_rfl) (by kernel_rfl) rfl (by kernel_rfl) (by kernel_rfl) (by kernel_rfl) (fun _ _ _ h => h) (Or.inl ⟨by rfl, ?_⟩) (by assumption) ?_
        rotate_left
        · intro w' hSw; (try dsimp only at hSw); go_simp; (try with_reducible rfl)
        (try simp only [Act.put, List.getElem_toArray, List.getElem_cons_zero, List.getElem_cons_succ, List.setIfInBounds_toArray, List.set_cons_zero, List.set_cons_succ])
        refine wpAnyF_done (by kernel_rfl) ?_ _
        refine NoPanic.normal ?_
        obtain ⟨p0, p1, p2, _, hJ5⟩ := hHeld
        have HJ5 := hi hJ5
        obtain ⟨q0, q1, q2, q3, q4, q5, q6, q7, q8⟩ := CB.cm9 hJ5.k.c
        have qf := hJ5.k.c.frozen
        clear hJ5 hHeld
        go_wp2
        go_roundw
        case rel =>
          refine ⟨k + 1, HNX.out.1, by go_num, hi ?_⟩
          rw [HNX.out.2, setF_1]
          refine ⟨HJ5.out.k.put 2 _ (by first | rfl | (simp [Cm.cs, decN, pw, pm, pr])), ownsRow_setCell_other HJ5.out.row (by simp [Value.ownBlock]; omega) _⟩
        case measure => have := HNX.out.1; simp [intOf]; omega
      · -- case 2
        dsimp only [pw, pf, pb] at k0 k1 k2
        have HP := hi (fun W => part_32_32 (ws 1) (HW.out 1) W)
        go_wp2
        have HJ8 := hi (show RdJ w ws ⟨f1, f2, f3, f4, f5, f6, f7, f8, f9⟩ L.length (.slice (some ⟨g, 0, none⟩) L.length cap) X wr.heap.size 1 32 32 (nz 2) (wr.alloc (.cells #[.int .i64 1, .int .i64 32, .int .i64 32, .int .i64 (nz 2)] 115)) from
          ⟨HJ.out.1.later (bal _ _), fd_later HJ.out.2 (bal _ _), CB.new _ _ _⟩)
        obtain ⟨W8, hW8⟩ : ∃ W8, wr.alloc (.cells #[.int .i64 1, .int .i64 32, .int .i64 32, .int .i64 (nz 2)] 115) = W8 := ⟨_, rfl⟩
        rw [hW8] at HJ8 ⊢
        clear hW8 k0 k1 k2 k3 kf
        refine wp_region_noPanic ?_
        refine wp_region_last_drew (S := (fun w' => w'.cell? ⟨wr.heap.size, 0, none⟩ = some (.int .i64 1) ∧ w'.cell? ⟨wr.heap.size, 1, none⟩ = some (.int .i64 32) ∧ w'.cell? ⟨wr.heap.size, 2, none⟩ = some (.int .i64 32) ∧ w'.cell? ⟨w.heap.size, 1, none⟩ = some (.int .u64 (ws 1)) ∧ RdJ w ws ⟨f1, f2, f3, f4, f5, f6, f7, f8, f9⟩ L.length (.slice (some ⟨g, 0, none⟩) L.length cap) X wr.heap.size 1 32 32 (nz 2) w')) [] (by kernel_rfl) ((HJ8.out.later (below_drew' _)).held (j := 1) (by decide)) (fun hHeld => ?_)
        (try simp only [Array.replicate_succ, Array.replicate_zero, List.push_toArray, List.nil_append, List.cons_append])
        refine wpAnyF_take (i := 0) (v := ?_) (by kernel_rfl) (by kernel_rfl) rfl (by kernel_rfl) (by kernel_rfl) (by kernel_rfl) (fun _ _ _ h => h) (Or.inl ⟨by rfl, ?_⟩) (by assumption) ?_
        rotate_left
        · intro w' hSw; (try dsimp only at hSw); go_simp; (try with_reducible rfl)
        (try simp only [Act.put, List.getElem_toArray, List.getElem_cons_zero, List.getElem_cons_succ, List.setIfInBounds_toArray, List.set_cons_zero, List.set_cons_succ])
        refine wpAnyF_take (i := 1) (v := ?_) (by kernel_rfl) (by kernel_rfl) rfl (by kernel_rfl) (by kernel_rfl) (by kernel_rfl) (fun _ _ _ h => h) (Or.inl ⟨by rfl, ?_⟩) (by assumption) ?_
        rotate_left
        · intro w' hSw; (try dsimp only at hSw); obtain ⟨p0, p1, p2, wc, jj⟩ := hSw; clear jj; go_simp; (try with_reducible rfl)
        (try simp only [Act.put, List.getElem_toArray, List.getElem_cons_zero, List.getElem_cons_succ, List.setIfInBounds_toArray, List.set_cons_zero, List.set_cons_succ])
        refine wpAnyF_take (i := 2) (v := ?_) (by kernel_rfl) (by kernel_rfl) rfl (by kernel_rfl) (by kernel_rfl) (by kernel_rfl) (fun _ _ _ h => h) (Or.inl ⟨by rfl, ?_⟩) (by assumption) ?_
        rotate_left
        · intro w' hSw; (try dsimp only at hSw); go_simp; (try with_reducible rfl)
        (try simp only [Act.put, List.getElem_toArray, List.getElem_cons_zero, List.getElem_cons_succ, List.setIfInBounds_toArray, List.set_cons_zero, List.set_cons_succ])
        refine wpAnyF_take (i := 3) (v := ?_) (by kernel_rfl) (by kernel_rfl) rfl (by kernel_rfl) (by kernel_rfl) (by kernel_rfl) (fun _ _ _ h => h) (Or.inl ⟨by rfl, ?_⟩) (by assumption) ?_
        rotate_left
        · intro w' hSw; (try dsimp only at hSw); obtain ⟨p0, p1, p2, wc, jj⟩ := hSw; clear jj; go_simp; (try with_reducible rfl)
        (try simp only [Act.put, List.getElem_toArray, List.getElem_cons_zero, List.getElem_cons_succ, List.setIfInBounds_toArray, List.set_cons_zero, List.set_cons_succ])
        refine wpAnyF_take (i := 4) (v := ?_) (by kernel_rfl) (by kernel_rfl) rfl (by kernel_rfl) (by kernel_rfl) (by kernel_rfl) (fun _ _ _ h => h) (Or.inl ⟨by rfl, ?_⟩) (by assumption) ?_
        rotate_left
        · intro w' hSw; (try dsimp only at hSw); go_simp; (try with_reducible rfl)
        (try simp only [Act.put, List.getElem_toArray, List.getElem_cons_zero, List.getElem_cons_succ, List.setIfInBounds_toArray, List.set_cons_zero, List.set_cons_succ])
        refine wpAnyF_take (i := 5) (v := ?_) (by kernel_rfl) (by kernel_rfl) rfl (by kernel_rfl) (by kernel_rfl) (by kernel_rfl) (fun _ _ _ h => h) (Or.inl ⟨by rfl, ?_⟩) (by assumption) ?_
        rotate_left
        · intro w' hSw; (try dsimp only at hSw); obtain ⟨p0, p1, p2, wc, jj⟩ := hSw; clear jj; go_simp; (try with_reducible rfl)
        (try simp only [Act.put, List.getElem_toArray, List.getElem_cons_zero, List.getElem_cons_succ, List.setIfInBounds_toArray, List.set_cons_zero, List.set_cons_succ])
        refine wpAnyF_take (i := 6) (v := ?_) (by kernel_rfl) (by kernel_rfl) rfl (by kernel_rfl) (by kernel_rfl) (by kernel_rfl) (fun _ _ _ h => h) (Or.inl ⟨by rfl, ?_⟩) (by assumption) ?_
        rotate_left
        · intro w' hSw; (try dsimp only at hSw); go_simp; (try with_reducible rfl)
        (try simp only [Act.put, List.getElem_toArray, List.getElem_cons_zero, List.getElem_cons_succ, List.setIfInBounds_toArray, List.set_cons_zero, List.set_cons_succ])
        refine wpAnyF_take (i := 7) (v := ?_) (by kernel_rfl) (by kernel_rfl) rfl (by kernel_rfl) (by kernel_rfl) (by kernel_rfl) (fun _ _ _ h => h) (Or.inl ⟨by rfl, ?_⟩) (by assumption) ?_
        rotate_left
        · intro w' hSw; (try dsimp only at hSw); obtain ⟨p0, p1, p2, wc, jj⟩ := hSw; clear jj; go_simp; (try with_reducible rfl)
        (try simp only [Act.put, List.getElem_toArray, List.getElem_cons_zero, List.getElem_cons_succ, List.setIfInBounds_toArray, List.set_cons_zero, List.set_cons_succ])
        refine wpAnyF_ready (rs := [8]) (by kernel_rfl) (by simp) ?_
        refine AllReadyF.cons rfl (fun KK hKK => ?_) AllReadyF.nil
        go_simp
        ((with_reducible refine (HP.out _).mono ?_); rintro e' w5 ⟨rfl, hb5⟩; have hH5 := (hHeld.2.2.2.2.later hb5).held (j := 1) (by decide); clear hb5)
        (try go_simp)
        refine hKK.out _ _ hH5 (fun hHeld => ?_)
        clear hKK KK
        (try simp only [Act.put, List.getElem_toArray, List.getElem_cons_zero, List.getElem_cons_succ, List.setIfInBounds_toArray, List.set_cons_zero, List.set_cons_succ])
        refine wpAnyF_take (i := 9) (v := ?_) (by kernel_rfl) (by kernel_rfl) rfl (by kernel_rfl) (by kernel_rfl) (by kernel_rfl) (fun _ _ _ h => h) (Or.inl ⟨by rfl, ?_⟩) (by assumption) ?_
        rotate_left
        · intro w' hSw; (try dsimp only at hSw); go_simp; (try with_reducible rfl)
        (try simp only [Act.put, List.getElem_toArray, List.getElem_cons_zero, List.getElem_cons_succ, List.setIfInBounds_toArray, List.set_cons_zero, List.set_cons_succ])
        refine wpAnyF_done (by kernel_rfl) ?_ _
        refine NoPanic.normal ?_
        obtain ⟨p0, p1, p2, _, hJ5⟩ := hHeld
        have HJ5 := hi hJ5
        obtain ⟨q0, q1, q2, q3, q4, q5, q6, q7, q8⟩ := CB.cm9 hJ5.k.c
        have qf := hJ5.k.c.frozen
        clear hJ5 hHeld
        go_wp2
        go_roundw
        case rel =>
          refine ⟨k + 1, HNX.out.1, by go_num, hi ?_⟩
          rw [HNX.out.2, setF_2]
          refine ⟨HJ5.out.k.put 3 _ (by first | rfl | (simp [Cm.cs, decN, pw, pm, pr])), ownsRow_setCell_other HJ5.out.row (by simp [Value.ownBlock]; omega) _⟩
        case measure => have := HNX.out.1; simp [intOf]; omega
      · -- case 3
        dsimp only [pw, pf, pb] at k0 k1 k2
        have HP := hi (fun W => part_16_16 (ws 3) (HW.out 3) W)
        go_wp2
        have HJ8 := hi (show RdJ w ws ⟨f1, f2, f3, f4, f5, f6, f7, f8, f9⟩ L.length (.slice (some ⟨g, 0, none⟩) L.length cap) X wr.heap.size 3 16 16 (nz 3) (wr.alloc (.cells #[.int .i64 3, .int .i64 16, .int .i64 16, .int .i64 (nz 3)] 115)) from
          ⟨HJ.out.1.later (bal _ _), fd_later HJ.out.2 (bal _ _), CB.new _ _ _⟩)
        obtain ⟨W8, hW8⟩ : ∃ W8, wr.alloc (.cells #[.int .i64 3, .int .i64 16, .int .i64 16, .int .i64 (nz 3)] 115) = W8 := ⟨_, rfl⟩
        rw [hW8] at HJ8 ⊢
        clear hW8 k0 k1 k2 k3 kf
        refine wp_region_noPanic ?_
        refine wp_region_last_drew (S := (fun w' => w'.cell? ⟨wr.heap.size, 0, none⟩ = some (.int .i64 3) ∧ w'.cell? ⟨wr.heap.size, 1, none⟩ = some (.int .i64 16) ∧ w'.cell? ⟨wr.heap.size, 2, none⟩ = some (.int .i64 16) ∧ w'.cell? ⟨w.heap.size, 3, none⟩ = some (.int .u64 (ws 3)) ∧ RdJ w ws ⟨f1, f2, f3, f4, f5, f6, f7, f8, f9⟩ L.length (.slice (some ⟨g, 0, none⟩) L.length cap) X wr.heap.size 3 16 16 (nz 3) w')) [] (by kernel_rfl) ((HJ8.out.later (below_drew' _)).held (j := 3) (by decide)) (fun hHeld => ?_)
        (try simp only [Array.replicate_succ, Array.replicate_zero, List.push_toArray, List.nil_append, List.cons_append])
        refine wpAnyF_take (i := 0) (v := ?_) (by kernel_rfl) (by kernel_rfl) rfl (by kernel_rfl) (by kernel_rfl) (by kernel_rfl) (fun _ _ _ h => h) (Or.inl ⟨by rfl, ?_⟩) (by assumption) ?_
        rotate_left
        · intro w' hSw; (try dsimp only at hSw); go_simp; (try with_reducible rfl)
        (try simp only [Act.put, List.getElem_toArray, List.getElem_cons_zero, List.getElem_cons_succ, List.setIfInBounds_toArray, List.set_cons_zero, List.set_cons_succ])
        refine wpAnyF_take (i := 1) (v := ?_) (by kernel_rfl) (by kernel_rfl) rfl (by kernel_rfl) (by kernel_rfl) (by kernel_rfl) (fun _ _ _ h => h) (Or.inl ⟨by rfl, ?_⟩) (by assumption) ?_
        rotate_left
        · intro w' hSw; (try dsimp only at hSw); obtain ⟨p0, p1, p2, wc, jj⟩ := hSw; clear jj; go_simp; (try with_reducible rfl)
        (try simp only [Act.put, List.getElem_toArray, List.getElem_cons_zero, List.getElem_cons_succ, List.setIfInBounds_toArray, List.set_cons_zero, List.set_cons_succ])
        refine wpAnyF_take (i := 2) (v := ?_) (by kernel_rfl) (by kernel_rfl) rfl (by kernel_rfl) (by kernel_rfl) (by kernel_rfl) (fun _ _ _ h => h) (Or.inl ⟨by rfl, ?_⟩) (by assumption) ?_
        rotate_left
        · intro w' hSw; (try dsimp only at hSw); go_simp; (try with_reducible rfl)
        (try simp only [Act.put, List.getElem_toArray, List.getElem_cons_zero, List.getElem_cons_succ, List.setIfInBounds_toArray, List.set_cons_zero, List.set_cons_succ])
        refine wpAnyF_take (i := 3) (v := ?_) (by kernel_rfl) (by kernel_rfl) rfl (by kernel_rfl) (by kernel_rfl) (by kernel_rfl) (fun _ _ _ h => h) (Or.inl ⟨by rfl, ?_⟩) (by assumption) ?_
        rotate_left
        · intro w' hSw; (try dsimp only at hSw); obtain ⟨p0, p1, p2, wc, jj⟩ := hSw; clear jj; go_simp; (try with_reducible rfl)
        (try simp only [Act.put, List.getElem_toArray, List.getElem_cons_zero, List.getElem_cons_succ, List.setIfInBounds_toArray, List.set_cons_zero, List.set_cons_succ])
        refine wpAnyF_take (i := 4) (v := ?_) (by kernel_rfl) (by kernel_rfl) rfl (by kernel_rfl) (by kernel_rfl) (by kernel_rfl) (fun _ _ _ h => h) (Or.inl ⟨by rfl, ?_⟩) (by assumption) ?_
        rotate_left
        · intro w' hSw; (try dsimp only at hSw); go_simp; (try with_reducible rfl)
        (try simp only [Act.put, List.getElem_toArray, List.getElem_cons_zero, List.getElem_cons_succ, List.setIfInBounds_toArray, List.set_cons_zero, List.set_cons_succ])
        refine wpAnyF_take (i := 5) (v := ?_) (by kernel_rfl) (by kernel_rfl) rfl (by kernel_rfl) (by kernel_rfl) (by kernel_rfl) (fun _ _ _ h => h) (Or.inl ⟨by rfl, ?_⟩) (by assumption) ?_
        rotate_left
        · intro w' hSw; (try dsimp only at hSw); obtain ⟨p0, p1, p2, wc, jj⟩ := hSw; clear jj; go_simp; (try with_reducible rfl)
        (try simp only [Act.put, List.getElem_toArray, List.getElem_cons_zero, List.getElem_cons_succ, List.setIfInBounds_toArray, List.set_cons_zero, List.set_cons_succ])
        refine wpAnyF_take (i := 6) (v := ?_) (by kernel_rfl) (by kernel_rfl) rfl (by kernel_rfl) (by kernel_rfl) (by kernel_rfl) (fun _ _ _ h => h) (Or.inl ⟨by rfl, ?_⟩) (by assumption) ?_
        rotate_left
        · intro w' hSw; (try dsimp only at hSw); go_simp; (try with_reducible rfl)
        (try simp only [Act.put, List.getElem_toArray, List.getElem_cons_zero, List.getElem_cons_succ, List.setIfInBounds_toArray, List.set_cons_zero, List.set_cons_succ])
        refine wpAnyF_take (i := 7) (v := ?_) (by kernel_rfl) (by kernel_rfl) rfl (by kernel_rfl) (by kernel_rfl) (by kernel_rfl) (fun _ _ _ h => h) (Or.inl ⟨by rfl, ?_⟩) (by assumption) ?_
        rotate_left
        · intro w' hSw; (try dsimp only at hSw); obtain ⟨p0, p1, p2, wc, jj⟩ := hSw; clear jj; go_simp; (try with_reducible rfl)
        (try simp only [Act.put, List.getElem_toArray, List.getElem_cons_zero, List.getElem_cons_succ, List.setIfInBounds_toArray, List.set_cons_zero, List.set_cons_succ])
        refine wpAnyF_ready (rs := [8]) (by kernel_rfl) (by simp) ?_
        refine AllReadyF.cons rfl (fun KK hKK => ?_) AllReadyF.nil
        go_simp
        ((with_reducible refine (HP.out _).mono ?_); rintro e' w5 ⟨rfl, hb5⟩; have hH5 := (hHeld.2.2.2.2.later hb5).held (j := 3) (by decide); clear hb5)
        (try go_simp)
        refine hKK.out _ _ hH5 (fun hHeld => ?_)
        clear hKK KK
        (try simp only [Act.put, List.getElem_toArray, List.getElem_cons_zero, List.getElem_cons_succ, List.setIfInBounds_toArray, List.set_cons_zero, List.set_cons_succ])
        refine wpAnyF_take (i := 9) (v := ?_) (by kernel_rfl) (by kernel_rfl) rfl (by kernel_rfl) (by kernel_rfl) (by kernel_rfl) (fun _ _ _ h => h) (Or.inl ⟨by rfl, ?_⟩) (by assumption) ?_
        rotate_left
        · intro w' hSw; (try dsimp only at hSw); go_simp; (try with_reducible rfl)
        (try simp only [Act.put, List.getElem_toArray, List.getElem_cons_zero, List.getElem_cons_succ, List.setIfInBounds_toArray, List.set_cons_zero, List.set_cons_succ])
        refine wpAnyF_done (by kernel_rfl) ?_ _
        refine NoPanic.normal ?_
        obtain ⟨p0, p1, p2, _, hJ5⟩ := hHeld
        have HJ5 := hi hJ5
        obtain ⟨q0, q1, q2, q3, q4, q5, q6, q7, q8⟩ := CB.cm9 hJ5.k.c
        have qf := hJ5.k.c.frozen
        clear hJ5 hHeld
        go_wp2
        go_roundw
        case rel =>
          refine ⟨k + 1, HNX.out.1, by go_num, hi ?_⟩
          rw [HNX.out.2, setF_3]
          refine ⟨HJ5.out.k.put 3 _ (by first | rfl | (simp [Cm.cs, decN, pw, pm, pr])), ownsRow_setCell_other HJ5.out.row (by simp [Value.ownBlock]; omega) _⟩
        case measure => have := HNX.out.1; simp [intOf]; omega
      · -- case 4
        dsimp only [pw, pf, pb] at k0 k1 k2
        have HP := hi (fun W => part_0_16 (ws 2) (HW.out 2) W)
        go_wp2
        have HJ8 := hi (show RdJ w ws ⟨f1, f2, f3, f4, f5, f6, f7, f8, f9⟩ L.length (.slice (some ⟨g, 0, none⟩) L.length cap) X wr.heap.size 2 0 16 (nz 4) (wr.alloc (.cells #[.int .i64 2, .int .i64 0, .int .i64 16, .int .i64 (nz 4)] 115)) from
          ⟨HJ.out.1.later (bal _ _), fd_later HJ.out.2 (bal _ _), CB.new _ _ _⟩)
        obtain ⟨W8, hW8⟩ : ∃ W8, wr.alloc (.cells #[.int .i64 2, .int .i64 0, .int .i64 16, .int .i64 (nz 4)] 115) = W8 := ⟨_, rfl⟩
        rw [hW8] at HJ8 ⊢
        clear hW8 k0 k1 k2 k3 kf
        refine wp_region_noPanic ?_
        refine wp_region_last_drew (S := (fun w' => w'.cell? ⟨wr.heap.size, 0, none⟩ = some (.int .i64 2) ∧ w'.cell? ⟨wr.heap.size, 1, none⟩ = some (.int .i64 0) ∧ w'.cell? ⟨wr.heap.size, 2, none⟩ = some (.int .i64 16) ∧ w'.cell? ⟨w.heap.size, 2, none⟩ = some (.int .u64 (ws 2)) ∧ RdJ w ws ⟨f1, f2, f3, f4, f5, f6, f7, f8, f9⟩ L.length (.slice (some ⟨g, 0, none⟩) L.length cap) X wr.heap.size 2 0 16 (nz 4) w')) [] (by kernel_rfl) ((HJ8.out.later (below_drew' _)).held (j := 2) (by decide)) (fun hHeld => ?_)
        (try simp only [Array.replicate_succ, Array.replicate_zero, List.push_toArray, List.nil_append, List.cons_append])
        refine wpAnyF_take (i := 0) (v := ?_) (by kernel_rfl) (by kernel_rfl) rfl (by kernel_rfl) (by kernel_rfl) (by kernel_rfl) (fun _ _ _ h => h) (Or.inl ⟨by rfl, ?_⟩) (by assumption) ?_
        rotate_left
        · intro w' hSw; (try dsimp only at hSw); go_simp; (try with_reducible rfl)
        (try simp only [Act.put, List.getElem_toArray, List.getElem_cons_zero, List.getElem_cons_succ, List.setIfInBounds_toArray, List.set_cons_zero, List.set_cons_succ])
        refine wpAnyF_take (i := 1) (v := ?_) (by kernel_rfl) (by kernel_rfl) rfl (by kernel_rfl) (by kernel_rfl) (by kernel_rfl) (fun _ _ _ h => h) (Or.inl ⟨by rfl, ?_⟩) (by assumption) ?_
        rotate_left
        · intro w' hSw; (try dsimp only at hSw); obtain ⟨p0, p1, p2, wc, jj⟩ := hSw; clear jj; go_simp; (try with_reducible rfl)
        (try simp only [Act.put, List.getElem_toArray, List.getElem_cons_zero, List.getElem_cons_succ, List.setIfInBounds_toArray, List.set_cons_zero, List.set_cons_succ])
        refine wpAnyF_take (i := 2) (v := ?_) (by kernel_rfl) (by kernel_rfl) rfl (by kernel_rfl) (by kernel_rfl) (by kernel_rfl) (fun _ _ _ h => h) (Or.inl ⟨by rfl, ?_⟩) (by assumption) ?_
        rotate_left
        · intro w' hSw; (try dsimp only at hSw); go_simp; (try with_reducible rfl)
        (try simp only [Act.put, List.getElem_toArray, List.getElem_cons_zero, List.getElem_cons_succ, List.setIfInBounds_toArray, List.set_cons_zero, List.set_cons_succ])
        refine wpAnyF_take (i := 3) (v := ?_) (by kernel_rfl) (by kernel_rfl) rfl (by kernel_rfl) (by kernel_rfl) (by kernel_rfl) (fun _ _ _ h => h) (Or.inl ⟨by rfl, ?_⟩) (by assumption) ?_
        rotate_left
        · intro w' hSw; (try dsimp only at hSw); obtain ⟨p0, p1, p2, wc, jj⟩ := hSw; clear jj; go_simp; (try with_reducible rfl)
        (try simp only [Act.put, List.getElem_toArray, List.getElem_cons_zero, List.getElem_cons_succ, List.setIfInBounds_toArray, List.set_cons_zero, List.set_cons_succ])
        refine wpAnyF_take (i := 4) (v := ?_) (by kernel_rfl) (by kernel_rfl) rfl (by kernel_rfl) (by kernel_rfl) (by kernel_rfl) (fun _ _ _ h => h) (Or.inl ⟨by rfl, ?_⟩) (by assumption) ?_
        rotate_left
        · intro w' hSw; (try dsimp only at hSw); go_simp; (try with_reducible rfl)
        (try simp only [Act.put, List.getElem_toArray, List.getElem_cons_zero, List.getElem_cons_succ, List.setIfInBounds_toArray, List.set_cons_zero, List.set_cons_succ])
        refine wpAnyF_take (i := 5) (v := ?_) (by kernel_rfl) (by kernel_rfl) rfl (by kernel_rfl) (by kernel_rfl) (by kernel_rfl) (fun _ _ _ h => h) (Or.inl ⟨by rfl, ?_⟩) (by assumption) ?_
        rotate_left
        · intro w' hSw; (try dsimp only at hSw); obtain ⟨p0, p1, p2, wc, jj⟩ := hSw; clear jj; go_simp; (try with_reducible rfl)
        (try simp only [Act.put, List.getElem_toArray, List.getElem_cons_zero, List.getElem_cons_succ, List.setIfInBounds_toArray, List.set_cons_zero, List.set_cons_succ])
        refine wpAnyF_take (i := 6) (v := ?_) (by kernel_rfl) (by kernel_rfl) rfl (by kernel_rfl) (by kernel_rfl) (by kernel_rfl) (fun _ _ _ h => h) (Or.inl ⟨by rfl, ?_⟩) (by assumption) ?_
        rotate_left
        · intro w' hSw; (try dsimp only at hSw); go_simp; (try with_reducible rfl)
        (try simp only [Act.put, List.getElem_toArray, List.getElem_cons_zero, List.getElem_cons_succ, List.setIfInBounds_toArray, List.set_cons_zero, List.set_cons_succ])
        refine wpAnyF_take (i := 7) (v := ?_) (by kernel_rfl) (by kernel_rfl) rfl (by kernel_rfl) (by kernel_rfl) (by kernel_rfl) (fun _ _ _ h => h) (Or.inl ⟨by rfl, ?_⟩) (by assumption) ?_
        rotate_left
        · intro w' hSw; (try dsimp only at hSw); obtain ⟨p0, p1, p2, wc, jj⟩ := hSw; clear jj; go_simp; (try with_reducible rfl)
        (try simp only [Act.put, List.getElem_toArray, List.getElem_cons_zero, List.getElem_cons_succ, List.setIfInBounds_toArray, List.set_cons_zero, List.set_cons_succ])
        refine wpAnyF_ready (rs := [8]) (by kernel_rfl) (by simp) ?_
        refine AllReadyF.cons rfl (fun KK hKK => ?_) AllReadyF.nil
        go_simp
        ((with_reducible refine (HP.out _).mono ?_); rintro e' w5 ⟨rfl, hb5⟩; have hH5 := (hHeld.2.2.2.2.later hb5).held (j := 2) (by decide); clear hb5)
        (try go_simp)
        refine hKK.out _ _ hH5 (fun hHeld => ?_)
        clear hKK KK
        (try simp only [Act.put, List.getElem_toArray, List.getElem_cons_zero, List.getElem_cons_succ, List.setIfInBounds_toArray, List.set_cons_zero, List.set_cons_succ])
        refine wpAnyF_take (i := 9) (v := ?_) (by kernel_rfl) (by kernel_rfl) rfl (by kernel_rfl) (by kernel_rfl) (by kernel_rfl) (fun _ _ _ h => h) (Or.inl ⟨by rfl, ?_⟩) (by assumption) ?_
        rotate_left
        · intro w' hSw; (try dsimp only at hSw); go_simp; (try with_reducible rfl)
        (try simp only [Act.put, List.getElem_toArray, List.getElem_cons_zero, List.getElem_cons_succ, List.setIfInBounds_toArray, List.set_cons_zero, List.set_cons_succ])
        refine wpAnyF_done (by kernel_rfl) ?_ _
        refine NoPanic.normal ?_
        obtain ⟨p0, p1, p2, _, hJ5⟩ := hHeld
        have HJ5 := hi hJ5
        obtain ⟨q0, q1, q2, q3, q4, q5, q6, q7, q8⟩ := CB.cm9 hJ5.k.c
        have qf := hJ5.k.c.frozen
        clear hJ5 hHeld
        go_wp2
        go_roundw
        case rel =>
          refine ⟨k + 1, HNX.out.1, by go_num, hi ?_⟩
          rw [HNX.out.2, setF_4]
          refine ⟨HJ5.out.k.put 4 _ (by first | rfl | (simp [Cm.cs, decN, pw, pm, pr])), ownsRow_setCell_other HJ5.out.row (by simp [Value.ownBlock]; omega) _⟩
        case measure => have := HNX.out.1; simp [intOf]; omega
      · -- case 5
        dsimp only [pw, pf, pb] at k0 k1 k2
        have HP := hi (fun W => part_16_16 (ws 2) (HW.out 2) W)
        go_wp2
        have HJ8 := hi (show RdJ w ws ⟨f1, f2, f3, f4, f5, f6, f7, f8, f9⟩ L.length (.slice (some ⟨g, 0, none⟩) L.length cap) X wr.heap.size 2 16 16 (nz 5) (wr.alloc (.cells #[.int .i64 2, .int .i64 16, .int .i64 16, .int .i64 (nz 5)] 115)) from
          ⟨HJ.out.1.later (bal _ _), fd_later HJ.out.2 (bal _ _), CB.new _ _ _⟩)
        obtain ⟨W8, hW8⟩ : ∃ W8, wr.alloc (.cells #[.int .i64 2, .int .i64 16, .int .i64 16, .int .i64 (nz 5)] 115) = W8 := ⟨_, rfl⟩
        rw [hW8] at HJ8 ⊢
        clear hW8 k0 k1 k2 k3 kf
        refine wp_region_noPanic ?_
        refine wp_region_last_drew (S := (fun w' => w'.cell? ⟨wr.heap.size, 0, none⟩ = some (.int .i64 2) ∧ w'.cell? ⟨wr.heap.size, 1, none⟩ = some (.int .i64 16) ∧ w'.cell? ⟨wr.heap.size, 2, none⟩ = some (.int .i64 16) ∧ w'.cell? ⟨w.heap.size, 2, none⟩ = some (.int .u64 (ws 2)) ∧ RdJ w ws ⟨f1, f2, f3, f4, f5, f6, f7, f8, f9⟩ L.length (.slice (some ⟨g, 0, none⟩) L.length cap) X wr.heap.size 2 16 16 (nz 5) w')) [] (by kernel_rfl) ((HJ8.out.later (below_drew' _)).held (j := 2) (by decide)) (fun hHeld => ?_)
        (try simp only [Array.replicate_succ, Array.replicate_zero, List.push_toArray, List.nil_append, List.cons_append])
        refine wpAnyF_take (i := 0) (v := ?_) (by kernel_rfl) (by kernel_rfl) rfl (by kernel_rfl) (by kernel_rfl) (by kernel_rfl) (fun _ _ _ h => h) (Or.inl ⟨by rfl, ?_⟩) (by assumption) ?_
        rotate_left
        · intro w' hSw; (try dsimp only at hSw); go_simp; (try with_reducible rfl)
        (try simp only [Act.put, List.getElem_toArray, List.getElem_cons_zero, List.getElem_cons_succ, List.setIfInBounds_toArray, List.set_cons_zero, List.set_cons_succ])
        refine wpAnyF_take (i := 1) (v := ?_) (by kernel_rfl) (by kernel_rfl) rfl (by kernel_rfl) (by kernel_rfl) (by kernel_rfl) (fun _ _ _ h => h) (Or.inl ⟨by rfl, ?_⟩) (by assumption) ?_
        rotate_left
        · intro w' hSw; (try dsimp only at hSw); obtain ⟨p0, p1, p2, wc, jj⟩ := hSw; clear jj; go_simp; (try with_reducible rfl)
        (try simp only [Act.put, List.getElem_toArray, List.getElem_cons_zero, List.getElem_cons_succ, List.setIfInBounds_toArray, List.set_cons_zero, List.set_cons_succ])
        refine wpAnyF_take (i := 2) (v := ?_) (by kernel_rfl) (by kernel_rfl) rfl (by kernel_rfl) (by kernel_rfl) (by kernel_rfl) (fun _ _ _ h => h) (Or.inl ⟨by rfl, ?_⟩) (by assumption) ?_
        rotate_left
        · intro w' hSw; (try dsimp only at hSw); go_simp; (try with_reducible rfl)
        (try simp only [Act.put, List.getElem_toArray, List.getElem_cons_zero, List.getElem_cons_succ, List.setIfInBounds_toArray, List.set_cons_zero, List.set_cons_succ])
        refine wpAnyF_take (i := 3) (v := ?_) (by kernel_rfl) (by kernel_rfl) rfl (by kernel_rfl) (by kernel_rfl) (by kernel_rfl) (fun _ _ _ h => h) (Or.inl ⟨by rfl, ?_⟩) (by assumption) ?_
        rotate_left
        · intro w' hSw; (try dsimp only at hSw); obtain ⟨p0, p1, p2, wc, jj⟩ := hSw; clear jj; go_simp; (try with_reducible rfl)
        (try simp only [Act.put, List.getElem_toArray, List.getElem_cons_zero, List.getElem_cons_succ, List.setIfInBounds_toArray, List.set_cons_zero, List.set_cons_succ])
        refine wpAnyF_take (i := 4) (v := ?_) (by kernel_rfl) (by kernel_rfl) rfl (by kernel_rfl) (by kernel_rfl) (by kernel_rfl) (fun _ _ _ h => h) (Or.inl ⟨by rfl, ?_⟩) (by assumption) ?_
        rotate_left
        · intro w' hSw; (try dsimp only at hSw); go_simp; (try with_reducible rfl)
        (try simp only [Act.put, List.getElem_toArray, List.getElem_cons_zero, List.getElem_cons_succ, List.setIfInBounds_toArray, List.set_cons_zero, List.set_cons_succ])
        refine wpAnyF_take (i := 5) (v := ?_) (by kernel_rfl) (by kernel_rfl) rfl (by kernel_rfl) (by kernel_rfl) (by kernel_rfl) (fun _ _ _ h => h) (Or.inl ⟨by rfl, ?_⟩) (by assumption) ?_
        rotate_left
        · intro w' hSw; (try dsimp only at hSw); obtain ⟨p0, p1, p2, wc, jj⟩ := hSw; clear jj; go_simp; (try with_reducible rfl)
        (try simp only [Act.put, List.getElem_toArray, List.getElem_cons_zero, List.getElem_cons_succ, List.setIfInBounds_toArray, List.set_cons_zero, List.set_cons_succ])
        refine wpAnyF_take (i := 6) (v := ?_) (by kernel_rfl) (by kernel_rfl) rfl (by kernel_rfl) (by kernel_rfl) (by kernel_rfl) (fun _ _ _ h => h) (Or.inl ⟨by rfl, ?_⟩) (by assumption) ?_
        rotate_left
        · intro w' hSw; (try dsimp only at hSw); go_simp; (try with_reducible rfl)
        (try simp only [Act.put, List.getElem_toArray, List.getElem_cons_zero, List.getElem_cons_succ, List.setIfInBounds_toArray, List.set_cons_zero, List.set_cons_succ])
        refine wpAnyF_take (i := 7) (v := ?_) (by kernel_rfl) (by kernel_rfl) rfl (by kernel_rfl) (by kernel_rfl) (by kernel_rfl) (fun _ _ _ h => h) (Or.inl ⟨by rfl, ?_⟩) (by assumption) ?_
        rotate_left
        · intro w' hSw; (try dsimp only at hSw); obtain ⟨p0, p1, p2, wc, jj⟩ := hSw; clear jj; go_simp; (try with_reducible rfl)
        (try simp only [Act.put, List.getElem_toArray, List.getElem_cons_zero, List.getElem_cons_succ, List.setIfInBounds_toArray, List.set_cons_zero, List.set_cons_succ])
        refine wpAnyF_ready (rs := [8]) (by kernel_rfl) (by simp) ?_
        refine AllReadyF.cons rfl (fun KK hKK => ?_) AllReadyF.nil
        go_simp
        ((with_reducible refine (HP.out _).mono ?_); rintro e' w5 ⟨rfl, hb5⟩; have hH5 := (hHeld.2.2.2.2.later hb5).held (j := 2) (by decide); clear hb5)
        (try go_simp)
        refine hKK.out _ _ hH5 (fun hHeld => ?_)
        clear hKK KK
        (try simp only [Act.put, List.getElem_toArray, List.getElem_cons_zero, List.getElem_cons_succ, List.setIfInBounds_toArray, List.set_cons_zero, List.set_cons_succ])
        refine wpAnyF_take (i := 9) (v := ?_) (by kernel_rfl) (by kernel_rfl) rfl (by kernel_rfl) (by kernel_rfl) (by kernel_rfl) (fun _ _ _ h => h) (Or.inl ⟨by rfl, ?_⟩) (by assumption) ?_
        rotate_left
        · intro w' hSw; (try dsimp only at hSw); go_simp; (try with_reducible rfl)
        (try simp only [Act.put, List.getElem_toArray, List.getElem_cons_zero, List.getElem_cons_succ, List.setIfInBounds_toArray, List.set_cons_zero, List.set_cons_succ])
        refine wpAnyF_done (by kernel_rfl) ?_ _
        refine NoPanic.normal ?_
        obtain ⟨p0, p1, p2, _, hJ5⟩ := hHeld
        have HJ5 := hi hJ5
        obtain ⟨q0, q1, q2, q3, q4, q5, q6, q7, q8⟩ := CB.cm9 hJ5.k.c
        have qf := hJ5.k.c.frozen
        clear hJ5 hHeld
        go_wp2
        go_roundw
        case rel =>
          refine ⟨k + 1, HNX.out.1, by go_num, hi ?_⟩
          rw [HNX.out.2, setF_5]
          refine ⟨HJ5.out.k.put 5 _ (by first | rfl | (simp [Cm.cs, decN, pw, pm, pr])), ownsRow_setCell_other HJ5.out.row (by simp [Value.ownBlock]; omega) _⟩
        case measure => have := HNX.out.1; simp [intOf]; omega
      · -- case 6
        dsimp only [pw, pf, pb] at k0 k1 k2
        have HP := hi (fun W => part_0_5 (ws 1) (HW.out 1) W)
        go_wp2
        have HJ8 := hi (show RdJ w ws ⟨f1, f2, f3, f4, f5, f6, f7, f8, f9⟩ L.length (.slice (some ⟨g, 0, none⟩) L.length cap) X wr.heap.size 1 0 5 (nz 6) (wr.alloc (.cells #[.int .i64 1, .int .i64 0, .int .i64 5, .int .i64 (nz 6)] 115)) from
          ⟨HJ.out.1.later (bal _ _), fd_later HJ.out.2 (bal _ _), CB.new _ _ _⟩)
        obtain ⟨W8, hW8⟩ : ∃ W8, wr.alloc (.cells #[.int .i64 1, .int .i64 0, .int .i64 5, .int .i64 (nz 6)] 115) = W8 := ⟨_, rfl⟩
        rw [hW8] at HJ8 ⊢
        clear hW8 k0 k1 k2 k3 kf
        refine wp_region_noPanic ?_
        refine wp_region_last_drew (S := (fun w' => w'.cell? ⟨wr.heap.size, 0, none⟩ = some (.int .i64 1) ∧ w'.cell? ⟨wr.heap.size, 1, none⟩ = some (.int .i64 0) ∧ w'.cell? ⟨wr.heap.size, 2, none⟩ = some (.int .i64 5) ∧ w'.cell? ⟨w.heap.size, 1, none⟩ = some (.int .u64 (ws 1)) ∧ RdJ w ws ⟨f1, f2, f3, f4, f5, f6, f7, f8, f9⟩ L.length (.slice (some ⟨g, 0, none⟩) L.length cap) X wr.heap.size 1 0 5 (nz 6) w')) [] (by kernel_rfl) ((HJ8.out.later (below_drew' _)).held (j := 1) (by decide)) (fun hHeld => ?_)
        (try simp only [Array.replicate_succ, Array.replicate_zero, List.push_toArray, List.nil_append, List.cons_append])
        refine wpAnyF_take (i := 0) (v := ?_) (by kernel_rfl) (by kernel_rfl) rfl (by kernel_rfl) (by kernel_rfl) (by kernel_rfl) (fun _ _ _ h => h) (Or.inl ⟨by rfl, ?_⟩) (by assumption) ?_
        rotate_left
        · intro w' hSw; (try dsimp only at hSw); go_simp; (try with_reducible rfl)
        (try simp only [Act.put, List.getElem_toArray, List.getElem_cons_zero, List.getElem_cons_succ, List.setIfInBounds_toArray, List.set_cons_zero, List.set_cons_succ])
        refine wpAnyF_take (i := 1) (v := ?_) (by kernel_rfl) (by kernel_rfl) rfl (by kernel_rfl) (by kernel_rfl) (by kernel_rfl) (fun _ _ _ h => h) (Or.inl ⟨by rfl, ?_⟩) (by assumption) ?_
        rotate_left
        · intro w' hSw; (try dsimp only at hSw); obtain ⟨p0, p1, p2, wc, jj⟩ := hSw; clear jj; go_simp; (try with_reducible rfl)
        (try simp only [Act.put, List.getElem_toArray, List.getElem_cons_zero, List.getElem_cons_succ, List.setIfInBounds_toArray, List.set_cons_zero, List.set_cons_succ])
        refine wpAnyF_take (i := 2) (v := ?_) (by kernel_rfl) (by kernel_rfl) rfl (by kernel_rfl) (by kernel_rfl) (by kernel_rfl) (fun _ _ _ h => h) (Or.inl ⟨by rfl, ?_⟩) (by assumption) ?_
        rotate_left
        · intro w' hSw; (try dsimp only at hSw); go_simp; (try with_reducible rfl)
        (try simp only [Act.put, List.getElem_toArray, List.getElem_cons_zero, List.getElem_cons_succ, List.setIfInBounds_toArray, List.set_cons_zero, List.set_cons_succ])
        refine wpAnyF_take (i := 3) (v := ?_) (by kernel_rfl) (by kernel_rfl) rfl (by kernel_rfl) (by kernel_rfl) (by kernel_rfl) (fun _ _ _ h => h) (Or.inl ⟨by rfl, ?_⟩) (by assumption) ?_
        rotate_left
        · intro w' hSw; (try dsimp only at hSw); obtain ⟨p0, p1, p2, wc, jj⟩ := hSw; clear jj; go_simp; (try with_reducible rfl)
        (try simp only [Act.put, List.getElem_toArray, List.getElem_cons_zero, List.getElem_cons_succ, List.setIfInBounds_toArray, List.set_cons_zero, List.set_cons_succ])
        refine wpAnyF_take (i := 4) (v := ?_) (by kernel_rfl) (by kernel_rfl) rfl (by kernel_rfl) (by kernel_rfl) (by kernel_rfl) (fun _ _ _ h => h) (Or.inl ⟨by rfl, ?_⟩) (by assumption) ?_
        rotate_left
        · intro w' hSw; (try dsimp only at hSw); go_simp; (try with_reducible rfl)
        (try simp only [Act.put, List.getElem_toArray, List.getElem_cons_zero, List.getElem_cons_succ, List.setIfInBounds_toArray, List.set_cons_zero, List.set_cons_succ])
        refine wpAnyF_take (i := 5) (v := ?_) (by kernel_rfl) (by kernel_rfl) rfl (by kernel_rfl) (by kernel_rfl) (by kernel_rfl) (fun _ _ _ h => h) (Or.inl ⟨by rfl, ?_⟩) (by assumption) ?_
        rotate_left
        · intro w' hSw; (try dsimp only at hSw); obtain ⟨p0, p1, p2, wc, jj⟩ := hSw; clear jj; go_simp; (try with_reducible rfl)
        (try simp only [Act.put, List.getElem_toArray, List.getElem_cons_zero, List.getElem_cons_succ, List.setIfInBounds_toArray, List.set_cons_zero, List.set_cons_succ])
        refine wpAnyF_take (i := 6) (v := ?_) (by kernel_rfl) (by kernel_rfl) rfl (by kernel_rfl) (by kernel_rfl) (by kernel_rfl) (fun _ _ _ h => h) (Or.inl ⟨by rfl, ?_⟩) (by assumption) ?_
        rotate_left
        · intro w' hSw; (try dsimp only at hSw); go_simp; (try with_reducible rfl)
        (try simp only [Act.put, List.getElem_toArray, List.getElem_cons_zero, List.getElem_cons_succ, List.setIfInBounds_toArray, List.set_cons_zero, List.set_cons_succ])
        refine wpAnyF_take (i := 7) (v := ?_) (by kernel_rfl) (by kernel_rfl) rfl (by kernel_rfl) (by kernel_rfl) (by kernel_rfl) (fun _ _ _ h => h) (Or.inl ⟨by rfl, ?_⟩) (by assumption) ?_
        rotate_left
        · intro w' hSw; (try dsimp only at hSw); obtain ⟨p0, p1, p2, wc, jj⟩ := hSw; clear jj; go_simp; (try with_reducible rfl)
        (try simp only [Act.put, List.getElem_toArray, List.getElem_cons_zero, List.getElem_cons_succ, List.setIfInBounds_toArray, List.set_cons_zero, List.set_cons_succ])
        refine wpAnyF_ready (rs := [8]) (by kernel_rfl) (by simp) ?_
        refine AllReadyF.cons rfl (fun KK hKK => ?_) AllReadyF.nil
        go_simp
        ((with_reducible refine (HP.out _).mono ?_); rintro e' w5 ⟨rfl, hb5⟩; have hH5 := (hHeld.2.2.2.2.later hb5).held (j := 1) (by decide); clear hb5)
        (try go_simp)
        refine hKK.out _ _ hH5 (fun hHeld => ?_)
        clear hKK KK
        (try simp only [Act.put, List.getElem_toArray, List.getElem_cons_zero, List.getElem_cons_succ, List.setIfInBounds_toArray, List.set_cons_zero, List.set_cons_succ])
        refine wpAnyF_take (i := 9) (v := ?_) (by kernel_rfl) (by kernel_rfl) rfl (by kernel_rfl) (by kernel_rfl) (by kernel_rfl) (fun _ _ _ h => h) (Or.inl ⟨by rfl, ?_⟩) (by assumption) ?_
        rotate_left
        · intro w' hSw; (try dsimp only at hSw); go_simp; (try with_reducible rfl)
        (try simp only [Act.put, List.getElem_toArray, List.getElem_cons_zero, List.getElem_cons_succ, List.setIfInBounds_toArray, List.set_cons_zero, List.set_cons_succ])
        refine wpAnyF_done (by kernel_rfl) ?_ _
        refine NoPanic.normal ?_
        obtain ⟨p0, p1, p2, _, hJ5⟩ := hHeld
        have HJ5 := hi hJ5
        obtain ⟨q0, q1, q2, q3, q4, q5, q6, q7, q8⟩ := CB.cm9 hJ5.k.c
        have qf := hJ5.k.c.frozen
        clear hJ5 hHeld
        go_wp2
        go_roundw
        case rel =>
          refine ⟨k + 1, HNX.out.1, by go_num, hi ?_⟩
          rw [HNX.out.2, setF_6]
          refine ⟨HJ5.out.k.put 6 _ (by first | rfl | (simp [Cm.cs, decN, pw, pm, pr])), ownsRow_setCell_other HJ5.out.row (by simp [Value.ownBlock]; omega) _⟩
        case measure => have := HNX.out.1; simp [intOf]; omega
      · -- case 7
        dsimp only [pw, pf, pb] at k0 k1 k2
        have HP := hi (fun W => part_8_40 (ws 2) (HW.out 2) W)
        go_wp2
        have HJ8 := hi (show RdJ w ws ⟨f1, f2, f3, f4, f5, f6, f7, f8, f9⟩ L.length (.slice (some ⟨g, 0, none⟩) L.length cap) X wr.heap.size 2 8 40 (nz 7) (wr.alloc (.cells #[.int .i64 2, .int .i64 8, .int .i64 40, .int .i64 (nz 7)] 115)) from
          ⟨HJ.out.1.later (bal _ _), fd_later HJ.out.2 (bal _ _), CB.new _ _ _⟩)
        obtain ⟨W8, hW8⟩ : ∃ W8, wr.alloc (.cells #[.int .i64 2, .int .i64 8, .int .i64 40, .int .i64 (nz 7)] 115) = W8 := ⟨_, rfl⟩
        rw [hW8] at HJ8 ⊢
        clear hW8 k0 k1 k2 k3 kf
        refine wp_region_noPanic ?_
        refine wp_region_last_drew (S := (fun w' => w'.cell? ⟨wr.heap.size, 0, none⟩ = some (.int .i64 2) ∧ w'.cell? ⟨wr.heap.size, 1, none⟩ = some (.int .i64 8) ∧ w'.cell? ⟨wr.heap.size, 2, none⟩ = some (.int .i64 40) ∧ w'.cell? ⟨w.heap.size, 2, none⟩ = some (.int .u64 (ws 2)) ∧ RdJ w ws ⟨f1, f2, f3, f4, f5, f6, f7, f8, f9⟩ L.length (.slice (some ⟨g, 0, none⟩) L.length cap) X wr.heap.size 2 8 40 (nz 7) w')) [] (by kernel_rfl) ((HJ8.out.later (below_drew' _)).held (j := 2) (by decide)) (fun hHeld => ?_)
        (try simp only [Array.replicate_succ, Array.replicate_zero, List.push_toArray, List.nil_append, List.cons_append])
        refine wpAnyF_take (i := 0) (v := ?_) (by kernel_rfl) (by kernel_rfl) rfl (by kernel_rfl) (by kernel_rfl) (by kernel_rfl) (fun _ _ _ h => h) (Or.inl ⟨by rfl, ?_⟩) (by assumption) ?_
        rotate_left
        · intro w' hSw; (try dsimp only at hSw); go_simp; (try with_reducible rfl)
        (try simp only [Act.put, List.getElem_toArray, List.getElem_cons_zero, List.getElem_cons_succ, List.setIfInBounds_toArray, List.set_cons_zero, List.set_cons_succ])
        refine wpAnyF_take (i := 1) (v := ?_) (by kernel_rfl) (by kernel_rfl) rfl (by kernel_rfl) (by kernel_rfl) (by kernel_rfl) (fun _ _ _ h => h) (Or.inl ⟨by rfl, ?_⟩) (by assumption) ?_
        rotate_left
        · intro w' hSw; (try dsimp only at hSw); obtain ⟨p0, p1, p2, wc, jj⟩ := hSw; clear jj; go_simp; (try with_reducible rfl)
        (try simp only [Act.put, List.getElem_toArray, List.getElem_cons_zero, List.getElem_cons_succ, List.setIfInBounds_toArray, List.set_cons_zero, List.set_cons_succ])
        refine wpAnyF_take (i := 2) (v := ?_) (by kernel_rfl) (by kernel_rfl) rfl (by kernel_rfl) (by kernel_rfl) (by kernel_rfl) (fun _ _ _ h => h) (Or.inl ⟨by rfl, ?_⟩) (by assumption) ?_
        rotate_left
        · intro w' hSw; (try dsimp only at hSw); go_simp; (try with_reducible rfl)
        (try simp only [Act.put, List.getElem_toArray, List.getElem_cons_zero, List.getElem_cons_succ, List.setIfInBounds_toArray, List.set_cons_zero, List.set_cons_succ])
        refine wpAnyF_take (i := 3) (v := ?_) (by kernel_rfl) (by kernel_rfl) rfl (by kernel_rfl) (by kernel_rfl) (by kernel_rfl) (fun _ _ _ h => h) (Or.inl ⟨by rfl, ?_⟩) (by assumption) ?_
        rotate_left
        · intro w' hSw; (try dsimp only at hSw); obtain ⟨p0, p1, p2, wc, jj⟩ := hSw; clear jj; go_simp; (try with_reducible rfl)
        (try simp only [Act.put, List.getElem_toArray, List.getElem_cons_zero, List.getElem_cons_succ, List.setIfInBounds_toArray, List.set_cons_zero, List.set_cons_succ])
        refine wpAnyF_take (i := 4) (v := ?_) (by kernel_rfl) (by kernel_rfl) rfl (by kernel_rfl) (by kernel_rfl) (by kernel_rfl) (fun _ _ _ h => h) (Or.inl ⟨by rfl, ?_⟩) (by assumption) ?_
        rotate_left
        · intro w' hSw; (try dsimp only at hSw); go_simp; (try with_reducible rfl)
        (try simp only [Act.put, List.getElem_toArray, List.getElem_cons_zero, List.getElem_cons_succ, List.setIfInBounds_toArray, List.set_cons_zero, List.set_cons_succ])
        refine wpAnyF_take (i := 5) (v := ?_) (by kernel_rfl) (by kernel_rfl) rfl (by kernel_rfl) (by kernel_rfl) (by kernel_rfl) (fun _ _ _ h => h) (Or.inl ⟨by rfl, ?_⟩) (by assumption) ?_
        rotate_left
        · intro w' hSw; (try dsimp only at hSw); obtain ⟨p0, p1, p2, wc, jj⟩ := hSw; clear jj; go_simp; (try with_reducible rfl)
        (try simp only [Act.put, List.getElem_toArray, List.getElem_cons_zero, List.getElem_cons_succ, List.setIfInBounds_toArray, List.set_cons_zero, List.set_cons_succ])
        refine wpAnyF_take (i := 6) (v := ?_) (by kernel_rfl) (by kernel_rfl) rfl (by kernel_rfl) (by kernel_rfl) (by kernel_rfl) (fun _ _ _ h => h) (Or.inl ⟨by rfl, ?_⟩) (by assumption) ?_
        rotate_left
        · intro w' hSw; (try dsimp only at hSw); go_simp; (try with_reducible rfl)
        (try simp only [Act.put, List.getElem_toArray, List.getElem_cons_zero, List.getElem_cons_succ, List.setIfInBounds_toArray, List.set_cons_zero, List.set_cons_succ])
        refine wpAnyF_take (i := 7) (v := ?_) (by kernel_rfl) (by kernel_rfl) rfl (by kernel_rfl) (by kernel_rfl) (by kernel_rfl) (fun _ _ _ h => h) (Or.inl ⟨by rfl, ?_⟩) (by assumption) ?_
        rotate_left
        · intro w' hSw; (try dsimp only at hSw); obtain ⟨p0, p1, p2, wc, jj⟩ := hSw; clear jj; go_simp; (try with_reducible rfl)
        (try simp only [Act.put, List.getElem_toArray, List.getElem_cons_zero, List.getElem_cons_succ, List.setIfInBounds_toArray, List.set_cons_zero, List.set_cons_succ])
        refine wpAnyF_ready (rs := [8]) (by kernel_rfl) (by simp) ?_
        refine AllReadyF.cons rfl (fun KK hKK => ?_) AllReadyF.nil
        go_simp
        ((with_reducible refine (HP.out _).mono ?_); rintro e' w5 ⟨rfl, hb5⟩; have hH5 := (hHeld.2.2.2.2.later hb5).held (j := 2) (by decide); clear hb5)
        (try go_simp)
        refine hKK.out _ _ hH5 (fun hHeld => ?_)
        clear hKK KK
        (try simp only [Act.put, List.getElem_toArray, List.getElem_cons_zero, List.getElem_cons_succ, List.setIfInBounds_toArray, List.set_cons_zero, List.set_cons_succ])
        refine wpAnyF_take (i := 9) (v := ?_) (by kernel_rfl) (by kernel_rfl) rfl (by kernel_rfl) (by kernel_rfl) (by kernel_rfl) (fun _ _ _ h => h) (Or.inl ⟨by rfl, ?_⟩) (by assumption) ?_
        rotate_left
        · intro w' hSw; (try dsimp only at hSw); go_simp; (try with_reducible rfl)
        (try simp only [Act.put, List.getElem_toArray, List.getElem_cons_zero, List.getElem_cons_succ, List.setIfInBounds_toArray, List.set_cons_zero, List.set_cons_succ])
        refine wpAnyF_done (by kernel_rfl) ?_ _
        refine NoPanic.normal ?_
        obtain ⟨p0, p1, p2, _, hJ5⟩ := hHeld
        have HJ5 := hi hJ5
        obtain ⟨q0, q1, q2, q3, q4, q5, q6, q7, q8⟩ := CB.cm9 hJ5.k.c
        have qf := hJ5.k.c.frozen
        clear hJ5 hHeld
        have hbd := decN_bd ws 7
        have hm : RowKit.wrap64 (256 * ((ws 2 / 256 % 1099511627776 : Nat) : Int)) = 256 * ((ws 2 / 256 % 1099511627776 : Nat) : Int) := wrap_small (by omega) (by omega)
        go_wp2
        go_roundw
        case rel =>
          refine ⟨k + 1, HNX.out.1, by go_num, hi ?_⟩
          rw [HNX.out.2, setF_7]
          refine ⟨HJ5.out.k.put 7 _ (by first | rfl | (simp [Cm.cs, decN, pw, pm, pr])), ownsRow_setCell_other HJ5.out.row (by simp [Value.ownBlock]; omega) _⟩
        case measure => have := HNX.out.1; simp [intOf]; omega
      · -- case 8
        dsimp only [pw, pf, pb] at k0 k1 k2
        have HP := hi (fun W => part_63_1 (ws 2) (HW.out 2) W)
        go_wp2
        have HJ8 := hi (show RdJ w ws ⟨f1, f2, f3, f4, f5, f6, f7, f8, f9⟩ L.length (.slice (some ⟨g, 0, none⟩) L.length cap) X wr.heap.size 2 63 1 (nz 8) (wr.alloc (.cells #[.int .i64 2, .int .i64 63, .int .i64 1, .int .i64 (nz 8)] 115)) from
          ⟨HJ.out.1.later (bal _ _), fd_later HJ.out.2 (bal _ _), CB.new _ _ _⟩)
        obtain ⟨W8, hW8⟩ : ∃ W8, wr.alloc (.cells #[.int .i64 2, .int .i64 63, .int .i64 1, .int .i64 (nz 8)] 115) = W8 := ⟨_, rfl⟩
        rw [hW8] at HJ8 ⊢
        clear hW8 k0 k1 k2 k3 kf
        refine wp_region_noPanic ?_
        refine wp_region_last_drew (S := (fun w' => w'.cell? ⟨wr.heap.size, 0, none⟩ = some (.int .i64 2) ∧ w'.cell? ⟨wr.heap.size, 1, none⟩ = some (.int .i64 63) ∧ w'.cell? ⟨wr.heap.size, 2, none⟩ = some (.int .i64 1) ∧ w'.cell? ⟨w.heap.size, 2, none⟩ = some (.int .u64 (ws 2)) ∧ RdJ w ws ⟨f1, f2, f3, f4, f5, f6, f7, f8, f9⟩ L.length (.slice (some ⟨g, 0, none⟩) L.length cap) X wr.heap.size 2 63 1 (nz 8) w')) [] (by kernel_rfl) ((HJ8.out.later (below_drew' _)).held (j := 2) (by decide)) (fun hHeld => ?_)
        (try simp only [Array.replicate_succ, Array.replicate_zero, List.push_toArray, List.nil_append, List.cons_append])
        refine wpAnyF_take (i := 0) (v := ?_) (by kernel_rfl) (by kernel_rfl) rfl (by kernel_rfl) (by kernel_rfl) (by kernel_rfl) (fun _ _ _ h => h) (Or.inl ⟨by rfl, ?_⟩) (by assumption) ?_
        rotate_left
        · intro w' hSw; (try dsimp only at hSw); go_simp; (try with_reducible rfl)
        (try simp only [Act.put, List.getElem_toArray, List.getElem_cons_zero, List.getElem_cons_succ, List.setIfInBounds_toArray, List.set_cons_zero, List.set_cons_succ])
        refine wpAnyF_take (i := 1) (v := ?_) (by kernel_rfl) (by kernel_rfl) rfl (by kernel_rfl) (by kernel_rfl) (by kernel_rfl) (fun _ _ _ h => h) (Or.inl ⟨by rfl, ?_⟩) (by assumption) ?_
        rotate_left
        · intro w' hSw; (try dsimp only at hSw); obtain ⟨p0, p1, p2, wc, jj⟩ := hSw; clear jj; go_simp; (try with_reducible rfl)
        (try simp only [Act.put, List.getElem_toArray, List.getElem_cons_zero, List.getElem_cons_succ, List.setIfInBounds_toArray, List.set_cons_zero, List.set_cons_succ])
        refine wpAnyF_take (i := 2) (v := ?_) (by kernel_rfl) (by kernel_rfl) rfl (by kernel_rfl) (by kernel_rfl) (by kernel_rfl) (fun _ _ _ h => h) (Or.inl ⟨by rfl, ?_⟩) (by assumption) ?_
        rotate_left
        · intro w' hSw; (try dsimp only at hSw); go_simp; (try with_reducible rfl)
        (try simp only [Act.put, List.getElem_toArray, List.getElem_cons_zero, List.getElem_cons_succ, List.setIfInBounds_toArray, List.set_cons_zero, List.set_cons_succ])
        refine wpAnyF_take (i := 3) (v := ?_) (by kernel_rfl) (by kernel_rfl) rfl (by kernel_rfl) (by kernel_rfl) (by kernel_rfl) (fun _ _ _ h => h) (Or.inl ⟨by rfl, ?_⟩) (by assumption) ?_
        rotate_left
        · intro w' hSw; (try dsimp only at hSw); obtain ⟨p0, p1, p2, wc, jj⟩ := hSw; clear jj; go_simp; (try with_reducible rfl)
        (try simp only [Act.put, List.getElem_toArray, List.getElem_cons_zero, List.getElem_cons_succ, List.setIfInBounds_toArray, List.set_cons_zero, List.set_cons_succ])
        refine wpAnyF_take (i := 4) (v := ?_) (by kernel_rfl) (by kernel_rfl) rfl (by kernel_rfl) (by kernel_rfl) (by kernel_rfl) (fun _ _ _ h => h) (Or.inl ⟨by rfl, ?_⟩) (by assumption) ?_
        rotate_left
        · intro w' hSw; (try dsimp only at hSw); go_simp; (try with_reducible rfl)
        (try simp only [Act.put, List.getElem_toArray, List.getElem_cons_zero, List.getElem_cons_succ, List.setIfInBounds_toArray, List.set_cons_zero, List.set_cons_succ])
        refine wpAnyF_take (i := 5) (v := ?_) (by kernel_rfl) (by kernel_rfl) rfl (by kernel_rfl) (by kernel_rfl) (by kernel_rfl) (fun _ _ _ h => h) (Or.inl ⟨by rfl, ?_⟩) (by assumption) ?_
        rotate_left
        · intro w' hSw; (try dsimp only at hSw); obtain ⟨p0, p1, p2, wc, jj⟩ := hSw; clear jj; go_simp; (try with_reducible rfl)
        (try simp only [Act.put, List.getElem_toArray, List.getElem_cons_zero, List.getElem_cons_succ, List.setIfInBounds_toArray, List.set_cons_zero, List.set_cons_succ])
        refine wpAnyF_take (i := 6) (v := ?_) (by kernel_rfl) (by kernel_rfl) rfl (by kernel_rfl) (by kernel_rfl) (by kernel_rfl) (fun _ _ _ h => h) (Or.inl ⟨by rfl, ?_⟩) (by assumption) ?_
        rotate_left
        · intro w' hSw; (try dsimp only at hSw); go_simp; (try with_reducible rfl)
        (try simp only [Act.put, List.getElem_toArray, List.getElem_cons_zero, List.getElem_cons_succ, List.setIfInBounds_toArray, List.set_cons_zero, List.set_cons_succ])
        refine wpAnyF_take (i := 7) (v := ?_) (by kernel_rfl) (by kernel_rfl) rfl (by kernel_rfl) (by kernel_rfl) (by kernel_rfl) (fun _ _ _ h => h) (Or.inl ⟨by rfl, ?_⟩) (by assumption) ?_
        rotate_left
        · intro w' hSw; (try dsimp only at hSw); obtain ⟨p0, p1, p2, wc, jj⟩ := hSw; clear jj; go_simp; (try with_reducible rfl)
        (try simp only [Act.put, List.getElem_toArray, List.getElem_cons_zero, List.getElem_cons_succ, List.setIfInBounds_toArray, List.set_cons_zero, List.set_cons_succ])
        refine wpAnyF_ready (rs := [8]) (by kernel_rfl) (by simp) ?_
        refine AllReadyF.cons rfl (fun KK hKK => ?_) AllReadyF.nil
        go_simp
        ((with_reducible refine (HP.out _).mono ?_); rintro e' w5 ⟨rfl, hb5⟩; have hH5 := (hHeld.2.2.2.2.later hb5).held (j := 2) (by decide); clear hb5)
        (try go_simp)
        refine hKK.out _ _ hH5 (fun hHeld => ?_)
        clear hKK KK
        (try simp only [Act.put, List.getElem_toArray, List.getElem_cons_zero, List.getElem_cons_succ, List.setIfInBounds_toArray, List.set_cons_zero, List.set_cons_succ])
        refine wpAnyF_take (i := 9) (v := ?_) (by kernel_rfl) (by kernel_rfl) rfl (by kernel_rfl) (by kernel_rfl) (by kernel_rfl) (fun _ _ _ h => h) (Or.inl ⟨by rfl, ?_⟩) (by assumption) ?_
        rotate_left
        · intro w' hSw; (try dsimp only at hSw); go_simp; (try with_reducible rfl)
        (try simp only [Act.put, List.getElem_toArray, List.getElem_cons_zero, List.getElem_cons_succ, List.setIfInBounds_toArray, List.set_cons_zero, List.set_cons_succ])
        refine wpAnyF_done (by kernel_rfl) ?_ _
        refine NoPanic.normal ?_
        obtain ⟨p0, p1, p2, _, hJ5⟩ := hHeld
        have HJ5 := hi hJ5
        obtain ⟨q0, q1, q2, q3, q4, q5, q6, q7, q8⟩ := CB.cm9 hJ5.k.c
        have qf := hJ5.k.c.frozen
        clear hJ5 hHeld
        go_wp2
        go_roundw
        case rel =>
          refine ⟨k + 1, HNX.out.1, by go_num, hi ?_⟩
          rw [HNX.out.2, setF_8]
          refine ⟨HJ5.out.k.put 8 _ (by first | rfl | (simp [Cm.cs, decN, pw, pm, pr])), ownsRow_setCell_other HJ5.out.row (by simp [Value.ownBlock]; omega) _⟩
        case measure => have := HNX.out.1; simp [intOf]; omega
    · have e : k = L.length := by omega
      subst e
      rw [List.take_length, ← HDC.out] at HJ
      have x1 : ¬ (L.length : Int) < (L.length : Int) := by omega
      obtain ⟨d1, d2, d3, d4, d5, d6, d7, d8, d9⟩ := cc
      dsimp only [Cm.v] at HE
      obtain ⟨q0, q1, q2, q3, q4, q5, q6, q7, q8⟩ := CB.cm9 HJ.out.1.c
      clear HDC hkl hlt
      cases vd
      · obtain rfl : dr = Cm.zero := by have := HDR.out.1; simpa using this
        obtain rfl : dk = false := by have := HDR.out.2; simpa using this
        clear HDR
        go_wp2_with (go_at_call 57; ((with_reducible refine (HE.out _).mono ?_); rintro e w3 ⟨rfl, hb3⟩; have HI3 := hi ((HJ.out.1.later hb3).later (bal w3 (.cells (Ws.cs en) 94))); clear q0 q1 q2 q3 q4 q5 q6 q7 q8; obtain ⟨q0, q1, q2, q3, q4, q5, q6, q7, q8⟩ := CB.cm9 HI3.out.c; obtain ⟨r0, r1, r2, r3, r4, r5, r6, r7, r8⟩ := CB.cm9 HI3.out.r; obtain ⟨v0, v1, v2, v3⟩ := CB.four HI3.out.ws; have rf := HI3.out.r.frozen; have rz := HI3.out.r.lt; clear hb3))
        exact bodyPost_ret (results_cmt rfl _ _ (w.heap.size + 1) _ _ _ _ _ _ _ _ _ _ rfl rfl (CB.set9 (show CB _ _ _ #[_, _, _, _, _, _, _, _, _] from HI3.out.r) _ _ _ _ _ _ _ _ _)) rfl ⟨rfl, below_set9 HI3.out.below (by omega) _ _ _ _ _ _ _ _ _⟩
      · obtain ⟨bq, hbq⟩ : ∃ bq, sameW en ws = bq := ⟨_, rfl⟩
        have hq : eqW (en 0) (en 1) (en 2) (en 3) (ws 0) (ws 1) (ws 2) (ws 3) = bq := by rw [eqW_iff]; exact hbq
        have hdr := HDR.out.1
        have hdk := HDR.out.2
        rw [hbq] at hdr hdk
        clear hbq HDR
        cases bq
        · obtain rfl : dr = Cm.zero := by simpa using hdr
          obtain rfl : dk = false := by simpa using hdk
          clear hdr hdk
          go_wp2_with (go_at_call 57; ((with_reducible refine (HE.out _).mono ?_); rintro e w3 ⟨rfl, hb3⟩; have HI3 := hi ((HJ.out.1.later hb3).later (bal w3 (.cells (Ws.cs en) 94))); clear q0 q1 q2 q3 q4 q5 q6 q7 q8; obtain ⟨q0, q1, q2, q3, q4, q5, q6, q7, q8⟩ := CB.cm9 HI3.out.c; obtain ⟨r0, r1, r2, r3, r4, r5, r6, r7, r8⟩ := CB.cm9 HI3.out.r; obtain ⟨v0, v1, v2, v3⟩ := CB.four HI3.out.ws; have rf := HI3.out.r.frozen; have rz := HI3.out.r.lt; clear hb3))
          exact bodyPost_ret (results_cmt rfl _ _ (w.heap.size + 1) _ _ _ _ _ _ _ _ _ _ rfl rfl (CB.set9 (show CB _ _ _ #[_, _, _, _, _, _, _, _, _] from HI3.out.r) _ _ _ _ _ _ _ _ _)) rfl ⟨rfl, below_set9 HI3.out.below (by omega) _ _ _ _ _ _ _ _ _⟩
        · obtain rfl : dr = ⟨d1, d2, d3, d4, d5, d6, d7, d8, d9⟩ := by simpa using hdr
          obtain rfl : dk = true := by simpa using hdk
          clear hdr hdk
          go_wp2_with (go_at_call 57; ((with_reducible refine (HE.out _).mono ?_); rintro e w3 ⟨rfl, hb3⟩; have HI3 := hi ((HJ.out.1.later hb3).later (bal w3 (.cells (Ws.cs en) 94))); clear q0 q1 q2 q3 q4 q5 q6 q7 q8; obtain ⟨q0, q1, q2, q3, q4, q5, q6, q7, q8⟩ := CB.cm9 HI3.out.c; obtain ⟨r0, r1, r2, r3, r4, r5, r6, r7, r8⟩ := CB.cm9 HI3.out.r; obtain ⟨v0, v1, v2, v3⟩ := CB.four HI3.out.ws; have rf := HI3.out.r.frozen; have rz := HI3.out.r.lt; clear hb3))
          exact bodyPost_ret (results_cmt rfl _ _ (w.heap.size + 1) _ _ _ _ _ _ _ _ _ _ rfl rfl (CB.set9 (show CB _ _ _ #[_, _, _, _, _, _, _, _, _] from HI3.out.r) _ _ _ _ _ _ _ _ _)) rfl ⟨rfl, below_set9 HI3.out.below (by omega) _ _ _ _ _ _ _ _ _⟩
theorem rdec_any (ws : Ws) (hw : ∀ j, ws j < 18446744073709551616) (w : World) : Calls Try.prog 50 #[Wv ws] w fun e w' => e = .returned (.tuple #[(decR ws).v, .bool (decOk ws)]) ∧ Below w.heap.size w w' := by
  cases hk : known (opW ws)
  · exact rdec_unknown ws hk w
  · exact rdec_known ws hw hk w

end Go.Proofs.Ytfnokpajendlmaa
