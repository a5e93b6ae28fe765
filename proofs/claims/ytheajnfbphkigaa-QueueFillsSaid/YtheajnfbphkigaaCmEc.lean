/-
  The document's Encode at every command.
-/
import Derived.Test.YtheajnfbphkigaaCmEb
import Derived.Test.YtheajnfbphkigaaLast
namespace Go.Proofs.Ytheajnfbphkigaa
open Go.ChangeShapes Go.WideShapes Go.ChangeAt Go.RowKit
set_option linter.unusedVariables false
set_option linter.unusedSimpArgs false

/-- What the document's Encode keeps through its loop. -/
structure ReI (w : World) (m base n : Nat) (v : Value) (xs : List Value) (z : Zs) (V : World) : Prop where
  ws : CB V m 64 (Zs.cs z)
  r : CB V (w.heap.size + 1) 64 (Ws.cs wz)
  row : V.ownsRow base 100 4 v n xs
  below : Below w.heap.size w V
theorem ReI.later {w : World} {m base n : Nat} {v : Value} {xs : List Value} {z : Zs} {V V' : World} (h : ReI w m base n v xs z V) (k : Below V.heap.size V V') : ReI w m base n v xs z V' := ⟨h.ws.below k, h.r.below k, fd_later h.row k, h.below.trans (k.mono h.below.size)⟩
theorem zs_at (z : Zs) {x : Nat} (h : x < 4) : (Zs.cs z)[x]? = some (.int .u64 (z x)) := by
  have : x = 0 ∨ x = 1 ∨ x = 2 ∨ x = 3 := by omega
  rcases this with rfl | rfl | rfl | rfl <;> rfl
theorem zs_set (z : Zs) {x : Nat} (h : x < 4) (v : Int) : (Zs.cs z).setIfInBounds x (.int .u64 v) = Zs.cs (fun j => if j = x then v else z j) := by
  have : x = 0 ∨ x = 1 ∨ x = 2 ∨ x = 3 := by omega
  rcases this with rfl | rfl | rfl | rfl <;> rfl
theorem CB.zs {W : World} {b : Nat} {t : TypeId} {z : Zs} (h : CB W b t (Zs.cs z)) {x : Nat} (hx : x < 4) : W.cell? ⟨b, x, none⟩ = some (.int .u64 (z x)) := (h.cell x).trans (zs_at z hx)
theorem ReI.step {w : World} {m base n : Nat} {v : Value} {xs : List Value} {z : Zs} {V : World} (h : ReI w m base n v xs z V) (hm : w.heap.size + 1 < m) (hv : v.ownBlock ≠ some m) {x : Nat} (N : Ns) : ReI w m base n v xs (stepZ N z x) (V.setCell ⟨m, pw x, none⟩ (.int .u64 (stepZ N z x (pw x)))) := by
  refine ⟨?_, h.r.other _ _ _ (by omega), ownsRow_setCell_other h.row hv _, below_set h.below (by omega) _⟩
  have := h.ws.set (pw x) (.int .u64 (stepZ N z x (pw x)))
  rw [zs_set _ (pw_lt x)] at this
  have e : (fun j => if j = pw x then (stepZ N z x) (pw x) else z j) = stepZ N z x := by
    funext j
    by_cases hj : j = pw x
    · subst hj; simp
    · simp only [stepZ, hj, if_false]
  rwa [e] at this
theorem pb_pow (x : Nat) (hx : x < 9) : RowKit.wrap64 (2 ^ min (pb x) 64) = (pr x : Int) := by
  have : x = 0 ∨ x = 1 ∨ x = 2 ∨ x = 3 ∨ x = 4 ∨ x = 5 ∨ x = 6 ∨ x = 7 ∨ x = 8 := by omega
  rcases this with rfl | rfl | rfl | rfl | rfl | rfl | rfl | rfl | rfl <;> decide +kernel

theorem row_zero {W : World} {base n : Nat} {v : Value} {xs : List Value} (h : W.ownsRow base 100 4 v n xs) : W.ownsRow 0 100 4 v n xs :=
  ⟨h.1, h.2.elim Or.inl fun ⟨g, cap, cur, hv, hg, r⟩ => Or.inr ⟨g, cap, cur, hv, Nat.zero_le _, r⟩⟩

set_option maxRecDepth 100000 in
set_option maxHeartbeats 4000000 in
theorem renc_loop (c : Cm) (hk : known c.op = true) (hok : okF c = true) (HF : ∀ W, Calls Try.prog 47 #[c.v] W (FdPost c W)) (w : World) :
    Calls Try.prog 23 #[c.v] w fun e w' => e = .returned (.tuple #[Wv (encW c), .bool (validC c)]) ∧ Below w.heap.size w w' := by
  have hop : 0 ≤ c.op ∧ c.op ≤ 15 := by rcases known_cases hk with e | e | e | e | e | e | e | e | e | e | e | e <;> omega
  have HF := hi HF
  have HK := hi (fun W => dknown_any c.op W)
  rw [hk] at HK
  have HV := hi (validC_of hk)
  rw [hok, Bool.and_true] at HV
  have HZ := hi (fun h : validC c = true => zN_valid h)
  have HNO := hi (fun h : validC c = false => encW_no h)
  have HC := hi (And.intro ((CB.new w 36 c.cs).alloc (.cells (Ws.cs wz) 64)) (cb_second (w := w) (o := .cells c.cs 36) (cs := Ws.cs wz) (t := 64)))
  obtain ⟨L, hL⟩ : ∃ L, fieldsL c.op = L := ⟨_, rfl⟩
  have HL := hi hL
  have hL4 : L.length ≤ 4 := by rw [← hL]; exact fdl_len _
  have HL0 := hi (show 0 < L.length by rw [← hL]; exact fieldsL_ne hk)
  have HL9 := hi (fun x (hx : x ∈ L) => fieldsL_lt c.op x (by rw [hL]; exact hx))
  obtain ⟨X, hX⟩ : ∃ X, fdX c = X := ⟨_, rfl⟩
  have HX := hi hX
  obtain ⟨nums, hn⟩ : ∃ n, numC c = n := ⟨_, rfl⟩
  have HRC := hi (fun (W : World) (base g n cap i x : Nat) (h : W.ownsRow base 100 4 (.slice (some ⟨g, 0, none⟩) n cap) n (fdX c)) (hi : L[i]? = some x) => row_cells hL h hi)
  unfold FdPost at HF
  rw [hok] at HF
  rw [hL, hX] at HF
  rw [hX, hn] at HRC
  rw [hL, hn] at HV HZ
  clear hL hX hn hok
  obtain ⟨vd, hvd⟩ : ∃ vd, validC c = vd := ⟨_, rfl⟩
  obtain ⟨en, hen⟩ : ∃ en, encW c = en := ⟨_, rfl⟩
  rw [hvd, hen] at HZ HNO ⊢
  rw [hvd] at HV
  clear hvd hen HX HL hk
  obtain ⟨c1, c2, c3, c4, c5, c6, c7, c8, c9⟩ := c
  dsimp only [Cm.v, Cm.cs] at HF HC HK HZ HL9 hop ⊢
  have hwo : IntKind.u64.wrap c1 = c1 := by rw [IntKind.wrap_u64]; omega
  go_enter Try.func23, Try.ntmps23
  go_wp2_with (first
    | (go_at_call 47; ((with_reducible refine (HF.out _).mono ?_); rintro e w1 ⟨⟨v, rfl, hrow⟩, hb1⟩; obtain ⟨g, cap, rfl, hg1, hg2, hcap⟩ := row_form hrow HL0.out; have HR1 := hi (And.intro (HC.out.1.below hb1) (HC.out.2.below hb1)); have HROW := hi hrow; obtain ⟨q0, q1, q2, q3, q4, q5, q6, q7, q8⟩ := CB.nine HR1.out.1; have HB1 := hi ((bal_two w _ _).trans (hb1.mono (by simp; omega))); clear hb1 hrow))
    | (go_at_call 48; ((with_reducible refine (HK.out _).mono ?_); rintro e w2 ⟨rfl, hb2⟩; have HR := hi (HR1.out.2.below hb2); have HROW2 := hi (fd_later HROW.out hb2); have rc0 := (HR1.out.1.below hb2).cell 0; have HB := hi (HB1.out.trans (hb2.mono HB1.out.size)); have hg3 := Nat.lt_of_lt_of_le hg2 hb2.size; clear hb2 q0 q1 q2 q3 q4 q5 q6 q7 q8)))
  have HI0 := hi (show ReI w w2.heap.size 0 L.length (.slice (some ⟨g, 0, none⟩) L.length cap) X (zN c1 nums (L.take 0)) (w2.alloc (.cells #[.int .u64 c1, .int .u64 0, .int .u64 0, .int .u64 0] 64)) from
    ⟨CB.new _ _ _, HR.out.alloc _, row_zero (HROW2.out.alloc _), HB.out.alloc HB.out.size _⟩)
  have hwm : w.heap.size + 1 < w2.heap.size := HR.out.lt
  clear rc0 HR HROW2 HB hwo
  go_loopw [7] (fun i wr => ∃ k : Nat, k ≤ L.length ∧ i = .int .i64 k ∧ Hi ((∀ j x, j < k → L[j]? = some x → fits x (nums x) = true) ∧ ReI w w2.heap.size 0 L.length (.slice (some ⟨g, 0, none⟩) L.length cap) X (zN c1 nums (L.take k)) wr)) (fun i _ => L.length - (intOf i).toNat)
  case atStart => exact ⟨0, by omega, rfl, hi ⟨fun j x h => absurd h (by omega), HI0.out⟩⟩
  case round =>
    obtain ⟨k, hkl, rfl, HJ⟩ := hrel
    by_cases hlt : k < L.length
    · obtain ⟨x, hx⟩ : ∃ x, L[k]? = some x := ⟨_, List.getElem?_eq_getElem hlt⟩
      have hxL : x ∈ L := List.mem_of_getElem? hx
      have hx9 : x < 9 := HL9.out x hxL
      obtain ⟨k0, k1, k2, k3⟩ := HRC.out _ _ _ _ _ _ _ HJ.out.2.row hx
      have kf := HJ.out.2.row.frozenAt
      have htk : L.take (k + 1) = L.take k ++ [x] := by rw [List.take_add_one, hx]; rfl
      have HX := hi (And.intro hx (And.intro hx9 (And.intro htk (And.intro hxL hlt))))
      have x1 : (k : Int) < (L.length : Int) := by omega
      have hp := pb_pow x hx9
      have hw4 := pw_lt x
      clear hx htk hxL hx9
      go_wp2
      have hnew := CB.new wr 100 #[.int .i64 (pw x), .int .i64 (pf x), .int .i64 (pb x), .int .i64 (nums x)]
      have HJ8 := hi (HJ.out.2.later (bal wr (.cells #[.int .i64 (pw x), .int .i64 (pf x), .int .i64 (pb x), .int .i64 (nums x)] 100)))
      obtain ⟨W8, hW8⟩ : ∃ W8, wr.alloc (.cells #[.int .i64 (pw x), .int .i64 (pf x), .int .i64 (pb x), .int .i64 (nums x)] 100) = W8 := ⟨_, rfl⟩
      rw [hW8] at hnew HJ8 ⊢
      have hwr : w2.heap.size < wr.heap.size := HJ.out.2.ws.lt
      obtain ⟨n0, n1, n2, n3⟩ := CB.four hnew
      have nf := hnew.frozen
      have rf := HJ8.out.r.frozen
      have rz := HJ8.out.r.lt
      obtain ⟨r0, r1, r2, r3⟩ := CB.four HJ8.out.r
      clear hW8 k0 k1 k2 k3 kf
      by_cases hneg : nums x < 0
      · have hvd : vd = false := by
          rw [HV.out, ← Bool.not_eq_true, List.all_eq_true]
          intro h
          have := fits_iff.1 (h x HX.out.2.2.2.1)
          omega
        subst hvd
        obtain rfl := HNO.out rfl
        go_region
        go_wp2
        exact bodyPost_ret (results_w rfl _ _ (w.heap.size + 1) _ _ _ _ _ rfl rfl (HJ8.out.r.drew.set4 _ _ _ _)) rfl ⟨rfl, below_set4 HJ8.out.below.drew (by omega) _ _ _ _⟩
      · by_cases hbig : (pr x : Int) ≤ nums x
        · have hvd : vd = false := by
            rw [HV.out, ← Bool.not_eq_true, List.all_eq_true]
            intro h
            have := fits_iff.1 (h x HX.out.2.2.2.1)
            omega
          subst hvd
          obtain rfl := HNO.out rfl
          go_region
          go_wp2
          exact bodyPost_ret (results_w rfl _ _ (w.heap.size + 1) _ _ _ _ _ rfl rfl (HJ8.out.r.drew.set4 _ _ _ _)) rfl ⟨rfl, below_set4 HJ8.out.below.drew (by omega) _ _ _ _⟩
        · go_region
          go_wp2
          have nw := HJ8.out.ws.zs hw4
          have wf := HJ8.out.ws.frozen
          have hwl := HJ8.out.ws.lt
          have x2 : (pw x : Int) < 4 := by omega
          -- REGION
          refine wp_region_noPanic ?_
          refine wp_region_last_drew (S := (fun w' => w'.cell? ⟨wr.heap.size, 0, none⟩ = some (.int .i64 (pw x)) ∧ w'.cell? ⟨wr.heap.size, 1, none⟩ = some (.int .i64 (pf x)) ∧ w'.cell? ⟨wr.heap.size, 3, none⟩ = some (.int .i64 (nums x)) ∧ w'.cell? ⟨w2.heap.size, pw x, none⟩ = some (.int .u64 (zN c1 nums (L.take k) (pw x))))) [14] (by kernel_rfl) ⟨n0, n1, n3, nw⟩ (fun hHeld => ?_)
          (try simp only [Array.replicate_succ, Array.replicate_zero, List.push_toArray, List.nil_append, List.cons_append])
          refine wpAnyF_take (i := 0) (v := ?_) (by kernel_rfl) (by kernel_rfl) rfl (by kernel_rfl) (by kernel_rfl) (by kernel_rfl) (fun _ _ _ h => h) (Or.inl ⟨by rfl, ?_⟩) (by assumption) ?_
          rotate_left
          · intro w' hSw; (try dsimp only at hSw); go_simp; (try with_reducible rfl)
          (try simp only [Act.put, List.getElem_toArray, List.getElem_cons_zero, List.getElem_cons_succ, List.setIfInBounds_toArray, List.set_cons_zero, List.set_cons_succ])
          refine wpAnyF_take (i := 1) (v := ?_) (by kernel_rfl) (by kernel_rfl) rfl (by kernel_rfl) (by kernel_rfl) (by kernel_rfl) (fun _ _ _ h => h) (Or.inl ⟨by rfl, ?_⟩) (by assumption) ?_
          rotate_left
          · intro w' hSw; (try dsimp only at hSw); obtain ⟨p0, p1, p3, wc⟩ := hSw; go_simp; (try with_reducible rfl)
          (try simp only [Act.put, List.getElem_toArray, List.getElem_cons_zero, List.getElem_cons_succ, List.setIfInBounds_toArray, List.set_cons_zero, List.set_cons_succ])
          refine wpAnyF_take (i := 2) (v := ?_) (by kernel_rfl) (by kernel_rfl) rfl (by kernel_rfl) (by kernel_rfl) (by kernel_rfl) (fun _ _ _ h => h) (Or.inl ⟨by rfl, ?_⟩) (by assumption) ?_
          rotate_left
          · intro w' hSw; (try dsimp only at hSw); go_simp; (try with_reducible rfl)
          (try simp only [Act.put, List.getElem_toArray, List.getElem_cons_zero, List.getElem_cons_succ, List.setIfInBounds_toArray, List.set_cons_zero, List.set_cons_succ])
          refine wpAnyF_take (i := 3) (v := ?_) (by kernel_rfl) (by kernel_rfl) rfl (by kernel_rfl) (by kernel_rfl) (by kernel_rfl) (fun _ _ _ h => h) (Or.inl ⟨by rfl, ?_⟩) (by assumption) ?_
          rotate_left
          · intro w' hSw; (try dsimp only at hSw); obtain ⟨p0, p1, p3, wc⟩ := hSw; go_simp; (try with_reducible rfl)
          (try simp only [Act.put, List.getElem_toArray, List.getElem_cons_zero, List.getElem_cons_succ, List.setIfInBounds_toArray, List.set_cons_zero, List.set_cons_succ])
          refine wpAnyF_take (i := 4) (v := ?_) (by kernel_rfl) (by kernel_rfl) rfl (by kernel_rfl) (by kernel_rfl) (by kernel_rfl) (fun _ _ _ h => h) (Or.inl ⟨by rfl, ?_⟩) (by assumption) ?_
          rotate_left
          · intro w' hSw; (try dsimp only at hSw); go_simp; (try with_reducible rfl)
          (try simp only [Act.put, List.getElem_toArray, List.getElem_cons_zero, List.getElem_cons_succ, List.setIfInBounds_toArray, List.set_cons_zero, List.set_cons_succ])
          refine wpAnyF_take (i := 5) (v := ?_) (by kernel_rfl) (by kernel_rfl) rfl (by kernel_rfl) (by kernel_rfl) (by kernel_rfl) (fun _ _ _ h => h) (Or.inl ⟨by rfl, ?_⟩) (by assumption) ?_
          rotate_left
          · intro w' hSw; (try dsimp only at hSw); obtain ⟨p0, p1, p3, wc⟩ := hSw; go_simp; (try with_reducible rfl)
          (try simp only [Act.put, List.getElem_toArray, List.getElem_cons_zero, List.getElem_cons_succ, List.setIfInBounds_toArray, List.set_cons_zero, List.set_cons_succ])
          refine wpAnyF_take (i := 6) (v := ?_) (by kernel_rfl) (by kernel_rfl) rfl (by kernel_rfl) (by kernel_rfl) (by kernel_rfl) (fun _ _ _ h => h) (Or.inl ⟨by rfl, ?_⟩) (by assumption) ?_
          rotate_left
          · intro w' hSw; (try dsimp only at hSw); go_simp; (try with_reducible rfl)
          (try simp only [Act.put, List.getElem_toArray, List.getElem_cons_zero, List.getElem_cons_succ, List.setIfInBounds_toArray, List.set_cons_zero, List.set_cons_succ])
          refine wpAnyF_take (i := 7) (v := ?_) (by kernel_rfl) (by kernel_rfl) rfl (by kernel_rfl) (by kernel_rfl) (by kernel_rfl) (fun _ _ _ h => h) (Or.inl ⟨by rfl, ?_⟩) (by assumption) ?_
          rotate_left
          · intro w' hSw; (try dsimp only at hSw); obtain ⟨p0, p1, p3, wc⟩ := hSw; go_simp; (try with_reducible rfl)
          (try simp only [Act.put, List.getElem_toArray, List.getElem_cons_zero, List.getElem_cons_succ, List.setIfInBounds_toArray, List.set_cons_zero, List.set_cons_succ])
          refine wpAnyF_take (i := 8) (v := ?_) (by kernel_rfl) (by kernel_rfl) rfl (by kernel_rfl) (by kernel_rfl) (by kernel_rfl) (fun _ _ _ h => h) (Or.inl ⟨by rfl, ?_⟩) (by assumption) ?_
          rotate_left
          · intro w' hSw; (try dsimp only at hSw); go_simp; (try with_reducible rfl)
          (try simp only [Act.put, List.getElem_toArray, List.getElem_cons_zero, List.getElem_cons_succ, List.setIfInBounds_toArray, List.set_cons_zero, List.set_cons_succ])
          refine wpAnyF_take (i := 9) (v := ?_) (by kernel_rfl) (by kernel_rfl) rfl (by kernel_rfl) (by kernel_rfl) (by kernel_rfl) (fun _ _ _ h => h) (Or.inl ⟨by rfl, ?_⟩) (by assumption) ?_
          rotate_left
          · intro w' hSw; (try dsimp only at hSw); go_simp; (try with_reducible rfl)
          (try simp only [Act.put, List.getElem_toArray, List.getElem_cons_zero, List.getElem_cons_succ, List.setIfInBounds_toArray, List.set_cons_zero, List.set_cons_succ])
          refine wpAnyF_take (i := 10) (v := ?_) (by kernel_rfl) (by kernel_rfl) rfl (by kernel_rfl) (by kernel_rfl) (by kernel_rfl) (fun _ _ _ h => h) (Or.inl ⟨by rfl, ?_⟩) (by assumption) ?_
          rotate_left
          · intro w' hSw; (try dsimp only at hSw); obtain ⟨p0, p1, p3, wc⟩ := hSw; go_simp; (try with_reducible rfl)
          (try simp only [Act.put, List.getElem_toArray, List.getElem_cons_zero, List.getElem_cons_succ, List.setIfInBounds_toArray, List.set_cons_zero, List.set_cons_succ])
          refine wpAnyF_take (i := 11) (v := ?_) (by kernel_rfl) (by kernel_rfl) rfl (by kernel_rfl) (by kernel_rfl) (by kernel_rfl) (fun _ _ _ h => h) (Or.inl ⟨by rfl, ?_⟩) (by assumption) ?_
          rotate_left
          · intro w' hSw; (try dsimp only at hSw); go_simp; (try with_reducible rfl)
          (try simp only [Act.put, List.getElem_toArray, List.getElem_cons_zero, List.getElem_cons_succ, List.setIfInBounds_toArray, List.set_cons_zero, List.set_cons_succ])
          refine wpAnyF_take (i := 12) (v := ?_) (by kernel_rfl) (by kernel_rfl) rfl (by kernel_rfl) (by kernel_rfl) (by kernel_rfl) (fun _ _ _ h => h) (Or.inl ⟨by rfl, ?_⟩) (by assumption) ?_
          rotate_left
          · intro w' hSw; (try dsimp only at hSw); go_simp; (try with_reducible rfl)
          (try simp only [Act.put, List.getElem_toArray, List.getElem_cons_zero, List.getElem_cons_succ, List.setIfInBounds_toArray, List.set_cons_zero, List.set_cons_succ])
          refine wpAnyF_take (i := 13) (v := ?_) (by kernel_rfl) (by kernel_rfl) rfl (by kernel_rfl) (by kernel_rfl) (by kernel_rfl) (fun _ _ _ h => h) (Or.inl ⟨by rfl, ?_⟩) (by assumption) ?_
          rotate_left
          · intro w' hSw; (try dsimp only at hSw); go_simp; (try with_reducible rfl)
          (try simp only [Act.put, List.getElem_toArray, List.getElem_cons_zero, List.getElem_cons_succ, List.setIfInBounds_toArray, List.set_cons_zero, List.set_cons_succ])
          refine wpAnyF_ready (rs := [14]) (by kernel_rfl) (by simp) ?_
          refine AllReadyF.last (by kernel_rfl) rfl (fun KK hKK => ?_) AllReadyF.nil
          go_simp
          refine hKK.out _ _ ?_
          clear hKK KK
          (try simp only [Act.put, List.getElem_toArray, List.getElem_cons_zero, List.getElem_cons_succ, List.setIfInBounds_toArray, List.set_cons_zero, List.set_cons_succ])
          refine wpAnyF_done (by kernel_rfl) ?_ _
          refine NoPanic.normal ?_
          -- END
          go_wp2
          go_roundw
          case rel =>
            refine ⟨k + 1, HX.out.2.2.2.2, by go_num, hi ⟨fun j y hj hy => ?_, ?_⟩⟩
            · by_cases e : j = k
              · subst e
                rw [HX.out.1] at hy
                obtain rfl : x = y := by simpa using hy
                exact fits_iff.2 ⟨by omega, by omega⟩
              · exact HJ.out.1 j y (by omega) hy
            · rw [HX.out.2.2.1, zN_snoc]
              have hst := HJ8.out.step (x := x) (by omega) (by simp [Value.ownBlock]; omega) nums
              have hsv : stepZ nums (zN c1 nums (L.take k)) x (pw x) = IntKind.u64.wrap (zN c1 nums (L.take k) (pw x) + IntKind.u64.wrap (IntKind.u64.wrap (nums x) * 2 ^ min (pf x) 64)) := by simp only [stepZ, if_true]
              rw [hsv] at hst
              exact (hst.later (below_drew' _)).later (below_drew' _)
          case measure => have := HX.out.2.2.2.2; simp [intOf]; omega
    · have e : k = L.length := by omega
      subst e
      rw [List.take_length] at HJ
      have x1 : ¬ (L.length : Int) < (L.length : Int) := by omega
      have hvd : vd = true := by
        rw [HV.out, List.all_eq_true]
        intro x hx
        obtain ⟨j, hj⟩ := List.getElem?_of_mem hx
        exact HJ.out.1 j x (List.getElem?_eq_some_iff.1 hj).1 hj
      subst hvd
      obtain ⟨q0, q1, q2, q3⟩ := CB.four HJ.out.2.ws
      have rf := HJ.out.2.r.frozen
      have hz := HJ.out.2.r.lt
      obtain ⟨r0, r1, r2, r3⟩ := CB.four HJ.out.2.r
      have E0 := HZ.out rfl 0
      have E1 := HZ.out rfl 1
      have E2 := HZ.out rfl 2
      have E3 := HZ.out rfl 3
      rw [E0] at q0
      rw [E1] at q1
      rw [E2] at q2
      rw [E3] at q3
      clear E0 E1 E2 E3 hkl hlt
      go_wp2
      exact bodyPost_ret (results_w rfl _ _ (w.heap.size + 1) _ _ _ _ _ rfl rfl (HJ.out.2.r.set4 _ _ _ _)) rfl ⟨rfl, below_set4 HJ.out.2.below (by omega) _ _ _ _⟩

end Go.Proofs.Ytheajnfbphkigaa
