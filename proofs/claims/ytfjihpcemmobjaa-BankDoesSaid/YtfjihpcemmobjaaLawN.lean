/-
  The law BankDoes at every input.
-/
import Derived.Test.YtfjihpcemmobjaaLawI
import Derived.Test.YtfjihpcemmobjaaLawM
namespace Go.Proofs.Ytfjihpcemmobjaa
open Go.ChangeShapes Go.WideShapes Go.ChangeAt Go.RowKit Go.Shelf
set_option linter.unusedVariables false
attribute [local go_sem] Oper.semAt_some
attribute [local go_sem high] neqL neqE eqlE neqC eqlC guardL guardE guardC

theorem of09_ready {f : Int} {es : List En} (g0 g1 : Bool) : Of09 f es (readyL f es g0 g1) := fun x hx => by
  obtain ⟨k, hk, rfl⟩ := items_mem (List.mem_filter.1 hx).1
  exact ⟨k, nthE_at hk, rfl⟩
theorem ready_len {f : Int} {es : List En} (g0 g1 : Bool) (h : es.length < 64) : (readyL f es g0 g1).length < 64 := by
  have h1 : (readyL f es g0 g1).length ≤ (items f es).length := List.length_filter_le _ _
  rw [items_len] at h1
  omega
theorem sorted_sel {f : Int} {es : List En} {g0 g1 : Bool} {ys : List Cd} (hp : ys.Perm (cands (readyL f es g0 g1))) (hs : SortedC ys) : ys.map (·.id) = sel (readyL f es g0 g1).length (readyL f es g0 g1) := by
  have ho : OwnIt (readyL f es g0 g1) := OwnIt.filter (items_lt f es) _
  have hd : OwnIds ys := by
    have h1 := ownIds_of ho
    unfold OwnIds at h1 ⊢
    exact ((hp.map _).nodup_iff).2 h1
  exact sel_sorted _ _ _ (Nat.le_refl _) ho hp (strict_of hs hd)
theorem sameB_self9 (xs : List Int) : sameB xs xs = true := by simp [sameB]
theorem atI_ge (f : Int) (n : Nat) (id : Int) : decide (0 ≤ atI f n id) = hasB f n id := by
  unfold atI
  cases h : hasB f n id
  · rfl
  · rw [hasB_iff] at h
    simp
    omega
/-- Where a round's questions stand: the banks, and the document's numbers. -/
structure QW (w1 : World) (b g cap rb lg xg : Nat) (la xa : Option Addr) (lc xc : Nat) (f : Int) (es : List En) (v : Value) (l : List Int) (W : World) : Prop where
  tw : TwB w1 b g cap rb lg xg la xa lc xc f es W
  li : IntsAt W v l
theorem QW.later {w1 W W' : World} {b g cap rb lg xg : Nat} {la xa : Option Addr} {lc xc : Nat} {f : Int} {es : List En} {v : Value} {l : List Int} (h : QW w1 b g cap rb lg xg la xa lc xc f es v l W) (k : Below W.heap.size W W') : QW w1 b g cap rb lg xg la xa lc xc f es v l W' :=
  ⟨h.tw.later k, intsAt_grew h.li k⟩
/-- The copy stands in the bank's place. -/
theorem TwB.swap {w0 w W : World} {b g cap rb lg xg : Nat} {la xa : Option Addr} {lc xc : Nat} {f : Int} {es : List En} {b' g' cap' : Nat} (h : TwB w0 b g cap rb lg xg la xa lc xc f es w) (hb : w.heap.size ≤ b') (hg : w.heap.size ≤ g') (hk : BkAt W b' g' cap' f es) (k : Kept (· = g) w W) : TwB w0 b' g' cap' rb lg xg la xa lc xc f es W := by
  have hrl := h.rf.box.lt
  have hws := h.below.size
  refine ⟨hk, h.rf.kept k h.n1.1 (fun a => ⟨Ne.symm (h.n2 a).1, Ne.symm (h.n2 a).2.1⟩), ⟨by omega, by omega, h.l1.2.2⟩, h.l2, by omega, fun a => ?_, h.fit, h.right, h.below.trans (k.toBelow h.below.size (fun i e => by subst e; exact h.l1.2.1))⟩
  have h1 := (h.rf.ne0 a).2.2.1.lt
  have h2 := (h.rf.ne0 a).2.2.2.1.lt
  omega

set_option maxRecDepth 100000 in
set_option maxHeartbeats 40000000 in
theorem lawDoes_any (f n : Int) (v : Value) (xs : List Ac9) (g0 g1 : Bool) (w : World) (hf0 : 0 ≤ f) (hf1 : f < 256) (hn0 : 0 ≤ n) (hn1 : n < 256) (h : ActsAt w v xs) (hl : xs.length ≤ 9223372036854775806) :
    Calls Try.prog 3 #[.int .u8 f, .int .u8 n, v, .agg #[.bool g0, .bool g1]] w fun e w' => e = .returned (.bool true) ∧ Below w.heap.size w w' := by
  obtain ⟨a0, cap0, rfl⟩ := h.slice
  have CB0 := hi (fun W => both_any f n W hf0 hf1 hn0 hn1)
  have HFEW := hi (show (fresh (n % 64).toNat xS).length < 64 by rw [fresh_len]; omega)
  have HACT := hi h
  obtain ⟨k9, hk9⟩ : ∃ k, xs.length = k := ⟨_, rfl⟩
  rw [hk9] at HACT hl ⊢
  clear h hk9
  go_enter Try.func3, Try.ntmps3
  go_wp2_with (first
    | (go_at_call 9; ((with_reducible refine (awake_any _).mono ?_); rintro e' w1 ⟨rfl, hb⟩; have HG1 := hi ((CB.new w 23 #[.bool g0, .bool g1]).below hb); have HB1 := hi ((bal w (.cells #[.bool g0, .bool g1] 23)).trans (hb.mono (bal w (.cells #[.bool g0, .bool g1] 23)).size)); clear hb))
    | (go_at_call 10; ((with_reducible refine (CB0.out _).mono ?_); rintro e' w2 ⟨b, g, cap', rb, lg, xg, la, xa, lc, xc, rfl, hT⟩; have HT0 := hi hT; clear hT)))
  have hGlt := HG1.out.lt
  go_loopw [10, 12] (fun bv i wr => ∃ (k b g cap' : Nat) (es : List En), k ≤ k9 ∧ i = .int .i64 k ∧ bv = .pointer (some ⟨b, 0, none⟩) ∧ es.length < 64 ∧ Hi (TwB w1 b g cap' rb lg xg la xa lc xc f es wr)) (fun _ i _ => k9 - (intOf i).toNat)
  case atStart => exact ⟨0, b, g, cap', _, Nat.zero_le _, rfl, rfl, HFEW.out, HT0⟩
  case round =>
    obtain ⟨k, b, g, cap', es, hk, rfl, rfl, hfew, HX⟩ := hrel
    clear HT0 HFEW
    by_cases hlt : k < k9
    · obtain ⟨ab, o, rfl, hid, hc⟩ := HACT.out.read hlt
      obtain ⟨x, hx⟩ : ∃ x, nthA xs k = x := ⟨_, rfl⟩
      rw [hx] at hid hc
      obtain ⟨c0, c1, c2, c3, c4, c5, c6, c7, c8, c9, c10⟩ := hc _ (HB1.out.trans (HX.out.below.mono HB1.out.size))
      clear hc hx
      have HDO := hi (fun b g cap' W (hT : TwB w1 b g cap' rb lg xg la xa lc xc f es W) => does_any (x := x) hT hid)
      have HLE := actE_len f es x
      have HID := hi hid
      obtain ⟨es2, hes2⟩ : ∃ es2, actE f es x = es2 := ⟨_, rfl⟩
      rw [hes2] at HDO HLE
      have hfew2 : es2.length < 64 := by rw [HLE]; exact hfew
      have HF2 := hi hfew2
      clear hes2 HLE hid hfew2
      obtain ⟨d, id, ⟨⟨e, l, q, a'⟩, en, gr, p⟩, s, a⟩ := x
      dsimp only [Ac9.v] at HDO
      dsimp only at c0 c1 c2 c3 c4 c5 c6 c7 c8 c9 c10 HID
      by_cases h4 : d = 4
      · obtain rfl := h4
        have CCP := hi (fun W (hT : TwB w1 b g cap' rb lg xg la xa lc xc f es W) => copy_any hT.bk hT.fit)
        have CDO := hi (fun W (hW : BkAt W b g cap' f es) => do_any (id := id) (a := 3) hW HX.out.fit HID.out)
        have CRS := hi (fun es9 (h9 : es9.length = es.length) W (hW : BkAt W b g cap' f es9) => reset_any hW (by rw [h9]; exact HX.out.fit))
        have HDL := hi (doR_len f es id 3)
        obtain ⟨es8, hes8⟩ : ∃ es8, (doR f es id 3).1 = es8 := ⟨_, rfl⟩
        rw [hes8] at CDO HDL
        clear hes8
        have HTA := hi (HX.out.later (bal wr (.cells (Ac9.ca ⟨4, id, ⟨⟨e, l, q, a'⟩, en, gr, p⟩, s, a⟩) 35)))
        have HBA := hi (CB.new wr 35 (Ac9.ca ⟨4, id, ⟨⟨e, l, q, a'⟩, en, gr, p⟩, s, a⟩))
        go_wp2_with (first
          | (go_at_call 11; ((with_reducible refine (CCP.out _ HTA.out).mono ?_); rintro e' u1 ⟨b2, g2, cap2, rfl, hb2, hg2, hbk2, hB⟩; have HKC := hi hbk2; have HLC := hi (And.intro hb2 hg2); have HT1 := hi (HTA.out.later hB); have HB1' := hi hB; have HX1 := hi (HBA.out.below hB); have y1 := HX1.out.cell 1; clear hb2 hg2 hbk2 hB))
          | (go_at_call 12; ((with_reducible refine (CDO.out _ HT1.out.bk).mono ?_); rintro e' u2 ⟨rfl, hA⟩; have HA2 := hi hA; clear y1 hA))
          | (go_at_call 13; ((with_reducible refine (CRS.out _ HDL.out _ HA2.out.bk).mono ?_); rintro e' u3 ⟨rfl, hA⟩; have HKG := hi (HA2.out.kept.trans hA.kept); clear hA)))
        have hgl := HTA.out.bk.row.lt
        have hwl : wr.heap.size < (wr.alloc (.cells (Ac9.ca ⟨4, id, ⟨⟨e, l, q, a'⟩, en, gr, p⟩, s, a⟩) 35)).heap.size := by simp
        have hgw := HX.out.bk.row.lt
        have hl9 := HLC.out
        have HTX := hi (HTA.out.swap hl9.1 hl9.2 (HKC.out.kept HKG.out (by omega) (by omega)) ((Kept.of HB1'.out).trans HKG.out))
        have HBX := hi (HX1.out.keptB HKG.out (by omega))
        have HNB := hi (show ¬ bs2 g2 lg xg es wr.heap.size from fun e9 => by
          rcases e9 with e9 | ⟨a9, e9 | e9⟩
          · omega
          · have := (HX.out.rf.ne0 a9).2.2.1.lt; omega
          · have := (HX.out.rf.ne0 a9).2.2.2.1.lt; omega)
        clear CCP CDO CRS HTA HBA HKC HLC HT1 HB1' HX1 HA2 HKG HX hl9 hgl hgw hwl
        have HAI := hi (fun W (hW : RfAt W rb lg xg la xa lc xc f es2) (hF : Fit f es2.length) => at_any (id := id) hW hF)
        obtain ⟨ai, hai⟩ : ∃ ai, atI f es2.length id = ai := ⟨_, rfl⟩
        obtain ⟨hh, hhh⟩ : ∃ hh, hasB f es2.length id = hh := ⟨_, rfl⟩
        have hge : decide (0 ≤ ai) = hh := by rw [← hai, ← hhh]; exact atI_ge _ _ _
        rw [hai] at HAI
        have HHA := hi (fun b g cap W (hW : BkAt W b g cap f es2) (hF : Fit f es2.length) => has_any (id := id) hW hF HID.out)
        rw [hhh] at HHA
        clear hai hhh
        refine wp_region_noPanic ?_
        refine wp_region_held_drew (S := fun w' => CB w' wr.heap.size 35 (Ac9.ca ⟨4, id, ⟨⟨e, l, q, a'⟩, en, gr, p⟩, s, a⟩)) (by kernel_rfl) (CB.drew HBX.out) (fun hHeld => ?_)
        (try simp only [Array.replicate_succ, Array.replicate_zero, List.push_toArray, List.nil_append, List.cons_append])
        obtain ⟨Wd, hWd⟩ : ∃ Wd, u3.drew = Wd := ⟨_, rfl⟩
        have HXD : Hi (CB Wd wr.heap.size 35 (Ac9.ca ⟨4, id, ⟨⟨e, l, q, a'⟩, en, gr, p⟩, s, a⟩)) := by rw [← hWd]; exact hi (CB.drew HBX.out)
        have HTD : Hi (TwB w1 b2 g2 cap2 rb lg xg la xa lc xc f es Wd) := by rw [← hWd]; exact hi (HTX.out.later (Below.drewN (m := 1) (Below.refl _ _)))
        rw [hWd] at hHeld ⊢
        clear hWd HBX HTX
        refine wpAnyH_take (i := 0) (v := ?_) rfl (by kernel_rfl) (by kernel_rfl) (by kernel_rfl) (fun _ _ _ h => h) (Or.inl ⟨by rfl, ?_⟩) (by assumption) ?_
        rotate_left
        · intro w' hSw; have q0 := CB.cell hSw 0; have q1 := CB.cell hSw 1; have q2 := CB.cell hSw 2; have q3 := CB.cell hSw 3; have q4 := CB.cell hSw 4; have q5 := CB.cell hSw 5; have q6 := CB.cell hSw 6; have q7 := CB.cell hSw 7; have q8 := CB.cell hSw 8; have q9 := CB.cell hSw 9; have q10 := CB.cell hSw 10; (try clear hSw); go_simp; (try with_reducible rfl)
        (try simp only [Act.put, List.getElem_toArray, List.getElem_cons_zero, List.setIfInBounds_toArray, List.set_cons_zero, List.set_cons_succ])
        refine wpAnyH_take (i := 1) (v := ?_) rfl (by kernel_rfl) (by kernel_rfl) (by kernel_rfl) (fun _ _ _ h => h) (Or.inl ⟨by rfl, ?_⟩) (by assumption) ?_
        rotate_left
        · intro w' hSw; have q0 := CB.cell hSw 0; have q1 := CB.cell hSw 1; have q2 := CB.cell hSw 2; have q3 := CB.cell hSw 3; have q4 := CB.cell hSw 4; have q5 := CB.cell hSw 5; have q6 := CB.cell hSw 6; have q7 := CB.cell hSw 7; have q8 := CB.cell hSw 8; have q9 := CB.cell hSw 9; have q10 := CB.cell hSw 10; (try clear hSw); go_simp; (try with_reducible rfl)
        (try simp only [Act.put, List.getElem_toArray, List.getElem_cons_zero, List.getElem_cons_succ, List.setIfInBounds_toArray, List.set_cons_zero, List.set_cons_succ])
        refine wpAnyH_take (i := 2) (v := ?_) rfl (by kernel_rfl) (by kernel_rfl) (by kernel_rfl) (fun _ _ _ h => h) (Or.inl ⟨by rfl, ?_⟩) (by assumption) ?_
        rotate_left
        · intro w' hSw; have q0 := CB.cell hSw 0; have q1 := CB.cell hSw 1; have q2 := CB.cell hSw 2; have q3 := CB.cell hSw 3; have q4 := CB.cell hSw 4; have q5 := CB.cell hSw 5; have q6 := CB.cell hSw 6; have q7 := CB.cell hSw 7; have q8 := CB.cell hSw 8; have q9 := CB.cell hSw 9; have q10 := CB.cell hSw 10; (try clear hSw); go_simp; (try with_reducible rfl)
        (try simp only [Act.put, List.getElem_toArray, List.getElem_cons_zero, List.getElem_cons_succ, List.setIfInBounds_toArray, List.set_cons_zero, List.set_cons_succ])
        refine wpAnyH_ready (rs := [3]) (by kernel_rfl) (by simp) ?_
        refine AllReadyH.cons rfl (fun KK hKK => ?_) AllReadyH.nil
        go_simp
        ((with_reducible refine (HDO.out _ _ _ _ HTD.out).mono ?_); rintro e' v1 ⟨rfl, hT, hK⟩; have HT1 := hi hT; have hX1 := HXD.out.keptB hK HNB.out; clear hT hK)
        (try go_simp)
        refine hKK.out _ _ hX1 (fun hHeld => ?_)
        clear hKK KK
        (try simp only [Act.put, List.getElem_toArray, List.getElem_cons_zero, List.getElem_cons_succ, List.setIfInBounds_toArray, List.set_cons_zero, List.set_cons_succ])
        refine wpAnyH_take (i := 4) (v := ?_) rfl (by kernel_rfl) (by kernel_rfl) (by kernel_rfl) (fun _ _ _ h => h) (Or.inl ⟨by rfl, ?_⟩) (by assumption) ?_
        rotate_left
        · intro w' hSw; have q0 := CB.cell hSw 0; have q1 := CB.cell hSw 1; have q2 := CB.cell hSw 2; have q3 := CB.cell hSw 3; have q4 := CB.cell hSw 4; have q5 := CB.cell hSw 5; have q6 := CB.cell hSw 6; have q7 := CB.cell hSw 7; have q8 := CB.cell hSw 8; have q9 := CB.cell hSw 9; have q10 := CB.cell hSw 10; (try clear hSw); go_simp; (try with_reducible rfl)
        (try simp only [Act.put, List.getElem_toArray, List.getElem_cons_zero, List.getElem_cons_succ, List.setIfInBounds_toArray, List.set_cons_zero, List.set_cons_succ])
        refine wpAnyH_take (i := 5) (v := ?_) rfl (by kernel_rfl) (by kernel_rfl) (by kernel_rfl) (fun _ _ _ h => h) (Or.inl ⟨by rfl, ?_⟩) (by assumption) ?_
        rotate_left
        · intro w' hSw; have q0 := CB.cell hSw 0; have q1 := CB.cell hSw 1; have q2 := CB.cell hSw 2; have q3 := CB.cell hSw 3; have q4 := CB.cell hSw 4; have q5 := CB.cell hSw 5; have q6 := CB.cell hSw 6; have q7 := CB.cell hSw 7; have q8 := CB.cell hSw 8; have q9 := CB.cell hSw 9; have q10 := CB.cell hSw 10; (try clear hSw); go_simp; (try with_reducible rfl)
        (try simp only [Act.put, List.getElem_toArray, List.getElem_cons_zero, List.getElem_cons_succ, List.setIfInBounds_toArray, List.set_cons_zero, List.set_cons_succ])
        refine wpAnyH_take (i := 6) (v := ?_) rfl (by kernel_rfl) (by kernel_rfl) (by kernel_rfl) (fun _ _ _ h => h) (Or.inl ⟨by rfl, ?_⟩) (by assumption) ?_
        rotate_left
        · intro w' hSw; have q0 := CB.cell hSw 0; have q1 := CB.cell hSw 1; have q2 := CB.cell hSw 2; have q3 := CB.cell hSw 3; have q4 := CB.cell hSw 4; have q5 := CB.cell hSw 5; have q6 := CB.cell hSw 6; have q7 := CB.cell hSw 7; have q8 := CB.cell hSw 8; have q9 := CB.cell hSw 9; have q10 := CB.cell hSw 10; (try clear hSw); go_simp; (try with_reducible rfl)
        (try simp only [Act.put, List.getElem_toArray, List.getElem_cons_zero, List.getElem_cons_succ, List.setIfInBounds_toArray, List.set_cons_zero, List.set_cons_succ])
        refine wpAnyH_take (i := 7) (v := ?_) rfl (by kernel_rfl) (by kernel_rfl) (by kernel_rfl) (fun _ _ _ h => h) (Or.inl ⟨by rfl, ?_⟩) (by assumption) ?_
        rotate_left
        · intro w' hSw; have q0 := CB.cell hSw 0; have q1 := CB.cell hSw 1; have q2 := CB.cell hSw 2; have q3 := CB.cell hSw 3; have q4 := CB.cell hSw 4; have q5 := CB.cell hSw 5; have q6 := CB.cell hSw 6; have q7 := CB.cell hSw 7; have q8 := CB.cell hSw 8; have q9 := CB.cell hSw 9; have q10 := CB.cell hSw 10; (try clear hSw); go_simp; (try with_reducible rfl)
        (try simp only [Act.put, List.getElem_toArray, List.getElem_cons_zero, List.getElem_cons_succ, List.setIfInBounds_toArray, List.set_cons_zero, List.set_cons_succ])
        refine wpAnyH_ready (rs := [8]) (by kernel_rfl) (by simp) ?_
        refine AllReadyH.cons rfl (fun KK hKK => ?_) AllReadyH.nil
        go_simp
        ((with_reducible refine (alike_any HT1.out).mono ?_); rintro e' v2 ⟨rfl, hB⟩; have HT2 := hi (HT1.out.later hB); have hX2 := hX1.below hB; clear hB)
        (try go_simp)
        refine hKK.out _ _ hX2 (fun hHeld => ?_)
        clear hKK KK
        (try simp only [Act.put, List.getElem_toArray, List.getElem_cons_zero, List.getElem_cons_succ, List.setIfInBounds_toArray, List.set_cons_zero, List.set_cons_succ])
        refine wpAnyH_take (i := 9) (v := ?_) rfl (by kernel_rfl) (by kernel_rfl) (by kernel_rfl) (fun _ _ _ h => h) (Or.inl ⟨by rfl, ?_⟩) (by assumption) ?_
        rotate_left
        · intro w' hSw; have q0 := CB.cell hSw 0; have q1 := CB.cell hSw 1; have q2 := CB.cell hSw 2; have q3 := CB.cell hSw 3; have q4 := CB.cell hSw 4; have q5 := CB.cell hSw 5; have q6 := CB.cell hSw 6; have q7 := CB.cell hSw 7; have q8 := CB.cell hSw 8; have q9 := CB.cell hSw 9; have q10 := CB.cell hSw 10; (try clear hSw); go_simp; (try with_reducible rfl)
        (try simp only [Act.put, List.getElem_toArray, List.getElem_cons_zero, List.getElem_cons_succ, List.setIfInBounds_toArray, List.set_cons_zero, List.set_cons_succ])
        refine wpAnyH_take (i := 10) (v := ?_) rfl (by kernel_rfl) (by kernel_rfl) (by kernel_rfl) (fun _ _ _ h => h) (Or.inl ⟨by rfl, ?_⟩) (by assumption) ?_
        rotate_left
        · intro w' hSw; have q0 := CB.cell hSw 0; have q1 := CB.cell hSw 1; have q2 := CB.cell hSw 2; have q3 := CB.cell hSw 3; have q4 := CB.cell hSw 4; have q5 := CB.cell hSw 5; have q6 := CB.cell hSw 6; have q7 := CB.cell hSw 7; have q8 := CB.cell hSw 8; have q9 := CB.cell hSw 9; have q10 := CB.cell hSw 10; (try clear hSw); go_simp; (try with_reducible rfl)
        (try simp only [Act.put, List.getElem_toArray, List.getElem_cons_zero, List.getElem_cons_succ, List.setIfInBounds_toArray, List.set_cons_zero, List.set_cons_succ])
        refine wpAnyH_take (i := 11) (v := ?_) rfl (by kernel_rfl) (by kernel_rfl) (by kernel_rfl) (fun _ _ _ h => h) (Or.inl ⟨by rfl, ?_⟩) (by assumption) ?_
        rotate_left
        · intro w' hSw; have q0 := CB.cell hSw 0; have q1 := CB.cell hSw 1; have q2 := CB.cell hSw 2; have q3 := CB.cell hSw 3; have q4 := CB.cell hSw 4; have q5 := CB.cell hSw 5; have q6 := CB.cell hSw 6; have q7 := CB.cell hSw 7; have q8 := CB.cell hSw 8; have q9 := CB.cell hSw 9; have q10 := CB.cell hSw 10; (try clear hSw); go_simp; (try with_reducible rfl)
        (try simp only [Act.put, List.getElem_toArray, List.getElem_cons_zero, List.getElem_cons_succ, List.setIfInBounds_toArray, List.set_cons_zero, List.set_cons_succ])
        refine wpAnyH_take (i := 12) (v := ?_) rfl (by kernel_rfl) (by kernel_rfl) (by kernel_rfl) (fun _ _ _ h => h) (Or.inl ⟨by rfl, ?_⟩) (by assumption) ?_
        rotate_left
        · intro w' hSw; have q0 := CB.cell hSw 0; have q1 := CB.cell hSw 1; have q2 := CB.cell hSw 2; have q3 := CB.cell hSw 3; have q4 := CB.cell hSw 4; have q5 := CB.cell hSw 5; have q6 := CB.cell hSw 6; have q7 := CB.cell hSw 7; have q8 := CB.cell hSw 8; have q9 := CB.cell hSw 9; have q10 := CB.cell hSw 10; (try clear hSw); go_simp; (try with_reducible rfl)
        (try simp only [Act.put, List.getElem_toArray, List.getElem_cons_zero, List.getElem_cons_succ, List.setIfInBounds_toArray, List.set_cons_zero, List.set_cons_succ])
        refine wpAnyH_take (i := 13) (v := ?_) rfl (by kernel_rfl) (by kernel_rfl) (by kernel_rfl) (fun _ _ _ h => h) (Or.inl ⟨by rfl, ?_⟩) (by assumption) ?_
        rotate_left
        · intro w' hSw; have q0 := CB.cell hSw 0; have q1 := CB.cell hSw 1; have q2 := CB.cell hSw 2; have q3 := CB.cell hSw 3; have q4 := CB.cell hSw 4; have q5 := CB.cell hSw 5; have q6 := CB.cell hSw 6; have q7 := CB.cell hSw 7; have q8 := CB.cell hSw 8; have q9 := CB.cell hSw 9; have q10 := CB.cell hSw 10; (try clear hSw); go_simp; (try with_reducible rfl)
        (try simp only [Act.put, List.getElem_toArray, List.getElem_cons_zero, List.getElem_cons_succ, List.setIfInBounds_toArray, List.set_cons_zero, List.set_cons_succ])
        refine wpAnyH_take (i := 14) (v := ?_) rfl (by kernel_rfl) (by kernel_rfl) (by kernel_rfl) (fun _ _ _ h => h) (Or.inl ⟨by rfl, ?_⟩) (by assumption) ?_
        rotate_left
        · intro w' hSw; have q0 := CB.cell hSw 0; have q1 := CB.cell hSw 1; have q2 := CB.cell hSw 2; have q3 := CB.cell hSw 3; have q4 := CB.cell hSw 4; have q5 := CB.cell hSw 5; have q6 := CB.cell hSw 6; have q7 := CB.cell hSw 7; have q8 := CB.cell hSw 8; have q9 := CB.cell hSw 9; have q10 := CB.cell hSw 10; (try clear hSw); go_simp; (try with_reducible rfl)
        (try simp only [Act.put, List.getElem_toArray, List.getElem_cons_zero, List.getElem_cons_succ, List.setIfInBounds_toArray, List.set_cons_zero, List.set_cons_succ])
        refine wpAnyH_take (i := 16) (v := ?_) rfl (by kernel_rfl) (by kernel_rfl) (by kernel_rfl) (fun _ _ _ h => h) (Or.inl ⟨by rfl, ?_⟩) (by assumption) ?_
        rotate_left
        · intro w' hSw; have q0 := CB.cell hSw 0; have q1 := CB.cell hSw 1; have q2 := CB.cell hSw 2; have q3 := CB.cell hSw 3; have q4 := CB.cell hSw 4; have q5 := CB.cell hSw 5; have q6 := CB.cell hSw 6; have q7 := CB.cell hSw 7; have q8 := CB.cell hSw 8; have q9 := CB.cell hSw 9; have q10 := CB.cell hSw 10; (try clear hSw); go_simp; (try with_reducible rfl)
        (try simp only [Act.put, List.getElem_toArray, List.getElem_cons_zero, List.getElem_cons_succ, List.setIfInBounds_toArray, List.set_cons_zero, List.set_cons_succ])
        refine wpAnyH_take (i := 17) (v := ?_) rfl (by kernel_rfl) (by kernel_rfl) (by kernel_rfl) (fun _ _ _ h => h) (Or.inl ⟨by rfl, ?_⟩) (by assumption) ?_
        rotate_left
        · intro w' hSw; have q0 := CB.cell hSw 0; have q1 := CB.cell hSw 1; have q2 := CB.cell hSw 2; have q3 := CB.cell hSw 3; have q4 := CB.cell hSw 4; have q5 := CB.cell hSw 5; have q6 := CB.cell hSw 6; have q7 := CB.cell hSw 7; have q8 := CB.cell hSw 8; have q9 := CB.cell hSw 9; have q10 := CB.cell hSw 10; (try clear hSw); go_simp; (try with_reducible rfl)
        (try simp only [Act.put, List.getElem_toArray, List.getElem_cons_zero, List.getElem_cons_succ, List.setIfInBounds_toArray, List.set_cons_zero, List.set_cons_succ])
        refine wpAnyH_take (i := 18) (v := ?_) rfl (by kernel_rfl) (by kernel_rfl) (by kernel_rfl) (fun _ _ _ h => h) (Or.inl ⟨by rfl, ?_⟩) (by assumption) ?_
        rotate_left
        · intro w' hSw; have q0 := CB.cell hSw 0; have q1 := CB.cell hSw 1; have q2 := CB.cell hSw 2; have q3 := CB.cell hSw 3; have q4 := CB.cell hSw 4; have q5 := CB.cell hSw 5; have q6 := CB.cell hSw 6; have q7 := CB.cell hSw 7; have q8 := CB.cell hSw 8; have q9 := CB.cell hSw 9; have q10 := CB.cell hSw 10; (try clear hSw); go_simp; (try with_reducible rfl)
        (try simp only [Act.put, List.getElem_toArray, List.getElem_cons_zero, List.getElem_cons_succ, List.setIfInBounds_toArray, List.set_cons_zero, List.set_cons_succ])
        refine wpAnyH_ready (rs := [15]) (by kernel_rfl) (by simp) ?_
        refine AllReadyH.cons rfl (fun KK hKK => ?_) AllReadyH.nil
        go_simp
        ((with_reducible refine (HHA.out _ _ _ _ HT2.out.bk HT2.out.fit).mono ?_); rintro e' v3 ⟨rfl, m3, rfl⟩; have HT3 := hi (HT2.out.later (Below.drewN (m := m3) (Below.refl _ _))); have hX3 := CB.drewN hX2 m3)
        (try go_simp)
        refine hKK.out _ _ hX3 (fun hHeld => ?_)
        clear hKK KK
        (try simp only [Act.put, List.getElem_toArray, List.getElem_cons_zero, List.getElem_cons_succ, List.setIfInBounds_toArray, List.set_cons_zero, List.set_cons_succ])
        refine wpAnyH_ready (rs := [19]) (by kernel_rfl) (by simp) ?_
        refine AllReadyH.cons rfl (fun KK hKK => ?_) AllReadyH.nil
        go_simp
        ((with_reducible refine (HAI.out _ HT3.out.rf HT3.out.fit).mono ?_); rintro e' v4 ⟨rfl, rfl⟩)
        (try go_simp)
        refine hKK.out _ _ hX3 (fun hHeld => ?_)
        clear hKK KK
        (try simp only [Act.put, List.getElem_toArray, List.getElem_cons_zero, List.getElem_cons_succ, List.setIfInBounds_toArray, List.set_cons_zero, List.set_cons_succ])
        refine wpAnyH_take (i := 20) (v := ?_) rfl (by kernel_rfl) (by kernel_rfl) (by kernel_rfl) (fun _ _ _ h => h) (Or.inl ⟨by rfl, ?_⟩) (by assumption) ?_
        rotate_left
        · intro w' hSw; have q0 := CB.cell hSw 0; have q1 := CB.cell hSw 1; have q2 := CB.cell hSw 2; have q3 := CB.cell hSw 3; have q4 := CB.cell hSw 4; have q5 := CB.cell hSw 5; have q6 := CB.cell hSw 6; have q7 := CB.cell hSw 7; have q8 := CB.cell hSw 8; have q9 := CB.cell hSw 9; have q10 := CB.cell hSw 10; (try clear hSw); go_simp; (try with_reducible rfl)
        (try simp only [Act.put, List.getElem_toArray, List.getElem_cons_zero, List.getElem_cons_succ, List.setIfInBounds_toArray, List.set_cons_zero, List.set_cons_succ])
        refine wpAnyH_take (i := 21) (v := ?_) rfl (by kernel_rfl) (by kernel_rfl) (by kernel_rfl) (fun _ _ _ h => h) (Or.inl ⟨by rfl, ?_⟩) (by assumption) ?_
        rotate_left
        · intro w' hSw; have q0 := CB.cell hSw 0; have q1 := CB.cell hSw 1; have q2 := CB.cell hSw 2; have q3 := CB.cell hSw 3; have q4 := CB.cell hSw 4; have q5 := CB.cell hSw 5; have q6 := CB.cell hSw 6; have q7 := CB.cell hSw 7; have q8 := CB.cell hSw 8; have q9 := CB.cell hSw 9; have q10 := CB.cell hSw 10; (try clear hSw); go_simp; (try with_reducible rfl)
        (try simp only [Act.put, List.getElem_toArray, List.getElem_cons_zero, List.getElem_cons_succ, List.setIfInBounds_toArray, List.set_cons_zero, List.set_cons_succ])
        refine wpAnyH_take (i := 22) (v := ?_) rfl (by kernel_rfl) (by kernel_rfl) (by kernel_rfl) (fun _ _ _ h => h) (Or.inl ⟨by rfl, ?_⟩) (by assumption) ?_
        rotate_left
        · intro w' hSw; have q0 := CB.cell hSw 0; have q1 := CB.cell hSw 1; have q2 := CB.cell hSw 2; have q3 := CB.cell hSw 3; have q4 := CB.cell hSw 4; have q5 := CB.cell hSw 5; have q6 := CB.cell hSw 6; have q7 := CB.cell hSw 7; have q8 := CB.cell hSw 8; have q9 := CB.cell hSw 9; have q10 := CB.cell hSw 10; (try clear hSw); go_simp; (try with_reducible rfl)
        (try simp only [Act.put, List.getElem_toArray, List.getElem_cons_zero, List.getElem_cons_succ, List.setIfInBounds_toArray, List.set_cons_zero, List.set_cons_succ])
        refine wpAnyH_done (by kernel_rfl) ?_ _
        refine NoPanic.normal ?_
        clear hHeld HDO HHA HAI hX1 hX2 hX3 HXD HT1 HT2 HTD
        have HG := hi (HG1.out.below HT3.out.below)
        have q0 := HG.out.cell 0
        have q1 := HG.out.cell 1
        have CRR := hi (refReady_any g0 g1 HT3.out.rf HT3.out.fit HT3.out.right)
        have HL64 := hi (ready_len (f := f) g0 g1 HF2.out)
        have CIDS := hi (fun lo hi' kk fv W (hW : Iter lo hi' kk fv (readyL f es2 g0 g1) W) => ids_any hW (by have := HL64.out; omega))
        have CCNT := hi (fun lo hi' kk fv W (hW : Iter lo hi' kk fv (readyL f es2 g0 g1) W) => count_any hW (by have := HL64.out; omega))
        have CSRT := hi (fun lo hi' kk fv W (hW : Iter lo hi' kk fv (readyL f es2 g0 g1) W) => sorted_any hW (by have := HL64.out; omega))
        have CBST := hi (fun lo hi' kk fv W (hW : Iter lo hi' kk fv (readyL f es2 g0 g1) W) => best_any hW)
        have CRDY := hi (fun b g cap W (hT : TwB w1 b g cap rb lg xg la xa lc xc f es2 W) => ready_it g0 g1 hT.bk hT.fit hT.right)
        have CRBS := hi (fun b g cap v W (hQ : QW w1 b g cap rb lg xg la xa lc xc f es2 v (idsOf (readyL f es2 g0 g1)) W) => rbest_any hQ.tw.rf hQ.tw.fit (of09_ready g0 g1) hQ.li (by have := HL64.out; omega))
        have CRST := hi (fun b g cap v W (hQ : QW w1 b g cap rb lg xg la xa lc xc f es2 v (idsOf (readyL f es2 g0 g1)) W) => rsorted_any hQ.tw.rf hQ.tw.fit (of09_ready g0 g1) hQ.li (by have := HL64.out; omega))
        have CSAM := hi (fun (xs : List Int) va vb W (ha : IntsAt W va xs) (hb : IntsAt W vb xs) (hx : xs.length ≤ 9223372036854775806) => same_any xs xs va vb W ha hb hx hx)
        simp only [sameB_self9] at CSAM
        have HSS := hi (fun (ys : List Cd) (hp : ys.Perm (cands (readyL f es2 g0 g1))) (hs : SortedC ys) => sorted_sel hp hs)
        have HSL := hi (sel_len (readyL f es2 g0 g1).length (readyL f es2 g0 g1) (Nat.le_refl _))
        obtain ⟨L, hL⟩ : ∃ L, readyL f es2 g0 g1 = L := ⟨_, rfl⟩
        rw [hL] at CRR HL64 CIDS CCNT CSRT CBST CRDY CRBS CRST HSS HSL
        obtain ⟨⟨ci, cp, cg, cis⟩, hc⟩ : ∃ c, bestC L = c := ⟨_, rfl⟩
        rw [hc] at CBST CRBS
        dsimp only [Cd.v, Cd.cs] at CBST CRBS
        obtain ⟨nl, hnl⟩ : ∃ nl, L.length = nl := ⟨_, rfl⟩
        have HIL := hi (show (idsOf L).length = nl by rw [idsOf_len]; exact hnl)
        have HNL := hi hnl
        rw [hnl] at CCNT HL64
        clear hL hc hnl
        go_wp2_with (first
          | (go_at_call 18; ((with_reducible refine CRR.out.mono ?_); rintro e' v5 ⟨ra, rc, rfl, hI, hB⟩; rw [HIL.out] at hI ⊢; have HQ5 := hi (show QW w1 b2 g2 cap2 rb lg xg la xa lc xc f es2 (.slice ra nl rc) (idsOf L) v5 from ⟨HT3.out.later hB, hI⟩); have HG5 := hi (HG.out.below hB); have q0 := HG5.out.cell 0; have q1 := HG5.out.cell 1; clear hI hB))
          | (go_at_call 21; ((with_reducible refine (CRDY.out _ _ _ _ HQ5.out.tw).mono ?_); rintro e' v6 ⟨fv6, rfl, hit, hB⟩; have HI6 := hi hit; have HQ6 := hi (HQ5.out.later hB); have HG6 := hi (HG5.out.below hB); clear hit hB))
          | (go_at_call 20; ((with_reducible refine (CIDS.out _ _ _ _ _ HI6.out).mono ?_); rintro e' v7 ⟨sa, sc, rfl, hI, hB⟩; have HS7 := hi hI; have HQ7 := hi (HQ6.out.later hB); have HG7 := hi (HG6.out.below hB); clear hI hB))
          | (go_at_call 19; ((with_reducible refine (CSAM.out _ _ _ _ HS7.out HQ7.out.li (by rw [HIL.out]; have := HL64.out; omega)).mono ?_); rintro e' v8 ⟨rfl, m8, rfl⟩; have HQ8 := hi (HQ7.out.later (Below.drewN (m := m8) (Below.refl _ _))); have HG8 := hi (CB.drewN HG7.out m8); have q0 := HG8.out.cell 0; have q1 := HG8.out.cell 1))
          | (go_at_call 21; ((with_reducible refine (CRDY.out _ _ _ _ HQ8.out.tw).mono ?_); rintro e' v9 ⟨fv9, rfl, hit, hB⟩; have HI9 := hi hit; have HQ9 := hi (HQ8.out.later hB); have HG9 := hi (HG8.out.below hB); clear hit hB))
          | (go_at_call 22; ((with_reducible refine (CBST.out _ _ _ _ _ HI9.out).mono ?_); rintro e' v10 ⟨rfl, hB⟩; have HQ10 := hi (HQ9.out.later hB); have HG10 := hi (HG9.out.below hB); clear hB))
          | (go_at_call 23; ((with_reducible refine (CRBS.out _ _ _ _ _ HQ10.out).mono ?_); rintro e' v11 ⟨rfl, hB⟩; have HQ11 := hi (HQ10.out.later hB); have HG11 := hi (HG10.out.below hB); have q0 := HG11.out.cell 0; have q1 := HG11.out.cell 1; clear hB))
          | (go_at_call 21; ((with_reducible refine (CRDY.out _ _ _ _ HQ11.out.tw).mono ?_); rintro e' v12 ⟨fv12, rfl, hit, hB⟩; have HI12 := hi hit; have HQ12 := hi (HQ11.out.later hB); have HG12 := hi (HG11.out.below hB); clear hit hB))
          | (go_at_call 24; ((with_reducible refine (CCNT.out _ _ _ _ _ HI12.out).mono ?_); rintro e' v13 ⟨rfl, hB⟩; have HQ13 := hi (HQ12.out.later hB); have HG13 := hi (HG12.out.below hB); have q0 := HG13.out.cell 0; have q1 := HG13.out.cell 1; clear hB))
          | (go_at_call 21; ((with_reducible refine (CRDY.out _ _ _ _ HQ13.out.tw).mono ?_); rintro e' v14 ⟨fv14, rfl, hit, hB⟩; have HI14 := hi hit; have HQ14 := hi (HQ13.out.later hB); clear hit hB))
          | (go_at_call 25; ((with_reducible refine (CSRT.out _ _ _ _ _ HI14.out).mono ?_); rintro e' v15 ⟨ys, hp, hs, ta, tc, rfl, hI, hB⟩; rw [HSS.out ys hp hs] at hI ⊢; have HS15 := hi hI; have HQ15 := hi (HQ14.out.later hB); clear hp hs hI hB))
          | (go_at_call 26; ((with_reducible refine (CRST.out _ _ _ _ _ HQ15.out).mono ?_); rintro e' v16 ⟨ua, uc, rfl, hI, hB⟩; have HU16 := hi hI; have HS16 := hi (intsAt_grew HS15.out hB); have HQ16 := hi (HQ15.out.later hB); clear hI hB))
          | (go_at_call 19; ((with_reducible refine (CSAM.out _ _ _ _ HS16.out HU16.out (by have h1 := HSL.out; have h2 := HL64.out; have h3 := HNL.out; omega)).mono ?_); rintro e' v17 ⟨rfl, m17, rfl⟩; have HT17 := hi (HQ16.out.tw.later (Below.drewN (m := m17) (Below.refl _ _))))))
        go_roundw
        case rel => exact ⟨k + 1, b2, g2, cap2, es2, by omega, by go_num, rfl, HF2.out, HT17⟩
        case measure => simp only [intOf]; omega
      · have q4 : (d == 4) = false := by simpa using h4
        have HTX := hi (HX.out.later (bal wr (.cells (Ac9.ca ⟨d, id, ⟨⟨e, l, q, a'⟩, en, gr, p⟩, s, a⟩) 35)))
        have HBX := hi (CB.new wr 35 (Ac9.ca ⟨d, id, ⟨⟨e, l, q, a'⟩, en, gr, p⟩, s, a⟩))
        have HNB := hi (box_not HX.out)
        go_wp2
        clear HX
        have HAI := hi (fun W (hW : RfAt W rb lg xg la xa lc xc f es2) (hF : Fit f es2.length) => at_any (id := id) hW hF)
        obtain ⟨ai, hai⟩ : ∃ ai, atI f es2.length id = ai := ⟨_, rfl⟩
        obtain ⟨hh, hhh⟩ : ∃ hh, hasB f es2.length id = hh := ⟨_, rfl⟩
        have hge : decide (0 ≤ ai) = hh := by rw [← hai, ← hhh]; exact atI_ge _ _ _
        rw [hai] at HAI
        have HHA := hi (fun b g cap W (hW : BkAt W b g cap f es2) (hF : Fit f es2.length) => has_any (id := id) hW hF HID.out)
        rw [hhh] at HHA
        clear hai hhh
        refine wp_region_noPanic ?_
        refine wp_region_held_drew (S := fun w' => CB w' wr.heap.size 35 (Ac9.ca ⟨d, id, ⟨⟨e, l, q, a'⟩, en, gr, p⟩, s, a⟩)) (by kernel_rfl) (CB.drew HBX.out) (fun hHeld => ?_)
        (try simp only [Array.replicate_succ, Array.replicate_zero, List.push_toArray, List.nil_append, List.cons_append])
        obtain ⟨Wd, hWd⟩ : ∃ Wd, (wr.alloc (.cells (Ac9.ca ⟨d, id, ⟨⟨e, l, q, a'⟩, en, gr, p⟩, s, a⟩) 35)).drew = Wd := ⟨_, rfl⟩
        have HXD : Hi (CB Wd wr.heap.size 35 (Ac9.ca ⟨d, id, ⟨⟨e, l, q, a'⟩, en, gr, p⟩, s, a⟩)) := by rw [← hWd]; exact hi (CB.drew HBX.out)
        have HTD : Hi (TwB w1 b g cap' rb lg xg la xa lc xc f es Wd) := by rw [← hWd]; exact hi (HTX.out.later (Below.drewN (m := 1) (Below.refl _ _)))
        rw [hWd] at hHeld ⊢
        clear hWd HBX HTX
        refine wpAnyH_take (i := 0) (v := ?_) rfl (by kernel_rfl) (by kernel_rfl) (by kernel_rfl) (fun _ _ _ h => h) (Or.inl ⟨by rfl, ?_⟩) (by assumption) ?_
        rotate_left
        · intro w' hSw; have q0 := CB.cell hSw 0; have q1 := CB.cell hSw 1; have q2 := CB.cell hSw 2; have q3 := CB.cell hSw 3; have q4 := CB.cell hSw 4; have q5 := CB.cell hSw 5; have q6 := CB.cell hSw 6; have q7 := CB.cell hSw 7; have q8 := CB.cell hSw 8; have q9 := CB.cell hSw 9; have q10 := CB.cell hSw 10; (try clear hSw); go_simp; (try with_reducible rfl)
        (try simp only [Act.put, List.getElem_toArray, List.getElem_cons_zero, List.setIfInBounds_toArray, List.set_cons_zero, List.set_cons_succ])
        refine wpAnyH_take (i := 1) (v := ?_) rfl (by kernel_rfl) (by kernel_rfl) (by kernel_rfl) (fun _ _ _ h => h) (Or.inl ⟨by rfl, ?_⟩) (by assumption) ?_
        rotate_left
        · intro w' hSw; have q0 := CB.cell hSw 0; have q1 := CB.cell hSw 1; have q2 := CB.cell hSw 2; have q3 := CB.cell hSw 3; have q4 := CB.cell hSw 4; have q5 := CB.cell hSw 5; have q6 := CB.cell hSw 6; have q7 := CB.cell hSw 7; have q8 := CB.cell hSw 8; have q9 := CB.cell hSw 9; have q10 := CB.cell hSw 10; (try clear hSw); go_simp; (try with_reducible rfl)
        (try simp only [Act.put, List.getElem_toArray, List.getElem_cons_zero, List.getElem_cons_succ, List.setIfInBounds_toArray, List.set_cons_zero, List.set_cons_succ])
        refine wpAnyH_take (i := 2) (v := ?_) rfl (by kernel_rfl) (by kernel_rfl) (by kernel_rfl) (fun _ _ _ h => h) (Or.inl ⟨by rfl, ?_⟩) (by assumption) ?_
        rotate_left
        · intro w' hSw; have q0 := CB.cell hSw 0; have q1 := CB.cell hSw 1; have q2 := CB.cell hSw 2; have q3 := CB.cell hSw 3; have q4 := CB.cell hSw 4; have q5 := CB.cell hSw 5; have q6 := CB.cell hSw 6; have q7 := CB.cell hSw 7; have q8 := CB.cell hSw 8; have q9 := CB.cell hSw 9; have q10 := CB.cell hSw 10; (try clear hSw); go_simp; (try with_reducible rfl)
        (try simp only [Act.put, List.getElem_toArray, List.getElem_cons_zero, List.getElem_cons_succ, List.setIfInBounds_toArray, List.set_cons_zero, List.set_cons_succ])
        refine wpAnyH_ready (rs := [3]) (by kernel_rfl) (by simp) ?_
        refine AllReadyH.cons rfl (fun KK hKK => ?_) AllReadyH.nil
        go_simp
        ((with_reducible refine (HDO.out _ _ _ _ HTD.out).mono ?_); rintro e' v1 ⟨rfl, hT, hK⟩; have HT1 := hi hT; have hX1 := HXD.out.keptB hK HNB.out; clear hT hK)
        (try go_simp)
        refine hKK.out _ _ hX1 (fun hHeld => ?_)
        clear hKK KK
        (try simp only [Act.put, List.getElem_toArray, List.getElem_cons_zero, List.getElem_cons_succ, List.setIfInBounds_toArray, List.set_cons_zero, List.set_cons_succ])
        refine wpAnyH_take (i := 4) (v := ?_) rfl (by kernel_rfl) (by kernel_rfl) (by kernel_rfl) (fun _ _ _ h => h) (Or.inl ⟨by rfl, ?_⟩) (by assumption) ?_
        rotate_left
        · intro w' hSw; have q0 := CB.cell hSw 0; have q1 := CB.cell hSw 1; have q2 := CB.cell hSw 2; have q3 := CB.cell hSw 3; have q4 := CB.cell hSw 4; have q5 := CB.cell hSw 5; have q6 := CB.cell hSw 6; have q7 := CB.cell hSw 7; have q8 := CB.cell hSw 8; have q9 := CB.cell hSw 9; have q10 := CB.cell hSw 10; (try clear hSw); go_simp; (try with_reducible rfl)
        (try simp only [Act.put, List.getElem_toArray, List.getElem_cons_zero, List.getElem_cons_succ, List.setIfInBounds_toArray, List.set_cons_zero, List.set_cons_succ])
        refine wpAnyH_take (i := 5) (v := ?_) rfl (by kernel_rfl) (by kernel_rfl) (by kernel_rfl) (fun _ _ _ h => h) (Or.inl ⟨by rfl, ?_⟩) (by assumption) ?_
        rotate_left
        · intro w' hSw; have q0 := CB.cell hSw 0; have q1 := CB.cell hSw 1; have q2 := CB.cell hSw 2; have q3 := CB.cell hSw 3; have q4 := CB.cell hSw 4; have q5 := CB.cell hSw 5; have q6 := CB.cell hSw 6; have q7 := CB.cell hSw 7; have q8 := CB.cell hSw 8; have q9 := CB.cell hSw 9; have q10 := CB.cell hSw 10; (try clear hSw); go_simp; (try with_reducible rfl)
        (try simp only [Act.put, List.getElem_toArray, List.getElem_cons_zero, List.getElem_cons_succ, List.setIfInBounds_toArray, List.set_cons_zero, List.set_cons_succ])
        refine wpAnyH_take (i := 6) (v := ?_) rfl (by kernel_rfl) (by kernel_rfl) (by kernel_rfl) (fun _ _ _ h => h) (Or.inl ⟨by rfl, ?_⟩) (by assumption) ?_
        rotate_left
        · intro w' hSw; have q0 := CB.cell hSw 0; have q1 := CB.cell hSw 1; have q2 := CB.cell hSw 2; have q3 := CB.cell hSw 3; have q4 := CB.cell hSw 4; have q5 := CB.cell hSw 5; have q6 := CB.cell hSw 6; have q7 := CB.cell hSw 7; have q8 := CB.cell hSw 8; have q9 := CB.cell hSw 9; have q10 := CB.cell hSw 10; (try clear hSw); go_simp; (try with_reducible rfl)
        (try simp only [Act.put, List.getElem_toArray, List.getElem_cons_zero, List.getElem_cons_succ, List.setIfInBounds_toArray, List.set_cons_zero, List.set_cons_succ])
        refine wpAnyH_take (i := 7) (v := ?_) rfl (by kernel_rfl) (by kernel_rfl) (by kernel_rfl) (fun _ _ _ h => h) (Or.inl ⟨by rfl, ?_⟩) (by assumption) ?_
        rotate_left
        · intro w' hSw; have q0 := CB.cell hSw 0; have q1 := CB.cell hSw 1; have q2 := CB.cell hSw 2; have q3 := CB.cell hSw 3; have q4 := CB.cell hSw 4; have q5 := CB.cell hSw 5; have q6 := CB.cell hSw 6; have q7 := CB.cell hSw 7; have q8 := CB.cell hSw 8; have q9 := CB.cell hSw 9; have q10 := CB.cell hSw 10; (try clear hSw); go_simp; (try with_reducible rfl)
        (try simp only [Act.put, List.getElem_toArray, List.getElem_cons_zero, List.getElem_cons_succ, List.setIfInBounds_toArray, List.set_cons_zero, List.set_cons_succ])
        refine wpAnyH_ready (rs := [8]) (by kernel_rfl) (by simp) ?_
        refine AllReadyH.cons rfl (fun KK hKK => ?_) AllReadyH.nil
        go_simp
        ((with_reducible refine (alike_any HT1.out).mono ?_); rintro e' v2 ⟨rfl, hB⟩; have HT2 := hi (HT1.out.later hB); have hX2 := hX1.below hB; clear hB)
        (try go_simp)
        refine hKK.out _ _ hX2 (fun hHeld => ?_)
        clear hKK KK
        (try simp only [Act.put, List.getElem_toArray, List.getElem_cons_zero, List.getElem_cons_succ, List.setIfInBounds_toArray, List.set_cons_zero, List.set_cons_succ])
        refine wpAnyH_take (i := 9) (v := ?_) rfl (by kernel_rfl) (by kernel_rfl) (by kernel_rfl) (fun _ _ _ h => h) (Or.inl ⟨by rfl, ?_⟩) (by assumption) ?_
        rotate_left
        · intro w' hSw; have q0 := CB.cell hSw 0; have q1 := CB.cell hSw 1; have q2 := CB.cell hSw 2; have q3 := CB.cell hSw 3; have q4 := CB.cell hSw 4; have q5 := CB.cell hSw 5; have q6 := CB.cell hSw 6; have q7 := CB.cell hSw 7; have q8 := CB.cell hSw 8; have q9 := CB.cell hSw 9; have q10 := CB.cell hSw 10; (try clear hSw); go_simp; (try with_reducible rfl)
        (try simp only [Act.put, List.getElem_toArray, List.getElem_cons_zero, List.getElem_cons_succ, List.setIfInBounds_toArray, List.set_cons_zero, List.set_cons_succ])
        refine wpAnyH_take (i := 10) (v := ?_) rfl (by kernel_rfl) (by kernel_rfl) (by kernel_rfl) (fun _ _ _ h => h) (Or.inl ⟨by rfl, ?_⟩) (by assumption) ?_
        rotate_left
        · intro w' hSw; have q0 := CB.cell hSw 0; have q1 := CB.cell hSw 1; have q2 := CB.cell hSw 2; have q3 := CB.cell hSw 3; have q4 := CB.cell hSw 4; have q5 := CB.cell hSw 5; have q6 := CB.cell hSw 6; have q7 := CB.cell hSw 7; have q8 := CB.cell hSw 8; have q9 := CB.cell hSw 9; have q10 := CB.cell hSw 10; (try clear hSw); go_simp; (try with_reducible rfl)
        (try simp only [Act.put, List.getElem_toArray, List.getElem_cons_zero, List.getElem_cons_succ, List.setIfInBounds_toArray, List.set_cons_zero, List.set_cons_succ])
        refine wpAnyH_take (i := 11) (v := ?_) rfl (by kernel_rfl) (by kernel_rfl) (by kernel_rfl) (fun _ _ _ h => h) (Or.inl ⟨by rfl, ?_⟩) (by assumption) ?_
        rotate_left
        · intro w' hSw; have q0 := CB.cell hSw 0; have q1 := CB.cell hSw 1; have q2 := CB.cell hSw 2; have q3 := CB.cell hSw 3; have q4 := CB.cell hSw 4; have q5 := CB.cell hSw 5; have q6 := CB.cell hSw 6; have q7 := CB.cell hSw 7; have q8 := CB.cell hSw 8; have q9 := CB.cell hSw 9; have q10 := CB.cell hSw 10; (try clear hSw); go_simp; (try with_reducible rfl)
        (try simp only [Act.put, List.getElem_toArray, List.getElem_cons_zero, List.getElem_cons_succ, List.setIfInBounds_toArray, List.set_cons_zero, List.set_cons_succ])
        refine wpAnyH_take (i := 12) (v := ?_) rfl (by kernel_rfl) (by kernel_rfl) (by kernel_rfl) (fun _ _ _ h => h) (Or.inl ⟨by rfl, ?_⟩) (by assumption) ?_
        rotate_left
        · intro w' hSw; have q0 := CB.cell hSw 0; have q1 := CB.cell hSw 1; have q2 := CB.cell hSw 2; have q3 := CB.cell hSw 3; have q4 := CB.cell hSw 4; have q5 := CB.cell hSw 5; have q6 := CB.cell hSw 6; have q7 := CB.cell hSw 7; have q8 := CB.cell hSw 8; have q9 := CB.cell hSw 9; have q10 := CB.cell hSw 10; (try clear hSw); go_simp; (try with_reducible rfl)
        (try simp only [Act.put, List.getElem_toArray, List.getElem_cons_zero, List.getElem_cons_succ, List.setIfInBounds_toArray, List.set_cons_zero, List.set_cons_succ])
        refine wpAnyH_take (i := 13) (v := ?_) rfl (by kernel_rfl) (by kernel_rfl) (by kernel_rfl) (fun _ _ _ h => h) (Or.inl ⟨by rfl, ?_⟩) (by assumption) ?_
        rotate_left
        · intro w' hSw; have q0 := CB.cell hSw 0; have q1 := CB.cell hSw 1; have q2 := CB.cell hSw 2; have q3 := CB.cell hSw 3; have q4 := CB.cell hSw 4; have q5 := CB.cell hSw 5; have q6 := CB.cell hSw 6; have q7 := CB.cell hSw 7; have q8 := CB.cell hSw 8; have q9 := CB.cell hSw 9; have q10 := CB.cell hSw 10; (try clear hSw); go_simp; (try with_reducible rfl)
        (try simp only [Act.put, List.getElem_toArray, List.getElem_cons_zero, List.getElem_cons_succ, List.setIfInBounds_toArray, List.set_cons_zero, List.set_cons_succ])
        refine wpAnyH_take (i := 14) (v := ?_) rfl (by kernel_rfl) (by kernel_rfl) (by kernel_rfl) (fun _ _ _ h => h) (Or.inl ⟨by rfl, ?_⟩) (by assumption) ?_
        rotate_left
        · intro w' hSw; have q0 := CB.cell hSw 0; have q1 := CB.cell hSw 1; have q2 := CB.cell hSw 2; have q3 := CB.cell hSw 3; have q4 := CB.cell hSw 4; have q5 := CB.cell hSw 5; have q6 := CB.cell hSw 6; have q7 := CB.cell hSw 7; have q8 := CB.cell hSw 8; have q9 := CB.cell hSw 9; have q10 := CB.cell hSw 10; (try clear hSw); go_simp; (try with_reducible rfl)
        (try simp only [Act.put, List.getElem_toArray, List.getElem_cons_zero, List.getElem_cons_succ, List.setIfInBounds_toArray, List.set_cons_zero, List.set_cons_succ])
        refine wpAnyH_take (i := 16) (v := ?_) rfl (by kernel_rfl) (by kernel_rfl) (by kernel_rfl) (fun _ _ _ h => h) (Or.inl ⟨by rfl, ?_⟩) (by assumption) ?_
        rotate_left
        · intro w' hSw; have q0 := CB.cell hSw 0; have q1 := CB.cell hSw 1; have q2 := CB.cell hSw 2; have q3 := CB.cell hSw 3; have q4 := CB.cell hSw 4; have q5 := CB.cell hSw 5; have q6 := CB.cell hSw 6; have q7 := CB.cell hSw 7; have q8 := CB.cell hSw 8; have q9 := CB.cell hSw 9; have q10 := CB.cell hSw 10; (try clear hSw); go_simp; (try with_reducible rfl)
        (try simp only [Act.put, List.getElem_toArray, List.getElem_cons_zero, List.getElem_cons_succ, List.setIfInBounds_toArray, List.set_cons_zero, List.set_cons_succ])
        refine wpAnyH_take (i := 17) (v := ?_) rfl (by kernel_rfl) (by kernel_rfl) (by kernel_rfl) (fun _ _ _ h => h) (Or.inl ⟨by rfl, ?_⟩) (by assumption) ?_
        rotate_left
        · intro w' hSw; have q0 := CB.cell hSw 0; have q1 := CB.cell hSw 1; have q2 := CB.cell hSw 2; have q3 := CB.cell hSw 3; have q4 := CB.cell hSw 4; have q5 := CB.cell hSw 5; have q6 := CB.cell hSw 6; have q7 := CB.cell hSw 7; have q8 := CB.cell hSw 8; have q9 := CB.cell hSw 9; have q10 := CB.cell hSw 10; (try clear hSw); go_simp; (try with_reducible rfl)
        (try simp only [Act.put, List.getElem_toArray, List.getElem_cons_zero, List.getElem_cons_succ, List.setIfInBounds_toArray, List.set_cons_zero, List.set_cons_succ])
        refine wpAnyH_take (i := 18) (v := ?_) rfl (by kernel_rfl) (by kernel_rfl) (by kernel_rfl) (fun _ _ _ h => h) (Or.inl ⟨by rfl, ?_⟩) (by assumption) ?_
        rotate_left
        · intro w' hSw; have q0 := CB.cell hSw 0; have q1 := CB.cell hSw 1; have q2 := CB.cell hSw 2; have q3 := CB.cell hSw 3; have q4 := CB.cell hSw 4; have q5 := CB.cell hSw 5; have q6 := CB.cell hSw 6; have q7 := CB.cell hSw 7; have q8 := CB.cell hSw 8; have q9 := CB.cell hSw 9; have q10 := CB.cell hSw 10; (try clear hSw); go_simp; (try with_reducible rfl)
        (try simp only [Act.put, List.getElem_toArray, List.getElem_cons_zero, List.getElem_cons_succ, List.setIfInBounds_toArray, List.set_cons_zero, List.set_cons_succ])
        refine wpAnyH_ready (rs := [15]) (by kernel_rfl) (by simp) ?_
        refine AllReadyH.cons rfl (fun KK hKK => ?_) AllReadyH.nil
        go_simp
        ((with_reducible refine (HHA.out _ _ _ _ HT2.out.bk HT2.out.fit).mono ?_); rintro e' v3 ⟨rfl, m3, rfl⟩; have HT3 := hi (HT2.out.later (Below.drewN (m := m3) (Below.refl _ _))); have hX3 := CB.drewN hX2 m3)
        (try go_simp)
        refine hKK.out _ _ hX3 (fun hHeld => ?_)
        clear hKK KK
        (try simp only [Act.put, List.getElem_toArray, List.getElem_cons_zero, List.getElem_cons_succ, List.setIfInBounds_toArray, List.set_cons_zero, List.set_cons_succ])
        refine wpAnyH_ready (rs := [19]) (by kernel_rfl) (by simp) ?_
        refine AllReadyH.cons rfl (fun KK hKK => ?_) AllReadyH.nil
        go_simp
        ((with_reducible refine (HAI.out _ HT3.out.rf HT3.out.fit).mono ?_); rintro e' v4 ⟨rfl, rfl⟩)
        (try go_simp)
        refine hKK.out _ _ hX3 (fun hHeld => ?_)
        clear hKK KK
        (try simp only [Act.put, List.getElem_toArray, List.getElem_cons_zero, List.getElem_cons_succ, List.setIfInBounds_toArray, List.set_cons_zero, List.set_cons_succ])
        refine wpAnyH_take (i := 20) (v := ?_) rfl (by kernel_rfl) (by kernel_rfl) (by kernel_rfl) (fun _ _ _ h => h) (Or.inl ⟨by rfl, ?_⟩) (by assumption) ?_
        rotate_left
        · intro w' hSw; have q0 := CB.cell hSw 0; have q1 := CB.cell hSw 1; have q2 := CB.cell hSw 2; have q3 := CB.cell hSw 3; have q4 := CB.cell hSw 4; have q5 := CB.cell hSw 5; have q6 := CB.cell hSw 6; have q7 := CB.cell hSw 7; have q8 := CB.cell hSw 8; have q9 := CB.cell hSw 9; have q10 := CB.cell hSw 10; (try clear hSw); go_simp; (try with_reducible rfl)
        (try simp only [Act.put, List.getElem_toArray, List.getElem_cons_zero, List.getElem_cons_succ, List.setIfInBounds_toArray, List.set_cons_zero, List.set_cons_succ])
        refine wpAnyH_take (i := 21) (v := ?_) rfl (by kernel_rfl) (by kernel_rfl) (by kernel_rfl) (fun _ _ _ h => h) (Or.inl ⟨by rfl, ?_⟩) (by assumption) ?_
        rotate_left
        · intro w' hSw; have q0 := CB.cell hSw 0; have q1 := CB.cell hSw 1; have q2 := CB.cell hSw 2; have q3 := CB.cell hSw 3; have q4 := CB.cell hSw 4; have q5 := CB.cell hSw 5; have q6 := CB.cell hSw 6; have q7 := CB.cell hSw 7; have q8 := CB.cell hSw 8; have q9 := CB.cell hSw 9; have q10 := CB.cell hSw 10; (try clear hSw); go_simp; (try with_reducible rfl)
        (try simp only [Act.put, List.getElem_toArray, List.getElem_cons_zero, List.getElem_cons_succ, List.setIfInBounds_toArray, List.set_cons_zero, List.set_cons_succ])
        refine wpAnyH_take (i := 22) (v := ?_) rfl (by kernel_rfl) (by kernel_rfl) (by kernel_rfl) (fun _ _ _ h => h) (Or.inl ⟨by rfl, ?_⟩) (by assumption) ?_
        rotate_left
        · intro w' hSw; have q0 := CB.cell hSw 0; have q1 := CB.cell hSw 1; have q2 := CB.cell hSw 2; have q3 := CB.cell hSw 3; have q4 := CB.cell hSw 4; have q5 := CB.cell hSw 5; have q6 := CB.cell hSw 6; have q7 := CB.cell hSw 7; have q8 := CB.cell hSw 8; have q9 := CB.cell hSw 9; have q10 := CB.cell hSw 10; (try clear hSw); go_simp; (try with_reducible rfl)
        (try simp only [Act.put, List.getElem_toArray, List.getElem_cons_zero, List.getElem_cons_succ, List.setIfInBounds_toArray, List.set_cons_zero, List.set_cons_succ])
        refine wpAnyH_done (by kernel_rfl) ?_ _
        refine NoPanic.normal ?_
        clear hHeld HDO HHA HAI hX1 hX2 hX3 HXD HT1 HT2 HTD
        have HG := hi (HG1.out.below HT3.out.below)
        have q0 := HG.out.cell 0
        have q1 := HG.out.cell 1
        have CRR := hi (refReady_any g0 g1 HT3.out.rf HT3.out.fit HT3.out.right)
        have HL64 := hi (ready_len (f := f) g0 g1 HF2.out)
        have CIDS := hi (fun lo hi' kk fv W (hW : Iter lo hi' kk fv (readyL f es2 g0 g1) W) => ids_any hW (by have := HL64.out; omega))
        have CCNT := hi (fun lo hi' kk fv W (hW : Iter lo hi' kk fv (readyL f es2 g0 g1) W) => count_any hW (by have := HL64.out; omega))
        have CSRT := hi (fun lo hi' kk fv W (hW : Iter lo hi' kk fv (readyL f es2 g0 g1) W) => sorted_any hW (by have := HL64.out; omega))
        have CBST := hi (fun lo hi' kk fv W (hW : Iter lo hi' kk fv (readyL f es2 g0 g1) W) => best_any hW)
        have CRDY := hi (fun b g cap W (hT : TwB w1 b g cap rb lg xg la xa lc xc f es2 W) => ready_it g0 g1 hT.bk hT.fit hT.right)
        have CRBS := hi (fun b g cap v W (hQ : QW w1 b g cap rb lg xg la xa lc xc f es2 v (idsOf (readyL f es2 g0 g1)) W) => rbest_any hQ.tw.rf hQ.tw.fit (of09_ready g0 g1) hQ.li (by have := HL64.out; omega))
        have CRST := hi (fun b g cap v W (hQ : QW w1 b g cap rb lg xg la xa lc xc f es2 v (idsOf (readyL f es2 g0 g1)) W) => rsorted_any hQ.tw.rf hQ.tw.fit (of09_ready g0 g1) hQ.li (by have := HL64.out; omega))
        have CSAM := hi (fun (xs : List Int) va vb W (ha : IntsAt W va xs) (hb : IntsAt W vb xs) (hx : xs.length ≤ 9223372036854775806) => same_any xs xs va vb W ha hb hx hx)
        simp only [sameB_self9] at CSAM
        have HSS := hi (fun (ys : List Cd) (hp : ys.Perm (cands (readyL f es2 g0 g1))) (hs : SortedC ys) => sorted_sel hp hs)
        have HSL := hi (sel_len (readyL f es2 g0 g1).length (readyL f es2 g0 g1) (Nat.le_refl _))
        obtain ⟨L, hL⟩ : ∃ L, readyL f es2 g0 g1 = L := ⟨_, rfl⟩
        rw [hL] at CRR HL64 CIDS CCNT CSRT CBST CRDY CRBS CRST HSS HSL
        obtain ⟨⟨ci, cp, cg, cis⟩, hc⟩ : ∃ c, bestC L = c := ⟨_, rfl⟩
        rw [hc] at CBST CRBS
        dsimp only [Cd.v, Cd.cs] at CBST CRBS
        obtain ⟨nl, hnl⟩ : ∃ nl, L.length = nl := ⟨_, rfl⟩
        have HIL := hi (show (idsOf L).length = nl by rw [idsOf_len]; exact hnl)
        have HNL := hi hnl
        rw [hnl] at CCNT HL64
        clear hL hc hnl
        go_wp2_with (first
          | (go_at_call 18; ((with_reducible refine CRR.out.mono ?_); rintro e' v5 ⟨ra, rc, rfl, hI, hB⟩; rw [HIL.out] at hI ⊢; have HQ5 := hi (show QW w1 b g cap' rb lg xg la xa lc xc f es2 (.slice ra nl rc) (idsOf L) v5 from ⟨HT3.out.later hB, hI⟩); have HG5 := hi (HG.out.below hB); have q0 := HG5.out.cell 0; have q1 := HG5.out.cell 1; clear hI hB))
          | (go_at_call 21; ((with_reducible refine (CRDY.out _ _ _ _ HQ5.out.tw).mono ?_); rintro e' v6 ⟨fv6, rfl, hit, hB⟩; have HI6 := hi hit; have HQ6 := hi (HQ5.out.later hB); have HG6 := hi (HG5.out.below hB); clear hit hB))
          | (go_at_call 20; ((with_reducible refine (CIDS.out _ _ _ _ _ HI6.out).mono ?_); rintro e' v7 ⟨sa, sc, rfl, hI, hB⟩; have HS7 := hi hI; have HQ7 := hi (HQ6.out.later hB); have HG7 := hi (HG6.out.below hB); clear hI hB))
          | (go_at_call 19; ((with_reducible refine (CSAM.out _ _ _ _ HS7.out HQ7.out.li (by rw [HIL.out]; have := HL64.out; omega)).mono ?_); rintro e' v8 ⟨rfl, m8, rfl⟩; have HQ8 := hi (HQ7.out.later (Below.drewN (m := m8) (Below.refl _ _))); have HG8 := hi (CB.drewN HG7.out m8); have q0 := HG8.out.cell 0; have q1 := HG8.out.cell 1))
          | (go_at_call 21; ((with_reducible refine (CRDY.out _ _ _ _ HQ8.out.tw).mono ?_); rintro e' v9 ⟨fv9, rfl, hit, hB⟩; have HI9 := hi hit; have HQ9 := hi (HQ8.out.later hB); have HG9 := hi (HG8.out.below hB); clear hit hB))
          | (go_at_call 22; ((with_reducible refine (CBST.out _ _ _ _ _ HI9.out).mono ?_); rintro e' v10 ⟨rfl, hB⟩; have HQ10 := hi (HQ9.out.later hB); have HG10 := hi (HG9.out.below hB); clear hB))
          | (go_at_call 23; ((with_reducible refine (CRBS.out _ _ _ _ _ HQ10.out).mono ?_); rintro e' v11 ⟨rfl, hB⟩; have HQ11 := hi (HQ10.out.later hB); have HG11 := hi (HG10.out.below hB); have q0 := HG11.out.cell 0; have q1 := HG11.out.cell 1; clear hB))
          | (go_at_call 21; ((with_reducible refine (CRDY.out _ _ _ _ HQ11.out.tw).mono ?_); rintro e' v12 ⟨fv12, rfl, hit, hB⟩; have HI12 := hi hit; have HQ12 := hi (HQ11.out.later hB); have HG12 := hi (HG11.out.below hB); clear hit hB))
          | (go_at_call 24; ((with_reducible refine (CCNT.out _ _ _ _ _ HI12.out).mono ?_); rintro e' v13 ⟨rfl, hB⟩; have HQ13 := hi (HQ12.out.later hB); have HG13 := hi (HG12.out.below hB); have q0 := HG13.out.cell 0; have q1 := HG13.out.cell 1; clear hB))
          | (go_at_call 21; ((with_reducible refine (CRDY.out _ _ _ _ HQ13.out.tw).mono ?_); rintro e' v14 ⟨fv14, rfl, hit, hB⟩; have HI14 := hi hit; have HQ14 := hi (HQ13.out.later hB); clear hit hB))
          | (go_at_call 25; ((with_reducible refine (CSRT.out _ _ _ _ _ HI14.out).mono ?_); rintro e' v15 ⟨ys, hp, hs, ta, tc, rfl, hI, hB⟩; rw [HSS.out ys hp hs] at hI ⊢; have HS15 := hi hI; have HQ15 := hi (HQ14.out.later hB); clear hp hs hI hB))
          | (go_at_call 26; ((with_reducible refine (CRST.out _ _ _ _ _ HQ15.out).mono ?_); rintro e' v16 ⟨ua, uc, rfl, hI, hB⟩; have HU16 := hi hI; have HS16 := hi (intsAt_grew HS15.out hB); have HQ16 := hi (HQ15.out.later hB); clear hI hB))
          | (go_at_call 19; ((with_reducible refine (CSAM.out _ _ _ _ HS16.out HU16.out (by have h1 := HSL.out; have h2 := HL64.out; have h3 := HNL.out; omega)).mono ?_); rintro e' v17 ⟨rfl, m17, rfl⟩; have HT17 := hi (HQ16.out.tw.later (Below.drewN (m := m17) (Below.refl _ _))))))
        go_roundw
        case rel => exact ⟨k + 1, b, g, cap', es2, by omega, by go_num, rfl, HF2.out, HT17⟩
        case measure => simp only [intOf]; omega
    · obtain rfl : k = k9 := by omega
      go_wp2
      go_ret
      exact ⟨rfl, HB1.out.trans (HX.out.below.mono HB1.out.size)⟩

end Go.Proofs.Ytfjihpcemmobjaa
