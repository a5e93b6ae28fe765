/-
  The law FrameDoes at every input.
-/
import Derived.Test.YtjgamfonpagkbaaLawF
namespace Go.Proofs.Ytjgamfonpagkbaa
open Go.ChangeShapes Go.WideShapes Go.ChangeAt Go.RowKit Go.Shelf
set_option linter.unusedVariables false
attribute [local go_sem] Oper.semAt_some

/-- Where the inner loop stands: both banks, the two offsets. -/
structure JW (w : World) (b g cap rb lg xg : Nat) (la xa : Option Addr) (lc xc : Nat) (f : Int) (es : List En) (SB : Nat) (o1 o2 : Int) (W : World) : Prop where
  tw : TwF w b g cap rb lg xg la xa lc xc f es W
  sl : CB W SB 3 #[.int .i64 o1, .int .i64 o2]
theorem JW.later {w W W' : World} {b g cap rb lg xg : Nat} {la xa : Option Addr} {lc xc : Nat} {f : Int} {es : List En} {SB : Nat} {o1 o2 : Int} (h : JW w b g cap rb lg xg la xa lc xc f es SB o1 o2 W) (k : Below W.heap.size W W') : JW w b g cap rb lg xg la xa lc xc f es SB o1 o2 W' := ⟨h.tw.later k, h.sl.below k⟩
def pickO (o1 o2 : Int) (k : Nat) : Int := if k = 0 then o1 else o2
theorem CB.pickO {W : World} {B : Nat} {t : TypeId} {o1 o2 : Int} (h : CB W B t #[.int .i64 o1, .int .i64 o2]) {k : Nat} (hk : k < 2) : W.cell? ⟨B, k, none⟩ = some (.int .i64 (pickO o1 o2 k)) := by
  match k, hk with
  | 0, _ => exact h.cell 0
  | 1, _ => exact h.cell 1
  | k + 2, hk => omega

set_option maxRecDepth 100000 in
set_option maxHeartbeats 16000000 in
theorem lawDoes_any (f n : Int) (v : Value) (xs : List Ac11) (off : Int) (w : World) (hf0 : 0 ≤ f) (hf1 : f < 256) (hn0 : 0 ≤ n) (hn1 : n < 256) (h : ActsAt w v xs) (hl : xs.length ≤ 9223372036854775806) (ho : Int64 off) :
    Calls Try.prog 3 #[.int .u8 f, .int .u8 n, v, .int .i64 off] w fun e w' => e = .returned (.bool true) ∧ Below w.heap.size w w' := by
  obtain ⟨a0, cap0, rfl⟩ := h.slice
  have CB0 := hi (fun W => both_any f n W hf0 hf1 hn0 hn1)
  obtain ⟨f6, hf6⟩ : ∃ f6, f % 64 = f6 := ⟨_, rfl⟩
  rw [hf6] at CB0
  have HFEW := hi (show (fresh (n % 80).toNat xS).length < 80 by rw [fresh_len]; omega)
  have HACT := hi h
  obtain ⟨k9, hk9⟩ : ∃ k, xs.length = k := ⟨_, rfl⟩
  rw [hk9] at HACT hl ⊢
  clear h hk9 hf6
  go_enter Try.func3, Try.ntmps3
  go_wp2_with (first
    | (go_at_call 9; ((with_reducible refine (awake_any _).mono ?_); rintro e' w1 ⟨rfl, hb⟩; have HB1 := hi hb; clear hb))
    | (go_at_call 10; ((with_reducible refine (CB0.out _).mono ?_); rintro e' w2 ⟨b, g, cap', rb, lg, xg, la, xa, lc, xc, rfl, hT⟩; have HT0 := hi hT; clear hT)))
  go_loopw [12] (fun i wr => ∃ (k : Nat) (es : List En), k ≤ k9 ∧ i = .int .i64 k ∧ Hi (TwF w1 b g cap' rb lg xg la xa lc xc f6 es wr)) (fun i _ => k9 - (intOf i).toNat)
  case atStart => exact ⟨0, _, Nat.zero_le _, rfl, HT0⟩
  case round =>
    obtain ⟨k, es, hk, rfl, HX⟩ := hrel
    clear HT0 HFEW
    by_cases hlt : k < k9
    · obtain ⟨ab, o, rfl, hok, hc⟩ := HACT.out.read hlt
      obtain ⟨x, hx⟩ : ∃ x, nthA xs k = x := ⟨_, rfl⟩
      rw [hx] at hok hc
      have C1 := hi (does_any HX.out hok)
      have HC := hi (fun W (hW : Below w1.heap.size w1 W) => hc W (HB1.out.trans (hW.mono HB1.out.size)))
      obtain ⟨c0, c1, c2, c3, c4⟩ := HC.out _ HX.out.below
      have HOF := hi hok.off
      clear hc hx hok
      obtain ⟨d, off2, id, vv, a⟩ := x
      dsimp only [Ac11.w] at C1
      dsimp only at c0 c1 c2 c3 c4 HOF
      go_wp2_with (first
        | (go_at_call 11; ((with_reducible refine C1.out.mono ?_); rintro e w2 ⟨es2, hl2, rfl, hT, hK⟩; have HT2 := hi hT; clear hT hK hl2))
        | (go_at_call 12; ((with_reducible refine (alike_any HT2.out).mono ?_); rintro e w3 ⟨rfl, hb⟩; have HT3 := hi (HT2.out.later hb); obtain ⟨c0, c1, c2, c3, c4⟩ := HC.out _ HT3.out.below; dsimp only at c0 c1 c2 c3 c4; clear hb)))
      have HJ0 := hi (show JW w1 b g cap' rb lg xg la xa lc xc f6 es2 w3.heap.size off off2 (w3.alloc (.cells #[.int .i64 off, .int .i64 off2] 3)) from ⟨HT3.out.later (bal w3 _), CB.new w3 _ _⟩)
      obtain ⟨w4, hw4⟩ : ∃ w4, w3.alloc (.cells #[.int .i64 off, .int .i64 off2] 3) = w4 := ⟨_, rfl⟩
      obtain ⟨SB, hSB⟩ : ∃ SB, w3.heap.size = SB := ⟨_, rfl⟩
      rw [hSB] at HJ0 ⊢
      rw [hw4] at HJ0 ⊢
      clear hw4 hSB c0 c1 c2 c3 c4 HT3 HT2 C1 HC
      have HPO := hi (show ∀ k, Int64 (pickO off off2 k) from fun k => by unfold pickO; split; exact ho; exact HOF.out)
      go_loopw [60] (fun i wr => ∃ kk : Nat, kk ≤ 2 ∧ i = .int .i64 kk ∧ Hi (JW w1 b g cap' rb lg xg la xa lc xc f6 es2 SB off off2 wr)) (fun i _ => 2 - (intOf i).toNat)
      case atStart => exact ⟨0, by omega, rfl, HJ0⟩
      case round =>
        obtain ⟨kk, hkk, rfl, HY⟩ := hrel
        clear HJ0
        by_cases hlt2 : kk < 2
        · have hcc := HY.out.sl.pickO hlt2
          have hpo := HPO.out kk
          obtain ⟨at', hat⟩ : ∃ at', pickO off off2 kk = at' := ⟨_, rfl⟩
          rw [hat] at hcc hpo
          have CD := hi (fun V => distD_any at' V hpo)
          have hwk : IntKind.i64.wrap ((kk : Int) + 1) = ((kk + 1 : Nat) : Int) := by rw [IntKind.wrap_i64]; omega
          clear hat hpo
          go_wp2_with (go_at_call 13; ((with_reducible refine (CD.out _).mono ?_); rintro e' v3 ⟨⟨r, fp, pc⟩, c, er, rfl, hok, hb⟩; have HOK := hi hok; have HY3 := hi ((HY.out.later hb).later (bal v3 (.cells #[.int .i64 r, .int .i64 fp, .int .i64 pc] 37))); have HE3 := hi (CB.new v3 37 #[.int .i64 r, .int .i64 fp, .int .i64 pc]); clear hok hb))
          obtain ⟨v4, hv4⟩ : ∃ v4, v3.alloc (.cells #[.int .i64 r, .int .i64 fp, .int .i64 pc] 37) = v4 := ⟨_, rfl⟩
          obtain ⟨N, hN⟩ : ∃ N, v3.heap.size = N := ⟨_, rfl⟩
          rw [hN] at HE3 ⊢
          rw [hv4] at HY3 HE3 ⊢
          clear hv4 hN
          have HED := hi HE3.out.drew
          have HYD := hi (HY3.out.later (Below.drewN (m := 1) (Below.refl _ _)))
          by_cases he0 : er = 0
          · have HPK := hi (HOK.out he0)
            subst he0
            have CRD := hi (fun W (hW : TwF w1 b g cap' rb lg xg la xa lc xc f6 es2 W) => read_any (p := ⟨r, fp, pc⟩) hW.bk hW.fit hW.fine HPK.out)
            have CRR := hi (fun W (hW : TwF w1 b g cap' rb lg xg la xa lc xc f6 es2 W) => rread_any (p := ⟨r, fp, pc⟩) hW.rf hW.fit hW.fine HPK.out)
            obtain ⟨rv, hrv⟩ : ∃ rv, readV ⟨r, fp, pc⟩ c f6 es2 = rv := ⟨_, rfl⟩
            rw [hrv] at CRD CRR
            clear hrv
            obtain ⟨v4d, hv4d'⟩ : ∃ v4d, v4.drewN 1 = v4d := ⟨_, rfl⟩
            have hv4d : v4.drew = v4d := hv4d'
            rw [hv4d'] at HYD
            have HTD := hi HYD.out.tw
            have HSD := hi HYD.out.sl
            clear hv4d'
            refine wp_region_noPanic ?_
            refine wp_region_last_drew (S := (fun W' => CB W' N 37 #[.int .i64 r, .int .i64 fp, .int .i64 pc])) [] (by kernel_rfl) HED.out (fun hHeld => ?_)
            rw [hv4d] at hHeld ⊢
            (try simp only [Array.replicate_succ, Array.replicate_zero, List.push_toArray, List.nil_append, List.cons_append])
            refine wpAnyF_take (i := 0) (v := ?_) (by kernel_rfl) (by kernel_rfl) rfl (by kernel_rfl) (by kernel_rfl) (by kernel_rfl) (fun _ _ _ h => h) (Or.inl ⟨by rfl, ?_⟩) (by assumption) ?_
            rotate_left
            · intro w' hSw; (try dsimp only at hSw); have y0 := CB.cell hSw 0; have y1 := CB.cell hSw 1; have y2 := CB.cell hSw 2; go_simp; (try with_reducible rfl)
            (try simp only [Act.put, List.getElem_toArray, List.getElem_cons_zero, List.setIfInBounds_toArray, List.set_cons_zero, List.set_cons_succ])
            refine wpAnyF_take (i := 1) (v := ?_) (by kernel_rfl) (by kernel_rfl) rfl (by kernel_rfl) (by kernel_rfl) (by kernel_rfl) (fun _ _ _ h => h) (Or.inl ⟨by rfl, ?_⟩) (by assumption) ?_
            rotate_left
            · intro w' hSw; (try dsimp only at hSw); have y0 := CB.cell hSw 0; have y1 := CB.cell hSw 1; have y2 := CB.cell hSw 2; go_simp; (try with_reducible rfl)
            (try simp only [Act.put, List.getElem_toArray, List.getElem_cons_zero, List.getElem_cons_succ, List.setIfInBounds_toArray, List.set_cons_zero, List.set_cons_succ])
            refine wpAnyF_take (i := 2) (v := ?_) (by kernel_rfl) (by kernel_rfl) rfl (by kernel_rfl) (by kernel_rfl) (by kernel_rfl) (fun _ _ _ h => h) (Or.inl ⟨by rfl, ?_⟩) (by assumption) ?_
            rotate_left
            · intro w' hSw; (try dsimp only at hSw); have y0 := CB.cell hSw 0; have y1 := CB.cell hSw 1; have y2 := CB.cell hSw 2; go_simp; (try with_reducible rfl)
            (try simp only [Act.put, List.getElem_toArray, List.getElem_cons_zero, List.getElem_cons_succ, List.setIfInBounds_toArray, List.set_cons_zero, List.set_cons_succ])
            refine wpAnyF_take (i := 3) (v := ?_) (by kernel_rfl) (by kernel_rfl) rfl (by kernel_rfl) (by kernel_rfl) (by kernel_rfl) (fun _ _ _ h => h) (Or.inl ⟨by rfl, ?_⟩) (by assumption) ?_
            rotate_left
            · intro w' hSw; (try dsimp only at hSw); have y0 := CB.cell hSw 0; have y1 := CB.cell hSw 1; have y2 := CB.cell hSw 2; go_simp; (try with_reducible rfl)
            (try simp only [Act.put, List.getElem_toArray, List.getElem_cons_zero, List.getElem_cons_succ, List.setIfInBounds_toArray, List.set_cons_zero, List.set_cons_succ])
            refine wpAnyF_take (i := 4) (v := ?_) (by kernel_rfl) (by kernel_rfl) rfl (by kernel_rfl) (by kernel_rfl) (by kernel_rfl) (fun _ _ _ h => h) (Or.inl ⟨by rfl, ?_⟩) (by assumption) ?_
            rotate_left
            · intro w' hSw; (try dsimp only at hSw); have y0 := CB.cell hSw 0; have y1 := CB.cell hSw 1; have y2 := CB.cell hSw 2; go_simp; (try with_reducible rfl)
            (try simp only [Act.put, List.getElem_toArray, List.getElem_cons_zero, List.getElem_cons_succ, List.setIfInBounds_toArray, List.set_cons_zero, List.set_cons_succ])
            refine wpAnyF_take (i := 6) (v := ?_) (by kernel_rfl) (by kernel_rfl) rfl (by kernel_rfl) (by kernel_rfl) (by kernel_rfl) (fun _ _ _ h => h) (Or.inl ⟨by rfl, ?_⟩) (by assumption) ?_
            rotate_left
            · intro w' hSw; (try dsimp only at hSw); have y0 := CB.cell hSw 0; have y1 := CB.cell hSw 1; have y2 := CB.cell hSw 2; go_simp; (try with_reducible rfl)
            (try simp only [Act.put, List.getElem_toArray, List.getElem_cons_zero, List.getElem_cons_succ, List.setIfInBounds_toArray, List.set_cons_zero, List.set_cons_succ])
            refine wpAnyF_take (i := 7) (v := ?_) (by kernel_rfl) (by kernel_rfl) rfl (by kernel_rfl) (by kernel_rfl) (by kernel_rfl) (fun _ _ _ h => h) (Or.inl ⟨by rfl, ?_⟩) (by assumption) ?_
            rotate_left
            · intro w' hSw; (try dsimp only at hSw); have y0 := CB.cell hSw 0; have y1 := CB.cell hSw 1; have y2 := CB.cell hSw 2; go_simp; (try with_reducible rfl)
            (try simp only [Act.put, List.getElem_toArray, List.getElem_cons_zero, List.getElem_cons_succ, List.setIfInBounds_toArray, List.set_cons_zero, List.set_cons_succ])
            refine wpAnyF_ready (rs := [5]) (by kernel_rfl) (by simp) ?_
            refine AllReadyF.cons rfl (fun KK hKK => ?_) AllReadyF.nil
            go_simp
            ((with_reducible refine ((CRD.out _ HTD.out)).mono ?_); rintro e' v5 ⟨rfl, hb⟩; have HE5 := hi (hHeld.below hb); have HT5 := hi (HTD.out.later hb); have HS5 := hi (HSD.out.below hb); clear hb)
            (try go_simp)
            refine hKK.out _ _ HE5.out (fun hHeld => ?_)
            clear hKK KK
            (try simp only [Act.put, List.getElem_toArray, List.getElem_cons_zero, List.getElem_cons_succ, List.setIfInBounds_toArray, List.set_cons_zero, List.set_cons_succ])
            refine wpAnyF_ready (rs := [8]) (by kernel_rfl) (by simp) ?_
            refine AllReadyF.cons rfl (fun KK hKK => ?_) AllReadyF.nil
            go_simp
            ((with_reducible refine ((CRR.out _ HT5.out)).mono ?_); rintro e' v6 ⟨rfl, hb⟩; have HE6 := hi (HE5.out.below hb); have HT6 := hi (HT5.out.later hb); have HS6 := hi (HS5.out.below hb); clear hb)
            (try go_simp)
            refine hKK.out _ _ HE6.out (fun hHeld => ?_)
            clear hKK KK
            (try simp only [Act.put, List.getElem_toArray, List.getElem_cons_zero, List.getElem_cons_succ, List.setIfInBounds_toArray, List.set_cons_zero, List.set_cons_succ])
            refine wpAnyF_take (i := 9) (v := ?_) (by kernel_rfl) (by kernel_rfl) rfl (by kernel_rfl) (by kernel_rfl) (by kernel_rfl) (fun _ _ _ h => h) (Or.inl ⟨by rfl, ?_⟩) (by assumption) ?_
            rotate_left
            · intro w' hSw; (try dsimp only at hSw); have y0 := CB.cell hSw 0; have y1 := CB.cell hSw 1; have y2 := CB.cell hSw 2; go_simp; (try with_reducible rfl)
            (try simp only [Act.put, List.getElem_toArray, List.getElem_cons_zero, List.getElem_cons_succ, List.setIfInBounds_toArray, List.set_cons_zero, List.set_cons_succ])
            refine wpAnyF_take (i := 10) (v := ?_) (by kernel_rfl) (by kernel_rfl) rfl (by kernel_rfl) (by kernel_rfl) (by kernel_rfl) (fun _ _ _ h => h) (Or.inl ⟨by rfl, ?_⟩) (by assumption) ?_
            rotate_left
            · intro w' hSw; (try dsimp only at hSw); have y0 := CB.cell hSw 0; have y1 := CB.cell hSw 1; have y2 := CB.cell hSw 2; go_simp; (try with_reducible rfl)
            (try simp only [Act.put, List.getElem_toArray, List.getElem_cons_zero, List.getElem_cons_succ, List.setIfInBounds_toArray, List.set_cons_zero, List.set_cons_succ])
            refine wpAnyF_done (by kernel_rfl) ?_ _
            refine NoPanic.normal ?_
            have HF := hi (show JW w1 b g cap' rb lg xg la xa lc xc f6 es2 SB off off2 v6 from ⟨HT6.out, HS6.out⟩)
            go_wp2
            go_roundw
            case rel => exact ⟨kk + 1, by omega, by go_num, HF⟩
            case measure => simp only [intOf]; omega
          · have hq : (er == 0) = false := by simpa using he0
            refine wp_region_noPanic ?_
            refine wp_region_last_drew (S := (fun W' => CB W' N 37 #[.int .i64 r, .int .i64 fp, .int .i64 pc])) [] (by kernel_rfl) HED.out (fun hHeld => ?_)
            (try simp only [Array.replicate_succ, Array.replicate_zero, List.push_toArray, List.nil_append, List.cons_append])
            refine wpAnyF_take (i := 0) (v := ?_) (by kernel_rfl) (by kernel_rfl) rfl (by kernel_rfl) (by kernel_rfl) (by kernel_rfl) (fun _ _ _ h => h) (Or.inl ⟨by rfl, ?_⟩) (by assumption) ?_
            rotate_left
            · intro w' hSw; (try dsimp only at hSw); skip; go_simp; (try with_reducible rfl)
            (try simp only [Act.put, List.getElem_toArray, List.getElem_cons_zero, List.setIfInBounds_toArray, List.set_cons_zero, List.set_cons_succ])
            refine wpAnyF_take (i := 1) (v := ?_) (by kernel_rfl) (by kernel_rfl) rfl (by kernel_rfl) (by kernel_rfl) (by kernel_rfl) (fun _ _ _ h => h) (Or.inl ⟨by rfl, ?_⟩) (by assumption) ?_
            rotate_left
            · intro w' hSw; (try dsimp only at hSw); skip; go_simp; (try with_reducible rfl)
            (try simp only [Act.put, List.getElem_toArray, List.getElem_cons_zero, List.getElem_cons_succ, List.setIfInBounds_toArray, List.set_cons_zero, List.set_cons_succ])
            refine wpAnyF_take (i := 2) (v := ?_) (by kernel_rfl) (by kernel_rfl) rfl (by kernel_rfl) (by kernel_rfl) (by kernel_rfl) (fun _ _ _ h => h) (Or.inl ⟨by rfl, ?_⟩) (by assumption) ?_
            rotate_left
            · intro w' hSw; (try dsimp only at hSw); skip; go_simp; (try with_reducible rfl)
            (try simp only [Act.put, List.getElem_toArray, List.getElem_cons_zero, List.getElem_cons_succ, List.setIfInBounds_toArray, List.set_cons_zero, List.set_cons_succ])
            refine wpAnyF_take (i := 3) (v := undef) (by kernel_rfl) (by kernel_rfl) rfl (by kernel_rfl) (by kernel_rfl) (by kernel_rfl) (fun _ _ _ h => h) (Or.inr ⟨by rfl, rfl⟩) (by assumption) ?_
            (try simp only [Act.put, List.getElem_toArray, List.getElem_cons_zero, List.getElem_cons_succ, List.setIfInBounds_toArray, List.set_cons_zero, List.set_cons_succ])
            refine wpAnyF_take (i := 4) (v := undef) (by kernel_rfl) (by kernel_rfl) rfl (by kernel_rfl) (by kernel_rfl) (by kernel_rfl) (fun _ _ _ h => h) (Or.inr ⟨by rfl, rfl⟩) (by assumption) ?_
            (try simp only [Act.put, List.getElem_toArray, List.getElem_cons_zero, List.getElem_cons_succ, List.setIfInBounds_toArray, List.set_cons_zero, List.set_cons_succ])
            refine wpAnyF_take (i := 5) (v := undef) (by kernel_rfl) (by kernel_rfl) rfl (by kernel_rfl) (by kernel_rfl) (by kernel_rfl) (fun _ _ _ h => h) (Or.inr ⟨by rfl, rfl⟩) (by assumption) ?_
            (try simp only [Act.put, List.getElem_toArray, List.getElem_cons_zero, List.getElem_cons_succ, List.setIfInBounds_toArray, List.set_cons_zero, List.set_cons_succ])
            refine wpAnyF_take (i := 6) (v := undef) (by kernel_rfl) (by kernel_rfl) rfl (by kernel_rfl) (by kernel_rfl) (by kernel_rfl) (fun _ _ _ h => h) (Or.inr ⟨by rfl, rfl⟩) (by assumption) ?_
            (try simp only [Act.put, List.getElem_toArray, List.getElem_cons_zero, List.getElem_cons_succ, List.setIfInBounds_toArray, List.set_cons_zero, List.set_cons_succ])
            refine wpAnyF_take (i := 7) (v := undef) (by kernel_rfl) (by kernel_rfl) rfl (by kernel_rfl) (by kernel_rfl) (by kernel_rfl) (fun _ _ _ h => h) (Or.inr ⟨by rfl, rfl⟩) (by assumption) ?_
            (try simp only [Act.put, List.getElem_toArray, List.getElem_cons_zero, List.getElem_cons_succ, List.setIfInBounds_toArray, List.set_cons_zero, List.set_cons_succ])
            refine wpAnyF_take (i := 8) (v := undef) (by kernel_rfl) (by kernel_rfl) rfl (by kernel_rfl) (by kernel_rfl) (by kernel_rfl) (fun _ _ _ h => h) (Or.inr ⟨by rfl, rfl⟩) (by assumption) ?_
            (try simp only [Act.put, List.getElem_toArray, List.getElem_cons_zero, List.getElem_cons_succ, List.setIfInBounds_toArray, List.set_cons_zero, List.set_cons_succ])
            refine wpAnyF_take (i := 9) (v := undef) (by kernel_rfl) (by kernel_rfl) rfl (by kernel_rfl) (by kernel_rfl) (by kernel_rfl) (fun _ _ _ h => h) (Or.inr ⟨by rfl, rfl⟩) (by assumption) ?_
            (try simp only [Act.put, List.getElem_toArray, List.getElem_cons_zero, List.getElem_cons_succ, List.setIfInBounds_toArray, List.set_cons_zero, List.set_cons_succ])
            refine wpAnyF_take (i := 10) (v := ?_) (by kernel_rfl) (by kernel_rfl) rfl (by kernel_rfl) (by kernel_rfl) (by kernel_rfl) (fun _ _ _ h => h) (Or.inl ⟨by rfl, ?_⟩) (by assumption) ?_
            rotate_left
            · intro w' hSw; (try dsimp only at hSw); skip; go_simp; (try with_reducible rfl)
            (try simp only [Act.put, List.getElem_toArray, List.getElem_cons_zero, List.getElem_cons_succ, List.setIfInBounds_toArray, List.set_cons_zero, List.set_cons_succ])
            refine wpAnyF_done (by kernel_rfl) ?_ _
            refine NoPanic.normal ?_
            go_wp2
            go_roundw
            case rel => exact ⟨kk + 1, by omega, by go_num, HYD⟩
            case measure => simp only [intOf]; omega
        · obtain rfl : kk = 2 := by omega
          go_wp2
          go_roundw
          case rel => exact ⟨k + 1, es2, by omega, by go_num, hi HY.out.tw⟩
          case measure => simp only [intOf]; omega
    · obtain rfl : k = k9 := by omega
      go_wp2
      go_ret
      exact ⟨rfl, HB1.out.trans (HX.out.below.mono HB1.out.size)⟩

end Go.Proofs.Ytjgamfonpagkbaa
