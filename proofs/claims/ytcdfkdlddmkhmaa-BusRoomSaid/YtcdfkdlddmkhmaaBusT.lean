/-
  BusAny.
-/
import Derived.Test.YtcdfkdlddmkhmaaBusQ
namespace Go.Proofs.Ytcdfkdlddmkhmaa
open Go.ChangeShapes Go.WideShapes Go.ChangeAt Go.RowKit
set_option linter.unusedVariables false

theorem newE_perm {xs ys : List Sp} (h : xs.Perm ys) : newE xs = newE ys := by
  unfold newE
  rw [h.length_eq]
  have e1 : (xs.any fun x => !okB x) = (ys.any fun x => !okB x) := by
    rw [Bool.eq_iff_iff, List.any_eq_true, List.any_eq_true]
    exact ⟨fun ⟨x, a, b⟩ => ⟨x, h.mem_iff.1 a, b⟩, fun ⟨x, a, b⟩ => ⟨x, h.mem_iff.2 a, b⟩⟩
  rw [e1]
  have e2 : xs.Pairwise Apart ↔ ys.Pairwise Apart := h.pairwise_iff (fun h => h.symm)
  by_cases q : ys.Pairwise Apart
  · rw [if_pos (e2.2 q), if_pos q]
  · rw [if_neg (fun z => q (e2.1 z)), if_neg q]
/-- A row turned by r. -/
def turnL (xs : List Sp) (r : Nat) : List Sp := xs.drop r ++ xs.take r
theorem turnL_perm (xs : List Sp) (r : Nat) : (turnL xs r).Perm xs := List.perm_append_comm.trans (by rw [List.take_append_drop])
theorem turnL_len (xs : List Sp) (r : Nat) : (turnL xs r).length = xs.length := (turnL_perm xs r).length_eq
theorem turnL_at {xs : List Sp} {t k n : Nat} (hn : xs.length = n) (hk : k < n) : (turnL xs (t % n))[k]? = xs[(k + t) % n]? := by
  obtain ⟨r, hr⟩ : ∃ r, t % n = r := ⟨_, rfl⟩
  have hrn : r < n := by rw [← hr]; exact Nat.mod_lt _ (by omega)
  have e : (k + t) % n = (k + r) % n := by rw [← hr]; simp
  rw [e, hr]
  unfold turnL
  rw [List.getElem?_append]
  simp only [List.length_drop, hn, List.getElem?_drop, List.getElem?_take]
  split
  · rw [Nat.mod_eq_of_lt (by omega), Nat.add_comm]
  · rw [if_pos (by omega)]
    congr 1
    rw [Nat.mod_eq_sub_mod (by omega), Nat.mod_eq_of_lt (by omega)]
    omega
theorem row_lt {l : List Sp} (h : Row l) : l.Pairwise (fun x y => x.b < y.b) := h.up.imp_of_mem fun hx _ hh => hh.lt (h.ok _ hx)
theorem row_perm {xs ys : List Sp} (h : xs.Perm ys) (he : newE xs = 0) : sortB xs = sortB ys :=
  row_uniq ((sortB_perm xs).trans (h.trans (sortB_perm ys).symm)) (row_lt (row_of_new he)) (row_lt (row_of_new (by rw [← newE_perm h]; exact he)))

set_option maxRecDepth 100000 in
set_option maxHeartbeats 8000000 in
theorem any_any (hi' : Nat) (v : Value) (xs : List Sp) (t : Nat) (w : World) (h : SpIn 0 hi' w v xs) (hh : hi' ≤ w.heap.size) (ht : t < 256) :
    Calls Try.prog 5 #[v, .int .u8 t] w fun e w' => e = .returned (.bool true) ∧ Below w.heap.size w w' := by
  obtain ⟨i0, hi2, hz0, hz1, hz2⟩ := info_parts info_sp
  obtain ⟨a, cap, rfl⟩ := h.slice
  have hl := h.len
  have H := hi h
  obtain ⟨n, hn⟩ : ∃ n, xs.length = n := ⟨_, rfl⟩
  have HN := hi hn
  rw [hn] at hl ⊢
  have HA := hi (fun W => awake_any W)
  have hat : ∀ W, Below w.heap.size w W → SpIn 0 hi' W (.slice a n cap) xs := fun W hb => by
    have := h.below hb hh
    rwa [hn] at this
  have HAT := hi hat
  have HF := hi h.fair
  clear h hn hat
  obtain ⟨ys, hys⟩ : ∃ ys, turnL xs (t % n) = ys := ⟨_, rfl⟩
  have HYL := hi (show ys.length = n by rw [← hys, turnL_len]; exact HN.out)
  have HYP := hi (show xs.Perm ys by rw [← hys]; exact (turnL_perm xs _).symm)
  have HYS := hi hys
  clear hys
  go_enter Try.func5, Try.ntmps5
  go_wp2_with (first
    | (go_at_call 9; ((with_reducible refine (HA.out _).mono ?_); rintro e w1 ⟨rfl, hb1⟩; replace hb1 := hi hb1)))
  go_loopw [6, 7] (fun o i wr => ∃ (k : Nat) (oa : Option Addr) (oc : Nat), o = .slice oa k oc ∧ i = .int .i64 k ∧ k ≤ n ∧ Hi (wr.ownsRow w.heap.size 33 4 (.slice oa k oc) k (flatS (ys.take k)) ∧ Below w.heap.size w wr)) (fun _ i _ => n - (intOf i).toNat)
  case atStart => exact ⟨0, none, 0, rfl, rfl, Nat.zero_le _, hi ⟨World.ownsRow_nil _ _ _ _, hb1.out⟩⟩
  case round =>
    obtain ⟨k, oa, oc, rfl, rfl, hk, HJ⟩ := hrel
    by_cases hlt : k < n
    · have hJn : (k + t) % n < n := Nat.mod_lt _ (by omega)
      have H2 := HAT.out _ HJ.out.2
      rw [← HN.out] at hJn H2
      obtain ⟨y, g, o, hy, hmy, rfl, hg1, hg2, hgw, c0, c1, c2, c3⟩ := H2.read hJn
      rw [HN.out] at hJn
      rw [HN.out] at hy c0 c1 c2 c3
      have HT := hi (show ys.take (k + 1) = ys.take k ++ [y] by rw [List.take_add_one, ← HYS.out, turnL_at HN.out hlt, hy]; rfl)
      have q1 : IntKind.i64.wrap ((k : Int) + (t : Int)) = (k : Int) + (t : Int) := by rw [IntKind.wrap_i64]; omega
      have q3 : (n : Int) ≠ 0 := by omega
      have q4 : (0 : Int) ≤ ((k : Int) + (t : Int)) % (n : Int) := Int.emod_nonneg _ q3
      have q5 : ((k : Int) + (t : Int)) % (n : Int) < (n : Int) := Int.emod_lt_of_pos _ (by omega)
      have HO := hi HJ.out.1
      have HB := hi HJ.out.2
      clear H2 hy hmy hg1 hg2
      go_wp2_with (first
        | (at_builtin; refine wpList_append_own _ rfl _ _ 22 rfl w.heap.size 33 i0 (.agg #[.int .i64 0, .int .i64 0, .int .i64 0, .int .i64 0]) 4 32 Try.underlying22 hi2 hz0 hz1 hz2 rfl (by decide) _ _ _ rfl ((HO.out).alloc _) ⟨wr.heap.size, 0, none⟩ 1 1 y.cs rfl rfl (cell_four_new _ _ _) (by simp [Sp.cs, Value.oneCell']) (by unfold maxLen; omega) (by omega) (by have := HB.out.size; simp; omega) ?_; intro v9 w9 hown9 hgrow9 _; obtain ⟨g9, cap9, rfl⟩ := ownsRow_succ hown9; have HO9 := hi hown9; have HB9 := hi (HB.out.trans (own_grown HO.out hgrow9 (Nat.le_refl _) HB.out.size)); clear hown9 hgrow9))
      go_roundw
      case rel => exact ⟨k + 1, _, _, rfl, by go_num, by omega, hi ⟨by rw [HT.out, flatS_append, flatS_one]; exact HO9.out, HB9.out⟩⟩
      case measure => simp [intOf]; omega
    · obtain rfl : k = n := by omega
      have hown := HJ.out.1
      rw [List.take_of_length_le (by rw [HYL.out]; exact Nat.le_refl _)] at hown
      have hin : SpIn 0 wr.heap.size wr (.slice oa k oc) ys := (spIn_of_own (base := w.heap.size) (by rw [HYL.out]; exact hown) (by rw [HYL.out]; exact hl) (fun x hx => HF.out x (HYP.out.mem_iff.2 hx))).mono (Nat.zero_le _) (Nat.le_refl _)
      have HIN := hi hin
      have HB := hi HJ.out.2
      clear hown hin hlt
      by_cases he : newE xs = 0
      · have he2 : newE ys = 0 := by rw [← newE_perm HYP.out]; exact he
        have HRW := hi (row_of_new he)
        have HE := hi he
        have HE2 := hi he2
        have HSS := hi (row_perm HYP.out he)
        obtain ⟨zs, hzs⟩ : ∃ zs, sortB xs = zs := ⟨_, rfl⟩
        have hzl : zs.length ≤ 64 := by rw [← hzs]; have := HRW.out.len; omega
        rw [hzs] at HSS HRW
        have HZS := hi hzs
        have HZF := hi (fun x (hx : x ∈ zs) => HF.out x ((sortB_perm xs).mem_iff.1 (by rw [hzs]; exact hx)))
        clear he he2 hzs
        go_wp2_with (first
          | (go_at_call 10; ((with_reducible refine (new_yes w 0 hi' _ xs _ (HAT.out _ HB.out) (Nat.le_trans hh HB.out.size) HE.out HB.out).mono ?_); rintro e w2 ⟨p, sv, rfl, hs2, hb2⟩; rw [HZS.out] at hs2; have hin2 := hi ((HIN.out.below hb2 (Nat.le_refl _)).mono (Nat.le_refl _) hb2.size); replace hs2 := hi hs2; clear hb2))
          | (go_at_call 10; ((with_reducible refine (new_yes w 0 w2.heap.size _ ys _ hin2.out (Nat.le_refl _) HE2.out hs2.out.below).mono ?_); rintro e w3 ⟨p3, sv3, rfl, hs3, hb3⟩; rw [← HSS.out] at hs3; have hs2' := hi (hs2.out.later hb3); replace hs3 := hi hs3; clear hb3))
          | (go_at_call 15; ((with_reducible refine (all_any _ _ p sv zs _ hs2'.out.bus (Nat.le_refl _) hzl).mono ?_); rintro e w4 ⟨v4, rfl, hr4, hb4⟩; obtain ⟨a4, c4, rfl⟩ := own_slice hr4; have hs4 := hi (hs3.out.later hb4); replace hr4 := hi hr4; clear hb4))
          | (go_at_call 15; ((with_reducible refine (all_any _ _ p3 sv3 zs _ hs4.out.bus (Nat.le_refl _) hzl).mono ?_); rintro e w5 ⟨v5, rfl, hr5, hb5⟩; obtain ⟨a5, c5, rfl⟩ := own_slice hr5; have hs5 := hi (hs4.out.later hb5); have hr4' := hi (own_later hr4.out hb5); replace hr5 := hi hr5; clear hb5))
          | (go_at_call 12; ((with_reducible refine (same_any _ _ _ _ zs zs _ _ _ (spIn_of_own hr4'.out (by omega) HZF.out) (spIn_of_own hr5.out (by omega) HZF.out)).mono ?_); rintro e w6 ⟨he6, m6, rfl⟩; rw [sameS_self] at he6; subst he6)))
        go_ret
        exact ⟨rfl, Below.drewN hs5.out.below⟩
      · have he2 : newE ys ≠ 0 := by rw [← newE_perm HYP.out]; exact he
        have heq := newE_perm HYP.out
        have HE := hi he
        have HE2 := hi he2
        obtain ⟨z, hz⟩ : ∃ z, newE xs = z := ⟨_, rfl⟩
        have HZ := hi hz
        have HZ2 := hi (heq.symm.trans hz)
        clear he he2 heq hz
        go_wp2_with (first
          | (go_at_call 10; ((with_reducible refine (new_no 0 hi' _ xs _ (HAT.out _ HB.out) (Nat.le_trans hh HB.out.size) HE.out).mono ?_); rintro e w2 ⟨he2, hb2⟩; rw [HZ.out] at he2; subst he2; have hin2 := hi ((HIN.out.below hb2 (Nat.le_refl _)).mono (Nat.le_refl _) hb2.size); replace hb2 := hi (HB.out.trans (hb2.mono HB.out.size))))
          | (go_at_call 10; ((with_reducible refine (new_no 0 w2.heap.size _ ys _ hin2.out (Nat.le_refl _) HE2.out).mono ?_); rintro e w3 ⟨he3, hb3⟩; rw [HZ2.out] at he3; subst he3; replace hb3 := hi (hb2.out.trans (hb3.mono hb2.out.size)))))
        go_ret
        exact ⟨rfl, hb3.out⟩

end Go.Proofs.Ytcdfkdlddmkhmaa
