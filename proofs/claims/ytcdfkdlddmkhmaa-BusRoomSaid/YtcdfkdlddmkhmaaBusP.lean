/-
  BusOne.
-/
import Derived.Test.YtcdfkdlddmkhmaaBusO
import Derived.Test.YtcdfkdlddmkhmaaBusR
namespace Go.Proofs.Ytcdfkdlddmkhmaa
open Go.ChangeShapes Go.WideShapes Go.ChangeAt Go.RowKit
set_option linter.unusedVariables false
attribute [local go_sem high] neq4 eql4 guard4

theorem eq4_zero : eq4 0 0 0 0 0 0 0 0 = true := by decide
theorem eq4_self (a b c d : Int) : eq4 a b c d a b c d = true := by simp [eq4]
theorem newE_ok {xs : List Sp} (h : newE xs = 0) : xs.length ≤ 32 ∧ (∀ x ∈ xs, x.Ok) ∧ xs.Pairwise Apart := by
  unfold newE at h
  split at h
  · cases h
  · rename_i h1
    split at h
    · rename_i h2
      exact ⟨by omega, all_ok (by simpa using fun q => h1 (.inr q)), h2⟩
    · cases h
theorem new_no (lo hi' : Nat) (v : Value) (xs : List Sp) (w : World) (h : SpIn lo hi' w v xs) (hh : hi' ≤ w.heap.size) (he : newE xs ≠ 0) :
    Calls Try.prog 10 #[v] w fun e w' => e = .returned (.tuple #[.pointer none, .int .i64 (newE xs)]) ∧ Below w.heap.size w w' := by
  refine (new_any lo hi' v xs w h hh).mono ?_
  rintro e w' ⟨hk, ⟨_, rfl⟩ | ⟨h0, _⟩⟩
  · exact ⟨rfl, hk⟩
  · exact absurd h0 he
theorem new_yes (w0 : World) (lo hi' : Nat) (v : Value) (xs : List Sp) (w : World) (h : SpIn lo hi' w v xs) (hh : hi' ≤ w.heap.size) (he : newE xs = 0) (hb : Below w0.heap.size w0 w) :
    Calls Try.prog 10 #[v] w fun e w' => ∃ p sv, e = .returned (.tuple #[.pointer (some ⟨p, 0, none⟩), .int .i64 0]) ∧ BS w0 p sv (sortB xs) w' ∧ Below w.heap.size w w' := by
  refine (new_any lo hi' v xs w h hh).mono ?_
  rintro e w' ⟨hk, ⟨h0, _⟩ | ⟨_, p, sv, rfl, hB⟩⟩
  · exact absurd he h0
  · exact ⟨p, sv, rfl, ⟨hB.mono hb.size (Nat.le_refl _), hb.trans (hk.mono hb.size)⟩, hk⟩

theorem findV_cases (xs : List Sp) (addr width : Int) : (∃ m : Int, m ≠ 0 ∧ findV xs addr width = tup Sp.zero 0 m) ∨ (∃ x, x ∈ xs ∧ mayE 1099511627776 addr width = 0 ∧ covB addr width x = true ∧ findV xs addr width = tup x (addr - x.b) 0) := by
  unfold findV
  by_cases h : mayE 1099511627776 addr width = 0
  · rw [if_pos h]
    rcases hf : xs.find? (covB addr width) with _ | x
    · exact .inl ⟨42, by decide, rfl⟩
    · exact .inr ⟨x, List.mem_of_find?_eq_some hf, h, List.find?_some hf, rfl⟩
  · rw [if_neg h]; exact .inl ⟨_, h, rfl⟩

/-- Has a span an address of those from addr up to S? -/
def meetB (addr S : Int) (y : Sp) : Bool := decide (y.b < S) && decide (addr < y.b + y.s)
theorem meet_no {addr width : Int} {x y : Sp} (hw : 1 ≤ width) (hx : covB addr width x = true) (h : Apart x y) : meetB addr (addr + width) y = false := by
  unfold covB at hx
  unfold meetB
  unfold Apart at h
  simp only [decide_eq_true_eq] at hx
  by_cases h1 : y.b < addr + width
  · by_cases h2 : addr < y.b + y.s
    · omega
    · simp [h2]
  · simp [h1]
theorem count_one {addr width : Int} {x : Sp} {xs : List Sp} (hw : 1 ≤ width) (hx : covB addr width x = true) (hm : x ∈ xs) (h : xs.Pairwise Apart) : xs.countP (meetB addr (addr + width)) = 1 := by
  obtain ⟨l1, l2, rfl⟩ := List.append_of_mem hm
  rw [List.pairwise_append, List.pairwise_cons] at h
  obtain ⟨_, ⟨h2, _⟩, h3⟩ := h
  have e1 : l1.countP (meetB addr (addr + width)) = 0 := List.countP_eq_zero.2 fun y hy => by rw [meet_no hw hx (h3 y hy x (by simp)).symm]; simp
  have e2 : l2.countP (meetB addr (addr + width)) = 0 := List.countP_eq_zero.2 fun y hy => by rw [meet_no hw hx (h2 y hy)]; simp
  have e3 : meetB addr (addr + width) x = true := by
    unfold covB at hx
    unfold meetB
    simp only [decide_eq_true_eq] at hx
    have a1 : x.b < addr + width := by omega
    have a2 : addr < x.b + x.s := by omega
    simp [a1, a2]
  rw [List.countP_append, List.countP_cons, e1, e2, e3]
  simp

set_option maxRecDepth 100000 in
set_option maxHeartbeats 8000000 in
theorem one_any (hi' : Nat) (v : Value) (xs : List Sp) (addr width : Int) (w : World) (h : SpIn 0 hi' w v xs) (hh : hi' ≤ w.heap.size) (ha0 : -9223372036854775808 ≤ addr) (ha1 : addr ≤ 9223372036854775807) (hw0 : -9223372036854775808 ≤ width) (hw1 : width ≤ 9223372036854775807) :
    Calls Try.prog 6 #[v, .int .i64 addr, .int .i64 width] w fun e w' => e = .returned (.bool true) ∧ Below w.heap.size w w' := by
  obtain ⟨a, cap, rfl⟩ := h.slice
  have hl := h.len
  have H := hi h
  obtain ⟨n, hn⟩ : ∃ n, xs.length = n := ⟨_, rfl⟩
  have HN := hi hn
  rw [hn] at hl ⊢
  have HA := hi (fun W => awake_any W)
  have hat : ∀ W, Below w.heap.size w W → SpIn 0 hi' W (.slice a n cap) xs := fun W hb => by
    have := h.below hb hh
    rwa [hn] at this
  have HAT := hi hat
  clear h hn hat
  by_cases he : newE xs = 0
  · obtain ⟨hx32, hok, hap⟩ := newE_ok he
    rw [HN.out] at hx32
    have hR := row_of_new he
    have HE := hi he
    have HOK := hi hok
    have HAP := hi hap
    have HRW := hi hR
    clear he hok hap hR
    rcases findV_cases (sortB xs) addr width with ⟨m, hm, hv⟩ | ⟨x, hmem, hmay, hcv, hv⟩
    · have HV := hi hv
      have hd : (m != 0) = true := by simpa using hm
      have hez := eq4_zero
      clear hv hm
      go_enter Try.func6, Try.ntmps6
      go_wp2_with (first
        | (go_at_call 9; ((with_reducible refine (HA.out _).mono ?_); rintro e w1 ⟨rfl, hb1⟩; replace hb1 := hi hb1))
        | (go_at_call 10; ((with_reducible refine (new_yes w 0 hi' _ xs _ (HAT.out _ hb1.out) (Nat.le_trans hh hb1.out.size) HE.out hb1.out).mono ?_); rintro e w2 ⟨p, sv, rfl, hs2, _⟩; replace hs2 := hi hs2))
        | (go_at_call 13; ((with_reducible refine (find_any _ _ p sv _ addr width _ hs2.out.bus (Nat.le_refl _) HRW.out.ok).mono ?_); rintro e w3 ⟨he3, hb3⟩; rw [HV.out] at he3; unfold tup Sp.zero at he3; subst he3; have hs3 := hi (hs2.out.later hb3); clear hb3)))
      go_ret
      exact ⟨rfl, hs3.out.below.trans ((bal _ _).mono hs3.out.below.size)⟩
    · replace hmem : x ∈ xs := (sortB_perm xs).mem_iff.1 hmem
      have okx := HOK.out x hmem
      obtain ⟨hwd, hm0, hm1⟩ := may_out hmay
      have hcnt := count_one (by omega) hcv hmem HAP.out
      have hcv' : x.b ≤ addr ∧ addr + width ≤ x.b + x.s := by unfold covB at hcv; simpa using hcv
      obtain ⟨hc0, hc1⟩ := hcv'
      obtain ⟨S, hS⟩ : ∃ S, addr + width = S := ⟨_, rfl⟩
      rw [hS] at hcnt
      have hxb := okx.b0
      have hxs := okx.s1
      have hxe := okx.e1
      obtain ⟨off, hoff⟩ : ∃ off, addr - x.b = off := ⟨_, rfl⟩
      rw [hoff] at hv
      have q1 : decide (off < 0) = false := by simp; omega
      have q2 : IntKind.i64.wrap (x.b + off) = addr := by rw [IntKind.wrap_i64]; omega
      obtain ⟨T, hT⟩ : ∃ T, off + width = T := ⟨_, rfl⟩
      have q3 : IntKind.i64.wrap (off + width) = T := by rw [IntKind.wrap_i64]; omega
      have q4 : decide (x.s < T) = false := by simp; omega
      have q5 : IntKind.i64.wrap (addr + width) = S := by rw [IntKind.wrap_i64]; omega
      have HV := hi hv
      have HC := hi hcnt
      clear hv hcv hcnt hmem okx hmay hoff hT hS
      go_enter Try.func6, Try.ntmps6
      go_wp2_with (first
        | (go_at_call 9; ((with_reducible refine (HA.out _).mono ?_); rintro e w1 ⟨rfl, hb1⟩; replace hb1 := hi hb1))
        | (go_at_call 10; ((with_reducible refine (new_yes w 0 hi' _ xs _ (HAT.out _ hb1.out) (Nat.le_trans hh hb1.out.size) HE.out hb1.out).mono ?_); rintro e w2 ⟨p, sv, rfl, hs2, _⟩; replace hs2 := hi hs2))
        | (go_at_call 13; ((with_reducible refine (find_any _ _ p sv _ addr width _ hs2.out.bus (Nat.le_refl _) HRW.out.ok).mono ?_); rintro e w3 ⟨he3, hb3⟩; rw [HV.out] at he3; unfold tup at he3; subst he3; have hs3 := hi (hs2.out.later hb3); clear hb3)))
      go_loopw [13, 14] (fun c i wr => ∃ k m : Nat, c = .int .i64 m ∧ i = .int .i64 k ∧ k ≤ n ∧ m ≤ k ∧ Hi (m = (xs.take k).countP (meetB addr S) ∧ Below w.heap.size w wr)) (fun _ i _ => n - (intOf i).toNat)
      case atStart => exact ⟨0, 0, rfl, rfl, Nat.zero_le _, Nat.le_refl _, hi ⟨by simp, hs3.out.below.trans ((bal _ _).mono hs3.out.below.size)⟩⟩
      case round =>
        obtain ⟨k, m, rfl, rfl, hk, hmk, HJ⟩ := hrel
        by_cases hlt : k < n
        · have H2 := H.out.below HJ.out.2 hh
          rw [← HN.out] at hlt
          obtain ⟨y, g, o, hy, hmy, rfl, hg1, hg2, hgw, c0, c1, c2, c3⟩ := H2.read hlt
          rw [HN.out] at hlt
          have oky := HOK.out y hmy
          have hyb := oky.b0
          have hys := oky.s1
          have hye := oky.e1
          have HT := hi (show xs.take (k + 1) = xs.take k ++ [y] by rw [List.take_add_one, hy]; rfl)
          obtain ⟨E, hE⟩ : ∃ E, y.b + y.s = E := ⟨_, rfl⟩
          have q6 : IntKind.i64.wrap (y.b + y.s) = E := by rw [IntKind.wrap_i64]; omega
          have HM := hi (show meetB addr S y = (decide (y.b < S) && decide (addr < E)) by unfold meetB; rw [hE])
          clear hE H2 hy hmy oky hg1 hg2 c2 c3
          by_cases g1 : y.b < S
          · have t1 : decide (y.b < S) = true := by simpa using g1
            by_cases g2 : addr < E
            · have t2 : decide (addr < E) = true := by simpa using g2
              clear g1 g2
              go_wp2
              go_quiet (fail)
              go_wp2
              go_roundw
              case rel => exact ⟨k + 1, m + 1, by go_num, by go_num, by omega, by omega, hi ⟨by rw [HT.out, List.countP_append, ← HJ.out.1, List.countP_singleton, HM.out, t1, t2]; rfl, Below.drewN HJ.out.2⟩⟩
              case measure => simp [intOf]; omega
            · have t2 : decide (addr < E) = false := by simpa using g2
              clear g1 g2
              go_wp2
              go_quiet (fail)
              go_wp2
              go_roundw
              case rel => exact ⟨k + 1, m, by go_num, by go_num, by omega, by omega, hi ⟨by rw [HT.out, List.countP_append, ← HJ.out.1, List.countP_singleton, HM.out, t1, t2]; rfl, Below.drewN HJ.out.2⟩⟩
              case measure => simp [intOf]; omega
          · have t1 : decide (y.b < S) = false := by simpa using g1
            clear g1
            go_wp2
            go_quiet (fail)
            go_wp2
            go_roundw
            case rel => exact ⟨k + 1, m, by go_num, by go_num, by omega, by omega, hi ⟨by rw [HT.out, List.countP_append, ← HJ.out.1, List.countP_singleton, HM.out, t1]; rfl, Below.drewN HJ.out.2⟩⟩
            case measure => simp [intOf]; omega
        · have e : k = n := by omega
          subst e
          have hm1 : m = 1 := by
            have := HJ.out.1
            rwa [List.take_of_length_le (by rw [HN.out]; exact Nat.le_refl _), HC.out] at this
          subst hm1
          go_wp2
          go_ret
          exact ⟨rfl, HJ.out.2⟩
  · have hd : (newE xs != 0) = true := by simpa using he
    have HE := hi he
    clear he
    go_enter Try.func6, Try.ntmps6
    go_wp2_with (first
      | (go_at_call 9; ((with_reducible refine (HA.out _).mono ?_); rintro e w1 ⟨rfl, hb1⟩; replace hb1 := hi hb1))
      | (go_at_call 10; ((with_reducible refine (new_no 0 hi' _ xs _ (HAT.out _ hb1.out) (Nat.le_trans hh hb1.out.size) HE.out).mono ?_); rintro e w2 ⟨rfl, hb2⟩; replace hb2 := hi (hb1.out.trans (hb2.mono hb1.out.size)))))
    go_ret
    exact ⟨rfl, hb2.out⟩

end Go.Proofs.Ytcdfkdlddmkhmaa
