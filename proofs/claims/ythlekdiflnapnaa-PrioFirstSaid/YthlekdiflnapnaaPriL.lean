/-
  Package prio, the law PrioFirst: it answers true at every input.
-/
import Derived.Test.YthlekdiflnapnaaPriK
namespace Go.Proofs.Ythlekdiflnapnaa
open Go.ChangeShapes Go.WideShapes Go.ChangeAt Go.RowKit Go.Shelf
set_option linter.unusedVariables false

theorem firstN_best (ps ids : List Int) : ∀ k i, i < k → beforeB (nth ps i) (nth ids i) (nth ps (firstN ps ids k)) (nth ids (firstN ps ids k)) = false ∧ (i < firstN ps ids k → ¬ (nth ps i = nth ps (firstN ps ids k) ∧ nth ids i = nth ids (firstN ps ids k)))
  | k + 1, i, hi => by
    rw [firstN]
    by_cases h0 : k = 0
    · rw [if_pos h0]
      obtain rfl : i = 0 := by omega
      exact ⟨by rw [before_false]; omega, fun h => by omega⟩
    · rw [if_neg h0]
      have hf := firstN_lt ps ids k (by omega)
      have ih := firstN_best ps ids k
      cases hb : beforeB (nth ps k) (nth ids k) (nth ps (firstN ps ids k)) (nth ids (firstN ps ids k))
      · rw [if_neg (by simp)]
        by_cases he : i = k
        · subst he
          exact ⟨hb, fun h => by omega⟩
        · exact ih i (by omega)
      · rw [if_pos rfl]
        rw [before_true] at hb
        by_cases he : i = k
        · subst he
          exact ⟨by rw [before_false]; omega, fun h => by omega⟩
        · have := (ih i (by omega)).1
          rw [before_false] at this
          exact ⟨by rw [before_false]; omega, fun h => by omega⟩

theorem intsAt_drewN {W : World} {v : Value} {xs : List Int} (h : IntsAt W v xs) (n : Nat) : IntsAt (W.drewN n) v xs := h

set_option maxRecDepth 100000 in
set_option maxHeartbeats 2000000 in
theorem lawFirst_any (ps ids : List Int) (a b : Option Addr) (n1 n2 cap cap2 : Nat) (w : World) (ha : IntsAt w (.slice a n1 cap) ps) (hb : IntsAt w (.slice b n2 cap2) ids) (hx : n1 ≤ 9223372036854775806) (hy : n2 ≤ 9223372036854775806) :
    Calls Try.prog 8 #[.slice a n1 cap, .slice b n2 cap2] w fun e w' => e = .returned (.bool true) ∧ Below w.heap.size w w' := by
  have HA := hi ha
  have HB := hi hb
  have HRA := hi ha.read
  have HRB := hi hb.read
  clear ha hb
  obtain ⟨n, hn⟩ : ∃ n, min n1 n2 = n := ⟨_, rfl⟩
  have hmin : min (n1 : Int) (n2 : Int) = (n : Int) := by omega
  have hl1 : n ≤ n1 := by omega
  have hl2 : n ≤ n2 := by omega
  have HV := hi (show firstV ps ids = firstI ps ids n by rw [firstV, ← HRA.out.1, ← HRB.out.1, hn])
  have HN := hi hn
  clear hn
  by_cases h0 : n = 0
  · have HF := hi (show firstV ps ids = -1 by rw [HV.out, h0]; rfl)
    have hcall := hi fun (W : World) (ha : IntsAt W (.slice a n1 cap) ps) (hb : IntsAt W (.slice b n2 cap2) ids) => HF.out ▸ first_any ps ids a b n1 n2 cap cap2 W ha hb hx hy
    by_cases hlt : n2 < n1
    all_goals
      first
        | (have en : n2 = 0 := by have := HN.out; omega)
        | (have en : n1 = 0 := by have := HN.out; omega)
      subst en
      subst h0
      clear hmin
      go_enter Try.func8, Try.ntmps8
      go_wp2_with (first
        | (go_at_call 10; ((with_reducible refine (awake_any _).mono ?_); rintro e w1 ⟨rfl, hb⟩))
        | (go_at_call 24; ((with_reducible refine (hcall.out _ (intsAt_grew HA.out hb) (intsAt_grew HB.out hb)).mono ?_); rintro e w2 ⟨rfl, nq, rfl⟩)))
      go_ret
      exact ⟨rfl, Below.drewN hb⟩
  · obtain ⟨f, hf⟩ : ∃ f, firstN ps ids n = f := ⟨_, rfl⟩
    have hfn : f < n := hf ▸ firstN_lt ps ids n (by omega)
    have HF := hi (show firstV ps ids = (f : Int) by rw [HV.out, firstI, if_neg h0, hf])
    have hcall := hi fun (W : World) (ha : IntsAt W (.slice a n1 cap) ps) (hb : IntsAt W (.slice b n2 cap2) ids) => HF.out ▸ first_any ps ids a b n1 n2 cap cap2 W ha hb hx hy
    have HBB := hi (fun i (hi : i < n) => hf ▸ firstN_best ps ids n i hi)
    clear hf
    have hn0 : ((n : Int) == 0) = false := by simp; omega
    by_cases hlt : n2 < n1
    all_goals
      first
        | (have en : n = n2 := by have := HN.out; omega)
        | (have en : n = n1 := by have := HN.out; omega)
      subst en
      clear hmin
      go_enter Try.func8, Try.ntmps8
      go_wp2_with (first
        | (go_at_call 10; ((with_reducible refine (awake_any _).mono ?_); rintro e w1 ⟨rfl, hb⟩))
        | (go_at_call 24; ((with_reducible refine (hcall.out _ (intsAt_grew HA.out hb) (intsAt_grew HB.out hb)).mono ?_); rintro e w2 ⟨rfl, nq, rfl⟩)))
      have HB1 := hi hb
      have HA1 := hi (intsAt_grew HA.out hb).read
      have HA2 := hi (intsAt_grew HB.out hb).read
      clear hb
      go_loopw [8] (fun i wr => ∃ k m : Nat, k ≤ n ∧ i = .int .i64 k ∧ wr = w1.drewN m) (fun i _ => n - (intOf i).toNat)
      case atStart => exact ⟨0, nq, Nat.zero_le _, rfl, rfl⟩
      case round =>
        obtain ⟨k, m, hk, rfl, rfl⟩ := hrel
        by_cases hkn : k < n
        · obtain ⟨b1, o1, rfl, h1⟩ := HA1.out.2 k (by omega)
          obtain ⟨b2, o2, rfl, h2⟩ := HA2.out.2 k (by omega)
          have c1 := h1 k (by omega)
          have c2 := h2 k (by omega)
          have c3 := h1 f (by omega)
          have c4 := h2 f (by omega)
          clear h1 h2
          have hbb := HBB.out k hkn
          have hcb := hi (show ∀ W : World, Calls Try.prog 26 #[.int .i64 (nth ps k), .int .i64 (nth ids k), .int .i64 (nth ps f), .int .i64 (nth ids f)] W fun e w' => e = .returned (.bool false) ∧ W = w' from fun W => hbb.1 ▸ before_any _ _ _ _ W)
          have hcas : (f ≤ k) ∨ (k < f ∧ (nth ps k == nth ps f) = false) ∨ (k < f ∧ (nth ps k == nth ps f) = true ∧ (nth ids k == nth ids f) = false) := by
            by_cases h : k < f
            · by_cases h1 : nth ps k = nth ps f
              · exact .inr (.inr ⟨h, by simp [h1], by have := hbb.2 h; simp; exact fun e => this ⟨h1, e⟩⟩)
              · exact .inr (.inl ⟨h, by simp [h1]⟩)
            · exact .inl (by omega)
          clear hbb
          rcases hcas with h | ⟨h, e⟩ | ⟨h, e, e2⟩
          all_goals
            first
              | (have tk : decide ((k : Nat) < f) = true := (by simpa using h))
              | (have tk : decide ((k : Nat) < f) = false := (by simpa using h))
            go_wp2
            go_quiet ((go_at_call 26; first | (with_reducible exact quiet_add_left (hcb.out _)) | (with_reducible exact quiet_left (hcb.out _))))
            go_wp2
            go_roundw
            case rel => exact ⟨k + 1, _, by omega, by go_num, rfl⟩
            case measure => simp [intOf]; omega
        · obtain rfl : k = n := by omega
          go_wp2
          go_ret
          exact ⟨rfl, Below.drewN HB1.out⟩

end Go.Proofs.Ythlekdiflnapnaa
