/-
  Package prio: First at every two slices of numbers, and the document's.
-/
import Derived.Test.YthlekdiflnapnaaPriF
namespace Go.Proofs.Ythlekdiflnapnaa
open Go.ChangeShapes Go.WideShapes Go.ChangeAt Go.RowKit Go.Shelf
set_option linter.unusedVariables false

theorem quiet_add_left {P : Program} {f : FuncId} {args : Array Value} {w : World} {a n : Nat} {v : Value}
    (h : Calls P f args (w.drewN (a + n)) fun e w' => e = .returned v ∧ w.drewN (a + n) = w') :
    Calls P f args (w.drewN (a + n)) fun e w'' => e = .returned v ∧ ∃ m, w'' = w.drewN (a + m) :=
  h.mono fun _ _ ⟨he, hm⟩ => ⟨he, n, hm.symm⟩
theorem quiet_left {P : Program} {f : FuncId} {args : Array Value} {w : World} {n : Nat} {v : Value}
    (h : Calls P f args (w.drewN n) fun e w' => e = .returned v ∧ w.drewN n = w') : Calls P f args (w.drewN n) fun e w'' => e = .returned v ∧ ∃ m, w'' = w.drewN m :=
  h.mono fun _ _ ⟨he, hm⟩ => ⟨he, n, hm.symm⟩

def nth (xs : List Int) (k : Nat) : Int := xs[k]?.getD 0
/-- Which of the first k comes ahead of all. -/
def firstN (ps ids : List Int) : Nat → Nat
  | 0 => 0
  | k + 1 => if k = 0 then 0 else if beforeB (nth ps k) (nth ids k) (nth ps (firstN ps ids k)) (nth ids (firstN ps ids k)) then k else firstN ps ids k
def firstI (ps ids : List Int) (k : Nat) : Int := if k = 0 then -1 else (firstN ps ids k : Int)
def firstV (ps ids : List Int) : Int := firstI ps ids (min ps.length ids.length)
theorem firstN_lt (ps ids : List Int) : ∀ k, 0 < k → firstN ps ids k < k
  | k + 1, _ => by
    rw [firstN]
    by_cases h : k = 0
    · simp [h]
    · rw [if_neg h]
      split
      · omega
      · have := firstN_lt ps ids k (by omega); omega
theorem first_zero {ps ids : List Int} : Value.int .i64 ((0 : Nat) : Int) = .int .i64 (firstI ps ids (0 + 1)) := by simp [firstI, firstN]
theorem first_new {ps ids : List Int} {k : Nat} (hk : 0 < k) (h : beforeB (nth ps k) (nth ids k) (nth ps (firstN ps ids k)) (nth ids (firstN ps ids k)) = true) : Value.int .i64 ((k : Nat) : Int) = .int .i64 (firstI ps ids (k + 1)) := by
  rw [firstI, if_neg (by omega), firstN, if_neg (by omega), if_pos h]
theorem first_old {ps ids : List Int} {k : Nat} (hk : 0 < k) (h : beforeB (nth ps k) (nth ids k) (nth ps (firstN ps ids k)) (nth ids (firstN ps ids k)) = false) : Value.int .i64 ((firstN ps ids k : Nat) : Int) = .int .i64 (firstI ps ids (k + 1)) := by
  rw [firstI, if_neg (by omega), firstN, if_neg (by omega), if_neg (by simp [h])]

/-- One element of a slice of numbers. -/
theorem IntsAt.read {W : World} {a : Option Addr} {n cap : Nat} {xs : List Int} (h : IntsAt W (.slice a n cap) xs) : n = xs.length ∧ ∀ k, k < n → ∃ b o : Nat, a = some ⟨b, o, none⟩ ∧ ∀ j, j < n → W.cell? ⟨b, o + j, none⟩ = some (.int .i64 (nth xs j)) := by
  obtain ⟨a', cap', e, _, hc⟩ := h
  injection e with e1 e2 e3
  subst e1; subst e2
  refine ⟨rfl, fun k hk => ?_⟩
  obtain ⟨b, o, ha, hcs⟩ := hc (fun e => by simp [e] at hk)
  exact ⟨b, o, ha, hcs⟩

set_option maxHeartbeats 2000000 in
theorem first_any (ps ids : List Int) (a b : Option Addr) (n1 n2 cap cap2 : Nat) (w : World) (ha : IntsAt w (.slice a n1 cap) ps) (hb : IntsAt w (.slice b n2 cap2) ids) (hx : n1 ≤ 9223372036854775806) (hy : n2 ≤ 9223372036854775806) :
    Calls Try.prog 24 #[.slice a n1 cap, .slice b n2 cap2] w fun e w' => e = .returned (.int .i64 (firstV ps ids)) ∧ ∃ m, w' = w.drewN m := by
  have HA := hi ha.read
  have HB := hi hb.read
  clear ha hb
  obtain ⟨n, hn⟩ : ∃ n, min n1 n2 = n := ⟨_, rfl⟩
  have hl1 : n ≤ n1 := by omega
  have hl2 : n ≤ n2 := by omega
  have HV := hi (show firstV ps ids = firstI ps ids n by rw [firstV, ← HA.out.1, ← HB.out.1, hn])
  have HN := hi hn
  clear hn
  go_enter Try.func24, Try.ntmps24
  go_wp2
  · have en : n = n2 := by have := HN.out; omega
    subst en
    go_loopw [5, 12] (fun f i wr => ∃ k m : Nat, k ≤ n ∧ i = .int .i64 k ∧ f = .int .i64 (firstI ps ids k) ∧ wr = w.drewN m) (fun _ i _ => n - (intOf i).toNat)
    case atStart => exact ⟨0, 0, Nat.zero_le _, rfl, rfl, rfl⟩
    case round =>
      obtain ⟨k, m, hk, rfl, rfl, rfl⟩ := hrel
      by_cases hlt : k < n
      · by_cases h0 : k = 0
        · subst h0
          rw [show firstI ps ids 0 = -1 from rfl]
          skip
          go_wp2
          go_quiet (fail)
          go_wp2
          go_roundw
          case rel => exact ⟨0 + 1, _, by omega, by go_num, first_zero, rfl⟩
          case measure => simp [intOf]; omega
        · have hf := firstN_lt ps ids k (by omega)
          obtain ⟨b1, o1, rfl, h1⟩ := HA.out.2 k (by omega)
          obtain ⟨b2, o2, rfl, h2⟩ := HB.out.2 k (by omega)
          have c1 := h1 k (by omega)
          have c2 := h2 k (by omega)
          have c3 := h1 (firstN ps ids k) (by omega)
          have c4 := h2 (firstN ps ids k) (by omega)
          rw [show firstI ps ids k = (firstN ps ids k : Int) by rw [firstI, if_neg h0]]
          clear h1 h2
          have H0 := hi (show 0 < k by omega)
          cases hbe : beforeB (nth ps k) (nth ids k) (nth ps (firstN ps ids k)) (nth ids (firstN ps ids k))
          · have HBE := hi hbe
            have HO := hi (first_old H0.out hbe)
            have hcall : ∀ W : World, Calls Try.prog 26 #[.int .i64 (nth ps k), .int .i64 (nth ids k), .int .i64 (nth ps (firstN ps ids k)), .int .i64 (nth ids (firstN ps ids k))] W fun e w' => e = .returned (.bool false) ∧ W = w' := fun W => hbe ▸ before_any _ _ _ _ W
            clear hbe h0
            obtain ⟨f, hfe⟩ : ∃ f, firstN ps ids k = f := ⟨_, rfl⟩
            rw [hfe] at hf c3 c4 HO hcall ⊢
            clear hfe HBE
            have hneg : decide ((f : Int) < 0) = false := by simp
            go_wp2
            go_quiet ((go_at_call 26; first | exact quiet_add_left (hcall _) | exact quiet_left (hcall _)))
            go_wp2
            go_roundw
            case rel => exact ⟨k + 1, _, by omega, by go_num, HO.out, rfl⟩
            case measure => simp [intOf]; omega
          · have HBE := hi hbe
            have HO := hi (first_new H0.out hbe)
            have hcall : ∀ W : World, Calls Try.prog 26 #[.int .i64 (nth ps k), .int .i64 (nth ids k), .int .i64 (nth ps (firstN ps ids k)), .int .i64 (nth ids (firstN ps ids k))] W fun e w' => e = .returned (.bool true) ∧ W = w' := fun W => hbe ▸ before_any _ _ _ _ W
            clear hbe h0
            obtain ⟨f, hfe⟩ : ∃ f, firstN ps ids k = f := ⟨_, rfl⟩
            rw [hfe] at hf c3 c4 hcall ⊢
            clear hfe HBE
            have hneg : decide ((f : Int) < 0) = false := by simp
            go_wp2
            go_quiet ((go_at_call 26; first | exact quiet_add_left (hcall _) | exact quiet_left (hcall _)))
            go_wp2
            go_roundw
            case rel => exact ⟨k + 1, _, by omega, by go_num, HO.out, rfl⟩
            case measure => simp [intOf]; omega
      · obtain rfl : k = n := by omega
        skip
        go_wp2
        go_ret
        exact ⟨ret_int HV.out.symm, _, rfl⟩
  · have en : n = n1 := by have := HN.out; omega
    subst en
    go_loopw [5, 12] (fun f i wr => ∃ k m : Nat, k ≤ n ∧ i = .int .i64 k ∧ f = .int .i64 (firstI ps ids k) ∧ wr = w.drewN m) (fun _ i _ => n - (intOf i).toNat)
    case atStart => exact ⟨0, 0, Nat.zero_le _, rfl, rfl, rfl⟩
    case round =>
      obtain ⟨k, m, hk, rfl, rfl, rfl⟩ := hrel
      by_cases hlt : k < n
      · by_cases h0 : k = 0
        · subst h0
          rw [show firstI ps ids 0 = -1 from rfl]
          skip
          go_wp2
          go_quiet (fail)
          go_wp2
          go_roundw
          case rel => exact ⟨0 + 1, _, by omega, by go_num, first_zero, rfl⟩
          case measure => simp [intOf]; omega
        · have hf := firstN_lt ps ids k (by omega)
          obtain ⟨b1, o1, rfl, h1⟩ := HA.out.2 k (by omega)
          obtain ⟨b2, o2, rfl, h2⟩ := HB.out.2 k (by omega)
          have c1 := h1 k (by omega)
          have c2 := h2 k (by omega)
          have c3 := h1 (firstN ps ids k) (by omega)
          have c4 := h2 (firstN ps ids k) (by omega)
          rw [show firstI ps ids k = (firstN ps ids k : Int) by rw [firstI, if_neg h0]]
          clear h1 h2
          have H0 := hi (show 0 < k by omega)
          cases hbe : beforeB (nth ps k) (nth ids k) (nth ps (firstN ps ids k)) (nth ids (firstN ps ids k))
          · have HBE := hi hbe
            have HO := hi (first_old H0.out hbe)
            have hcall : ∀ W : World, Calls Try.prog 26 #[.int .i64 (nth ps k), .int .i64 (nth ids k), .int .i64 (nth ps (firstN ps ids k)), .int .i64 (nth ids (firstN ps ids k))] W fun e w' => e = .returned (.bool false) ∧ W = w' := fun W => hbe ▸ before_any _ _ _ _ W
            clear hbe h0
            obtain ⟨f, hfe⟩ : ∃ f, firstN ps ids k = f := ⟨_, rfl⟩
            rw [hfe] at hf c3 c4 HO hcall ⊢
            clear hfe HBE
            have hneg : decide ((f : Int) < 0) = false := by simp
            go_wp2
            go_quiet ((go_at_call 26; first | exact quiet_add_left (hcall _) | exact quiet_left (hcall _)))
            go_wp2
            go_roundw
            case rel => exact ⟨k + 1, _, by omega, by go_num, HO.out, rfl⟩
            case measure => simp [intOf]; omega
          · have HBE := hi hbe
            have HO := hi (first_new H0.out hbe)
            have hcall : ∀ W : World, Calls Try.prog 26 #[.int .i64 (nth ps k), .int .i64 (nth ids k), .int .i64 (nth ps (firstN ps ids k)), .int .i64 (nth ids (firstN ps ids k))] W fun e w' => e = .returned (.bool true) ∧ W = w' := fun W => hbe ▸ before_any _ _ _ _ W
            clear hbe h0
            obtain ⟨f, hfe⟩ : ∃ f, firstN ps ids k = f := ⟨_, rfl⟩
            rw [hfe] at hf c3 c4 hcall ⊢
            clear hfe HBE
            have hneg : decide ((f : Int) < 0) = false := by simp
            go_wp2
            go_quiet ((go_at_call 26; first | exact quiet_add_left (hcall _) | exact quiet_left (hcall _)))
            go_wp2
            go_roundw
            case rel => exact ⟨k + 1, _, by omega, by go_num, HO.out, rfl⟩
            case measure => simp [intOf]; omega
      · obtain rfl : k = n := by omega
        skip
        go_wp2
        go_ret
        exact ⟨ret_int HV.out.symm, _, rfl⟩

set_option maxHeartbeats 2000000 in
theorem refFirst_any (ps ids : List Int) (a b : Option Addr) (n1 n2 cap cap2 : Nat) (w : World) (ha : IntsAt w (.slice a n1 cap) ps) (hb : IntsAt w (.slice b n2 cap2) ids) (hx : n1 ≤ 9223372036854775806) (hy : n2 ≤ 9223372036854775806) :
    Calls Try.prog 25 #[.slice a n1 cap, .slice b n2 cap2] w fun e w' => e = .returned (.int .i64 (firstV ps ids)) ∧ ∃ m, w' = w.drewN m := by
  have HA := hi ha.read
  have HB := hi hb.read
  clear ha hb
  obtain ⟨n, hn⟩ : ∃ n, min n1 n2 = n := ⟨_, rfl⟩
  have hl1 : n ≤ n1 := by omega
  have hl2 : n ≤ n2 := by omega
  have HV := hi (show firstV ps ids = firstI ps ids n by rw [firstV, ← HA.out.1, ← HB.out.1, hn])
  have HN := hi hn
  clear hn
  go_enter Try.func25, Try.ntmps25
  go_wp2
  go_loopw [5, 6] (fun f i wr => ∃ k m : Nat, k ≤ n ∧ i = .int .i64 k ∧ f = .int .i64 (firstI ps ids k) ∧ wr = w.drewN m) (fun _ i _ => n - (intOf i).toNat)
  case atStart => exact ⟨0, 0, Nat.zero_le _, rfl, rfl, rfl⟩
  case round =>
    obtain ⟨k, m, hk, rfl, rfl, rfl⟩ := hrel
    by_cases hlt : k < n
    · by_cases h0 : k = 0
      · subst h0
        rw [show firstI ps ids 0 = -1 from rfl]
        skip
        go_wp2
        go_quiet (fail)
        go_wp2
        go_roundw
        case rel => exact ⟨0 + 1, _, by omega, by go_num, first_zero, rfl⟩
        case measure => simp [intOf]; omega
      · have hf := firstN_lt ps ids k (by omega)
        obtain ⟨b1, o1, rfl, h1⟩ := HA.out.2 k (by omega)
        obtain ⟨b2, o2, rfl, h2⟩ := HB.out.2 k (by omega)
        have c1 := h1 k (by omega)
        have c2 := h2 k (by omega)
        have c3 := h1 (firstN ps ids k) (by omega)
        have c4 := h2 (firstN ps ids k) (by omega)
        rw [show firstI ps ids k = (firstN ps ids k : Int) by rw [firstI, if_neg h0]]
        clear h1 h2
        have H0 := hi (show 0 < k by omega)
        cases hbe : beforeB (nth ps k) (nth ids k) (nth ps (firstN ps ids k)) (nth ids (firstN ps ids k))
        · have HBE := hi hbe
          have HO := hi (first_old H0.out hbe)
          have hcall : ∀ W : World, Calls Try.prog 29 #[.int .i64 (nth ps k), .int .i64 (nth ids k), .int .i64 (nth ps (firstN ps ids k)), .int .i64 (nth ids (firstN ps ids k))] W fun e w' => e = .returned (.bool false) ∧ W = w' := fun W => hbe ▸ refBefore_any _ _ _ _ W
          clear hbe h0
          obtain ⟨f, hfe⟩ : ∃ f, firstN ps ids k = f := ⟨_, rfl⟩
          rw [hfe] at hf c3 c4 HO hcall ⊢
          clear hfe HBE
          have hneg : decide ((f : Int) < 0) = false := by simp
          go_wp2
          go_quiet ((go_at_call 29; first | exact quiet_add_left (hcall _) | exact quiet_left (hcall _)))
          go_wp2
          go_roundw
          case rel => exact ⟨k + 1, _, by omega, by go_num, HO.out, rfl⟩
          case measure => simp [intOf]; omega
        · have HBE := hi hbe
          have HO := hi (first_new H0.out hbe)
          have hcall : ∀ W : World, Calls Try.prog 29 #[.int .i64 (nth ps k), .int .i64 (nth ids k), .int .i64 (nth ps (firstN ps ids k)), .int .i64 (nth ids (firstN ps ids k))] W fun e w' => e = .returned (.bool true) ∧ W = w' := fun W => hbe ▸ refBefore_any _ _ _ _ W
          clear hbe h0
          obtain ⟨f, hfe⟩ : ∃ f, firstN ps ids k = f := ⟨_, rfl⟩
          rw [hfe] at hf c3 c4 hcall ⊢
          clear hfe HBE
          have hneg : decide ((f : Int) < 0) = false := by simp
          go_wp2
          go_quiet ((go_at_call 29; first | exact quiet_add_left (hcall _) | exact quiet_left (hcall _)))
          go_wp2
          go_roundw
          case rel => exact ⟨k + 1, _, by omega, by go_num, HO.out, rfl⟩
          case measure => simp [intOf]; omega
    · obtain rfl : k = n := by omega
      by_cases hq : k < n1
      · have hr : ¬ k < n2 := by have := HN.out; omega
        go_wp2
        go_ret
        exact ⟨ret_int HV.out.symm, _, rfl⟩
      · go_wp2
        go_ret
        exact ⟨ret_int HV.out.symm, _, rfl⟩

end Go.Proofs.Ythlekdiflnapnaa
