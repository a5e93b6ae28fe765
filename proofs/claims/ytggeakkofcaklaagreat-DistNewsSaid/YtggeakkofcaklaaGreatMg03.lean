import Derived.Test.YtggeakkofcaklaaGreatMg02
import Derived.OwnWalkIn
import Derived.Deep.RegionHeld3
import Derived.RangeFuncCalls
import Derived.Test.YtggeakkofcaklaaGreatMg01
namespace Go.Proofs.YtggeakkofcaklaaGreat
open Go.ChangeShapes Go.WideShapes Go.ChangeAt Go.RowKit
set_option linter.unusedVariables false
theorem add_bit {a j t : Nat} (e : t = a + 2 ^ j) (h : t < 18446744073709551616) (hj : j < 64) : IntKind.u64.wrap ((a : Int) + IntKind.u64.wrap ((2 : Int) ^ j)) = (t : Int) := by
  subst e
  have h1 : (2 : Nat) ^ j < 2 ^ 64 := Nat.pow_lt_pow_right (by decide) hj
  rw [pow_int]
  revert h h1
  generalize (2 : Nat) ^ j = q
  intro h h1
  rw [IntKind.wrap_u64, IntKind.wrap_u64]
  omega
theorem sub_bit {a j : Nat} (h : 2 ^ j ≤ a) (ha : a < 18446744073709551616) : IntKind.u64.wrap ((a : Int) - IntKind.u64.wrap ((2 : Int) ^ j)) = ((a - 2 ^ j : Nat) : Int) := by
  rw [pow_int]
  revert h
  generalize (2 : Nat) ^ j = q
  intro h
  rw [IntKind.wrap_u64, IntKind.wrap_u64]
  omega
theorem withTo_t {n v k x j : Nat} (hj : n * k + j < 64) (hv : v.testBit (n * k + j) = true) (hx : x.testBit j = false) : withTo n v k x (j + 1) = withTo n v k x j - 2 ^ (n * k + j) ∧ 2 ^ (n * k + j) ≤ withTo n v k x j := by
  have := withTo_step n v k x j hj
  rw [hv, hx, if_pos rfl, if_neg (by simp)] at this
  omega
theorem withTo_f {n v k x j : Nat} (hj : n * k + j < 64) (hv : v.testBit (n * k + j) = false) (hx : x.testBit j = true) : withTo n v k x (j + 1) = withTo n v k x j + 2 ^ (n * k + j) := by
  have := withTo_step n v k x j hj
  rw [hv, hx, if_pos rfl, if_neg (by simp)] at this
  omega
theorem withTo_s {n v k x j : Nat} (hj : n * k + j < 64) (h : v.testBit (n * k + j) = x.testBit j) : withTo n v k x (j + 1) = withTo n v k x j := by
  have := withTo_step n v k x j hj
  rw [h] at this
  omega
set_option maxRecDepth 10000 in
set_option maxHeartbeats 8000000 in
theorem rwith_any (v : Nat) (p : Pl) (k x : Nat) (w : World) (hv : v < 18446744073709551616) (hx : x < 18446744073709551616) (hk : k < 64) (hc : (k : Int) < p.c) :
    Calls Tryz.prog 132 #[.int .u64 v, p.v, .int .i64 k, .int .u64 x] w fun e w' => e = .returned (.int .u64 (withN (wideN p.r) v k x : Nat)) ∧ Below w.heap.size w w' := by
  have H := hi (fun W => rwide_any p.r W)
  obtain ⟨h1, h2⟩ := wide_pos p.r
  obtain ⟨n, hn⟩ : ∃ n, wideN p.r = n := ⟨_, rfl⟩
  rw [hn] at H h1 h2 ⊢
  have hm := mul_le63 hk h2
  rw [Nat.mul_comm] at hm
  have hw0 : IntKind.i64.wrap ((n : Int) * (k : Int)) = ((n * k : Nat) : Int) := by rw [← Int.natCast_mul, IntKind.wrap_i64]; omega
  have HT := hi (fun j hj hv hx => withTo_t (n := n) (v := v) (k := k) (x := x) (j := j) hj hv hx)
  have HF := hi (fun j hj hv hx => withTo_f (n := n) (v := v) (k := k) (x := x) (j := j) hj hv hx)
  have HS := hi (fun j hj h => withTo_s (n := n) (v := v) (k := k) (x := x) (j := j) hj h)
  have HO := hi (fun j hj => withTo_over n v k x j hj)
  have HA := hi (fun j hj => withTo_at n v k x j hj)
  have HL := hi (fun j => withTo_lt n v k x j)
  have H0 := hi (withTo_zero n k x hv)
  have HE := hi (withTo_all n v k x)
  obtain ⟨U, hU⟩ : ∃ U, withTo n v k x = U := ⟨_, rfl⟩
  simp only [hU] at HT HF HS HO HA HL H0 HE
  obtain ⟨z, hz⟩ : ∃ z, withN n v k x = z := ⟨_, rfl⟩
  rw [hz] at HE ⊢
  obtain ⟨m, hm'⟩ : ∃ m, n * k = m := ⟨_, rfl⟩
  rw [hm'] at hm hw0 HT HF HS HO HA
  clear hm' hn hz hU
  obtain ⟨r, f, c⟩ := p
  dsimp only at hc H
  dsimp only [Pl.v]
  go_enter Tryz.func132, Tryz.ntmps132
  go_wp2_with (go_at_call 142; ((with_reducible refine (H.out _).mono ?_); rintro e w1 ⟨rfl, rfl⟩))
  go_loop [10, 11] (fun o i => ∃ j : Nat, j ≤ n ∧ i = .int .i64 j ∧ o = .int .u64 (U j : Nat)) (fun _ i => n - (intOf i).toNat)
  case atStart => exact ⟨0, Nat.zero_le _, rfl, by rw [H0.out]⟩
  case round =>
    obtain ⟨j, hj, rfl, rfl⟩ := hrel
    by_cases hlt : j < n
    · obtain ⟨a, ha⟩ : ∃ a, m + j = a := ⟨_, rfl⟩
      have hwa : IntKind.i64.wrap ((m : Int) + (j : Int)) = (a : Int) := by rw [IntKind.wrap_i64]; omega
      by_cases ha64 : a < 64
      · have hb := and_one (U j) a (HL.out j)
        have hat := HA.out j (by omega)
        rw [ha] at hat
        rw [hat] at hb
        have hbx := and_one x j hx
        have hT := HT.out j (by omega)
        have hF := HF.out j (by omega)
        have hS := HS.out j (by omega)
        have hlj := HL.out j
        have hl1 := HL.out (j + 1)
        rw [ha] at hT hF hS
        obtain ⟨s0, hs⟩ : ∃ s, U j = s := ⟨_, rfl⟩
        rw [hs] at hb hT hF hS hlj ⊢
        clear hat
        cases hv1 : v.testBit a
        · rw [hv1] at hb
          cases hx1 : x.testBit j
          · have HH := hi (hS (by rw [hv1, hx1]))
            rw [hx1] at hbx
            clear hT hF hS hs ha hv1 hx1 hlj hl1
            simp only [Bool.false_eq_true, if_false, Int.cast_ofNat_Int] at hb hbx
            go_wp2
            go_round
            case rel => exact ⟨j + 1, by omega, by go_num, by rw [HH.out]⟩
            case measure => simp only [intOf]; omega
          · have hadd := add_bit (hF hv1 hx1) hl1 ha64
            obtain ⟨t, ht⟩ : ∃ t, U (j + 1) = t := ⟨_, rfl⟩
            rw [ht] at hadd
            have HH := hi ht
            rw [hx1] at hbx
            clear ht hT hF hS hs ha hv1 hx1 hlj hl1
            simp only [Bool.false_eq_true, if_false, if_true, Int.cast_ofNat_Int] at hb hbx
            go_wp2
            go_round
            case rel => exact ⟨j + 1, by omega, by go_num, by rw [HH.out]⟩
            case measure => simp only [intOf]; omega
        · rw [hv1] at hb
          cases hx1 : x.testBit j
          · have HH := hi (hT hv1 hx1).1
            have hsub := sub_bit (a := s0) (j := a) (hT hv1 hx1).2 hlj
            rw [hx1] at hbx
            clear hT hF hS hs ha hv1 hx1 hlj hl1
            simp only [Bool.false_eq_true, if_false, if_true, Int.cast_ofNat_Int] at hb hbx
            go_wp2
            go_round
            case rel => exact ⟨j + 1, by omega, by go_num, by rw [HH.out]⟩
            case measure => simp only [intOf]; omega
          · have HH := hi (hS (by rw [hv1, hx1]))
            rw [hx1] at hbx
            clear hT hF hS hs ha hv1 hx1 hlj hl1
            simp only [if_true, Int.cast_ofNat_Int] at hb hbx
            go_wp2
            go_round
            case rel => exact ⟨j + 1, by omega, by go_num, by rw [HH.out]⟩
            case measure => simp only [intOf]; omega
      · have HH := hi (HO.out j (by omega))
        clear ha
        go_wp2
        go_round
        case rel => exact ⟨j + 1, by omega, by go_num, by rw [HH.out]⟩
        case measure => simp only [intOf]; omega
    · obtain rfl : j = n := by omega
      go_wp2
      go_ret
      exact ⟨by rw [HE.out]; rfl, bal w _⟩
end Go.Proofs.YtggeakkofcaklaaGreat
namespace Go.Proofs.YtggeakkofcaklaaGreat
open Go.ChangeShapes Go.WideShapes Go.ChangeAt Go.RowKit
set_option linter.unusedVariables false
def plainOp (o : Oper) : Bool := match o.op with
  | .defer _ => false
  | _ => true
theorem plainOp_out {o : Oper} (h : plainOp o = true) : ∀ c, o.op ≠ .defer c := fun c e => by simp [plainOp, e] at h
section
variable {F : Fence} {n : Nat} {P : Program} {ops : Array Oper} {md : Region.Mode} {C : World → Prop}
def NormQ (R : Act → World → Prop) : Exit → Act → World → Prop
  | .normal, a, w => R a w
  | _, _, _ => False
theorem normQ_in {Q : Exit → Act → World → Prop} {a : Act} {w : World} (h : Q .normal a w) : NormQ (fun a w => Q .normal a w) .normal a w := h
theorem normQ_out {R : Act → World → Prop} : ¬ LetsOut (NormQ R) := fun ⟨_, _, h⟩ => h
theorem rows_r (l : Nat) {row : String} {args : Array Value} {w : World} {R : Value → World → Prop} (h : Rows P row args w R) : RowsIn (Fence.wide.inRound l) n P row args w R := fun c cs _ => let ⟨v, w', r, s⟩ := h c cs; ⟨v, w', r, stepsIn_wide.2 s⟩
theorem wpOpIn_of_op {l : Nat} {Q : Exit → Act → World → Prop} {R : Act → World → Prop} (hnd : ∀ (j : Nat) (o : Oper), ops[j]? = some o → plainOp o = true) {i : Nat} {a : Act} {w : World} {K K' : Act → World → Prop} (hK : ∀ a w, K a w → K' a w)
    (h : wpOp P ops (NormQ R) i K a w) : wpOpIn (Fence.wide.inRound l) n P ops Q i K' a w := by
  unfold wpOp at h
  unfold wpOpIn
  split
  · rename_i ho; simp only [ho] at h; exact hK _ _ h
  · rename_i o ho
    simp only [ho] at h
    split
    · rename_i hw
      simp only [hw, if_true] at h
      rcases h with h | h
      · unfold Oper.wp at h
        unfold Oper.wpIn
        refine ⟨fun _ _ => trivial, ?_⟩
        rw [Oper.semAt_plain _ _ _ (plainOp_out (hnd i o ho))]
        generalize (execOp a.eval o).run P w = r at *
        cases r with
        | ok x w' =>
          cases x <;> simp only [Oper.upon] at h <;> simp only [Oper.uponIn]
          case value u => exact hK _ _ h
          case skip => exact hK _ _ h
          case defer d => exact hK _ _ h
          case enter f args => exact ⟨fun hd => by simp [Fence.inRound, Fence.wide] at hd, CallsIn.inRound l (callsIn_wide.2 (h.mono fun e w'' he => by
            cases e with
            | returned v => exact hK _ _ he
            | panicked c => exact he.elim
            | outgrown => exact (normQ_out he).elim))⟩
          case row row args => exact ⟨fun hd => by simp [Fence.inRound, Fence.wide] at hd, rows_r l (h.mono fun _ _ he => hK _ _ he)⟩
        | halt x w' => cases x <;> simp only [Oper.upon] at h <;> exact h.elim
      · exact (normQ_out h.2).elim
    · rename_i hw
      simp only [hw] at h
      exact ⟨fun _ _ => trivial, hK _ _ h⟩
theorem wpAnyIn_of_any {l : Nat} {Q : Exit → Act → World → Prop} {R : Act → World → Prop} (hnd : ∀ (j : Nat) (o : Oper), ops[j]? = some o → plainOp o = true) (hR : ∀ a w, R a w → Q .normal a w) : ∀ (fuel : Nat) (listed : Array Bool) (a : Act) (w : World),
    wpAny P md ops (NormQ R) fuel listed a w → wpAnyIn (Fence.wide.inRound l) n P md ops Q fuel listed a w
  | 0, _, _, _, h => ⟨h.1, hR _ _ h.2⟩
  | fuel + 1, _, _, _, h => ⟨fun h0 => hR _ _ (h.1 h0), fun i hi => wpOpIn_of_op hnd (fun a' w' => wpAnyIn_of_any hnd hR fuel _ a' w') (h.2 i hi)⟩
end
end Go.Proofs.YtggeakkofcaklaaGreat
namespace Go.Proofs.YtggeakkofcaklaaGreat
open Go.ChangeShapes Go.WideShapes Go.ChangeAt Go.RowKit
set_option linter.unusedVariables false
def lateB (md : Region.Mode) (ops : Array Oper) (late : List Nat) : Bool :=
  late.all fun f => match ops[f]? with
    | none => true
    | some o => (List.range ops.size).all fun j => late.contains j || o.after.any fun e => e.on == j && Region.binds md e
section
variable {P : Program} {ops : Array Oper} {Q : Exit → Act → World → Prop} {md : Region.Mode} {S : World → Prop} {late : List Nat}
theorem late_at (h : lateB md ops late = true) {listed : Array Bool} {f i : Nat} (hf : late.contains f = true) (hr : f ∈ Region.ready md ops listed) (hi : i < ops.size) (hn : late.contains i = false) : listed.getD i false = true := by
  obtain ⟨_, o, ho, hall⟩ := mem_ready.1 hr
  have h1 := List.all_eq_true.1 h f (by simpa using hf)
  simp only [ho] at h1
  have h2 := List.all_eq_true.1 h1 i (by simpa using hi)
  rw [hn, Bool.false_or] at h2
  rw [Array.any_eq_true'] at h2
  obtain ⟨e, he, h3⟩ := h2
  rw [Bool.and_eq_true, beq_iff_eq] at h3
  rw [← h3.1]
  exact hall e he h3.2
def wpAnyF (P : Program) (md : Region.Mode) (ops : Array Oper) (Q : Exit → Act → World → Prop) (S : World → Prop) (late : List Nat) : Nat → Array Bool → Act → World → Prop
  | 0, listed, a, w => Region.ready md ops listed = [] ∧ Q .normal a w
  | fuel + 1, listed, a, w =>
    (Region.ready md ops listed = [] → Q .normal a w) ∧
    ∀ i ∈ Region.ready md ops listed, wpOp P ops Q i (fun a' w' => (late.contains i = false → S w') ∧ wpAnyF P md ops Q S late fuel (listed.setIfInBounds i true) a' w') a w
theorem wpAny_of_last : ∀ (fuel : Nat) (listed : Array Bool) (a : Act) (w : World), wpAnyF P md ops Q S late fuel listed a w → wpAny P md ops Q fuel listed a w
  | 0, _, _, _, h => h
  | fuel + 1, _, _, _, h => ⟨h.1, fun i hi => wpOp_mono (fun a' w' h' => wpAny_of_last fuel _ a' w' h'.2) (h.2 i hi)⟩
theorem wpAnyF_first {i : Nat} {oi : Oper} {v : Value} (hlate : lateB md ops late = true) (hil : late.contains i = false) (hi : ops[i]? = some oi) (hsel : ∀ (j : Nat) (o : Oper) cs b, ops[j]? = some o → o.op ≠ .select cs b)
    (hQ : ∀ c a w, Q (.panic c) (a.put oi.dst v) w → Q (.panic c) a w) :
    ∀ (fuel : Nat) (listed : Array Bool) (a : Act) (w : World),
      (∀ j oj, ops[j]? = some oj → j ≠ i → listed.getD j true = false → (∀ e ∈ oj.after, Region.binds md e = true → e.on ≠ i) → oi.apart ops oj = true) →
      i ∈ Region.ready md ops listed → YieldsIf P ops S oi v a → S w →
      wpAnyF P md ops Q S late fuel (listed.setIfInBounds i true) (a.put oi.dst v) w → wpAnyF P md ops Q S late (fuel + 1) listed a w := by
  intro fuel
  induction fuel with
  | zero =>
    intro listed a w _ hr hy hS H
    refine ⟨fun h => (by rw [h] at hr; cases hr), fun j hj => ?_⟩
    by_cases hji : j = i
    · subst hji; exact hy.wpOp hi hS ⟨fun _ => hS, H⟩
    · have := ready_mono hj hji
      rw [H.1] at this
      cases this
  | succ fuel ih =>
    intro listed a w hfree hr hy hS H
    refine ⟨fun h => (by rw [h] at hr; cases hr), fun j hj => ?_⟩
    by_cases hji : j = i
    · subst hji; exact hy.wpOp hi hS ⟨fun _ => hS, H⟩
    · have h1 := H.2 j (ready_mono hj hji)
      have hir := mem_ready.1 hr
      have hisz : i < ops.size := (Array.getElem?_eq_some_iff.1 hi).1
      have hjl : late.contains j = false := by
        cases hc : late.contains j
        · rfl
        · have h9 := late_at hlate hc hj hisz hil
          have h0 := hir.1
          rcases Nat.lt_or_ge i listed.size with h' | h'
          · simp [h'] at h0 h9; rw [h0] at h9; cases h9
          · simp [Array.getElem?_eq_none h'] at h9
      obtain ⟨hjun, oj, hoj, hall⟩ := mem_ready.1 hj
      have hnot : ∀ e ∈ oj.after, Region.binds md e = true → e.on ≠ i := fun e he hb heq => by
        have h1 := hall e he hb
        have h0 := hir.1
        rw [heq] at h1
        rcases Nat.lt_or_ge i listed.size with h' | h'
        · simp [h'] at h0 h1; rw [h0] at h1; cases h1
        · simp [Array.getElem?_eq_none h'] at h1
      have h2 := wpOp_putIf hoj (hfree j oj hoj hji hjun hnot) (fun cs b => hsel i oi cs b hi) (fun cs b => hsel j oj cs b hoj) hQ hy h1
      have hfree' : ∀ k ok, ops[k]? = some ok → k ≠ i → (listed.setIfInBounds j true).getD k true = false →
          (∀ e ∈ ok.after, Region.binds md e = true → e.on ≠ i) → oi.apart ops ok = true := fun k ok hk hki hun hno => by
        refine hfree k ok hk hki ?_ hno
        by_cases hjk : j = k
        · subst hjk; exact hjun
        · rw [getD_set_ne true hjk] at hun; exact hun
      refine wpOp_mono (fun a' w' h3 => ⟨h3.2.1, ih (listed.setIfInBounds j true) a' w' hfree' (ready_mono hr (Ne.symm hji)) h3.1 (h3.2.1 hjl) ?_⟩) h2
      rw [Array.setIfInBounds_comm _ _ hji]
      exact h3.2.2
theorem wpAnyF_take {i : Nat} {oi : Oper} {v : Value} {fuel : Nat} {listed : Array Bool} {a : Act} {w : World} (hlate : lateB md ops late = true) (hil : late.contains i = false) (hi : ops[i]? = some oi)
    (hs : Region.noSelect ops = true) (hf : Region.free md ops listed i = true) (hr : (Region.ready md ops listed).contains i = true)
    (hQ : ∀ c a w, Q (.panic c) (a.put oi.dst v) w → Q (.panic c) a w) (hy : YieldsIf P ops S oi v a) (hS : S w)
    (h : wpAnyF P md ops Q S late fuel (listed.setIfInBounds i true) (a.put oi.dst v) w) : wpAnyF P md ops Q S late (fuel + 1) listed a w :=
  wpAnyF_first hlate hil hi (Region.noSelect_spec hs) hQ fuel listed a w (Region.free_spec hi hf) (by simpa using hr) hy hS h
theorem wpAnyF_done {listed : Array Bool} {a : Act} {w : World} (hr : Region.ready md ops listed = []) (h : Q .normal a w) : ∀ fuel, wpAnyF P md ops Q S late fuel listed a w
  | 0 => ⟨hr, h⟩
  | _ + 1 => ⟨fun _ => h, by rw [hr]; simp⟩
def AllReadyF (P : Program) (md : Region.Mode) (ops : Array Oper) (Q : Exit → Act → World → Prop) (S : World → Prop) (late : List Nat) (fuel : Nat) (listed : Array Bool) (a : Act) (w : World) (rs : List Nat) : Prop :=
  ∀ i ∈ rs, wpOp P ops Q i (fun a' w' => (late.contains i = false → S w') ∧ wpAnyF P md ops Q S late fuel (listed.setIfInBounds i true) a' w') a w
theorem AllReadyF.nil {fuel : Nat} {listed : Array Bool} {a : Act} {w : World} : AllReadyF P md ops Q S late fuel listed a w [] := fun _ h => by cases h
theorem AllReadyF.cons {fuel : Nat} {listed : Array Bool} {a : Act} {w : World} {i : Nat} {o : Oper} {rs : List Nat} (ho : ops[i]? = some o)
    (h : ∀ K' : Act → World → Prop, Shut (∀ a w, S w → (S w → wpAnyF P md ops Q S late fuel (listed.setIfInBounds i true) a w) → K' a w) → if Region.wanted o (yielded ops a.tmps) = true then Oper.wp P o a w K' Q else K' (a.put o.dst undef) w)
    (hs : AllReadyF P md ops Q S late fuel listed a w rs) : AllReadyF P md ops Q S late fuel listed a w (i :: rs) := fun j hj => by
  rcases List.mem_cons.1 hj with rfl | hj
  · exact wpOp_step ho (fun K' hK => h K' (fun a w hS hW => hK a w ⟨fun _ => hS, hW hS⟩))
  · exact hs j hj
theorem AllReadyF.last {fuel : Nat} {listed : Array Bool} {a : Act} {w : World} {i : Nat} {o : Oper} {rs : List Nat} (hl : late.contains i = true) (ho : ops[i]? = some o)
    (h : ∀ K' : Act → World → Prop, Shut (∀ a w, wpAnyF P md ops Q S late fuel (listed.setIfInBounds i true) a w → K' a w) → if Region.wanted o (yielded ops a.tmps) = true then Oper.wp P o a w K' Q else K' (a.put o.dst undef) w)
    (hs : AllReadyF P md ops Q S late fuel listed a w rs) : AllReadyF P md ops Q S late fuel listed a w (i :: rs) := fun j hj => by
  rcases List.mem_cons.1 hj with rfl | hj
  · exact wpOp_step ho (fun K' hK => h K' (fun a w hW => hK a w ⟨fun e => (by rw [hl] at e; cases e), hW⟩))
  · exact hs j hj
theorem wpAnyF_ready {rs : List Nat} {fuel : Nat} {listed : Array Bool} {a : Act} {w : World} (hr : Region.ready md ops listed = rs) (hne : rs ≠ []) (h : AllReadyF P md ops Q S late fuel listed a w rs) : wpAnyF P md ops Q S late (fuel + 1) listed a w :=
  ⟨fun h0 => absurd (hr ▸ h0) hne, hr ▸ h⟩
theorem wp_region_last_drew {id : Nat} {a : Act} {w : World} (late : List Nat) (hm : P.follows .mixedOrders = true) (hS : S w.drew) (h : S w.drew → wpAnyF P .any ops Q S late ops.size (Array.replicate ops.size false) a w.drew) : (Code.region id ops true).wp P Q a w :=
  wp_region_any hm (wpAny_of_last _ _ _ _ (h hS))
end
theorem region_last_r {n : Nat} {P : Program} {l : Nat} {id : Nat} {Q : Exit → Act → World → Prop} {S : World → Prop} {a : Act} {w : World} {os : List Oper} (late : List Nat) (hm : P.follows .mixedOrders = true) (hnd : os.all plainOp = true) (hS : S w.drew)
    (h : S w.drew → wpAnyF P .any os.toArray (NormQ fun a w => Q .normal a w) S late os.toArray.size (Array.replicate os.toArray.size false) a w.drew) : (Code.region id os.toArray true).wpIn (Fence.wide.inRound l) n P Q a w :=
  wpIn_region_any hm (wpAnyIn_of_any (fun j o ho => List.all_eq_true.1 hnd o (List.mem_of_getElem? (by simpa using ho))) (fun _ _ h => h) _ _ _ _ (wpAny_of_last _ _ _ _ (h hS)))
end Go.Proofs.YtggeakkofcaklaaGreat
namespace Go.Proofs.YtggeakkofcaklaaGreat
open Go.ChangeShapes Go.WideShapes Go.ChangeAt Go.RowKit
set_option linter.unusedVariables false
def En.zero : En := ⟨Ln.zero, Rt.zero⟩
abbrev En.ca (x : En) : Array Value := #[.bool x.ln.st.e, .bool x.ln.st.l, .bool x.ln.st.h, .bool x.ln.st.a, .bool x.ln.en, .int .i64 x.ln.g, .int .i64 x.ln.p, .int .i64 x.s.c, .bool x.s.y]
theorem results_ent {fn : Func} {c t : Tmp} (h : fn.results = #[.cell c 115, .tmp t]) (tmps : Array Value) (w : World) (b : Nat) (x : En) (v : Value) (hp : tmps.getD c undef = .pointer (some ⟨b, 0, none⟩)) (ht : tmps.getD t undef = v)
    (hb : CB w b 115 x.ca) : (results fn tmps).run Tryz.prog w = .ok (.tuple #[x.v, v]) w := by
  have hp' : tmps[c]?.getD undef = .pointer (some ⟨b, 0, none⟩) := by simpa using hp
  have ht' : tmps[t]?.getD undef = v := by simpa using ht
  have c0 := hb.cell 0
  have c1 := hb.cell 1
  have c2 := hb.cell 2
  have c3 := hb.cell 3
  have c4 := hb.cell 4
  have c5 := hb.cell 5
  have c6 := hb.cell 6
  have c7 := hb.cell 7
  have c8 := hb.cell 8
  simp at c0 c1 c2 c3 c4 c5 c6 c7 c8
  simp [results, h, go_sem, hp', ht', c0, c1, c2, c3, c4, c5, c6, c7, c8]
abbrev setE (W : World) (B o : Nat) (x : En) : World := ((((((((W.setCell ⟨B, o, none⟩ (.bool x.ln.st.e)).setCell ⟨B, o + 1, none⟩ (.bool x.ln.st.l)).setCell ⟨B, o + 2, none⟩ (.bool x.ln.st.h)).setCell ⟨B, o + 3, none⟩ (.bool x.ln.st.a)).setCell ⟨B, o + 4, none⟩ (.bool x.ln.en)).setCell ⟨B, o + 5, none⟩ (.int .i64 x.ln.g)).setCell ⟨B, o + 6, none⟩ (.int .i64 x.ln.p)).setCell ⟨B, o + 7, none⟩ (.int .i64 x.s.c)).setCell ⟨B, o + 8, none⟩ (.bool x.s.y)
theorem CB.put9 {W : World} {B : Nat} {t : TypeId} {a0 a1 a2 a3 a4 a5 a6 a7 a8 : Value} (h : CB W B t #[a0, a1, a2, a3, a4, a5, a6, a7, a8]) (v0 v1 v2 v3 v4 v5 v6 v7 v8 : Value) :
    CB (((((((((W.setCell ⟨B, 0, none⟩ v0).setCell ⟨B, 1, none⟩ v1).setCell ⟨B, 2, none⟩ v2).setCell ⟨B, 3, none⟩ v3).setCell ⟨B, 4, none⟩ v4).setCell ⟨B, 5, none⟩ v5).setCell ⟨B, 6, none⟩ v6).setCell ⟨B, 7, none⟩ v7).setCell ⟨B, 8, none⟩ v8) B t #[v0, v1, v2, v3, v4, v5, v6, v7, v8] := by
  have := (((((((((h.set 0 v0).set 1 v1).set 2 v2).set 3 v3).set 4 v4).set 5 v5).set 6 v6).set 7 v7).set 8 v8)
  simpa only [List.setIfInBounds_toArray, List.set_cons_zero, List.set_cons_succ] using this
theorem CB.putE {W : World} {B : Nat} {t : TypeId} {y : En} (h : CB W B t y.ca) (x : En) : CB (setE W B 0 x) B t x.ca := h.put9 _ _ _ _ _ _ _ _ _
theorem below_putE {n : Nat} {w W : World} (h : Below n w W) {B o : Nat} (hb : n ≤ B) (x : En) : Below n w (setE W B o x) :=
  below_set (below_set (below_set (below_set (below_set (below_set (below_set (below_set (below_set h hb _) hb _) hb _) hb _) hb _) hb _) hb _) hb _) hb _
theorem CB.drewN {W : World} {B : Nat} {t : TypeId} {cs : Array Value} (h : CB W B t cs) (m : Nat) : CB (W.drewN m) B t cs := h
set_option maxHeartbeats 1000000 in
theorem get_no {b g cap : Nat} {f : Int} {es : List En} {id : Int} {w : World} (h : BkAt w b g cap f es) (hf : Fit f es.length) (hi' : Int64 id) (hn : hasB f es.length id = false) :
    Calls Tryz.prog 68 #[.pointer (some ⟨b, 0, none⟩), .int .i64 id] w fun e w' => e = .returned (.tuple #[En.zero.v, .int .i64 90]) ∧ Below w.heap.size w w' := by
  have HC := hi (fun W (hW : Below w.heap.size w W) => has_any (h.below hW) hf hi')
  rw [hn] at HC
  clear h hf hi' hn
  go_enter Tryz.func68, Tryz.ntmps68
  go_wp2_with (go_at_call 81; ((with_reducible refine (HC.out _ (bal _ _)).mono ?_); rintro e w1 ⟨rfl, m, rfl⟩))
  exact bodyPost_ret (results_ent rfl _ _ w.heap.size En.zero _ rfl rfl (CB.putE (y := En.zero) (CB.drewN (CB.new _ _ _) _) En.zero)) rfl ⟨rfl, below_putE (Below.drewN (bal w _)) (Nat.le_refl _) En.zero⟩
set_option maxHeartbeats 1000000 in
theorem get_yes {b g cap k : Nat} {f : Int} {es : List En} {x : En} {w : World} (h : BkAt w b g cap f es) (hf : Fit f es.length) (hk : es[k]? = some x) :
    Calls Tryz.prog 68 #[.pointer (some ⟨b, 0, none⟩), .int .i64 (f + k)] w fun e w' => e = .returned (.tuple #[x.v, .int .i64 0]) ∧ Below w.heap.size w w' := by
  have hkl : k < es.length := (List.getElem?_eq_some_iff.1 hk).1
  have h64 : Int64 (f + k) := by have := hf.f0; have := hf.s1; constructor <;> omega
  have HC := hi (fun W (hW : Below w.heap.size w W) => has_any (h.below hW) hf h64)
  rw [show hasB f es.length (f + k) = true by rw [hasB_iff]; omega] at HC
  have hw : IntKind.i64.wrap (f + k - f) = k := by rw [IntKind.wrap_i64]; have := hf.n1; omega
  have c0 := h.box.cell 0
  have c1 := h.box.cell 1
  obtain ⟨e0, e1, e2, e3, e4, e5, e6, e7, e8⟩ := h.row.ent hk
  obtain ⟨n, hn⟩ : ∃ n, es.length = n := ⟨_, rfl⟩
  rw [hn] at c1 hkl
  have hbl := h.box.lt
  have hgl := h.row.lt
  clear h hf hn h64
  obtain ⟨⟨⟨e, l, q, a⟩, en, gr, p⟩, s⟩ := x
  dsimp only at e0 e1 e2 e3 e4 e5 e6 e7 e8
  go_enter Tryz.func68, Tryz.ntmps68
  go_wp2_with (go_at_call 81; ((with_reducible refine (HC.out _ (bal _ _)).mono ?_); rintro e w1 ⟨rfl, m, rfl⟩))
  go_region
  go_wp2
  exact bodyPost_ret (results_ent rfl _ _ w.heap.size ⟨⟨⟨e, l, q, a⟩, en, gr, p⟩, s⟩ _ rfl rfl (CB.putE (y := En.zero) (CB.drewN (CB.new _ _ _) _) ⟨⟨⟨e, l, q, a⟩, en, gr, p⟩, s⟩)) rfl ⟨rfl, below_putE (Below.drewN (bal w _)) (Nat.le_refl _) ⟨⟨⟨e, l, q, a⟩, en, gr, p⟩, s⟩⟩
end Go.Proofs.YtggeakkofcaklaaGreat
