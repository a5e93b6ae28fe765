import Derived.Test.YtggeakkofcaklaaGreatMg16
import Derived.Test.YtggeakkofcaklaaGreatMg17
namespace Go.Proofs.YtggeakkofcaklaaGreat
open Go.ChangeShapes Go.WideShapes Go.ChangeAt Go.RowKit Go.Shelf
set_option linter.unusedVariables false
attribute [local go_sem] Oper.semAt_some
theorem isOne_any (v k : Nat) (hv : v < 18446744073709551616) (hk : k < 64) (w : World) : Calls Tryz.prog 75 #[.int .u64 v, .int .i64 k] w fun e w' => e = .returned (.bool (decide (v / 2 ^ k % 2 = 1))) ∧ w = w' := by
  have h1 := u64_bit v k hv
  obtain ⟨r, hr⟩ : ∃ r, decide (v / 2 ^ k % 2 = 1) = r := ⟨_, rfl⟩
  rw [hr] at h1 ⊢
  clear hr
  go_enter Tryz.func75, Tryz.ntmps75
  go_wp2
  go_ret
  exact ⟨rfl, rfl⟩
def rtN (s : Rt) : Nat := s.c.toNat + (if s.y then 2147483648 else 0)
def rtV (v : Nat) : Rt := ⟨((v % 256 : Nat) : Int), decide (v / 2 ^ 31 % 2 = 1)⟩
theorem or_any (a : Nat) (h : a ≤ 255) : bits .or .u64 (a : Int) 2147483648 = ((a + 2147483648 : Nat) : Int) := by
  have e : ((2147483648 : Int)) = ((2 ^ 31 : Nat) : Int) := rfl
  rw [e, u64_or_nat _ _ (by omega) (by decide)]
  congr 1
  rw [Nat.or_comm, ← Nat.two_pow_add_eq_or_of_lt (i := 31) (by omega) 1]
  omega
set_option maxHeartbeats 1000000 in
theorem number_any (s : Rt) (h0 : 0 ≤ s.c) (h1 : s.c ≤ 255) (w : World) : Calls Tryz.prog 79 #[s.v] w fun e w' => e = .returned (.int .u64 (rtN s : Nat)) ∧ Below w.heap.size w w' := by
  obtain ⟨c, y⟩ := s
  dsimp only at h0 h1
  obtain ⟨a, rfl⟩ : ∃ a : Nat, c = a := ⟨c.toNat, by omega⟩
  have hw : IntKind.u64.wrap (a : Int) = a := by rw [IntKind.wrap_u64]; omega
  have ho := or_any a (by omega)
  cases y
  · simp only [rtN, Int.toNat_natCast, Bool.false_eq_true, if_false, Nat.add_zero, Rt.v]
    clear ho
    go_enter Tryz.func79, Tryz.ntmps79
    go_wp2
    go_ret
    exact ⟨rfl, bal w _⟩
  · simp only [rtN, Int.toNat_natCast, if_true, Rt.v]
    obtain ⟨r, hr⟩ : ∃ r, a + 2147483648 = r := ⟨_, rfl⟩
    rw [hr] at ho ⊢
    clear hr
    go_enter Tryz.func79, Tryz.ntmps79
    go_wp2
    go_ret
    exact ⟨rfl, bal w _⟩
theorem results_rt {fn : Func} {c : Tmp} (h : fn.results = #[.cell c 89]) (tmps : Array Value) (w : World) (b : Nat) (x : Rt) (hp : tmps.getD c undef = .pointer (some ⟨b, 0, none⟩)) (hb : CB w b 89 #[.int .i64 x.c, .bool x.y]) :
    (results fn tmps).run Tryz.prog w = .ok x.v w := by
  have hp' : tmps[c]?.getD undef = .pointer (some ⟨b, 0, none⟩) := by simpa using hp
  have c0 := hb.cell 0
  have c1 := hb.cell 1
  simp at c0 c1
  simp [results, h, go_sem, hp', c0, c1]
theorem and_255 (v : Nat) (hv : v < 18446744073709551616) : bits .and .u64 (v : Int) 255 = ((v % 256 : Nat) : Int) := by
  have e : (255 : Int) = ((255 : Nat) : Int) := rfl
  rw [e, u64_and_nat _ _ hv (by decide), show (255 : Nat) = 2 ^ 8 - 1 from rfl, Nat.and_two_pow_sub_one_eq_mod]
set_option maxHeartbeats 1000000 in
theorem route_any (v : Nat) (hv : v < 18446744073709551616) (w : World) : Calls Tryz.prog 43 #[.int .u64 v] w fun e w' => e = .returned (rtV v).v ∧ Below w.heap.size w w' := by
  have HO := hi (show ∀ W, Calls Tryz.prog 75 #[.int .u64 v, .int .i64 31] W fun e w' => e = .returned (.bool (decide (v / 2 ^ 31 % 2 = 1))) ∧ W = w' from fun W => isOne_any v 31 hv (by decide) W)
  have h1 := and_255 v hv
  have hw : IntKind.i64.wrap ((v % 256 : Nat) : Int) = ((v % 256 : Nat) : Int) := by rw [IntKind.wrap_i64]; omega
  unfold rtV
  obtain ⟨m, hm⟩ : ∃ m, v % 256 = m := ⟨_, rfl⟩
  obtain ⟨y, hy⟩ : ∃ y, decide (v / 2 ^ 31 % 2 = 1) = y := ⟨_, rfl⟩
  rw [hy] at HO ⊢
  rw [hm] at h1 hw ⊢
  clear hm hy
  dsimp only [Rt.v]
  go_enter Tryz.func43, Tryz.ntmps43
  go_wp2_with (go_at_call 75; ((with_reducible refine (HO.out _).mono ?_); rintro e w1 ⟨rfl, rfl⟩))
  exact bodyPost_ret (results_rt rfl _ _ w.heap.size ⟨m, y⟩ rfl (CB.new _ _ _)) rfl ⟨rfl, bal w _⟩
theorem awakeCo_any (x : Nat) (sl : Bool) (w : World) : Calls Tryz.prog 108 #[.agg #[.pointer (some ⟨x, 0, none⟩), .bool sl]] w fun e w' => e = .returned (.bool (!sl)) ∧ Below w.heap.size w w' := by
  go_enter Tryz.func108, Tryz.ntmps108
  go_wp2
  go_ret
  exact ⟨rfl, bal w _⟩
def firstFrom (D : Ds) : Nat → Nat → Int
  | 0, _ => -1
  | m + 1, k => if (D.nth k).sl then firstFrom D m (k + 1) else k
def firstV (D : Ds) : Int := firstFrom D D.cs.length 0
def targV (D : Ds) (s : Rt) : Int := if s.y then firstV D else if hasN D.cs.length s.c then s.c else -1
section
variable {w : World} {lo hi' : Nat} {b c : Nat → Nat} {D : Ds}
set_option maxHeartbeats 2000000 in
theorem index_any (h : DiAt w lo hi' b c D) (ok : D.Ok) :
    Calls Tryz.prog 107 #[.slice (some ⟨b 1, 0, none⟩) D.cs.length (c 0), .func (.func 108) #[] #[]] w fun e w' => e = .returned (.int .i64 (firstV D)) ∧ Below w.heap.size w w' := by
  have HA := hi (fun x sl W => awakeCo_any x sl W)
  have H0 := hi (And.intro h (Below.refl w.heap.size w))
  have n8 := ok.n8
  obtain ⟨n, hn⟩ : ∃ n, D.cs.length = n := ⟨_, rfl⟩
  have HN := hi hn
  rw [hn] at n8 ⊢
  have HF := hi (show firstFrom D (n - 0) 0 = firstV D by rw [firstV, hn, Nat.sub_zero])
  clear h hn ok
  go_enter Tryz.func107, Tryz.ntmps107
  go_wp2
  go_loopw [8] (fun i wr => ∃ k : Nat, k ≤ n ∧ i = .int .i64 k ∧ Hi ((DiAt wr lo hi' b c D ∧ Below w.heap.size w wr) ∧ firstFrom D (n - k) k = firstV D)) (fun i _ => n - (intOf i).toNat)
  case atStart => exact ⟨0, Nat.zero_le _, rfl, hi ⟨H0.out, HF.out⟩⟩
  case round =>
    obtain ⟨k, hk, rfl, HX⟩ := hrel
    clear H0 HF
    by_cases hlt : k < n
    · have p := HX.out.1.1.ptr (k := k) (by rw [HN.out]; exact hlt)
      have q := HX.out.1.1.slp (k := k) (by rw [HN.out]; exact hlt)
      have HS := hi (show firstFrom D (n - k) k = if (D.nth k).sl then firstFrom D (n - (k + 1)) (k + 1) else (k : Int) by rw [show n - k = (n - (k + 1)) + 1 by omega]; rfl)
      obtain ⟨sl, hs⟩ : ∃ sl, (D.nth k).sl = sl := ⟨_, rfl⟩
      obtain ⟨x, hx⟩ : ∃ x, b (4 + 2 * k) = x := ⟨_, rfl⟩
      rw [hs] at q HS
      rw [hx] at p
      clear hs hx
      cases sl
      · have HR := hi (HX.out.2.symm.trans (HS.out.trans (if_neg (by simp))))
        clear HS
        go_wp2_with (go_at_call 108; ((with_reducible refine (HA.out _ _ _).mono ?_); rintro e w1 ⟨rfl, hb⟩; have HB := hi hb; clear hb))
        go_ret
        exact ⟨by rw [HR.out]; rfl, HX.out.1.2.trans (HB.out.mono HX.out.1.2.size)⟩
      · have HR := hi ((HS.out.trans (if_pos rfl)).symm.trans HX.out.2)
        clear HS
        go_wp2_with (go_at_call 108; ((with_reducible refine (HA.out _ _ _).mono ?_); rintro e w1 ⟨rfl, hb⟩; have HB := hi hb; clear hb))
        go_roundw
        case rel => exact ⟨k + 1, by omega, by go_num, hi ⟨⟨HX.out.1.1.below HB.out, HX.out.1.2.trans (HB.out.mono HX.out.1.2.size)⟩, HR.out⟩⟩
        case measure => simp only [intOf]; omega
    · obtain rfl : k = n := by omega
      have HR := hi (show firstV D = -1 by rw [← HX.out.2, Nat.sub_self]; rfl)
      go_wp2
      go_ret
      exact ⟨by rw [HR.out]; rfl, HX.out.1.2⟩
set_option maxHeartbeats 1000000 in
theorem target_any (h : DiAt w lo hi' b c D) (ok : D.Ok) (s : Rt) :
    Calls Tryz.prog 69 #[.pointer (some ⟨b 0, 0, none⟩), s.v] w fun e w' => e = .returned (.int .i64 (targV D s)) ∧ Below w.heap.size w w' := by
  obtain ⟨x, y⟩ := s
  have hb := h.below (bal w (.cells #[.int .i64 x, .bool y] 89))
  have HI := hi (index_any hb ok)
  have HH := hi (hb.has x)
  have c2 := h.box.cell 2
  have hlt := h.box.lt
  obtain ⟨n, hn⟩ : ∃ n, D.cs.length = n := ⟨_, rfl⟩
  simp only [targV, hn]
  rw [hn] at c2 HI HH
  dsimp only [Rt.v]
  cases y
  · simp only [Bool.false_eq_true, if_false]
    obtain ⟨r, hr⟩ : ∃ r, hasN n x = r := ⟨_, rfl⟩
    rw [hr] at HH ⊢
    clear h hb ok hn hr HI
    cases r
    · simp only [Bool.false_eq_true, if_false]
      go_enter Tryz.func69, Tryz.ntmps69
      go_wp2_with (go_at_call 71; ((with_reducible refine HH.out.mono ?_); rintro e w1 ⟨rfl, rfl⟩))
      go_ret
      exact ⟨rfl, bal w _⟩
    · simp only [if_true]
      go_enter Tryz.func69, Tryz.ntmps69
      go_wp2_with (go_at_call 71; ((with_reducible refine HH.out.mono ?_); rintro e w1 ⟨rfl, rfl⟩))
      go_ret
      exact ⟨rfl, bal w _⟩
  · simp only [if_true]
    obtain ⟨r, hr⟩ : ∃ r, firstV D = r := ⟨_, rfl⟩
    rw [hr] at HI ⊢
    clear h hb ok hn hr HH
    go_enter Tryz.func69, Tryz.ntmps69
    go_wp2_with (go_at_call 107; ((with_reducible refine HI.out.mono ?_); rintro e w1 ⟨rfl, hb⟩; have HB := hi ((bal w _).trans (hb.mono (bal w _).size)); clear hb))
    go_ret
    exact ⟨rfl, HB.out⟩
theorem under_b2 : Tryz.prog.underlying 79 = some (.array 2 4) := by kernel_rfl
theorem info_b : (Tryz.prog.info? 4).map (·.size) = some 1 := by kernel_rfl
theorem run_index_two (x y v : Bool) (k : Int) (W : World) (h0 : 0 ≤ k) (h1 : k < 2) (hv : (#[Value.bool x, .bool y] : Array Value)[k.toNat]? = some (.bool v)) : (Instr.index 79 (.agg #[.bool x, .bool y]) (.int .i64 k)).run Tryz.prog W = .ok (.bool v) W := by
  have h2 : (0 : Int) ≤ k ∧ k < (2 : Nat) := by omega
  cases hq : Tryz.prog.info? 4 with
  | none => have := info_b; simp [hq] at this
  | some i =>
    have hs : i.size = 1 := by have := info_b; simpa [hq] using this
    have hv2 : [Value.bool x, Value.bool y][k.toNat]? = some (.bool v) := by simpa using hv
    simp [Instr.index, run_underlying under_b2, asIntOf, h2, go_sem, sizeOf, typeInfo, hq, hs]
    rw [if_pos h1, hv2]
    rfl
def ctlrN (D : Ds) : Nat := 80 + (if D.g0 then 1 else 0) + (if D.g1 then 2 else 0)
set_option maxRecDepth 100000 in
set_option maxHeartbeats 1000000 in
theorem ctlr_any (h : DiAt w lo hi' b c D) : Calls Tryz.prog 77 #[.pointer (some ⟨b 0, 0, none⟩)] w fun e w' => e = .returned (.int .u64 (ctlrN D : Nat)) ∧ w = w' := by
  have c0 := h.box.cell 0
  have c1 := h.box.cell 1
  unfold ctlrN
  obtain ⟨g0, hg0⟩ : ∃ g0, D.g0 = g0 := ⟨_, rfl⟩
  obtain ⟨g1, hg1⟩ : ∃ g1, D.g1 = g1 := ⟨_, rfl⟩
  rw [hg0] at c0 ⊢
  rw [hg1] at c1 ⊢
  clear h hg0 hg1
  have o1 : bits .or .u64 80 1 = 81 := by decide +kernel
  have o2 : bits .or .u64 80 2 = 82 := by decide +kernel
  have o3 : bits .or .u64 81 2 = 83 := by decide +kernel
  have i0 : ∀ (x y : Bool) W, (Instr.index 79 (.agg #[.bool x, .bool y]) (.int .i64 0)).run Tryz.prog W = .ok (.bool x) W := fun x y W => run_index_two x y x 0 W (by decide) (by decide) rfl
  have i1 : ∀ (x y : Bool) W, (Instr.index 79 (.agg #[.bool x, .bool y]) (.int .i64 1)).run Tryz.prog W = .ok (.bool y) W := fun x y W => run_index_two x y y 1 W (by decide) (by decide) rfl
  cases g0
  · cases g1
    · go_enter Tryz.func77, Tryz.ntmps77
      go_wp2
      go_loop [3, 10] (fun v i => (i = .int .i64 0 ∧ v = .int .u64 80) ∨ (i = .int .i64 1 ∧ v = .int .u64 80) ∨ (i = .int .i64 2 ∧ v = .int .u64 80)) (fun _ i => 2 - (intOf i).toNat)
      case atStart => exact .inl ⟨rfl, rfl⟩
      case round =>
        rcases hrel with ⟨rfl, rfl⟩ | ⟨rfl, rfl⟩ | ⟨rfl, rfl⟩
        · go_wp2
          go_round
          case rel => exact .inr (.inl ⟨by go_num, by go_num⟩)
          case measure => simp [intOf]
        · go_wp2
          go_round
          case rel => exact .inr (.inr ⟨by go_num, by go_num⟩)
          case measure => simp [intOf]
        · go_wp2
          go_ret
          exact ⟨rfl, rfl⟩
    · go_enter Tryz.func77, Tryz.ntmps77
      go_wp2
      go_loop [3, 10] (fun v i => (i = .int .i64 0 ∧ v = .int .u64 80) ∨ (i = .int .i64 1 ∧ v = .int .u64 80) ∨ (i = .int .i64 2 ∧ v = .int .u64 82)) (fun _ i => 2 - (intOf i).toNat)
      case atStart => exact .inl ⟨rfl, rfl⟩
      case round =>
        rcases hrel with ⟨rfl, rfl⟩ | ⟨rfl, rfl⟩ | ⟨rfl, rfl⟩
        · go_wp2
          go_round
          case rel => exact .inr (.inl ⟨by go_num, by go_num⟩)
          case measure => simp [intOf]
        · go_wp2
          go_round
          case rel => exact .inr (.inr ⟨by go_num, by go_num⟩)
          case measure => simp [intOf]
        · go_wp2
          go_ret
          exact ⟨rfl, rfl⟩
  · cases g1
    · go_enter Tryz.func77, Tryz.ntmps77
      go_wp2
      go_loop [3, 10] (fun v i => (i = .int .i64 0 ∧ v = .int .u64 80) ∨ (i = .int .i64 1 ∧ v = .int .u64 81) ∨ (i = .int .i64 2 ∧ v = .int .u64 81)) (fun _ i => 2 - (intOf i).toNat)
      case atStart => exact .inl ⟨rfl, rfl⟩
      case round =>
        rcases hrel with ⟨rfl, rfl⟩ | ⟨rfl, rfl⟩ | ⟨rfl, rfl⟩
        · go_wp2
          go_round
          case rel => exact .inr (.inl ⟨by go_num, by go_num⟩)
          case measure => simp [intOf]
        · go_wp2
          go_round
          case rel => exact .inr (.inr ⟨by go_num, by go_num⟩)
          case measure => simp [intOf]
        · go_wp2
          go_ret
          exact ⟨rfl, rfl⟩
    · go_enter Tryz.func77, Tryz.ntmps77
      go_wp2
      go_loop [3, 10] (fun v i => (i = .int .i64 0 ∧ v = .int .u64 80) ∨ (i = .int .i64 1 ∧ v = .int .u64 81) ∨ (i = .int .i64 2 ∧ v = .int .u64 83)) (fun _ i => 2 - (intOf i).toNat)
      case atStart => exact .inl ⟨rfl, rfl⟩
      case round =>
        rcases hrel with ⟨rfl, rfl⟩ | ⟨rfl, rfl⟩ | ⟨rfl, rfl⟩
        · go_wp2
          go_round
          case rel => exact .inr (.inl ⟨by go_num, by go_num⟩)
          case measure => simp [intOf]
        · go_wp2
          go_round
          case rel => exact .inr (.inr ⟨by go_num, by go_num⟩)
          case measure => simp [intOf]
        · go_wp2
          go_ret
          exact ⟨rfl, rfl⟩
end
end Go.Proofs.YtggeakkofcaklaaGreat
