/-
  Through: the first of the best that the interface can receive.
-/
import Derived.Test.YtnfbljadhhcclaaCpH
import Derived.Test.YtnfbljadhhcclaaCpfOpen
namespace Go.Proofs.Ytnfbljadhhcclaa
open Go.ChangeShapes Go.WideShapes Go.ChangeAt Go.RowKit Go.Shelf
set_option linter.unusedVariables false
attribute [local go_sem] Oper.semAt_some

/-! ### Plain -/
def pickB (x : Fc) (a c : Cd) : Bool := mayV x c && (!a.is || beforeB c.p c.id a.p a.id)
def thrV (x : Fc) (cs : List Cd) : Cd := cs.foldl (fun a c => if pickB x a c then c else a) Cd.zero
theorem take_nthA {xs : List Cd} {k : Nat} (h : k < xs.length) : xs.take (k + 1) = xs.take k ++ [nthA xs k] := by
  rw [List.take_add_one, List.getElem?_eq_getElem h]
  simp [nthA, List.getElem?_eq_getElem h]
theorem thrV_next {x : Fc} {xs : List Cd} {k : Nat} (h : k < xs.length) : thrV x (xs.take (k + 1)) = if pickB x (thrV x (xs.take k)) (nthA xs k) then nthA xs k else thrV x (xs.take k) := by
  rw [take_nthA h]
  unfold thrV
  rw [List.foldl_append]
  rfl
theorem thrV_zero (x : Fc) (xs : List Cd) : thrV x (xs.take 0) = Cd.zero := by simp [thrV]
structure ThW (w : World) (x : Fc) (a : Cd) (W : World) : Prop where
  below : Below w.heap.size w W
  f : CB W w.heap.size 29 x.cs
  z : CB W (w.heap.size + 1) 39 Cd.zero.cs
  a : CB W (w.heap.size + 1 + 1) 39 a.cs
theorem ThW.next {w W W2 : World} {x : Fc} {a : Cd} (h : ThW w x a W) (k : Below W.heap.size W W2) : ThW w x a W2 := ⟨h.below.trans (k.mono h.below.size), h.f.below k, h.z.below k, h.a.below k⟩
theorem ThW.put {w W : World} {x : Fc} {a : Cd} (h : ThW w x a W) (c : Cd) :
    ThW w x c ((((W.setCell ⟨w.heap.size + 1 + 1, 0, none⟩ (.int .i64 c.id)).setCell ⟨w.heap.size + 1 + 1, 1, none⟩ (.int .i64 c.p)).setCell ⟨w.heap.size + 1 + 1, 2, none⟩ (.int .i64 c.g)).setCell ⟨w.heap.size + 1 + 1, 3, none⟩ (.bool c.is)) := by
  have e : w.heap.size ≤ w.heap.size + 1 + 1 := by omega
  refine ⟨below_set (below_set (below_set (below_set h.below e _) e _) e _) e _, (((h.f.other _ _ _ (by omega)).other _ _ _ (by omega)).other _ _ _ (by omega)).other _ _ _ (by omega), (((h.z.other _ _ _ (by omega)).other _ _ _ (by omega)).other _ _ _ (by omega)).other _ _ _ (by omega), ?_⟩
  have := (((h.a.set 0 (.int .i64 c.id)).set 1 (.int .i64 c.p)).set 2 (.int .i64 c.g)).set 3 (.bool c.is)
  simpa [Cd.cs] using this
theorem ThW.start (w : World) (x : Fc) : ThW w x Cd.zero (((w.alloc (.cells x.cs 29)).alloc (.cells Cd.zero.cs 39)).alloc (.cells Cd.zero.cs 39)) := by
  refine ⟨(bal_two w _ _).alloc (by simp; omega) _, ((CB.new w _ _).alloc _).alloc _, cb_second.alloc _, ?_⟩
  have h := CB.new ((w.alloc (.cells x.cs 29)).alloc (.cells Cd.zero.cs 39)) 39 Cd.zero.cs
  rw [show ((w.alloc (.cells x.cs 29)).alloc (.cells Cd.zero.cs 39)).heap.size = w.heap.size + 1 + 1 by simp] at h
  exact h
theorem results_candt {fn : Func} {c t : Tmp} (h : fn.results = #[.cell c 39, .tmp t]) (tmps : Array Value) (w : World) (b : Nat) (x : Cd) (v : Value) (hp : tmps.getD c undef = .pointer (some ⟨b, 0, none⟩)) (ht : tmps.getD t undef = v)
    (hb : CB w b 39 x.cs) : (results fn tmps).run Try.prog w = .ok (.tuple #[x.v, v]) w := by
  have hp' : tmps[c]?.getD undef = .pointer (some ⟨b, 0, none⟩) := by simpa using hp
  have ht' : tmps[t]?.getD undef = v := by simpa using ht
  obtain ⟨i, p, g, is⟩ := x
  have c0 := hb.cell 0
  have c1 := hb.cell 1
  have c2 := hb.cell 2
  have c3 := hb.cell 3
  simp at c0 c1 c2 c3
  simp [results, h, go_sem, hp', ht', c0, c1, c2, c3]
set_option maxHeartbeats 8000000 in
theorem through_any (x : Fc) (xs : List Cd) (v : Value) (w : World) (h : CandsAt w v xs) (hl : xs.length ≤ 9223372036854775806) :
    Calls Try.prog 24 #[x.v, v] w fun e w' => e = .returned (.tuple #[(thrV x xs).v, .bool (thrV x xs).is]) ∧ Below w.heap.size w w' := by
  obtain ⟨a0, cap, rfl⟩ := h.slice
  have HM := hi (fun c W => may_any x c W)
  have H0 := hi (ThW.start w x)
  have HACT := hi h
  obtain ⟨k9, hk9⟩ : ∃ k, xs.length = k := ⟨_, rfl⟩
  have hz := thrV_zero x xs
  have hnx := fun k (h : k < xs.length) => thrV_next (x := x) h
  have hall : thrV x xs = thrV x (xs.take k9) := by rw [← hk9, List.take_length]
  rw [hk9] at HACT hl hnx
  rw [hall]
  clear h hall
  obtain ⟨m, p0, p1, o0, o1, sp, r⟩ := x
  rw [hk9]
  clear hk9
  go_enter Try.func24, Try.ntmps24
  go_wp2
  go_loopw [11] (fun i wr => ∃ k : Nat, k ≤ k9 ∧ i = .int .i64 k ∧ Hi (ThW w (⟨m, p0, p1, o0, o1, sp, r⟩ : Fc) (thrV (⟨m, p0, p1, o0, o1, sp, r⟩ : Fc) (xs.take k)) wr)) (fun i _ => k9 - (intOf i).toNat)
  case atStart => exact ⟨0, Nat.zero_le _, rfl, hi (by rw [hz]; exact H0.out)⟩
  case round =>
    obtain ⟨k, hk, rfl, HX⟩ := hrel
    clear H0
    by_cases hlt : k < k9
    · obtain ⟨ab, o, rfl, hab, hc⟩ := HACT.out.read hlt
      have hn := hnx k hlt
      obtain ⟨c, hcc⟩ : ∃ c, nthA xs k = c := ⟨_, rfl⟩
      rw [hcc] at hc hn
      obtain ⟨a, ha⟩ : ∃ a, thrV (⟨m, p0, p1, o0, o1, sp, r⟩ : Fc) (xs.take k) = a := ⟨_, rfl⟩
      rw [ha] at HX hn
      have C1 := hi (HM.out c)
      have HC := hi (hc _ HX.out.below)
      obtain ⟨ci, cp, cg, cis⟩ := c
      obtain ⟨ai, ap, ag, ais⟩ := a
      have X1 := hi (HX.out.next (bal wr (.cells #[.int .i64 ci, .int .i64 cp, .int .i64 cg, .bool cis] 39)))
      have N1 := hi (CB.new wr 39 #[.int .i64 ci, .int .i64 cp, .int .i64 cg, .bool cis])
      have HBf := hi (fun W => before_any cp ci ap ai W)
      have c0 : wr.cell? ⟨ab, o + k * 4, none⟩ = some (.int .i64 ci) := HC.out.c0
      have c1 : wr.cell? ⟨ab, o + k * 4 + 1, none⟩ = some (.int .i64 cp) := HC.out.c1
      have c2 : wr.cell? ⟨ab, o + k * 4 + 2, none⟩ = some (.int .i64 cg) := HC.out.c2
      have c3 : wr.cell? ⟨ab, o + k * 4 + 3, none⟩ = some (.bool cis) := HC.out.c3
      have f0 : World.cell? (wr.alloc (.cells #[.int .i64 ci, .int .i64 cp, .int .i64 cg, .bool cis] 39)) ⟨w.heap.size, 0, none⟩ = some (.int .i64 m) := X1.out.f.cell 0
      have f1 : World.cell? (wr.alloc (.cells #[.int .i64 ci, .int .i64 cp, .int .i64 cg, .bool cis] 39)) ⟨w.heap.size, 1, none⟩ = some (.int .i64 p0) := X1.out.f.cell 1
      have f2 : World.cell? (wr.alloc (.cells #[.int .i64 ci, .int .i64 cp, .int .i64 cg, .bool cis] 39)) ⟨w.heap.size, 2, none⟩ = some (.int .i64 p1) := X1.out.f.cell 2
      have f3 : World.cell? (wr.alloc (.cells #[.int .i64 ci, .int .i64 cp, .int .i64 cg, .bool cis] 39)) ⟨w.heap.size, 3, none⟩ = some (.bool o0) := X1.out.f.cell 3
      have f4 : World.cell? (wr.alloc (.cells #[.int .i64 ci, .int .i64 cp, .int .i64 cg, .bool cis] 39)) ⟨w.heap.size, 4, none⟩ = some (.bool o1) := X1.out.f.cell 4
      have f5 : World.cell? (wr.alloc (.cells #[.int .i64 ci, .int .i64 cp, .int .i64 cg, .bool cis] 39)) ⟨w.heap.size, 5, none⟩ = some (.bool sp) := X1.out.f.cell 5
      have f6 : World.cell? (wr.alloc (.cells #[.int .i64 ci, .int .i64 cp, .int .i64 cg, .bool cis] 39)) ⟨w.heap.size, 6, none⟩ = some (.int .u32 (wd r 0)) := X1.out.f.cell 6
      have f7 : World.cell? (wr.alloc (.cells #[.int .i64 ci, .int .i64 cp, .int .i64 cg, .bool cis] 39)) ⟨w.heap.size, 7, none⟩ = some (.int .u32 (wd r 1)) := X1.out.f.cell 7
      have e0 : World.cell? (wr.alloc (.cells #[.int .i64 ci, .int .i64 cp, .int .i64 cg, .bool cis] 39)) ⟨wr.heap.size, 0, none⟩ = some (.int .i64 ci) := N1.out.cell 0
      have e1 : World.cell? (wr.alloc (.cells #[.int .i64 ci, .int .i64 cp, .int .i64 cg, .bool cis] 39)) ⟨wr.heap.size, 1, none⟩ = some (.int .i64 cp) := N1.out.cell 1
      have e2 : World.cell? (wr.alloc (.cells #[.int .i64 ci, .int .i64 cp, .int .i64 cg, .bool cis] 39)) ⟨wr.heap.size, 2, none⟩ = some (.int .i64 cg) := N1.out.cell 2
      have e3 : World.cell? (wr.alloc (.cells #[.int .i64 ci, .int .i64 cp, .int .i64 cg, .bool cis] 39)) ⟨wr.heap.size, 3, none⟩ = some (.bool cis) := N1.out.cell 3
      have hp : pickB (⟨m, p0, p1, o0, o1, sp, r⟩ : Fc) ⟨ai, ap, ag, ais⟩ ⟨ci, cp, cg, cis⟩ = (mayV (⟨m, p0, p1, o0, o1, sp, r⟩ : Fc) ⟨ci, cp, cg, cis⟩ && (!ais || beforeB cp ci ap ai)) := rfl
      rw [hp] at hn
      obtain ⟨M, hM⟩ : ∃ M, mayV (⟨m, p0, p1, o0, o1, sp, r⟩ : Fc) ⟨ci, cp, cg, cis⟩ = M := ⟨_, rfl⟩
      obtain ⟨B, hB⟩ : ∃ B, beforeB cp ci ap ai = B := ⟨_, rfl⟩
      rw [hM, hB] at hn
      rw [hM] at C1
      rw [hB] at HBf
      clear hc hcc ha hp hM hB
      cases M
      · simp only [Bool.false_and, Bool.false_eq_true, if_false] at hn
        go_wp2_with (go_at_call 15; ((with_reducible refine (C1.out _).mono ?_); rintro e w2 ⟨rfl, hb⟩; have X2 := hi (X1.out.next hb); have N2 := hi (N1.out.below hb); have x0 : World.cell? w2 ⟨w.heap.size + 1 + 1, 0, none⟩ = some (.int .i64 ai) := X2.out.a.cell 0; have x1 : World.cell? w2 ⟨w.heap.size + 1 + 1, 1, none⟩ = some (.int .i64 ap) := X2.out.a.cell 1; have x2 : World.cell? w2 ⟨w.heap.size + 1 + 1, 2, none⟩ = some (.int .i64 ag) := X2.out.a.cell 2; have x3 : World.cell? w2 ⟨w.heap.size + 1 + 1, 3, none⟩ = some (.bool ais) := X2.out.a.cell 3; have d0 : World.cell? w2 ⟨wr.heap.size, 0, none⟩ = some (.int .i64 ci) := N2.out.cell 0; have d1 : World.cell? w2 ⟨wr.heap.size, 1, none⟩ = some (.int .i64 cp) := N2.out.cell 1; have d2 : World.cell? w2 ⟨wr.heap.size, 2, none⟩ = some (.int .i64 cg) := N2.out.cell 2; have d3 : World.cell? w2 ⟨wr.heap.size, 3, none⟩ = some (.bool cis) := N2.out.cell 3; have af := X2.out.a.frozen; clear hb))
        go_roundw
        case rel => exact ⟨k + 1, by omega, by go_num, hi (by rw [hn]; exact X2.out)⟩
        case measure => simp only [intOf]; omega
      · cases ais
        · simp only [Bool.true_and, Bool.not_false, Bool.true_or, if_true] at hn
          go_wp2_with (go_at_call 15; ((with_reducible refine (C1.out _).mono ?_); rintro e w2 ⟨rfl, hb⟩; have X2 := hi (X1.out.next hb); have N2 := hi (N1.out.below hb); have x0 : World.cell? w2 ⟨w.heap.size + 1 + 1, 0, none⟩ = some (.int .i64 ai) := X2.out.a.cell 0; have x1 : World.cell? w2 ⟨w.heap.size + 1 + 1, 1, none⟩ = some (.int .i64 ap) := X2.out.a.cell 1; have x2 : World.cell? w2 ⟨w.heap.size + 1 + 1, 2, none⟩ = some (.int .i64 ag) := X2.out.a.cell 2; have x3 : World.cell? w2 ⟨w.heap.size + 1 + 1, 3, none⟩ = some (.bool false) := X2.out.a.cell 3; have d0 : World.cell? w2 ⟨wr.heap.size, 0, none⟩ = some (.int .i64 ci) := N2.out.cell 0; have d1 : World.cell? w2 ⟨wr.heap.size, 1, none⟩ = some (.int .i64 cp) := N2.out.cell 1; have d2 : World.cell? w2 ⟨wr.heap.size, 2, none⟩ = some (.int .i64 cg) := N2.out.cell 2; have d3 : World.cell? w2 ⟨wr.heap.size, 3, none⟩ = some (.bool cis) := N2.out.cell 3; have af := X2.out.a.frozen; clear hb))
          go_roundw
          case rel => exact ⟨k + 1, by omega, by go_num, hi (by rw [hn]; exact X2.out.put ⟨ci, cp, cg, cis⟩)⟩
          case measure => simp only [intOf]; omega
        · cases B
          · simp only [Bool.true_and, Bool.not_true, Bool.or_false, Bool.false_eq_true, if_false] at hn
            go_wp2_with (first
              | (go_at_call 15; ((with_reducible refine (C1.out _).mono ?_); rintro e w2 ⟨rfl, hb⟩; have X2 := hi (X1.out.next hb); have N2 := hi (N1.out.below hb); have x0 : World.cell? w2 ⟨w.heap.size + 1 + 1, 0, none⟩ = some (.int .i64 ai) := X2.out.a.cell 0; have x1 : World.cell? w2 ⟨w.heap.size + 1 + 1, 1, none⟩ = some (.int .i64 ap) := X2.out.a.cell 1; have x2 : World.cell? w2 ⟨w.heap.size + 1 + 1, 2, none⟩ = some (.int .i64 ag) := X2.out.a.cell 2; have x3 : World.cell? w2 ⟨w.heap.size + 1 + 1, 3, none⟩ = some (.bool true) := X2.out.a.cell 3; have d0 : World.cell? w2 ⟨wr.heap.size, 0, none⟩ = some (.int .i64 ci) := N2.out.cell 0; have d1 : World.cell? w2 ⟨wr.heap.size, 1, none⟩ = some (.int .i64 cp) := N2.out.cell 1; have d2 : World.cell? w2 ⟨wr.heap.size, 2, none⟩ = some (.int .i64 cg) := N2.out.cell 2; have d3 : World.cell? w2 ⟨wr.heap.size, 3, none⟩ = some (.bool cis) := N2.out.cell 3; have af := X2.out.a.frozen; clear hb))
              | (go_at_call 45; ((with_reducible refine (HBf.out _).mono ?_); rintro e w3 ⟨rfl, rfl⟩)))
            go_roundw
            case rel => exact ⟨k + 1, by omega, by go_num, hi (by rw [hn]; exact X2.out)⟩
            case measure => simp only [intOf]; omega
          · simp only [Bool.true_and, Bool.or_true, if_true] at hn
            go_wp2_with (first
              | (go_at_call 15; ((with_reducible refine (C1.out _).mono ?_); rintro e w2 ⟨rfl, hb⟩; have X2 := hi (X1.out.next hb); have N2 := hi (N1.out.below hb); have x0 : World.cell? w2 ⟨w.heap.size + 1 + 1, 0, none⟩ = some (.int .i64 ai) := X2.out.a.cell 0; have x1 : World.cell? w2 ⟨w.heap.size + 1 + 1, 1, none⟩ = some (.int .i64 ap) := X2.out.a.cell 1; have x2 : World.cell? w2 ⟨w.heap.size + 1 + 1, 2, none⟩ = some (.int .i64 ag) := X2.out.a.cell 2; have x3 : World.cell? w2 ⟨w.heap.size + 1 + 1, 3, none⟩ = some (.bool true) := X2.out.a.cell 3; have d0 : World.cell? w2 ⟨wr.heap.size, 0, none⟩ = some (.int .i64 ci) := N2.out.cell 0; have d1 : World.cell? w2 ⟨wr.heap.size, 1, none⟩ = some (.int .i64 cp) := N2.out.cell 1; have d2 : World.cell? w2 ⟨wr.heap.size, 2, none⟩ = some (.int .i64 cg) := N2.out.cell 2; have d3 : World.cell? w2 ⟨wr.heap.size, 3, none⟩ = some (.bool cis) := N2.out.cell 3; have af := X2.out.a.frozen; clear hb))
              | (go_at_call 45; ((with_reducible refine (HBf.out _).mono ?_); rintro e w3 ⟨rfl, rfl⟩)))
            go_roundw
            case rel => exact ⟨k + 1, by omega, by go_num, hi (by rw [hn]; exact X2.out.put ⟨ci, cp, cg, cis⟩)⟩
            case measure => simp only [intOf]; omega
    · obtain rfl : k = k9 := by omega
      go_wp2
      obtain ⟨a, ha⟩ : ∃ a, thrV (⟨m, p0, p1, o0, o1, sp, r⟩ : Fc) (xs.take k) = a := ⟨_, rfl⟩
      rw [ha] at HX
      obtain ⟨ai, ap, ag, ais⟩ := a
      refine wp_region_noPanic ?_
      refine wp_region_last_drew (S := (fun W' => CB W' (w.heap.size + 1 + 1) 39 #[.int .i64 ai, .int .i64 ap, .int .i64 ag, .bool ais] ∧ ∃ v0 v1 v2 v3, CB W' (w.heap.size + 1) 39 #[v0, v1, v2, v3])) [4] (by kernel_rfl) ⟨HX.out.a.drew, ⟨_, _, _, _, HX.out.z.drew⟩⟩ (fun hHeld => ?_)
      (try simp only [Array.replicate_succ, Array.replicate_zero, List.push_toArray, List.nil_append, List.cons_append])
      refine wpAnyF_take (i := 0) (v := ?_) (by kernel_rfl) (by kernel_rfl) rfl (by kernel_rfl) (by kernel_rfl) (by kernel_rfl) (fun _ _ _ h => h) (Or.inl ⟨by rfl, ?_⟩) (by assumption) ?_
      rotate_left
      · intro w' hSw; (try dsimp only at hSw); have x0 := hSw.1.cell 0; have x1 := hSw.1.cell 1; have x2 := hSw.1.cell 2; have x3 := hSw.1.cell 3; go_simp; (try with_reducible rfl)
      (try simp only [Act.put, List.getElem_toArray, List.getElem_cons_zero, List.setIfInBounds_toArray, List.set_cons_zero, List.set_cons_succ])
      refine wpAnyF_take (i := 1) (v := ?_) (by kernel_rfl) (by kernel_rfl) rfl (by kernel_rfl) (by kernel_rfl) (by kernel_rfl) (fun _ _ _ h => h) (Or.inl ⟨by rfl, ?_⟩) (by assumption) ?_
      rotate_left
      · intro w' hSw; (try dsimp only at hSw); have x0 := hSw.1.cell 0; have x1 := hSw.1.cell 1; have x2 := hSw.1.cell 2; have x3 := hSw.1.cell 3; go_simp; (try with_reducible rfl)
      (try simp only [Act.put, List.getElem_toArray, List.getElem_cons_zero, List.getElem_cons_succ, List.setIfInBounds_toArray, List.set_cons_zero, List.set_cons_succ])
      refine wpAnyF_take (i := 2) (v := ?_) (by kernel_rfl) (by kernel_rfl) rfl (by kernel_rfl) (by kernel_rfl) (by kernel_rfl) (fun _ _ _ h => h) (Or.inl ⟨by rfl, ?_⟩) (by assumption) ?_
      rotate_left
      · intro w' hSw; (try dsimp only at hSw); have x0 := hSw.1.cell 0; have x1 := hSw.1.cell 1; have x2 := hSw.1.cell 2; have x3 := hSw.1.cell 3; go_simp; (try with_reducible rfl)
      (try simp only [Act.put, List.getElem_toArray, List.getElem_cons_zero, List.getElem_cons_succ, List.setIfInBounds_toArray, List.set_cons_zero, List.set_cons_succ])
      refine wpAnyF_ready (rs := [3]) (by kernel_rfl) (by simp) ?_
      refine AllReadyF.cons rfl (fun KK hKK => ?_) AllReadyF.nil
      go_simp
      obtain ⟨v0, v1, v2, v3, hZ⟩ := hHeld.2
      have zf := HX.out.z.frozen
      have z0 : wr.cell? ⟨w.heap.size + 1, 0, none⟩ = some (.int .i64 0) := HX.out.z.cell 0
      have z1 : wr.cell? ⟨w.heap.size + 1, 1, none⟩ = some (.int .i64 0) := HX.out.z.cell 1
      have z2 : wr.cell? ⟨w.heap.size + 1, 2, none⟩ = some (.int .i64 0) := HX.out.z.cell 2
      have z3 : wr.cell? ⟨w.heap.size + 1, 3, none⟩ = some (.bool false) := HX.out.z.cell 3
      go_simp
      have hS9 := And.intro ((((hHeld.1.other (w.heap.size + 1) 0 (.int .i64 ai) (by omega)).other (w.heap.size + 1) 1 (.int .i64 ap) (by omega)).other (w.heap.size + 1) 2 (.int .i64 ag) (by omega)).other (w.heap.size + 1) 3 (.bool ais) (by omega)) (⟨_, _, _, _, (((hZ.set 0 (.int .i64 ai)).set 1 (.int .i64 ap)).set 2 (.int .i64 ag)).set 3 (.bool ais)⟩ : ∃ v0 v1 v2 v3, CB ((((wr.drew.setCell ⟨w.heap.size + 1, 0, none⟩ (.int .i64 ai)).setCell ⟨w.heap.size + 1, 1, none⟩ (.int .i64 ap)).setCell ⟨w.heap.size + 1, 2, none⟩ (.int .i64 ag)).setCell ⟨w.heap.size + 1, 3, none⟩ (.bool ais)) (w.heap.size + 1) 39 #[v0, v1, v2, v3])
      refine hKK.out _ _ hS9 (fun hHeld => ?_)
      clear hKK KK
      (try simp only [Act.put, List.getElem_toArray, List.getElem_cons_zero, List.getElem_cons_succ, List.setIfInBounds_toArray, List.set_cons_zero, List.set_cons_succ])
      refine wpAnyF_ready (rs := [4]) (by kernel_rfl) (by simp) ?_
      refine AllReadyF.last (by kernel_rfl) rfl (fun KK hKK => ?_) AllReadyF.nil
      go_simp
      refine hKK.out _ _ ?_
      clear hKK KK
      (try simp only [Act.put, List.getElem_toArray, List.getElem_cons_zero, List.getElem_cons_succ, List.setIfInBounds_toArray, List.set_cons_zero, List.set_cons_succ])
      refine wpAnyF_done (by kernel_rfl) ?_ _
      refine NoPanic.normal ?_
      go_wp2
      have e1 : w.heap.size ≤ w.heap.size + 1 := by omega
      have h9 := ((((HX.out.z.set 0 (.int .i64 ai)).set 1 (.int .i64 ap)).set 2 (.int .i64 ag)).set 3 (.bool ais)).drew
      exact bodyPost_ret (results_candt rfl _ _ (w.heap.size + 1) ⟨ai, ap, ag, ais⟩ (.bool ais) rfl rfl (by simpa [Cd.zero, Cd.cs] using h9)) rfl ⟨by rw [ha], Below.drewN (m := 1) (below_set (below_set (below_set (below_set HX.out.below e1 _) e1 _) e1 _) e1 _)⟩

end Go.Proofs.Ytnfbljadhhcclaa
