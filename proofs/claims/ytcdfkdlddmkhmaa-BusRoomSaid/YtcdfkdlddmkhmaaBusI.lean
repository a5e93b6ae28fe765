/-
  Free ranges: plain reckoning; the document's Free.
-/
import Derived.Test.YtcdfkdlddmkhmaaBusH
namespace Go.Proofs.Ytcdfkdlddmkhmaa
open Go.ChangeShapes Go.WideShapes Go.ChangeAt Go.RowKit
set_option linter.unusedVariables false

/-- One range, if it is one. -/
def gap1 (at' to : Int) : List (Int × Int) := if at' < to then [(at', to - at')] else []
theorem gap1_yes {a t : Int} (h : a < t) : gap1 a t = [(a, t - a)] := by unfold gap1; rw [if_pos h]
theorem gap1_no {a t : Int} (h : ¬ a < t) : gap1 a t = [] := by unfold gap1; rw [if_neg h]
theorem gap1_len (a t : Int) : (gap1 a t).length ≤ 1 := by unfold gap1; split <;> simp
/-- The free ranges, from at on, below fin: where each begins, how long it is. -/
def gapsFrom (fin : Int) : Int → List Sp → List (Int × Int)
  | at', [] => gap1 at' fin
  | at', x :: r => gap1 at' (min x.b fin) ++ gapsFrom fin (x.b + x.s) r
def flatG (l : List (Int × Int)) : List Int := l.flatMap fun g => [g.1, g.2]
theorem flatG_append (a b : List (Int × Int)) : flatG (a ++ b) = flatG a ++ flatG b := by simp [flatG]
theorem flatG_one (a n : Int) : flatG [(a, n)] = [a, n] := rfl
theorem flatG_len : ∀ l, (flatG l).length = 2 * l.length
  | [] => rfl
  | x :: r => by
    have := flatG_len r
    simp only [flatG, List.flatMap_cons, List.length_append, List.length_cons, List.length_nil] at this ⊢
    omega
/-- What the first k spans make of it: the ranges ahead of the k-th; and where they end. -/
def gapsTo (fin : Int) : List Sp → List (Int × Int) × Int := fun l => l.foldl (fun p x => (p.1 ++ gap1 p.2 (min x.b fin), x.b + x.s)) ([], 0)
theorem gapsTo_snoc (fin : Int) (l : List Sp) (x : Sp) : gapsTo fin (l ++ [x]) = ((gapsTo fin l).1 ++ gap1 (gapsTo fin l).2 (min x.b fin), x.b + x.s) := by simp [gapsTo]
theorem gaps_split (fin : Int) : ∀ (l : List Sp) (acc : List (Int × Int)) (at' : Int), acc ++ gapsFrom fin at' l =
    (l.foldl (fun p x => (p.1 ++ gap1 p.2 (min x.b fin), x.b + x.s)) (acc, at')).1 ++
    gapsFrom fin (l.foldl (fun p x => (p.1 ++ gap1 p.2 (min x.b fin), x.b + x.s)) (acc, at')).2 []
  | [], acc, at' => rfl
  | x :: r, acc, at' => by
    simp only [List.foldl_cons]
    rw [← gaps_split fin r, gapsFrom, List.append_assoc]
theorem gaps_all (fin : Int) (l : List Sp) : gapsFrom fin 0 l = (gapsTo fin l).1 ++ gap1 (gapsTo fin l).2 fin := gaps_split fin l [] 0
/-- The bounds of what a first part of a row of spans has made. -/
theorem gapsTo_end {fin : Int} : ∀ {l : List Sp}, (∀ x ∈ l, x.Ok) → 0 ≤ (gapsTo fin l).2 ∧ (gapsTo fin l).2 ≤ 1099511627776 := by
  intro l h
  rcases List.eq_nil_or_concat l with rfl | ⟨r, x, rfl⟩
  · simp [gapsTo]
  · rw [List.concat_eq_append, gapsTo_snoc]
    have hx := h x (by simp)
    exact ⟨by have := hx.b0; have := hx.s1; show 0 ≤ x.b + x.s; omega, hx.e1⟩
theorem gapsTo_len (fin : Int) (l : List Sp) : (gapsTo fin l).1.length ≤ l.length := by
  have key : ∀ n, ∀ l : List Sp, l.length = n → (gapsTo fin l).1.length ≤ l.length := by
    intro n
    induction n with
    | zero => intro l hl; rw [List.length_eq_zero_iff.1 hl]; simp [gapsTo]
    | succ n ih =>
      intro l hl
      rcases List.eq_nil_or_concat l with rfl | ⟨r, x, rfl⟩
      · cases hl
      · rw [List.concat_eq_append] at hl ⊢
        have hr := ih r (by simpa using hl)
        rw [gapsTo_snoc]
        have := gap1_len (gapsTo fin r).2 (min x.b fin)
        simp only [List.length_append, List.length_cons, List.length_nil]
        omega
  exact key l.length l rfl
theorem gaps_len (fin : Int) (l : List Sp) : (gapsFrom fin 0 l).length ≤ l.length + 1 := by
  rw [gaps_all]
  have := gapsTo_len fin l
  have := gap1_len (gapsTo fin l).2 fin
  simp only [List.length_append]
  omega

theorem info_i : (Try.prog.info? 3).map (fun i => (i.zero, i.size, i.bytes)) = some (some (.int .i64 0), 1, 8) := by kernel_rfl
theorem cell_two_new (w : World) (x y : Value) (t : TypeId) : ∀ j u, [x, y][j]? = some u → (w.alloc (.cells #[x, y] t)).cell? ((⟨w.heap.size, 0, none⟩ : Addr).add j) = some u := by
  intro j u h
  match j, h with
  | 0, h => simp at h; subst h; rw [addr_add]; simp
  | 1, h => simp at h; subst h; rw [addr_add]; simp
  | j + 2, h => simp at h
def ints (l : List Int) : List Value := l.map (Value.int .i64)
theorem ints_append (a b : List Int) : ints (a ++ b) = ints a ++ ints b := by simp [ints]
theorem ownI_drew {W : World} {base : Nat} {v : Value} {n m : Nat} {cs : List Value} (h : W.ownsRow base 3 1 v n cs) : (W.drewN m).ownsRow base 3 1 v n cs := h
theorem ownI_grown {W w1 : World} {tmp : Obj} {base n₀ : Nat} {v : Value} {n : Nat} {cs : List Value} (h : W.ownsRow base 3 1 v n cs) (hg : (W.alloc tmp).grownBy w1 v.ownBlock) (hn : n₀ ≤ base) (hW : n₀ ≤ W.heap.size) : Below n₀ W w1 := by
  refine ((Below.refl n₀ W).alloc hW tmp).grown hg (by simp; omega) fun j ej => ?_
  have := h.lt j ej
  omega
theorem ownI_slice {W : World} {base : Nat} {v : Value} {n : Nat} {cs : List Value} (h : W.ownsRow base 3 1 v n cs) : ∃ a c, v = .slice a n c := by
  rcases h.2 with ⟨rfl, rfl⟩ | ⟨g, cap, cur, rfl, _⟩
  · exact ⟨_, _, rfl⟩
  · exact ⟨_, _, rfl⟩
theorem ownI_later {W W' : World} {base : Nat} {v : Value} {n : Nat} {cs : List Value} (h : W.ownsRow base 3 1 v n cs) (k : Below W.heap.size W W') : W'.ownsRow base 3 1 v n cs :=
  h.kept (Below.grew k) (by cases ho : v.ownBlock with
    | none => exact .inl rfl
    | some b => exact .inr (by simp))

set_option maxRecDepth 100000 in
set_option maxHeartbeats 4000000 in
/-- The document's Free: its ranges, in a slice of its own. -/
theorem rfree_any (lo hi' : Nat) (v : Value) (xs : List Sp) (fin : Int) (w : World) (h : SpIn lo hi' w v xs) (hh : hi' ≤ w.heap.size) (hR : Row xs) (hf0 : -9223372036854775808 ≤ fin) (hf1 : fin ≤ 9223372036854775807) :
    Calls Try.prog 20 #[v, .int .i64 fin] w fun e w' => ∃ o, e = .returned o ∧ w'.ownsRow w.heap.size 3 1 o (2 * (gapsFrom fin 0 xs).length) (ints (flatG (gapsFrom fin 0 xs))) ∧ Below w.heap.size w w' := by
  obtain ⟨a, cap, rfl⟩ := h.slice
  have hl := hR.len
  have H := hi h
  have HOK := hi hR.ok
  obtain ⟨n, hn⟩ : ∃ n, xs.length = n := ⟨_, rfl⟩
  have HN := hi hn
  rw [hn] at hl ⊢
  clear h hn hR
  obtain ⟨i0, hi2, hz0, hz1, hz2⟩ := info_parts info_i
  go_enter Try.func20, Try.ntmps20
  go_wp2
  go_loopw [5, 6, 7] (fun out t i wr => ∃ (k m : Nat) (oa : Option Addr) (oc : Nat) (at' : Int), out = .slice oa m oc ∧ t = .int .i64 at' ∧ i = .int .i64 k ∧ k ≤ n + 1 ∧ 0 ≤ at' ∧ at' ≤ 1099511627776 ∧ m ≤ 2 * k ∧
    Hi ((k ≤ n → at' = (gapsTo fin (xs.take k)).2 ∧ m = 2 * (gapsTo fin (xs.take k)).1.length ∧ wr.ownsRow w.heap.size 3 1 (.slice oa m oc) m (ints (flatG (gapsTo fin (xs.take k)).1))) ∧
      (k = n + 1 → m = 2 * (gapsFrom fin 0 xs).length ∧ wr.ownsRow w.heap.size 3 1 (.slice oa m oc) m (ints (flatG (gapsFrom fin 0 xs)))) ∧ Below w.heap.size w wr)) (fun _ _ i _ => n + 1 - (intOf i).toNat)
  case atStart => exact ⟨0, 0, none, 0, 0, rfl, rfl, rfl, Nat.zero_le _, by omega, by omega, Nat.zero_le _, hi ⟨fun _ => ⟨rfl, rfl, World.ownsRow_nil _ _ _ _⟩, fun e => by omega, Below.refl _ _⟩⟩
  case round =>
    obtain ⟨k, m, oa, oc, at', rfl, rfl, rfl, hk, ha0, ha1, hm, HJ⟩ := hrel
    by_cases hlt : k < n
    · obtain ⟨ea, em, eo⟩ := HJ.out.1 (by omega)
      have HB := hi HJ.out.2.2
      have H2 := H.out.below HB.out hh
      rw [← HN.out] at hlt
      obtain ⟨x, g, o, hx, hmx, rfl, hg1, hg2, _, c0, c1, c2, c3⟩ := H2.read hlt
      rw [HN.out] at hlt
      have okx := HOK.out x hmx
      have hgw : g < wr.heap.size := by have := HB.out.size; omega
      have HKX : Hi (∀ W, Below w.heap.size w W → W.cell? ⟨g, o + k * 4, none⟩ = some (.int .i64 x.b) ∧ W.cell? ⟨g, o + k * 4 + 1, none⟩ = some (.int .i64 x.s) ∧ W.cell? ⟨g, o + k * 4 + 2, none⟩ = some (.int .i64 x.k) ∧ W.cell? ⟨g, o + k * 4 + 3, none⟩ = some (.int .i64 x.i)) := hi fun W hb => by
        obtain ⟨x', g', o', hx', _, e', _, _, _, f0, f1, f2, f3⟩ := (H.out.below hb hh).read (by rw [HN.out]; exact hlt)
        cases e'
        rw [hx] at hx'
        cases hx'
        exact ⟨f0, f1, f2, f3⟩
      have hxb := okx.b0
      have hxs := okx.s1
      have hxe := okx.e1
      have HT := hi (show xs.take (k + 1) = xs.take k ++ [x] by rw [List.take_add_one, hx]; rfl)
      have HA := hi ea
      have HM := hi em
      have HO := hi eo
      clear ea em eo H2 hx hmx okx hg1 hg2 c2 c3
      by_cases h1 : x.b < fin
      · by_cases h2 : at' < x.b
        · skip
          have t1 : decide (x.b < fin) = true := by simpa using h1
          have hmin : min x.b fin = x.b := by omega
          have t2 : decide (at' < x.b) = true := by simpa using h2
          have hw : IntKind.i64.wrap (x.b - at') = x.b - at' := by rw [IntKind.wrap_i64]; omega
          have HG := hi (show gap1 at' (min x.b fin) = [(at', x.b - at')] by rw [hmin]; exact gap1_yes h2)
          clear hmin h1 h2
          go_wp2_with (first
            | (at_builtin; refine wpList_append_own _ rfl _ _ 43 rfl w.heap.size 3 i0 (.int .i64 0) 1 8 Try.underlying43 hi2 hz0 hz1 hz2 rfl (by decide) _ _ _ rfl ((HO.out).alloc _) ⟨wr.heap.size, 0, none⟩ 2 2 [.int .i64 (at'), .int .i64 (x.b - at')] rfl rfl (cell_two_new _ _ _ _) (by simp [Value.oneCell']) (by unfold maxLen; omega) (by omega) (by have := HB.out.size; simp; omega) ?_; intro v9 w9 hown9 hgrow9 _; obtain ⟨g9, cap9, rfl⟩ := ownsRow_succ hown9; have HO9 := hi hown9; have HB9 := hi (HB.out.trans (ownI_grown HO.out hgrow9 (Nat.le_refl _) HB.out.size)); clear hown9 hgrow9; obtain ⟨d0, d1, d2, d3⟩ := HKX.out w9 HB9.out))
          go_quiet (fail)
          go_wp2
          go_roundw
          case rel => exact ⟨k + 1, m + 2, _, _, x.b + x.s, rfl, rfl, by go_num, by omega, by omega, by omega, by omega, hi ⟨fun _ => ⟨by rw [HT.out, gapsTo_snoc], by rw [HT.out, gapsTo_snoc, ← HA.out, HG.out]; have := HM.out; simp only [List.length_append, List.length_cons, List.length_nil]; omega, by rw [HT.out, gapsTo_snoc, ← HA.out, HG.out, flatG_append, ints_append]; exact HO9.out⟩, fun e => by omega, Below.drewN HB9.out⟩⟩
          case measure => simp [intOf]; omega
        · skip
          have t1 : decide (x.b < fin) = true := by simpa using h1
          have hmin : min x.b fin = x.b := by omega
          have t2 : decide (at' < x.b) = false := by simpa using h2
          have HG := hi (show gap1 at' (min x.b fin) = [] by rw [hmin]; exact gap1_no h2)
          clear hmin h1 h2
          go_wp2
          go_quiet (fail)
          go_wp2
          go_roundw
          case rel => exact ⟨k + 1, m, _, _, x.b + x.s, rfl, rfl, by go_num, by omega, by omega, by omega, by omega, hi ⟨fun _ => ⟨by rw [HT.out, gapsTo_snoc], by rw [HT.out, gapsTo_snoc, ← HA.out, HG.out]; have := HM.out; simp only [List.append_nil]; omega, by rw [HT.out, gapsTo_snoc, ← HA.out, HG.out, List.append_nil]; exact HO.out⟩, fun e => by omega, Below.drewN HB.out⟩⟩
          case measure => simp [intOf]; omega
      · by_cases h2 : at' < fin
        · skip
          have t1 : decide (x.b < fin) = false := by simpa using h1
          have hmin : min x.b fin = fin := by omega
          have t2 : decide (at' < fin) = true := by simpa using h2
          have hw : IntKind.i64.wrap (fin - at') = fin - at' := by rw [IntKind.wrap_i64]; omega
          have HG := hi (show gap1 at' (min x.b fin) = [(at', fin - at')] by rw [hmin]; exact gap1_yes h2)
          clear hmin h1 h2
          go_wp2_with (first
            | (at_builtin; refine wpList_append_own _ rfl _ _ 43 rfl w.heap.size 3 i0 (.int .i64 0) 1 8 Try.underlying43 hi2 hz0 hz1 hz2 rfl (by decide) _ _ _ rfl ((HO.out).alloc _) ⟨wr.heap.size, 0, none⟩ 2 2 [.int .i64 (at'), .int .i64 (fin - at')] rfl rfl (cell_two_new _ _ _ _) (by simp [Value.oneCell']) (by unfold maxLen; omega) (by omega) (by have := HB.out.size; simp; omega) ?_; intro v9 w9 hown9 hgrow9 _; obtain ⟨g9, cap9, rfl⟩ := ownsRow_succ hown9; have HO9 := hi hown9; have HB9 := hi (HB.out.trans (ownI_grown HO.out hgrow9 (Nat.le_refl _) HB.out.size)); clear hown9 hgrow9; obtain ⟨d0, d1, d2, d3⟩ := HKX.out w9 HB9.out))
          go_quiet (fail)
          go_wp2
          go_roundw
          case rel => exact ⟨k + 1, m + 2, _, _, x.b + x.s, rfl, rfl, by go_num, by omega, by omega, by omega, by omega, hi ⟨fun _ => ⟨by rw [HT.out, gapsTo_snoc], by rw [HT.out, gapsTo_snoc, ← HA.out, HG.out]; have := HM.out; simp only [List.length_append, List.length_cons, List.length_nil]; omega, by rw [HT.out, gapsTo_snoc, ← HA.out, HG.out, flatG_append, ints_append]; exact HO9.out⟩, fun e => by omega, Below.drewN HB9.out⟩⟩
          case measure => simp [intOf]; omega
        · skip
          have t1 : decide (x.b < fin) = false := by simpa using h1
          have hmin : min x.b fin = fin := by omega
          have t2 : decide (at' < fin) = false := by simpa using h2
          have HG := hi (show gap1 at' (min x.b fin) = [] by rw [hmin]; exact gap1_no h2)
          clear hmin h1 h2
          go_wp2
          go_quiet (fail)
          go_wp2
          go_roundw
          case rel => exact ⟨k + 1, m, _, _, x.b + x.s, rfl, rfl, by go_num, by omega, by omega, by omega, by omega, hi ⟨fun _ => ⟨by rw [HT.out, gapsTo_snoc], by rw [HT.out, gapsTo_snoc, ← HA.out, HG.out]; have := HM.out; simp only [List.append_nil]; omega, by rw [HT.out, gapsTo_snoc, ← HA.out, HG.out, List.append_nil]; exact HO.out⟩, fun e => by omega, Below.drewN HB.out⟩⟩
          case measure => simp [intOf]; omega
    · by_cases hkn : k = n
      · obtain rfl : n = k := hkn.symm
        obtain ⟨ea, em, eo⟩ := HJ.out.1 (by omega)
        have HB := hi HJ.out.2.2
        have htk : xs.take n = xs := List.take_of_length_le (by rw [HN.out]; exact Nat.le_refl _)
        rw [htk] at ea em eo
        have HA := hi ea
        have HM := hi em
        have HO := hi eo
        clear ea em eo htk hlt hk
        by_cases h2 : at' < fin
        · have t2 : decide (at' < fin) = true := by simpa using h2
          have hw : IntKind.i64.wrap (fin - at') = fin - at' := by rw [IntKind.wrap_i64]; omega
          have HG := hi (gap1_yes h2)
          clear h2
          go_wp2_with (first
            | (at_builtin; refine wpList_append_own _ rfl _ _ 43 rfl w.heap.size 3 i0 (.int .i64 0) 1 8 Try.underlying43 hi2 hz0 hz1 hz2 rfl (by decide) _ _ _ rfl ((HO.out).alloc _) ⟨wr.heap.size, 0, none⟩ 2 2 [.int .i64 (at'), .int .i64 (fin - at')] rfl rfl (cell_two_new _ _ _ _) (by simp [Value.oneCell']) (by unfold maxLen; omega) (by omega) (by have := HB.out.size; simp; omega) ?_; intro v9 w9 hown9 hgrow9 _; obtain ⟨g9, cap9, rfl⟩ := ownsRow_succ hown9; have HO9 := hi hown9; have HB9 := hi (HB.out.trans (ownI_grown HO.out hgrow9 (Nat.le_refl _) HB.out.size)); clear hown9 hgrow9))
          go_roundw
          case rel => exact ⟨n + 1, m + 2, _, _, at', rfl, rfl, by go_num, by omega, by omega, by omega, by omega, hi ⟨fun e => by omega, fun _ => ⟨by rw [gaps_all, ← HA.out, HG.out]; have := HM.out; simp only [List.length_append, List.length_cons, List.length_nil]; omega, by rw [gaps_all, ← HA.out, HG.out, flatG_append, ints_append]; exact HO9.out⟩, HB9.out⟩⟩
          case measure => simp [intOf]
        · have t2 : decide (at' < fin) = false := by simpa using h2
          have HG := hi (gap1_no h2)
          clear h2
          go_wp2
          go_roundw
          case rel => exact ⟨n + 1, m, _, _, at', rfl, rfl, by go_num, by omega, by omega, by omega, by omega, hi ⟨fun e => by omega, fun _ => ⟨by rw [gaps_all, ← HA.out, HG.out, List.append_nil]; exact HM.out, by rw [gaps_all, ← HA.out, HG.out, List.append_nil]; exact HO.out⟩, HB.out⟩⟩
          case measure => simp [intOf]
      · obtain rfl : k = n + 1 := by omega
        obtain ⟨e1, e2⟩ := HJ.out.2.1 rfl
        have E1 := hi e1
        have E2 := hi e2
        clear e1 e2 hlt hkn
        go_wp2
        go_ret
        exact ⟨_, rfl, by rw [← E1.out]; exact E2.out, HJ.out.2.2⟩

end Go.Proofs.Ytcdfkdlddmkhmaa
