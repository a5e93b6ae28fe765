/-
  The document's part: Has, Set.
-/
import Derived.Test.YtobhdjepfhbgaaaDoorLqA
namespace Go.Proofs.YtobhdjepfhbgaaaDoor
open Go.ChangeShapes Go.WideShapes Go.ChangeAt Go.RowKit Go.Shelf
set_option linter.unusedVariables false
set_option linter.unusedSimpArgs false

theorem ins_any (l : List Int) (m : Int) (v : Value) (w : World) (hv : IntsAt w v l) (hl : l.length ≤ 20000) :
    Calls Tryd.prog 83 #[v, .int .i64 m] w fun e w' => ∃ v', e = .returned v' ∧ IntsAt w' v' (insL l m) ∧ Below w.heap.size w w' ∧ ∀ b, Yb v' b → Yb v b ∨ (w.heap.size ≤ b ∧ b < w'.heap.size) := by
  have hv0 := hv
  obtain ⟨a, cap, rfl, _, _⟩ := hv0
  by_cases hc : okM m = true ∧ isIn l m = false
  · have e : insL l m = putFin m (putRun m l) := if_pos hc
    rw [e]
    refine (put_new l a cap m w hv hl hc.1 hc.2).mono ?_
    rintro e w' ⟨a', c', rfl, hC⟩
    exact ⟨_, rfl, intsAt_row hC.own, hC.below, fun b hb => .inr ⟨own_yb hC.own b hb, own_yl hC.own b hb⟩⟩
  · have e : insL l m = l := if_neg hc
    rw [e]
    refine (put_same l a cap m w hv hl hc).mono ?_
    rintro e w' ⟨rfl, rfl⟩
    exact ⟨_, rfl, hv, Below.refl _ _, fun b hb => .inl hb⟩
theorem tak_any (l : List Int) (m : Int) (v : Value) (w : World) (hv : IntsAt w v l) (hl : l.length ≤ 20000) :
    Calls Tryd.prog 85 #[v, .int .i64 m] w fun e w' => ∃ v', e = .returned v' ∧ IntsAt w' v' (l.filter fun x => decide (x ≠ m)) ∧ Below w.heap.size w w' ∧ ∀ b, Yb v' b → w.heap.size ≤ b ∧ b < w'.heap.size := by
  have hv0 := hv
  obtain ⟨a, cap, rfl, _, _⟩ := hv0
  refine (takeL_any l a cap m w hv hl).mono ?_
  rintro e w' ⟨a', c', rfl, hC⟩
  exact ⟨_, rfl, intsAt_row hC.own, hC.below, fun b hb => ⟨own_yb hC.own b hb, own_yl hC.own b hb⟩⟩
theorem LdB.store {w : World} {d f capf : Nat} {yv v1 : Value} {x : St} {P' : Nat → Bool} (h : LdB w d f capf yv x) (hv : IntsAt w v1 (ints (lst P' x.n))) (hd : ∀ b, Yb v1 b → b ≠ d) : LdB (w.setCell ⟨d, 7, none⟩ v1) d f capf v1 { x with P := P' } :=
  ⟨h.box.set 7 v1, h.cfg.of_block ((kept_setCell w d 7 v1).block f h.cfg.lt (fun e => h.df e.symm)), h.len, h.cap, hv.keptY (kept_setCell w d 7 v1) hd⟩
theorem LdB.max {w : World} {d f capf : Nat} {yv : Value} {x : St} (h : LdB w d f capf yv x) (hn : x.n ≤ 512) : (ints (lst x.P x.n)).length ≤ 20000 := by
  rw [ints_len]; have := lst_len x.P x.n; omega

set_option maxRecDepth 100000 in
set_option maxHeartbeats 2000000 in
theorem rhas_lpi (d f capf q h cq : Nat) (yv : Value) (x : St) (bs : List Nat) (hx : x.Ok bs.length) (id : Int) (w : World) (a : LdB w d f capf yv x) (m : MemAt 107 w q h cq bs) :
    Calls Tryd.prog 18 #[.pointer (some ⟨d, 0, none⟩), .pointer (some ⟨q, 0, none⟩), .int .i64 id] w fun e w' => e = .returned (.bool (hasV bs x id)) ∧ Below w.heap.size w w' := by
  have hmax := a.max hx.n5
  obtain ⟨c0, c1, _, _, _, _, _, c7⟩ := ldCells a.box
  have hn5 := hx.n5
  cases ho : ownB x id
  · have HO := hi (rof_is d f capf yv x x.on hx.n5 id false ho w a.box)
    have e : hasV bs x id = false := by rw [hasV, ho]; rfl
    rw [e]
    clear a m e ho hmax
    go_enter Tryd.func18, Tryd.ntmps18
    go_wp2_with (go_at_call 62; ((with_reducible refine HO.out.mono ?_); rintro e w1 ⟨rfl, rfl⟩))
    go_ret
    exact ⟨rfl, Below.refl _ _⟩
  · obtain ⟨k, hk, rfl⟩ := ownB_out ho
    have HO := hi (rof_is d f capf yv x x.on hx.n5 _ true ho w a.box)
    have e : hasV bs x ((8192 + k : Nat) : Int) = hasK bs x k := by rw [hasV, ho, Bool.true_and, kOf_at]
    rw [e]
    obtain ⟨z, hz⟩ : ∃ z : Int, ((8192 + k : Nat) : Int) = z := ⟨_, rfl⟩
    have hw : IntKind.i64.wrap (z - 8192) = (k : Int) := by rw [IntKind.wrap_i64]; omega
    obtain ⟨on, hon⟩ : ∃ b, x.on = b := ⟨_, rfl⟩
    cases on
    · have HB := hi (rbit_any d f capf yv x x.on q h cq bs hx k hk w a.box m)
      have e2 : hasK bs x k = bitB bs x.qa k := by rw [hasK, if_neg (by rw [hon]; simp)]
      rw [e2]
      rw [hz] at HO
      rw [hz]
      rw [hon] at c1
      clear a m e e2 hz ho hmax
      go_enter Tryd.func18, Tryd.ntmps18
      go_wp2_with (first
        | (go_at_call 62; ((with_reducible refine HO.out.mono ?_); rintro e w1 ⟨rfl, rfl⟩))
        | (go_at_call 63; ((with_reducible refine HB.out.mono ?_); rintro e w1 ⟨rfl, hb1⟩)))
      go_ret
      exact ⟨rfl, hb1⟩
    · have HB := hi (has_is (ints (lst x.P x.n)) (k : Int) (x.P k) yv w a.ws (by omega) (ints_has x.P x.n k hk))
      have e2 : hasK bs x k = x.P k := by rw [hasK, if_pos hon]
      rw [e2]
      rw [hz] at HO
      rw [hz]
      rw [hon] at c1
      clear a m e e2 hz ho hmax
      go_enter Tryd.func18, Tryd.ntmps18
      go_wp2_with (first
        | (go_at_call 62; ((with_reducible refine HO.out.mono ?_); rintro e w1 ⟨rfl, rfl⟩))
        | (go_at_call 30; ((with_reducible refine HB.out.mono ?_); rintro e w1 ⟨rfl, rfl⟩)))
      go_ret
      exact ⟨rfl, Below.refl _ _⟩
theorem rhas_is (d f capf q h cq : Nat) (yv : Value) (x : St) (bs : List Nat) (hx : x.Ok bs.length) (id : Int) (b : Bool) (hb : hasV bs x id = b) (w : World) (a : LdB w d f capf yv x) (m : MemAt 107 w q h cq bs) :
    Calls Tryd.prog 18 #[.pointer (some ⟨d, 0, none⟩), .pointer (some ⟨q, 0, none⟩), .int .i64 id] w fun e w' => e = .returned (.bool b) ∧ Below w.heap.size w w' := hb ▸ rhas_lpi d f capf q h cq yv x bs hx id w a m

/-- Nothing of the list lies where others do. -/
structure LdN (d f h : Nat) (yv : Value) : Prop where
  yd : ∀ b, Yb yv b → b ≠ d
  yh : ∀ b, Yb yv b → b ≠ h
  fh : f ≠ h
/-- What a call that may tell that an interrupt waits leaves. -/
structure RSetP (w : World) (d f capf q h cq : Nat) (yv : Value) (bs' : List Nat) (x' : St) (W : World) : Prop where
  ld : ∃ yv', LdB W d f capf yv' x' ∧ ∀ b, Yb yv' b → Yb yv b ∨ (w.heap.size ≤ b ∧ b < W.heap.size)
  mem : MemAt 107 W q h cq bs'
  kept : Kept (fun b => b = d ∨ b = h) w W

set_option maxRecDepth 100000 in
set_option maxHeartbeats 4000000 in
theorem rset_lpi (d f capf q h cq : Nat) (yv : Value) (x : St) (bs : List Nat) (hx : x.Ok bs.length) (id : Int) (is : Bool) (w : World) (a : LdB w d f capf yv x) (m : MemAt 107 w q h cq bs) (n : LdN d f h yv) :
    Calls Tryd.prog 54 #[.pointer (some ⟨d, 0, none⟩), .pointer (some ⟨q, 0, none⟩), .int .i64 id, .bool is] w fun e w' => e = .returned (.tuple #[.bool (hasV bs x id), .int .i64 (errL x id)]) ∧ RSetP w d f capf q h cq yv (setV bs x id is).1 (setV bs x id is).2 w' := by
  have hmax := a.max hx.n5
  have hdlt := a.box.lt
  have hhlt := m.bytes.lt
  obtain ⟨a1, a2, a3⟩ := a.apart m
  have hn5 := hx.n5
  have HO := hi (rof_any d f capf yv x x.on hx.n5 id w a.box)
  obtain ⟨hv, hhv⟩ : ∃ b, hasV bs x id = b := ⟨_, rfl⟩
  have HH := hi (rhas_is d f capf q h cq yv x bs hx id hv hhv w a m)
  cases ho : ownB x id
  · have e1 : hv = false := by rw [← hhv, hasV, ho]; rfl
    subst e1
    have e2 : errL x id = 150 := by rw [errL, if_neg (by rw [ho]; simp)]
    have e3 : setV bs x id is = (bs, x) := by rw [setV, if_neg (by rw [ho]; simp)]
    rw [e2, e3, hhv]
    rw [ho] at HO
    have HR := hi (show RSetP w d f capf q h cq yv bs x w from ⟨⟨yv, a, fun b hb => .inl hb⟩, m, Kept.refl _ _⟩)
    clear a m HH e2 e3 hmax n
    go_enter Tryd.func54, Tryd.ntmps54
    go_wp2_with (go_at_call 62; ((with_reducible refine HO.out.mono ?_); rintro e w1 ⟨rfl, rfl⟩))
    go_ret2
    exact ⟨rfl, HR.out⟩
  · obtain ⟨k, hk, rfl⟩ := ownB_out ho
    have e2 : errL x ((8192 + k : Nat) : Int) = 0 := by rw [errL, if_pos ho]
    have e3 : setV bs x ((8192 + k : Nat) : Int) is = setS bs x k is := by rw [setV, if_pos ho, kOf_at]
    rw [e2, e3, hhv]
    rw [ho] at HO
    have H := hi (And.intro a (And.intro m n))
    have hw : IntKind.i64.wrap (((8192 + k : Nat) : Int) - 8192) = (k : Int) := by rw [IntKind.wrap_i64]; omega
    clear e2 e3
    obtain ⟨on, hon⟩ : ∃ b, x.on = b := ⟨_, rfl⟩
    cases on
    · have HK := hi (fun W h1 h2 => rputbit_any d f capf yv x x.on q h cq bs hx k hk is W h1 h2)
      have e : setS bs x k is = (putB bs x.qa k is, x) := by rw [setS, if_neg (by rw [hon]; simp)]
      rw [e]
      obtain ⟨z, hz⟩ : ∃ z : Int, ((8192 + k : Nat) : Int) = z := ⟨_, rfl⟩
      rw [hz] at HO HH hw
      rw [hz]
      clear a m e hz ho hhv hmax n
      go_enter Tryd.func54, Tryd.ntmps54
      go_wp2_with (first
        | (go_at_call 62; ((with_reducible refine HO.out.mono ?_); rintro e w1 ⟨rfl, rfl⟩))
        | (go_at_call 18; ((with_reducible refine HH.out.mono ?_); rintro e w1 ⟨rfl, hb1⟩; have HB := hi hb1; clear hb1; obtain ⟨_, c1, _, _, _, _, _, c7⟩ := ldCells (H.out.1.below HB.out).box; rw [hon] at c1))
        | (go_at_call 84; ((with_reducible refine (HK.out _ (H.out.1.below HB.out).box (H.out.2.1.below HB.out)).mono ?_); rintro e w2 ⟨⟨v, rfl⟩, hm2, hk2⟩; have HR := hi (And.intro hm2 hk2); clear hm2 hk2)))
      go_ret2
      exact ⟨rfl, ⟨yv, (H.out.1.below HB.out).kept HR.out.2 a1 H.out.2.2.fh (fun b hb e => H.out.2.2.yh b hb e), fun b hb => .inl hb⟩, HR.out.1, ((Kept.of HB.out).trans HR.out.2).mono (fun _ e => .inr e)⟩
    · have e : setS bs x k is = (bs, { x with P := updP x.P k is }) := by rw [setS, if_pos hon]
      rw [e]
      have htk := ints_take x.P x.n k
      have hpt := ints_put (updP x.P k false) x.n k hk hn5
      have hup : updP (updP x.P k false) k true = updP x.P k true := by funext j; simp only [updP]; split <;> rfl
      rw [hup] at hpt
      have HT := hi (fun W hW => tak_any (ints (lst x.P x.n)) (k : Int) yv W hW hmax)
      rw [htk] at HT
      have hmax2 : (ints (lst (updP x.P k false) x.n)).length ≤ 20000 := by rw [ints_len]; have := lst_len (updP x.P k false) x.n; omega
      have HP := hi (fun v W hW => ins_any (ints (lst (updP x.P k false) x.n)) (k : Int) v W hW hmax2)
      rw [hpt] at HP
      obtain ⟨z, hz⟩ : ∃ z : Int, ((8192 + k : Nat) : Int) = z := ⟨_, rfl⟩
      rw [hz] at HO HH hw
      rw [hz]
      clear a m e hz ho hhv hmax n htk hpt hup hmax2
      cases is
      · go_enter Tryd.func54, Tryd.ntmps54
        go_wp2_with (first
          | (go_at_call 62; ((with_reducible refine HO.out.mono ?_); rintro e w1 ⟨rfl, rfl⟩))
          | (go_at_call 18; ((with_reducible refine HH.out.mono ?_); rintro e w1 ⟨rfl, hb1⟩; have HB := hi hb1; clear hb1; obtain ⟨_, c1, _, _, _, _, _, c7⟩ := ldCells (H.out.1.below HB.out).box; rw [hon] at c1))
          | (go_at_call 85; ((with_reducible refine (HT.out _ (H.out.1.below HB.out).ws).mono ?_); rintro e w2 ⟨v1, rfl, hi1, hb2, hy1⟩; have HB2 := hi (HB.out.more hb2); have hyd : ∀ b, Yb v1 b → b ≠ d := (fun b hb => by have h1 := (hy1 b hb).1; have h2 := HB.out.size; omega); have HS := hi (((H.out.1.below HB2.out).store hi1 hyd)); have HY := hi (show ∀ b, Yb v1 b → w.heap.size ≤ b from fun b hb => Nat.le_trans HB.out.size (hy1 b hb).1); have HYL := hi (show ∀ b, Yb v1 b → b < w2.heap.size from fun b hb => (hy1 b hb).2); have q7 := (H.out.1.below HB2.out).box.cell 7; have qf := (H.out.1.below HB2.out).box.frozen; have qz := (H.out.1.below HB2.out).box.lt; obtain ⟨ya, yc, rfl, _, _⟩ := hi1; clear hb2 hy1 hyd c1 c7)))
        go_ret2
        have hk := kept_setCell w2 d 7 (.slice ya (ints (lst (updP x.P k false) x.n)).length yc)
        exact ⟨rfl, ⟨_, HS.out, fun b hb => .inr ⟨HY.out b hb, by have := HYL.out b hb; simpa [World.setCell] using this⟩⟩, (H.out.2.1.below HB2.out).kept hk (fun e => a2 e) (fun e => a1 e.symm), ((Kept.of HB2.out).trans hk).mono (fun _ e => .inl e)⟩
      · go_enter Tryd.func54, Tryd.ntmps54
        go_wp2_with (first
          | (go_at_call 62; ((with_reducible refine HO.out.mono ?_); rintro e w1 ⟨rfl, rfl⟩))
          | (go_at_call 18; ((with_reducible refine HH.out.mono ?_); rintro e w1 ⟨rfl, hb1⟩; have HB := hi hb1; clear hb1; obtain ⟨_, c1, _, _, _, _, _, c7⟩ := ldCells (H.out.1.below HB.out).box; rw [hon] at c1))
          | (go_at_call 85; ((with_reducible refine (HT.out _ (H.out.1.below HB.out).ws).mono ?_); rintro e w2 ⟨v1, rfl, hi1, hb2, hy1⟩; have HB2 := hi (HB.out.more hb2); have hyd : ∀ b, Yb v1 b → b ≠ d := (fun b hb => by have h1 := (hy1 b hb).1; have h2 := HB.out.size; omega); have HS := hi (((H.out.1.below HB2.out).store hi1 hyd)); have HY := hi (show ∀ b, Yb v1 b → w.heap.size ≤ b from fun b hb => Nat.le_trans HB.out.size (hy1 b hb).1); have HYL := hi (show ∀ b, Yb v1 b → b < w2.heap.size from fun b hb => (hy1 b hb).2); have q7 := (H.out.1.below HB2.out).box.cell 7; have qf := (H.out.1.below HB2.out).box.frozen; have qz := (H.out.1.below HB2.out).box.lt; obtain ⟨ya, yc, rfl, _, _⟩ := hi1; have s7 := HS.out.box.cell 7; clear hb2 hy1 hyd c1 c7))
          | (go_at_call 83; ((with_reducible refine (HP.out _ _ HS.out.ws).mono ?_); rintro e w3 ⟨v2, rfl, hi2, hb3, hy2⟩; clear q7 qf qz s7; have hyd2 : ∀ b, Yb v2 b → b ≠ d := (fun b hb => by rcases hy2 b hb with h1 | h1; (have h2 := HY.out b h1; omega); (have h2 := HB2.out.size; simp [World.setCell] at h1; omega)); have HS2 := hi ((HS.out.below hb3).store hi2 hyd2); have HY2 := hi (show ∀ b, Yb v2 b → w.heap.size ≤ b from fun b hb => by rcases hy2 b hb with h1 | h1; (exact HY.out b h1); (have h2 := HB2.out.size; simp [World.setCell] at h1; omega)); have HYL2 := hi (show ∀ b, Yb v2 b → b < w3.heap.size from fun b hb => by rcases hy2 b hb with h1 | h1; (have h3 := HYL.out b h1; have h4 := hb3.size; simp [World.setCell] at h4; omega); (exact h1.2)); have HB3 := hi hb3; have q7 := (HS.out.below hb3).box.cell 7; have qf := (HS.out.below hb3).box.frozen; have qz := (HS.out.below hb3).box.lt; obtain ⟨za, zc, rfl, _, _⟩ := hi2; clear hb3 hy2 hyd2)))
        go_ret2
        have hk := kept_setCell w2 d 7 (.slice ya (ints (lst (updP x.P k false) x.n)).length yc)
        have hk3 := kept_setCell w3 d 7 (.slice za (ints (lst (updP x.P k true) x.n)).length zc)
        have e5 : ({ x with P := updP x.P k true } : St) = { ({ x with P := updP x.P k false } : St) with P := updP x.P k true } := rfl
        exact ⟨rfl, ⟨_, HS2.out, fun b hb => .inr ⟨HY2.out b hb, by have := HYL2.out b hb; simpa [World.setCell] using this⟩⟩, (((H.out.2.1.below HB2.out).kept hk (fun e => a2 e) (fun e => a1 e.symm)).below HB3.out).kept hk3 (fun e => a2 e) (fun e => a1 e.symm), ((((Kept.of HB2.out).trans hk).trans (Kept.of HB3.out)).trans hk3).mono (fun _ e => .inl e)⟩

end Go.Proofs.YtobhdjepfhbgaaaDoor
