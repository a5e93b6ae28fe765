/-
  The document's New.
-/
import Derived.Test.YtjgamfonpagkbaaRefB
import Derived.Test.YtjgamfonpagkbaaExt
namespace Go.Proofs.Ytjgamfonpagkbaa
open Go.ChangeShapes Go.WideShapes Go.ChangeAt Go.RowKit Go.Shelf
set_option linter.unusedVariables false
attribute [local go_sem] Oper.semAt_some

theorem rnew_no (f n : Int) (s : ByteArray) (w : World) (hf : Int64 f) (hn : Int64 n) (h : ¬ NewOk f n) :
    Calls Try.prog 25 #[.int .i64 f, .int .i64 n, .string s] w fun e w' => e = .returned (.tuple #[.pointer none, .bool false]) ∧ w = w' := by
  obtain ⟨f1, f2⟩ := hf
  obtain ⟨n1, n2⟩ := hn
  unfold NewOk at h
  have hc : f < 0 ∨ (0 ≤ f ∧ n < 0) ∨ (0 ≤ f ∧ 0 ≤ n ∧ 16384 < f) ∨ (0 ≤ f ∧ 0 ≤ n ∧ f ≤ 16384 ∧ 16384 < n) ∨ (0 ≤ f ∧ 0 ≤ n ∧ f ≤ 16384 ∧ n ≤ 16384 ∧ 16384 < f + n) := by omega
  clear h
  rcases hc with h1 | ⟨h1, h2⟩ | ⟨h1, h2, h3⟩ | ⟨h1, h2, h3, h4⟩ | ⟨h1, h2, h3, h4, h5⟩
  · go_enter Try.func25, Try.ntmps25
    go_wp2
    go_ret2
    exact ⟨rfl, rfl⟩
  · have hd1 : decide (f < 0) = false := by simp; omega
    go_enter Try.func25, Try.ntmps25
    go_wp2
    go_ret2
    exact ⟨rfl, rfl⟩
  · have hd1 : decide (f < 0) = false := by simp; omega
    have hd2 : decide (n < 0) = false := by simp; omega
    go_enter Try.func25, Try.ntmps25
    go_wp2
    go_ret2
    exact ⟨rfl, rfl⟩
  · have hd1 : decide (f < 0) = false := by simp; omega
    have hd2 : decide (n < 0) = false := by simp; omega
    have hd3 : decide (16384 < f) = false := by simp; omega
    go_enter Try.func25, Try.ntmps25
    go_wp2
    go_ret2
    exact ⟨rfl, rfl⟩
  · have hd1 : decide (f < 0) = false := by simp; omega
    have hd2 : decide (n < 0) = false := by simp; omega
    have hd3 : decide (16384 < f) = false := by simp; omega
    have hd4 : decide (16384 < n) = false := by simp; omega
    have hw : IntKind.i64.wrap (f + n) = f + n := by rw [IntKind.wrap_i64]; omega
    go_enter Try.func25, Try.ntmps25
    go_wp2
    go_ret2
    exact ⟨rfl, rfl⟩

theorem info_ln : (Try.prog.info? 52).map (fun i => (i.zero, i.size, i.bytes)) = some (some (.agg #[.bool false, .bool false, .bool false, .bool false, .bool false, .int .i64 0, .int .i64 0]), 7, 24) := by kernel_rfl
theorem info_str : (Try.prog.info? 9).map (fun i => (i.zero, i.size, i.bytes)) = some (some (.string ⟨#[]⟩), 1, 16) := by kernel_rfl
theorem fresh_succ (k : Nat) (s : ByteArray) : fresh (k + 1) s = fresh k s ++ [⟨Ln.zero, s⟩] := by simp [fresh, List.replicate_succ']
theorem flL_fresh (k : Nat) (s : ByteArray) : flL (fresh (k + 1) s) = flL (fresh k s) ++ Ln.zero.cs := by rw [fresh_succ, flL, flat_append, flat_one]
theorem flX_fresh (k : Nat) (s : ByteArray) : flX (fresh (k + 1) s) = flX (fresh k s) ++ [.string s] := by rw [fresh_succ, flX, flat_append, flat_one]
theorem fresh_len (k : Nat) (s : ByteArray) : (fresh k s).length = k := by simp [fresh]
theorem cell_ln_new (w : World) (t : TypeId) : ∀ j u, Ln.zero.cs[j]? = some u → (w.alloc (.cells #[.bool false, .bool false, .bool false, .bool false, .bool false, .int .i64 0, .int .i64 0] t)).cell? ((⟨w.heap.size, 0, none⟩ : Addr).add j) = some u := by
  intro j u h
  rw [addr_add, Nat.zero_add, (CB.new w t _).cell]
  match j, h with
  | 0, h => simpa [Ln.cs, Ln.zero, St.zero] using h
  | 1, h => simpa [Ln.cs, Ln.zero, St.zero] using h
  | 2, h => simpa [Ln.cs, Ln.zero, St.zero] using h
  | 3, h => simpa [Ln.cs, Ln.zero, St.zero] using h
  | 4, h => simpa [Ln.cs, Ln.zero, St.zero] using h
  | 5, h => simpa [Ln.cs, Ln.zero, St.zero] using h
  | 6, h => simpa [Ln.cs, Ln.zero, St.zero] using h
  | j + 7, h => simp [Ln.cs] at h

theorem cell_one_at {W : World} {b : Nat} (hb : b = W.heap.size) (x : Value) (t : TypeId) : ∀ j u, [x][j]? = some u → (W.alloc (.cells #[x] t)).cell? ((⟨b, 0, none⟩ : Addr).add j) = some u := by
  subst hb
  exact cell_one_new W x t
/-- A row of one type lies apart from a row of another. -/
theorem own_apart {W : World} {base sz sz' n n' : Nat} {te te' : TypeId} {v v' : Value} {cs cs' : List Value} (h : W.ownsRow base te sz v n cs) (h' : W.ownsRow base te' sz' v' n' cs') (hne : te ≠ te') : v.ownBlock = none ∨ v.ownBlock ≠ v'.ownBlock := by
  rcases h.2 with ⟨rfl, _⟩ | ⟨g, cap, cur, rfl, _, hg, _⟩
  · exact .inl rfl
  · rcases h'.2 with ⟨rfl, _⟩ | ⟨g', cap', cur', rfl, _, hg', _⟩
    · exact .inr (by simp [Value.ownBlock])
    · refine .inr fun e => ?_
      obtain rfl : g = g' := by simpa [Value.ownBlock] using e
      rw [hg] at hg'
      simp only [Option.some.injEq, Obj.cells.injEq] at hg'
      exact hne hg'.2.1
theorem own_above {W : World} {base sz n : Nat} {te : TypeId} {v : Value} {cs : List Value} (h : W.ownsRow base te sz v n cs) {b : Nat} (hb : b < base) : some b ≠ v.ownBlock := fun e => by have := (h.lt b e.symm).1; omega

/-- Where New's loop stands. -/
structure RN (w : World) (k : Nat) (v1 v2 : Value) (s : ByteArray) (f : Int) (W : World) : Prop where
  box : CB W w.heap.size 74 #[.int .i64 f, v1, v2]
  l : W.ownsRow (w.heap.size + 1) 52 7 v1 k (flL (fresh k s))
  x : W.ownsRow (w.heap.size + 1) 9 1 v2 k (flX (fresh k s))
  below : Below w.heap.size w W
/-- Half a round: the lines' row has grown. -/
structure RM (w : World) (k : Nat) (v1 v2 : Value) (s : ByteArray) (f : Int) (W : World) : Prop where
  box : CB W w.heap.size 74 #[.int .i64 f, v1, v2]
  l : W.ownsRow (w.heap.size + 1) 52 7 v1 (k + 1) (flL (fresh (k + 1) s))
  x : W.ownsRow (w.heap.size + 1) 9 1 v2 k (flX (fresh k s))
  below : Below w.heap.size w W
theorem ty_lx : (52 : Nat) ≠ 9 := by decide
theorem CB.set3 {W : World} {B : Nat} {t : TypeId} {a0 a1 a2 : Value} (h : CB W B t #[a0, a1, a2]) (v : Value) : CB (W.setCell ⟨B, 1, none⟩ v) B t #[a0, v, a2] := by
  have := h.set 1 v
  simpa only [List.setIfInBounds_toArray, List.set_cons_zero, List.set_cons_succ] using this
theorem CB.set3b {W : World} {B : Nat} {t : TypeId} {a0 a1 a2 : Value} (h : CB W B t #[a0, a1, a2]) (v : Value) : CB (W.setCell ⟨B, 2, none⟩ v) B t #[a0, a1, v] := by
  have := h.set 2 v
  simpa only [List.setIfInBounds_toArray, List.set_cons_zero, List.set_cons_succ] using this
theorem own_setCell {W : World} {base sz n : Nat} {te : TypeId} {v : Value} {cs : List Value} (h : W.ownsRow base te sz v n cs) {b o : Nat} (hb : b < base) (u : Value) : (W.setCell ⟨b, o, none⟩ u).ownsRow base te sz v n cs :=
  h.kept (row := some b) ⟨rfl, rfl, rfl, by simp, fun k hk hne => Below.heap_setCell W ⟨b, o, none⟩ u k (fun e => hne (by rw [e]))⟩ (.inr (own_above h hb).symm)
theorem RN.lines {w W w9 : World} {k : Nat} {v1 v2 v' : Value} {s : ByteArray} {f : Int} {tmp : Obj} (h : RN w k v1 v2 s f W) (ho : w9.ownsRow (w.heap.size + 1) 52 7 v' (k + 1) (flL (fresh k s) ++ Ln.zero.cs)) (hg : (W.alloc tmp).grownBy w9 v1.ownBlock) :
    CB w9 w.heap.size 74 #[.int .i64 f, v1, v2] ∧ RM w k v' v2 s f (w9.setCell ⟨w.heap.size, 1, none⟩ v') := by
  have hb1 : CB w9 w.heap.size 74 #[.int .i64 f, v1, v2] := CB.kept (h.box.alloc tmp) hg (own_above h.l (by omega))
  have hx1 := (h.x.alloc tmp).kept hg (own_apart (h.x.alloc tmp) (h.l.alloc tmp) (Ne.symm ty_lx))
  have hbl : Below w.heap.size w w9 := (h.below.alloc h.below.size tmp).grown hg (by have := h.below.size; simp; omega) (fun j e => by have := (h.l.lt j e).1; omega)
  refine ⟨hb1, hb1.set3 v', ?_, own_setCell hx1 (by omega) _, below_set hbl (Nat.le_refl _) _⟩
  rw [flL_fresh]
  exact own_setCell ho (by omega) _
theorem RM.texts {w W w9 : World} {k : Nat} {v1 v2 v' : Value} {s : ByteArray} {f : Int} {tmp : Obj} (h : RM w k v1 v2 s f W) (ho : w9.ownsRow (w.heap.size + 1) 9 1 v' (k + 1) (flX (fresh k s) ++ [.string s])) (hg : (W.alloc tmp).grownBy w9 v2.ownBlock) :
    CB w9 w.heap.size 74 #[.int .i64 f, v1, v2] ∧ RN w (k + 1) v1 v' s f (w9.setCell ⟨w.heap.size, 2, none⟩ v') := by
  have hb1 : CB w9 w.heap.size 74 #[.int .i64 f, v1, v2] := CB.kept (h.box.alloc tmp) hg (own_above h.x (by omega))
  have hl1 := (h.l.alloc tmp).kept hg (own_apart (h.l.alloc tmp) (h.x.alloc tmp) ty_lx)
  have hbl : Below w.heap.size w w9 := (h.below.alloc h.below.size tmp).grown hg (by have := h.below.size; simp; omega) (fun j e => by have := (h.x.lt j e).1; omega)
  refine ⟨hb1, hb1.set3b v', own_setCell hl1 (by omega) _, ?_, below_set hbl (Nat.le_refl _) _⟩
  rw [flX_fresh]
  exact own_setCell ho (by omega) _

/-- What the document's New leaves. -/
def RMade (w : World) (f : Int) (n : Nat) (s : ByteArray) (e : Ending) (w' : World) : Prop :=
  ∃ b lg xg la xa lc xc, e = .returned (.tuple #[.pointer (some ⟨b, 0, none⟩), .bool true]) ∧ w.heap.size ≤ b ∧ w.heap.size ≤ lg ∧ w.heap.size ≤ xg ∧ RfAt w' b lg xg la xa lc xc f (fresh n s) ∧ Below w.heap.size w w'
theorem rmade_of {w W : World} {n : Nat} {v1 v2 : Value} {s : ByteArray} {f : Int} (h : RN w n v1 v2 s f W) : RMade w f n s (.returned (.tuple #[.pointer (some ⟨w.heap.size, 0, none⟩), .bool true])) W := by
  have hap := own_apart h.l h.x ty_lx
  have hlt1 := h.l.lt
  have hlt2 := h.x.lt
  rcases h.l.2 with ⟨rfl, h0⟩ | ⟨lg, lc, cur, rfl, hb, hg, _⟩
  · subst h0
    obtain ⟨va, vc, rfl⟩ : ∃ a c, v2 = .slice a 0 c := by
      rcases h.x.2 with ⟨rfl, _⟩ | ⟨g, cap, cur, rfl, _⟩
      · exact ⟨_, _, rfl⟩
      · exact ⟨_, _, rfl⟩
    exact ⟨w.heap.size, w.heap.size, w.heap.size, none, va, 0, vc, rfl, Nat.le_refl _, Nat.le_refl _, Nat.le_refl _, ⟨by rw [fresh_len]; exact h.box, fun hne => absurd rfl hne⟩, h.below⟩
  · rcases h.x.2 with ⟨rfl, h0⟩ | ⟨xg, xc, cur', rfl, hb', hg', _⟩
    · subst h0
      exact ⟨w.heap.size, w.heap.size, w.heap.size, _, none, _, 0, rfl, Nat.le_refl _, Nat.le_refl _, Nat.le_refl _, ⟨by rw [fresh_len]; exact h.box, fun hne => absurd rfl hne⟩, h.below⟩
    · refine ⟨w.heap.size, lg, xg, _, _, lc, xc, rfl, Nat.le_refl _, by omega, by omega, ⟨by rw [fresh_len]; exact h.box, fun hne => ⟨rfl, rfl, Row.own h.l, Row.own h.x, by omega, by omega, fun e => ?_⟩⟩, h.below⟩
      subst e
      rcases hap with hap | hap
      · simp [Value.ownBlock] at hap
      · exact hap rfl

set_option maxRecDepth 100000 in
set_option maxHeartbeats 4000000 in
theorem rnew_yes (f : Int) (n : Nat) (s : ByteArray) (w : World) (h : NewOk f n) :
    Calls Try.prog 25 #[.int .i64 f, .int .i64 n, .string s] w (RMade w f n s) := by
  obtain ⟨f1, n1, hs⟩ := h
  obtain ⟨i0, hi2, hz0, hz1, hz2⟩ := info_parts info_ln
  obtain ⟨j0, hj2, hy0, hy1, hy2⟩ := info_parts info_str
  have hd1 : decide (f < 0) = false := by simp; omega
  have hd2 : decide ((n : Int) < 0) = false := by simp
  have hd3 : decide (16384 < f) = false := by simp; omega
  have hd4 : decide (16384 < (n : Int)) = false := by simp; omega
  have hw : IntKind.i64.wrap (f + n) = f + n := by rw [IntKind.wrap_i64]; omega
  have hd5 : decide (16384 < f + (n : Int)) = false := by simp; omega
  have hn : n ≤ 16384 := by omega
  have H0 := hi (show RN w 0 (.slice none 0 0) (.slice none 0 0) s f (w.alloc (.cells #[.int .i64 f, .slice none 0 0, .slice none 0 0] 74)) from ⟨CB.new w _ _, World.ownsRow_nil _ _ _ _, World.ownsRow_nil _ _ _ _, bal w _⟩)
  go_enter Try.func25, Try.ntmps25
  go_wp2
  go_loopw [9] (fun i wr => ∃ k : Nat, k ≤ n ∧ i = .int .i64 k ∧ ∃ v1 v2, Hi (RN w k v1 v2 s f wr)) (fun i _ => n - (intOf i).toNat)
  case atStart => exact ⟨0, Nat.zero_le _, rfl, _, _, H0⟩
  case round =>
    obtain ⟨k, hk, rfl, v1, v2, HX⟩ := hrel
    clear H0
    by_cases hlt : k < n
    · have hX := HX.out
      have hbox := hX.box
      have hl := hX.l
      have hbs := hX.below.size
      have hwl := hbox.lt
      have c1 := hbox.cell 1
      have c2 := hbox.cell 2
      obtain ⟨va, vc, rfl⟩ := own_slice hl
      obtain ⟨xa, xc, rfl⟩ := own_slice hX.x
      clear hX
      go_wp2_with (first
        | (at_builtin; refine wpList_append_own _ rfl _ _ 71 rfl (w.heap.size + 1) 52 i0 (.agg #[.bool false, .bool false, .bool false, .bool false, .bool false, .int .i64 0, .int .i64 0]) 7 24 Try.underlying71 hi2 hz0 hz1 hz2 rfl (by decide) _ _ _ rfl (hl.alloc _) ⟨wr.heap.size, 0, none⟩ 1 1 Ln.zero.cs rfl rfl (cell_ln_new _ _) (ln_one _) (by unfold maxLen; omega) (by omega) (by simp; omega) ?_; intro v' w9 hown' hgrow _; obtain ⟨g', cap', rfl⟩ := ownsRow_succ hown'; obtain ⟨hb9, hm9⟩ := HX.out.lines hown' hgrow; have d0 := hb9.cell 0; have d1 := hb9.cell 1; have d2 := hb9.cell 2; have fz := hb9.frozen; have HM := hi hm9; have hx2 := hm9.x; have hw9 : w.heap.size ≤ w9.heap.size := (by have h9 := hm9.below.size; simpa using h9); have m1 := hm9.box.cell 1; have m2 := hm9.box.cell 2; have mf := hm9.box.frozen; clear hb9 hm9)
        | (at_builtin; refine wpList_append_own _ rfl _ _ 72 rfl (w.heap.size + 1) 9 j0 (.string ⟨#[]⟩) 1 16 Try.underlying72 hj2 hy0 hy1 hy2 rfl (by decide) _ _ _ rfl (hx2.alloc _) ⟨w9.heap.size, 0, none⟩ 1 1 [.string s] rfl rfl (cell_one_at (by simp) _ _) (by simp [Value.oneCell']) (by unfold maxLen; omega) (by omega) (by simp; omega) ?_; intro v'' w8 hown8 hgrow8 _; obtain ⟨g8, cap8, rfl⟩ := ownsRow_succ hown8; obtain ⟨hb8, hm8⟩ := HM.out.texts hown8 hgrow8; have e0 := hb8.cell 0; have e1 := hb8.cell 1; have e2 := hb8.cell 2; have fy := hb8.frozen; have HR := hi hm8; clear hb8 hm8))
      go_roundw
      case rel => exact ⟨k + 1, by omega, by go_num, _, _, HR⟩
      case measure => simp only [intOf]; omega
    · obtain rfl : k = n := by omega
      go_wp2
      go_ret2
      exact rmade_of HX.out

end Go.Proofs.Ytjgamfonpagkbaa
