/-
  awake, at every call.
-/
import Derived.Test.YtobhdjepfhbgaaaDoorLrD
namespace Go.Proofs.YtobhdjepfhbgaaaDoor
open Go.ChangeShapes Go.WideShapes Go.ChangeAt Go.RowKit Go.Shelf
set_option linter.unusedVariables false
set_option linter.unusedSimpArgs false
attribute [local go_sem high] eql_cd guard_cd

structure AwA (w : World) (p g A : Nat) (bs : List Nat) (W : World) : Prop where
  m : Since w p g 32 bs W
  a : CB W A 49 #[.int .i64 0, .int .i64 32]
  ne : A ≠ g
  g0 : g ≠ 0
  tab : TabW W
theorem AwA.first {w w1 : World} {p g : Nat} {bs : List Nat} (h : Since w p g 32 bs w1) (hT : TabW w) : AwA w p g w1.heap.size bs (w1.alloc (.cells #[.int .i64 0, .int .i64 32] 49)) :=
  ⟨h.later (bal _ _), CB.new _ _ _, (by have := h.mem.bytes.lt; omega), (by have := hT.lt; have := h.g; omega), hT.below (h.below.more (bal _ _))⟩
theorem AwA.later {w : World} {p g A : Nat} {bs : List Nat} {W W' : World} (h : AwA w p g A bs W) (k : Below W.heap.size W W') : AwA w p g A bs W' := ⟨h.m.later k, h.a.below k, h.ne, h.g0, h.tab.below k⟩
theorem AwA.wrote {w : World} {p g A : Nat} {bs bs' : List Nat} {W W' : World} (h : AwA w p g A bs W) (m : MemAt 96 W' p g 32 bs') (k : Kept (· = g) W W') : AwA w p g A bs' W' := ⟨h.m.wrote k m, h.a.keptB k h.ne, h.ne, h.g0, h.tab.kept k (fun e => h.g0 e.symm)⟩
structure AwB (w : World) (p g A l s c : Nat) (bs : List Nat) (x : St) (W : World) : Prop where
  m : MemAt 96 W p g 32 bs
  a : CB W A 49 #[.int .i64 0, .int .i64 32]
  lp : ∃ S, LpB W l s c 16 S x
  ne : A ≠ g ∧ A ≠ l ∧ A ≠ s ∧ A ≠ c
  gc : g ≠ c
  g0 : g ≠ 0
  lo : w.heap.size ≤ g ∧ w.heap.size ≤ l ∧ w.heap.size ≤ s ∧ w.heap.size ≤ c
  tab : TabW W
  pos : 0 < w.heap.size
  below : Below w.heap.size w W
theorem AwB.first {w W W' : World} {p g A l s c : Nat} {bs : List Nat} {x : St} {S : Words} (h : AwA w p g A bs W) (hp : 0 < w.heap.size) (hl : LpB W' l s c 16 S x) (h1 : W.heap.size ≤ l) (h2 : W.heap.size ≤ s) (h3 : W.heap.size ≤ c) (k : Below W.heap.size W W') : AwB w p g A l s c bs x W' :=
  have ha := h.a.lt
  have hg := h.m.mem.bytes.lt
  have hz := h.m.below.size
  ⟨h.m.mem.below k, h.a.below k, ⟨S, hl⟩, ⟨h.ne, by omega, by omega, by omega⟩, by omega, h.g0, ⟨h.m.g, by omega, by omega, by omega⟩, h.tab.below k, hp, h.m.below.more k⟩
theorem AwB.later {w : World} {p g A l s c : Nat} {bs : List Nat} {x : St} {W W' : World} (h : AwB w p g A l s c bs x W) (k : Below W.heap.size W W') : AwB w p g A l s c bs x W' :=
  ⟨h.m.below k, h.a.below k, h.lp.imp (fun S hS => hS.below k), h.ne, h.gc, h.g0, h.lo, h.tab.below k, h.pos, h.below.more k⟩
theorem AwB.turn {w : World} {p g A l s s' c : Nat} {bs bs' : List Nat} {x x' : St} {W W' : World} (h : AwB w p g A l s c bs x W) (hm : MemAt 96 W' p g 32 bs') (hl : ∃ S', LpB W' l s' c 16 S' x') (hs : s' = s ∨ W.heap.size ≤ s') (k : Kept (fun b => b = l ∨ b = s ∨ b = c ∨ b = g) W W') : AwB w p g A l s' c bs' x' W' := by
  obtain ⟨n1, n2, n3, n4⟩ := h.ne
  obtain ⟨o1, o2, o3, o4⟩ := h.lo
  have ha := h.a.lt
  have hz := h.below.size
  have hp := h.pos
  exact ⟨hm, h.a.keptB k (by show ¬ (A = l ∨ A = s ∨ A = c ∨ A = g); omega), hl, ⟨n1, n2, by omega, n4⟩, h.gc, h.g0, ⟨o1, o2, by omega, o4⟩, h.tab.kept k (by show ¬ (0 = l ∨ 0 = s ∨ 0 = c ∨ 0 = g); omega), h.pos, h.below.trans (k.toBelow hz (fun b e => by have e' : b = l ∨ b = s ∨ b = c ∨ b = g := e; omega))⟩

theorem AwB.fresh {w : World} {p g A l s c : Nat} {bs : List Nat} {x : St} {W : World} (h : AwB w p g A l s c bs x W) : l < W.heap.size ∧ s < W.heap.size ∧ c < W.heap.size ∧ g < W.heap.size := by
  obtain ⟨S, hS⟩ := h.lp
  exact ⟨hS.box.lt, hS.set.lt, hS.cfg.lt, h.m.bytes.lt⟩
abbrev AwK (l s c g : Nat) (W W' : World) : Prop := Kept (fun b => b = l ∨ b = s ∨ b = c ∨ b = g) W W'
theorem AwK.cb {l s c g C : Nat} {W W' : World} (k : AwK l s c g W W') {t : TypeId} {cs : Array Value} (h : CB W C t cs) (h1 : l < C ∧ s < C ∧ c < C ∧ g < C) : CB W' C t cs := h.keptB k (by show ¬ (C = l ∨ C = s ∨ C = c ∨ C = g); omega)
@[reducible] def cdY : Array Value := #[.int .i64 8195, .int .i64 160, .int .i64 1, .bool true]
@[reducible] def cdN : Array Value := #[.int .i64 0, .int .i64 0, .int .i64 0, .bool false]

set_option maxRecDepth 100000 in
set_option maxHeartbeats 8000000 in
theorem awake_any (w : World) (hT : TabW w) : Calls Tryd.prog 8 #[] w fun e w' => e = .returned (.bool true) ∧ Below w.heap.size w w' := by
  have HN := hi (show Calls Tryd.prog 34 #[.int .i64 32] w (fun e w' => ∃ p g, e = .returned (.tuple #[.pointer (some ⟨p, 0, none⟩), .int .i64 0]) ∧ Since w p g 32 (List.replicate 32 0) w') from new_z 32 32 rfl w (by omega))
  have HW1 := hi (show ∀ (p g : Nat) (W : World), MemAt 96 W p g 32 (List.replicate 32 0) → Calls Tryd.prog 32 #[.pointer (some ⟨p, 0, none⟩), .agg #[.int .i64 0, .int .i64 32], .int .i64 3, .int .i64 1, .int .u64 161] W (fun e w' => e = .returned (.int .i64 0) ∧ MemAt 96 w' p g 32 ab1 ∧ Kept (· = g) W w') from fun p g W h => write1 p g 32 _ 0 32 3 161 (by decide) (by decide) (by decide) W h)
  have HW2 := hi (show ∀ (p g : Nat) (W : World), MemAt 96 W p g 32 ab1 → Calls Tryd.prog 32 #[.pointer (some ⟨p, 0, none⟩), .agg #[.int .i64 0, .int .i64 32], .int .i64 16, .int .i64 1, .int .u64 8] W (fun e w' => e = .returned (.int .i64 0) ∧ MemAt 96 w' p g 32 ab2 ∧ Kept (· = g) W w') from fun p g W h => write1 p g 32 _ 0 32 16 8 (by decide) (by decide) (by decide) W h)
  have HLN := hi (show ∀ (p g : Nat) (W : World), MemAt 96 W p g 32 ab2 → Calls Tryd.prog 20 #[.pointer (some ⟨p, 0, none⟩), .int .i64 16, .agg #[.int .i64 0, .int .i64 16], .agg #[.int .i64 16, .int .i64 2]] W (fun e w' => ∃ l s c, e = .returned (.tuple #[.pointer (some ⟨l, 0, none⟩), .int .i64 0]) ∧ LpB w' l s c 16 S0 ax0 ∧ W.heap.size ≤ l ∧ W.heap.size ≤ s ∧ W.heap.size ≤ c ∧ Below W.heap.size W w') from fun p g W h => new_yes_lpi p g 32 ab2 16 0 16 16 2 (by decide) (by decide) (by decide) (by decide) (by decide) (by decide) W h)
  have HEN := hi (show ∀ (p g A l s c : Nat) (W : World), AwB w p g A l s c ab2 ax0 W → Calls Tryd.prog 35 #[.pointer (some ⟨l, 0, none⟩), .pointer (some ⟨p, 0, none⟩)] W (fun e w' => (∃ v, e = .returned v) ∧ AwB w p g A l s c aEn.1 aEn.2 w') from fun p g A l s c W h => by
    obtain ⟨S, hS⟩ := h.lp
    refine (enable_lpi l s c 16 p g 32 S ax0 ab2 ax0_ok W hS h.m h.gc).mono ?_
    rintro e w' ⟨he, hl, hm, hk⟩
    exact ⟨he, h.turn hm hl (.inl rfl) hk⟩)
  have HBE := hi (show ∀ (p g A l s c : Nat) (W : World), AwB w p g A l s c aEn.1 aEn.2 W → Calls Tryd.prog 26 #[.pointer (some ⟨l, 0, none⟩)] W (fun e w' => e = .returned (.agg #[.int .i64 8195, .int .i64 160, .int .i64 1, .bool true]) ∧ Below W.heap.size W w') from fun p g A l s c W h => by
    obtain ⟨S, hS⟩ := h.lp
    have h1 := best_lpi l s c 16 S aEn.2 aEn_ok.n5 aEn_ok.cm W h.tab hS
    rw [ex_best] at h1
    exact h1)
  have HR1 := hi (show ∀ (p g : Nat) (W : World), MemAt 96 W p g 32 aEn.1 → Calls Tryd.prog 36 #[.pointer (some ⟨p, 0, none⟩), .agg #[.int .i64 0, .int .i64 32], .int .i64 16, .int .i64 1] W (fun e w' => e = .returned (.tuple #[.int .u64 0, .int .i64 0]) ∧ Below W.heap.size W w') from fun p g W h => read_E p g 32 aEn.1 0 32 16 1 0 0 ex_r1 ex_a1 W h (by decide) (by decide) (by decide) (by decide))
  have HS1 := hi (show ∀ (p g A l s c : Nat) (W : World), AwB w p g A l s c aEn.1 aEn.2 W → Calls Tryd.prog 13 #[.pointer (some ⟨l, 0, none⟩), .pointer (some ⟨p, 0, none⟩), .int .i64 8195, .bool false] W (fun e w' => e = .returned (.tuple #[.bool true, .int .i64 0]) ∧ AwB w p g A l s c aS1.1 aS1.2 w' ∧ AwK l s c g W w') from fun p g A l s c W h => by
    obtain ⟨S, hS⟩ := h.lp
    have h1 := set_lpi l s c 16 p g 32 S aEn.2 aEn.1 (by rw [aEn_len]; exact aEn_ok) 8195 false W hS h.m h.gc
    rw [ex_has, ex_err] at h1
    refine h1.mono ?_
    rintro e w' ⟨he, hl, hm, hk⟩
    have hk' : AwK l s c g W w' := (hk.mono (fun b hb => by have hb' : b = s ∨ b = g := hb; show b = l ∨ b = s ∨ b = c ∨ b = g; omega))
    exact ⟨he, h.turn hm hl (.inl rfl) hk', hk'⟩)
  have HBN := hi (show ∀ (p g A l s c : Nat) (W : World), AwB w p g A l s c aS1.1 aS1.2 W → Calls Tryd.prog 26 #[.pointer (some ⟨l, 0, none⟩)] W (fun e w' => e = .returned (.agg #[.int .i64 0, .int .i64 0, .int .i64 0, .bool false]) ∧ Below W.heap.size W w') from fun p g A l s c W h => by
    obtain ⟨S, hS⟩ := h.lp
    have h1 := best_lpi l s c 16 S aS1.2 aS1_ok.n5 aS1_ok.cm W h.tab hS
    rw [ex_none] at h1
    exact h1)
  have HS2 := hi (show ∀ (p g A l s c : Nat) (W : World), AwB w p g A l s c aS1.1 aS1.2 W → Calls Tryd.prog 13 #[.pointer (some ⟨l, 0, none⟩), .pointer (some ⟨p, 0, none⟩), .int .i64 8200, .bool true] W (fun e w' => (∃ v, e = .returned v) ∧ AwB w p g A l s c aS2.1 aS2.2 w' ∧ AwK l s c g W w') from fun p g A l s c W h => by
    obtain ⟨S, hS⟩ := h.lp
    refine (set_lpi l s c 16 p g 32 S aS1.2 aS1.1 (by rw [aS1_len]; exact aS1_ok) 8200 true W hS h.m h.gc).mono ?_
    rintro e w' ⟨he, hl, hm, hk⟩
    have hk' : AwK l s c g W w' := (hk.mono (fun b hb => by have hb' : b = s ∨ b = g := hb; show b = l ∨ b = s ∨ b = c ∨ b = g; omega))
    exact ⟨⟨_, he⟩, h.turn hm hl (.inl rfl) hk', hk'⟩)
  have HDI := hi (show ∀ (p g A l s c : Nat) (W : World), AwB w p g A l s c aS2.1 aS2.2 W → Calls Tryd.prog 14 #[.pointer (some ⟨l, 0, none⟩), .pointer (some ⟨p, 0, none⟩)] W (fun e w' => (∃ v, e = .returned v) ∧ ∃ s', AwB w p g A l s' c aDi.1 aDi.2 w' ∧ AwK l s c g W w') from fun p g A l s c W h => by
    obtain ⟨S, hS⟩ := h.lp
    refine (disable_on l s c 16 p g 32 S aS2.2 aS2.1 (by rw [aS2_len]; exact aS2_ok) aS2_on W h.tab hS h.m h.gc h.g0).mono ?_
    rintro e w' ⟨he, ⟨s', hs, hl⟩, hm, hk⟩
    have hk' : AwK l s c g W w' := (hk.mono (fun b hb => by have hb' : b = l ∨ b = g := hb; show b = l ∨ b = s ∨ b = c ∨ b = g; omega))
    exact ⟨he, s', h.turn hm ⟨_, hl⟩ (.inr hs) hk', hk'⟩)
  have HR2 := hi (show ∀ (p g : Nat) (W : World), MemAt 96 W p g 32 aDi.1 → Calls Tryd.prog 36 #[.pointer (some ⟨p, 0, none⟩), .agg #[.int .i64 0, .int .i64 32], .int .i64 17, .int .i64 1] W (fun e w' => e = .returned (.tuple #[.int .u64 1, .int .i64 0]) ∧ Below W.heap.size W w') from fun p g W h => read_E p g 32 aDi.1 0 32 17 1 1 0 ex_r2 ex_a2 W h (by decide) (by decide) (by decide) (by decide))
  have hp0 : 0 < w.heap.size := hT.lt
  have HT := hi (And.intro hT hp0)
  have qc : eqCd ⟨8195, 160, 1, true⟩ ⟨8195, 160, 1, true⟩ = true := by decide
  clear hT hp0
  go_enter Tryd.func8, Tryd.ntmps8
  go_wp2_with (first
    | (go_at_call 34; ((with_reducible refine HN.out.mono ?_); rintro e w1 ⟨p, g, rfl, hs1⟩; have H1 := hi (AwA.first hs1 HT.out.1); clear hs1; have q0 := H1.out.a.cell 0; have q1 := H1.out.a.cell 1))
    | (go_at_call 32; ((with_reducible refine (HW1.out p g _ H1.out.m.mem).mono ?_); rintro e w2 ⟨rfl, hm2, hk2⟩; have H2 := hi (H1.out.wrote hm2 hk2); clear q0 q1 hm2 hk2; have q0 := H2.out.a.cell 0; have q1 := H2.out.a.cell 1))
    | (go_at_call 32; ((with_reducible refine (HW2.out p g _ H2.out.m.mem).mono ?_); rintro e w3 ⟨rfl, hm3, hk3⟩; have H3 := hi (H2.out.wrote hm3 hk3); clear q0 q1 hm3 hk3))
    | (go_at_call 20; ((with_reducible refine (HLN.out p g _ H3.out.m.mem).mono ?_); rintro e w4 ⟨l, s, c, rfl, hl4, h41, h42, h43, hb4⟩; have H4 := hi (AwB.first H3.out HT.out.2 hl4 h41 h42 h43 hb4); clear hl4 h41 h42 h43 hb4))
    | (go_at_call 35; ((with_reducible refine (HEN.out p g _ l s c _ H4.out).mono ?_); rintro e w5 ⟨⟨v5, rfl⟩, h5⟩; have H5 := hi h5; clear h5))
    | (go_at_call 26; ((with_reducible refine (HBE.out p g _ l s c _ H5.out).mono ?_); rintro e w6 ⟨rfl, hb6⟩; have hk6 := hb6.alloc hb6.size (.cells cdY 63); have hz6 := AwB.fresh (H5.out.later hb6); have H6 := hi (And.intro (H5.out.later hk6) (CB.new w6 63 cdY)); clear hb6 hk6; have q0 := H6.out.1.a.cell 0; have q1 := H6.out.1.a.cell 1))
    | (go_at_call 36; ((with_reducible refine (HR1.out p g _ H6.out.1.m).mono ?_); rintro e w7 ⟨rfl, hb7⟩; have H7 := hi (And.intro (H6.out.1.later hb7) (H6.out.2.below hb7)); clear hb7 q0 q1))
    | (go_at_call 13; ((with_reducible refine (HS1.out p g _ l s c _ H7.out.1).mono ?_); rintro e w8 ⟨rfl, h8, k8⟩; have H8 := hi (And.intro h8 (k8.cb H7.out.2 hz6)); clear h8 k8))
    | (go_at_call 26; ((with_reducible refine (HBN.out p g _ l s c _ H8.out.1).mono ?_); rintro e w9 ⟨rfl, hb9⟩; have hk9 := hb9.alloc hb9.size (.cells cdN 63); have hz9 := AwB.fresh (H8.out.1.later hb9); have H9 := hi (And.intro (H8.out.1.later hk9) (And.intro (H8.out.2.below hk9) (CB.new w9 63 cdN))); clear hb9 hk9))
    | (go_at_call 13; ((with_reducible refine (HS2.out p g _ l s c _ H9.out.1).mono ?_); rintro e wA ⟨⟨vA, rfl⟩, hA, kA⟩; have HA := hi (And.intro hA (And.intro (kA.cb H9.out.2.1 hz6) (kA.cb H9.out.2.2 hz9))); clear hA kA))
    | (go_at_call 14; ((with_reducible refine (HDI.out p g _ l s c _ HA.out.1).mono ?_); rintro e wB ⟨⟨vB, rfl⟩, s', hB, kB⟩; have HB := hi (And.intro hB (And.intro (kB.cb HA.out.2.1 hz6) (kB.cb HA.out.2.2 hz9))); clear hB kB; have q0 := HB.out.1.a.cell 0; have q1 := HB.out.1.a.cell 1))
    | (go_at_call 36; ((with_reducible refine (HR2.out p g _ HB.out.1.m).mono ?_); rintro e wC ⟨rfl, hbC⟩; have HC := hi (And.intro (HB.out.1.later hbC) (And.intro (HB.out.2.1.below hbC) (HB.out.2.2.below hbC))); clear hbC q0 q1; obtain ⟨c0, c1, c2, c3⟩ := CB.four HC.out.2.1; obtain ⟨n0, n1, n2, n3⟩ := CB.four HC.out.2.2)))
  go_ret
  exact ⟨rfl, HC.out.1.below⟩

end Go.Proofs.YtobhdjepfhbgaaaDoor
