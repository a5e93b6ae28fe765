/-
  The document's part in memory; its lists, plain; Of, bit, put.
-/
import Derived.Test.YtobhdjepfhbgaaaDoorLpN
namespace Go.Proofs.YtobhdjepfhbgaaaDoor
open Go.ChangeShapes Go.WideShapes Go.ChangeAt Go.RowKit Go.Shelf
set_option linter.unusedVariables false
set_option linter.unusedSimpArgs false

-- rising lists are told by their members
theorem rise_ext : ∀ {l m : List Int}, Rises l → Rises m → (∀ x, x ∈ l ↔ x ∈ m) → l = m
  | [], [], _, _, _ => rfl
  | [], y :: r, _, _, h => by have := (h y).2 (by simp); simp at this
  | x :: r, [], _, _, h => by have := (h x).1 (by simp); simp at this
  | x :: r, y :: s, h1, h2, h => by
    have a1 := List.pairwise_cons.1 h1
    have a2 := List.pairwise_cons.1 h2
    have e : x = y := by
      rcases List.mem_cons.1 ((h x).1 (by simp)) with e | e
      · exact e
      · rcases List.mem_cons.1 ((h y).2 (by simp)) with e2 | e2
        · exact e2.symm
        · have := a2.1 x e; have := a1.1 y e2; omega
    subst e
    refine congrArg _ (rise_ext a1.2 a2.2 (fun z => ?_))
    constructor
    · intro hz
      have hx := a1.1 z hz
      rcases List.mem_cons.1 ((h z).1 (by simp [hz])) with e | e
      · omega
      · exact e
    · intro hz
      have hx := a2.1 z hz
      rcases List.mem_cons.1 ((h z).2 (by simp [hz])) with e | e
      · omega
      · exact e
theorem ints_rise (P : Nat → Bool) (n : Nat) : Rises (ints (lst P n)) := by
  have h1 := lst_rise P n
  unfold Rises ints
  rw [List.pairwise_map]
  exact h1.imp (fun hab => by omega)
theorem ints_mem {P : Nat → Bool} {n : Nat} {z : Int} : z ∈ ints (lst P n) ↔ ∃ k : Nat, z = (k : Int) ∧ k < n ∧ P k = true := by
  simp only [ints, List.mem_map]
  constructor
  · rintro ⟨k, hk, rfl⟩
    obtain ⟨h1, h2⟩ := lst_mem.1 hk
    exact ⟨k, rfl, h1, h2⟩
  · rintro ⟨k, rfl, h1, h2⟩
    exact ⟨k, lst_mem.2 ⟨h1, h2⟩, rfl⟩
theorem ints_take (P : Nat → Bool) (n k : Nat) : (ints (lst P n)).filter (fun x => decide (x ≠ (k : Int))) = ints (lst (updP P k false) n) := by
  refine rise_ext ((ints_rise P n).filter _) (ints_rise _ _) (fun z => ?_)
  rw [List.mem_filter, ints_mem, ints_mem]
  constructor
  · rintro ⟨⟨j, rfl, h1, h2⟩, h3⟩
    have h3' : ¬ j = k := fun e => by simp [e] at h3
    exact ⟨j, rfl, h1, by simp only [updP, if_neg h3']; exact h2⟩
  · rintro ⟨j, rfl, h1, h2⟩
    by_cases e : j = k
    · simp [updP, e] at h2
    · simp only [updP, if_neg e] at h2
      exact ⟨⟨j, rfl, h1, h2⟩, by simp; omega⟩
theorem ints_put (P : Nat → Bool) (n k : Nat) (hk : k < n) (hn : n ≤ 512) : insL (ints (lst P n)) (k : Int) = ints (lst (updP P k true) n) := by
  have hok : okM (k : Int) = true := by simp only [okM, decide_eq_true_eq]; omega
  have hins : Rises (insL (ints (lst P n)) (k : Int)) ∧ ∀ z, z ∈ insL (ints (lst P n)) (k : Int) ↔ z = (k : Int) ∨ z ∈ ints (lst P n) := by
    unfold insL
    by_cases hc : okM (k : Int) = true ∧ isIn (ints (lst P n)) (k : Int) = false
    · rw [if_pos hc]
      have hnot : (k : Int) ∉ ints (lst P n) := by have := hc.2; simpa [isIn] using this
      obtain ⟨h1, h2⟩ := insL_fold (k : Int) (ints (lst P n)) [] (by simpa using ints_rise P n) (by simp) hnot
      exact ⟨h1, fun z => by rw [show putRun (k : Int) (ints (lst P n)) = (ints (lst P n)).foldl (putStep (k : Int)) ([], false) from rfl, h2 z, List.nil_append]⟩
    · rw [if_neg hc]
      have hin : (k : Int) ∈ ints (lst P n) := by
        cases e : isIn (ints (lst P n)) (k : Int)
        · exact absurd ⟨hok, e⟩ hc
        · simpa [isIn] using e
      exact ⟨ints_rise P n, fun z => ⟨.inr, fun h => h.elim (fun e => e ▸ hin) id⟩⟩
  refine rise_ext hins.1 (ints_rise _ _) (fun z => ?_)
  rw [hins.2, ints_mem, ints_mem]
  constructor
  · rintro (rfl | ⟨j, rfl, h1, h2⟩)
    · exact ⟨k, rfl, hk, by simp [updP]⟩
    · refine ⟨j, rfl, h1, ?_⟩
      unfold updP; split
      · rfl
      · exact h2
  · rintro ⟨j, rfl, h1, h2⟩
    by_cases e : j = k
    · exact .inl (by rw [e])
    · simp only [updP, if_neg e] at h2
      exact .inr ⟨j, rfl, h1, h2⟩
theorem ints_has (P : Nat → Bool) (n k : Nat) (hk : k < n) : isIn (ints (lst P n)) (k : Int) = P k := by
  rw [Bool.eq_iff_iff, isIn, decide_eq_true_iff, ints_mem]
  constructor
  · rintro ⟨j, e, _, h2⟩
    have : j = k := by omega
    rw [← this]; exact h2
  · exact fun h => ⟨k, rfl, hk, h⟩

/-- The document's part: its cells, its bytes, its list. -/
@[reducible] def ldCs (x : St) (on : Bool) (f capf : Nat) (yv : Value) : Array Value := #[.int .i64 x.n, .bool on, .int .i64 x.pa, .int .i64 x.ps, .int .i64 x.qa, .int .i64 x.qs, .slice (some ⟨f, 0, none⟩) x.n capf, yv]
structure LdB (W : World) (d f capf : Nat) (yv : Value) (x : St) : Prop where
  box : CB W d 86 (ldCs x x.on f capf yv)
  cfg : BytesAt W f x.cfg
  len : x.cfg.length = x.n
  cap : x.n ≤ capf ∧ capf ≤ maxLen
  ws : IntsAt W yv (ints (lst x.P x.n))
theorem LdB.df {W : World} {d f capf : Nat} {yv : Value} {x : St} (h : LdB W d f capf yv x) : d ≠ f := fun e => by
  have h1 := h.box; obtain ⟨⟨r, h2⟩, _⟩ := h.cfg
  unfold CB at h1
  rw [e, h2] at h1
  simp only [Option.some.injEq, Obj.cells.injEq] at h1
  exact absurd h1.2.1 (by decide)
theorem LdB.apart {W : World} {d f capf q h cq : Nat} {yv : Value} {x : St} {bs : List Nat} (a : LdB W d f capf yv x) (m : MemAt 107 W q h cq bs) : d ≠ h ∧ q ≠ d ∧ q ≠ f := by
  obtain ⟨⟨r, h2⟩, _⟩ := m.bytes
  obtain ⟨⟨r3, h3⟩, _⟩ := a.cfg
  have h1 := a.box; have h5 := m.box
  unfold CB at h1
  refine ⟨fun e => ?_, fun e => ?_, fun e => ?_⟩
  · rw [e, h2] at h1; simp only [Option.some.injEq, Obj.cells.injEq] at h1; exact absurd h1.2.1 (by decide)
  · rw [e, h1] at h5; simp only [Option.some.injEq, Obj.cells.injEq] at h5; exact absurd h5.2.1 (by decide)
  · rw [e, h3] at h5; simp only [Option.some.injEq, Obj.cells.injEq] at h5; exact absurd h5.2.1 (by decide)
theorem LdB.kept {A W : World} {d f capf : Nat} {yv : Value} {x : St} (h : LdB A d f capf yv x) {bs : Nat → Prop} (k : Kept bs A W) (h1 : ¬ bs d) (h2 : ¬ bs f) (h3 : ∀ b, Yb yv b → ¬ bs b) : LdB W d f capf yv x :=
  ⟨h.box.keptB k h1, h.cfg.of_block (k.block f h.cfg.lt h2), h.len, h.cap, h.ws.keptY k h3⟩
theorem LdB.below {A W : World} {d f capf : Nat} {yv : Value} {x : St} (h : LdB A d f capf yv x) (k : Below A.heap.size A W) : LdB W d f capf yv x :=
  h.kept (bs := fun _ => False) (Kept.of k) (fun e => e) (fun e => e) (fun _ _ e => e)
theorem ldCells {W : World} {d f capf : Nat} {yv : Value} {x : St} {on : Bool} (h : CB W d 86 (ldCs x on f capf yv)) :
    W.cell? ⟨d, 0, none⟩ = some (.int .i64 x.n) ∧ W.cell? ⟨d, 1, none⟩ = some (.bool on) ∧ W.cell? ⟨d, 2, none⟩ = some (.int .i64 x.pa) ∧ W.cell? ⟨d, 3, none⟩ = some (.int .i64 x.ps) ∧ W.cell? ⟨d, 4, none⟩ = some (.int .i64 x.qa) ∧ W.cell? ⟨d, 5, none⟩ = some (.int .i64 x.qs) ∧ W.cell? ⟨d, 6, none⟩ = some (.slice (some ⟨f, 0, none⟩) x.n capf) ∧ W.cell? ⟨d, 7, none⟩ = some yv :=
  ⟨h.cell 0, h.cell 1, h.cell 2, h.cell 3, h.cell 4, h.cell 5, h.cell 6, h.cell 7⟩

set_option maxHeartbeats 1000000 in
theorem rof_any (d f capf : Nat) (yv : Value) (x : St) (on : Bool) (hn : x.n ≤ 512) (id : Int) (w : World) (h : CB w d 86 (ldCs x on f capf yv)) : Calls Tryd.prog 62 #[.pointer (some ⟨d, 0, none⟩), .int .i64 id] w fun e w' => e = .returned (.bool (ownB x id)) ∧ w = w' := by
  obtain ⟨c0, hcr⟩ := ldCells h
  have hw : IntKind.i64.wrap (8192 + (x.n : Int)) = 8192 + (x.n : Int) := by rw [IntKind.wrap_i64]; omega
  clear h hcr
  by_cases h0 : 8192 ≤ id
  · have e : ownB x id = decide (id < 8192 + (x.n : Int)) := by unfold ownB; rw [decide_eq_decide]; omega
    rw [e]
    clear e
    go_enter Tryd.func62, Tryd.ntmps62
    go_wp2
    go_ret
    exact ⟨rfl, rfl⟩
  · have e : ownB x id = false := by unfold ownB; rw [decide_eq_false]; omega
    have h1 : id < 8192 := by omega
    rw [e]
    clear e h0
    go_enter Tryd.func62, Tryd.ntmps62
    go_wp2
    go_ret
    exact ⟨rfl, rfl⟩
theorem rof_is (d f capf : Nat) (yv : Value) (x : St) (on : Bool) (hn : x.n ≤ 512) (id : Int) (b : Bool) (hb : ownB x id = b) (w : World) (h : CB w d 86 (ldCs x on f capf yv)) : Calls Tryd.prog 62 #[.pointer (some ⟨d, 0, none⟩), .int .i64 id] w fun e w' => e = .returned (.bool b) ∧ w = w' := hb ▸ rof_any d f capf yv x on hn id w h

theorem u8_shr : ∀ b < 256, ∀ j < 8, (bits .and .u8 (((b : Nat) : Int) / 2 ^ j) 1 == 1) = b.testBit j := by decide +kernel
theorem u8_xor : ∀ b < 256, ∀ j < 8, bits .xor .u8 ((b : Nat) : Int) ((2 : Int) ^ j % 256) = ((b ^^^ 2 ^ j : Nat) : Int) := by decide +kernel

set_option maxRecDepth 100000 in
set_option maxHeartbeats 2000000 in
theorem rbit_any (d f capf : Nat) (yv : Value) (x : St) (on : Bool) (q h cq : Nat) (bs : List Nat) (hx : x.Ok bs.length) (k : Nat) (hk : k < x.n) (w : World) (a : CB w d 86 (ldCs x on f capf yv)) (m : MemAt 107 w q h cq bs) :
    Calls Tryd.prog 63 #[.pointer (some ⟨d, 0, none⟩), .pointer (some ⟨q, 0, none⟩), .int .i64 k] w fun e w' => e = .returned (.bool (bitB bs x.qa k)) ∧ Below w.heap.size w w' := by
  have hq := hx.qk hk
  have n5 := hx.n5
  have hlen := m.len
  obtain ⟨c0, _, _, _, c4, _⟩ := ldCells a
  have m0 := m.cell
  have mb := m.bytes.cell (x.qa + k / 8) hq.2
  have hb := getD_lt m.bytes.2 (x.qa + k / 8)
  have hU := u8_shr _ hb (k % 8) (by omega)
  have hV : bitB bs x.qa k = (bs[x.qa + k / 8]?.getD 0).testBit (k % 8) := rfl
  rw [hV, ← hU]
  obtain ⟨v, hv⟩ : ∃ v, bs[x.qa + k / 8]?.getD 0 = v := ⟨_, rfl⟩
  rw [hv] at mb ⊢
  have h1 : wrap64 ((k : Int).tdiv 8) = ((k / 8 : Nat) : Int) := by
    rw [Int.tdiv_eq_ediv_of_nonneg (by omega)]; simp only [wrap64]; omega
  have h1' : IntKind.i64.wrap ((k : Int) / 8) = ((k / 8 : Nat) : Int) := by rw [IntKind.wrap_i64]; omega
  have h2 : IntKind.i64.wrap ((x.qa : Int) + ((k / 8 : Nat) : Int)) = ((x.qa + k / 8 : Nat) : Int) := by rw [IntKind.wrap_i64]; omega
  have h0 : (0 : Int) ≤ (k : Int) := by omega
  have x1 : ((x.qa + k / 8 : Nat) : Int) < (bs.length : Int) := by omega
  have x0 : (0 : Int) ≤ ((x.qa + k / 8 : Nat) : Int) := by omega
  obtain ⟨o, ho⟩ : ∃ o : Nat, x.qa + k / 8 = o := ⟨_, rfl⟩
  obtain ⟨e, he⟩ : ∃ e : Int, ((k / 8 : Nat) : Int) = e := ⟨_, rfl⟩
  rw [ho] at mb h2 x1 x0
  rw [he] at h1 h1' h2
  clear a m hU hV hb hv hq hlen ho he
  go_enter Tryd.func63, Tryd.ntmps63
  go_wp2
  go_quiet (fail)
  go_wp2
  go_ret
  exact ⟨rfl, Below.drewN (Below.refl _ _)⟩

theorem putB_same {bs : List Nat} {q k : Nat} {is : Bool} (h : bitB bs q k = is) : putB bs q k is = bs := by
  have e : sb (bs[q + k / 8]?.getD 0) (k % 8) is = bs[q + k / 8]?.getD 0 := by unfold sb; unfold bitB at h; rw [if_pos h]
  unfold putB
  rw [e]
  apply List.ext_getElem?
  intro i
  rw [List.getElem?_set]
  split
  · rename_i e; subst e
    split
    · rename_i h2; rw [List.getElem?_eq_getElem h2]; rfl
    · rename_i h2; rw [List.getElem?_eq_none (by omega)]
  · rfl
theorem putB_flip {bs : List Nat} {q k : Nat} {is : Bool} (h : bitB bs q k ≠ is) : putB bs q k is = bs.set (q + k / 8) ((bs[q + k / 8]?.getD 0) ^^^ 2 ^ (k % 8)) := by
  have e : sb (bs[q + k / 8]?.getD 0) (k % 8) is = (bs[q + k / 8]?.getD 0) ^^^ 2 ^ (k % 8) := by unfold sb; unfold bitB at h; rw [if_neg h]
  unfold putB
  rw [e]
theorem rbit_is (d f capf : Nat) (yv : Value) (x : St) (on : Bool) (q h cq : Nat) (bs : List Nat) (hx : x.Ok bs.length) (k : Nat) (hk : k < x.n) (b : Bool) (hb : bitB bs x.qa k = b) (w : World) (a : CB w d 86 (ldCs x on f capf yv)) (m : MemAt 107 w q h cq bs) :
    Calls Tryd.prog 63 #[.pointer (some ⟨d, 0, none⟩), .pointer (some ⟨q, 0, none⟩), .int .i64 k] w fun e w' => e = .returned (.bool b) ∧ Below w.heap.size w w' := hb ▸ rbit_any d f capf yv x on q h cq bs hx k hk w a m

set_option maxRecDepth 100000 in
set_option maxHeartbeats 4000000 in
theorem rputbit_any (d f capf : Nat) (yv : Value) (x : St) (on : Bool) (q h cq : Nat) (bs : List Nat) (hx : x.Ok bs.length) (k : Nat) (hk : k < x.n) (is : Bool) (w : World) (a : CB w d 86 (ldCs x on f capf yv)) (m : MemAt 107 w q h cq bs) :
    Calls Tryd.prog 84 #[.pointer (some ⟨d, 0, none⟩), .pointer (some ⟨q, 0, none⟩), .int .i64 k, .bool is] w fun e w' => (∃ v, e = .returned v) ∧ MemAt 107 w' q h cq (putB bs x.qa k is) ∧ Kept (· = h) w w' := by
  have hq := hx.qk hk
  have n5 := hx.n5
  have hlen := m.len
  obtain ⟨c0, _, _, _, c4, _⟩ := ldCells a
  have hb := getD_lt m.bytes.2 (x.qa + k / 8)
  have h1 : wrap64 ((k : Int).tdiv 8) = ((k / 8 : Nat) : Int) := by
    rw [Int.tdiv_eq_ediv_of_nonneg (by omega)]; simp only [wrap64]; omega
  have h1' : IntKind.i64.wrap ((k : Int) / 8) = ((k / 8 : Nat) : Int) := by rw [IntKind.wrap_i64]; omega
  have h2 : IntKind.i64.wrap ((x.qa : Int) + ((k / 8 : Nat) : Int)) = ((x.qa + k / 8 : Nat) : Int) := by rw [IntKind.wrap_i64]; omega
  have h0 : (0 : Int) ≤ (k : Int) := by omega
  have x1 : ((x.qa + k / 8 : Nat) : Int) < (bs.length : Int) := by omega
  have x0 : (0 : Int) ≤ ((x.qa + k / 8 : Nat) : Int) := by omega
  have H := hi (And.intro a m)
  obtain ⟨bb, hbb⟩ : ∃ b, bitB bs x.qa k = b := ⟨_, rfl⟩
  have HBIT := hi (rbit_is d f capf yv x on q h cq bs hx k hk bb hbb w a m)
  by_cases hc : bb = is
  · subst hc
    rw [putB_same hbb]
    obtain ⟨o, ho⟩ : ∃ o : Nat, x.qa + k / 8 = o := ⟨_, rfl⟩
    obtain ⟨e, he⟩ : ∃ e : Int, ((k / 8 : Nat) : Int) = e := ⟨_, rfl⟩
    rw [ho] at h2 x1 x0
    rw [he] at h1 h1' h2
    clear a m hb hq hlen ho he hbb
    go_enter Tryd.func84, Tryd.ntmps84
    go_wp2_with (go_at_call 63; ((with_reducible refine HBIT.out.mono ?_); rintro e1 w1 ⟨rfl, hb1⟩; have HB := hi hb1; clear hb1))
    all_goals (try (exfalso; simp_all; done))
    go_end0
    exact ⟨⟨_, rfl⟩, H.out.2.below HB.out, Kept.of HB.out⟩
  · have hc2 : (!bb == is) = true := by cases bb <;> cases is <;> simp_all
    have hX := u8_xor _ hb (k % 8) (by omega)
    rw [putB_flip (by rw [hbb]; exact hc)]
    have hx8 : (bs[x.qa + k / 8]?.getD 0) ^^^ 2 ^ (k % 8) < 256 := Nat.xor_lt_two_pow (n := 8) hb (Nat.pow_lt_pow_right (by omega) (by omega))
    obtain ⟨v', hv'⟩ : ∃ v, (bs[x.qa + k / 8]?.getD 0) ^^^ 2 ^ (k % 8) = v := ⟨_, rfl⟩
    rw [hv'] at hX hx8 ⊢
    have hol := hq.2
    obtain ⟨v, hv⟩ : ∃ v, bs[x.qa + k / 8]?.getD 0 = v := ⟨_, rfl⟩
    obtain ⟨o, ho⟩ : ∃ o : Nat, x.qa + k / 8 = o := ⟨_, rfl⟩
    have mb := m.bytes.cell (x.qa + k / 8) hq.2
    rw [hv] at hX mb
    have h3 : (k : Int).tmod 8 = ((k % 8 : Nat) : Int) := by rw [Int.tmod_eq_emod_of_nonneg (by omega)]; omega
    obtain ⟨r, hr⟩ : ∃ r : Nat, k % 8 = r := ⟨_, rfl⟩
    rw [hr] at hX h3
    have hr8 : r < 8 := by omega
    rw [← IntKind.wrap_u8] at hX
    clear hr
    obtain ⟨e, he⟩ : ∃ e : Int, ((k / 8 : Nat) : Int) = e := ⟨_, rfl⟩
    rw [ho] at h2 x1 x0 mb hol
    rw [he] at h1 h1' h2
    rw [ho]
    have HM := hi (And.intro hol hx8)
    have HMB := hi mb
    clear a m hb hq hlen ho he hbb hv hv' hc hol hx8 mb
    go_enter Tryd.func84, Tryd.ntmps84
    go_wp2_with (go_at_call 63; ((with_reducible refine HBIT.out.mono ?_); rintro e1 w1 ⟨rfl, hb1⟩; have HB := hi hb1; clear hb1))
    have hS0 : (w1.drew.cell? ⟨q, 0, none⟩ = some (.slice (some ⟨h, 0, none⟩) bs.length cq) ∧ w1.drew.cell? ⟨h, o, none⟩ = some (.int .u8 (v : Int))) ∧ Below w.heap.size w w1.drew :=
      ⟨⟨(HB.out.cell (p := ⟨q, 0, none⟩) H.out.2.plt).trans H.out.2.cell, (HB.out.cell (p := ⟨h, o, none⟩) H.out.2.bytes.lt).trans HMB.out⟩, HB.out.more (below_dr _)⟩
    refine wp_region_noPanic ?_
    refine wp_region_last_drew (S := (fun W => (W.cell? ⟨q, 0, none⟩ = some (.slice (some ⟨h, 0, none⟩) bs.length cq) ∧ W.cell? ⟨h, o, none⟩ = some (.int .u8 (v : Int))) ∧ Below w.heap.size w W)) [17] (by kernel_rfl) hS0 (fun hHeld => ?_)
    (try simp only [Array.replicate_succ, Array.replicate_zero, List.push_toArray, List.nil_append, List.cons_append])
    refine wpAnyF_take (i := 0) (v := ?_) (by kernel_rfl) (by kernel_rfl) rfl (by kernel_rfl) (by kernel_rfl) (by kernel_rfl) (fun _ _ _ h => h) (Or.inl ⟨by rfl, ?_⟩) (by assumption) ?_
    rotate_left
    · intro w' hSw; (try dsimp only at hSw); clear hSw; go_simp; (try with_reducible rfl)
    (try simp only [Act.put, List.getElem_toArray, List.getElem_cons_zero, List.getElem_cons_succ, List.setIfInBounds_toArray, List.set_cons_zero, List.set_cons_succ])
    refine wpAnyF_take (i := 1) (v := ?_) (by kernel_rfl) (by kernel_rfl) rfl (by kernel_rfl) (by kernel_rfl) (by kernel_rfl) (fun _ _ _ h => h) (Or.inl ⟨by rfl, ?_⟩) (by assumption) ?_
    rotate_left
    · intro w' hSw; (try dsimp only at hSw); clear hSw; go_simp; (try with_reducible rfl)
    (try simp only [Act.put, List.getElem_toArray, List.getElem_cons_zero, List.getElem_cons_succ, List.setIfInBounds_toArray, List.set_cons_zero, List.set_cons_succ])
    refine wpAnyF_take (i := 2) (v := ?_) (by kernel_rfl) (by kernel_rfl) rfl (by kernel_rfl) (by kernel_rfl) (by kernel_rfl) (fun _ _ _ h => h) (Or.inl ⟨by rfl, ?_⟩) (by assumption) ?_
    rotate_left
    · intro w' hSw; (try dsimp only at hSw); clear hSw; go_simp; (try with_reducible rfl)
    (try simp only [Act.put, List.getElem_toArray, List.getElem_cons_zero, List.getElem_cons_succ, List.setIfInBounds_toArray, List.set_cons_zero, List.set_cons_succ])
    refine wpAnyF_take (i := 3) (v := ?_) (by kernel_rfl) (by kernel_rfl) rfl (by kernel_rfl) (by kernel_rfl) (by kernel_rfl) (fun _ _ _ h => h) (Or.inl ⟨by rfl, ?_⟩) (by assumption) ?_
    rotate_left
    · intro w' hSw; (try dsimp only at hSw); obtain ⟨⟨p0, p1⟩, _q⟩ := hSw; clear _q; go_simp; (try with_reducible rfl)
    (try simp only [Act.put, List.getElem_toArray, List.getElem_cons_zero, List.getElem_cons_succ, List.setIfInBounds_toArray, List.set_cons_zero, List.set_cons_succ])
    refine wpAnyF_take (i := 4) (v := ?_) (by kernel_rfl) (by kernel_rfl) rfl (by kernel_rfl) (by kernel_rfl) (by kernel_rfl) (fun _ _ _ h => h) (Or.inl ⟨by rfl, ?_⟩) (by assumption) ?_
    rotate_left
    · intro w' hSw; (try dsimp only at hSw); clear hSw; go_simp; (try with_reducible rfl)
    (try simp only [Act.put, List.getElem_toArray, List.getElem_cons_zero, List.getElem_cons_succ, List.setIfInBounds_toArray, List.set_cons_zero, List.set_cons_succ])
    refine wpAnyF_take (i := 5) (v := ?_) (by kernel_rfl) (by kernel_rfl) rfl (by kernel_rfl) (by kernel_rfl) (by kernel_rfl) (fun _ _ _ h => h) (Or.inl ⟨by rfl, ?_⟩) (by assumption) ?_
    rotate_left
    · intro w' hSw; (try dsimp only at hSw); clear hSw; go_simp; (try with_reducible rfl)
    (try simp only [Act.put, List.getElem_toArray, List.getElem_cons_zero, List.getElem_cons_succ, List.setIfInBounds_toArray, List.set_cons_zero, List.set_cons_succ])
    refine wpAnyF_take (i := 6) (v := ?_) (by kernel_rfl) (by kernel_rfl) rfl (by kernel_rfl) (by kernel_rfl) (by kernel_rfl) (fun _ _ _ h => h) (Or.inl ⟨by rfl, ?_⟩) (by assumption) ?_
    rotate_left
    · intro w' hSw; (try dsimp only at hSw); clear hSw; go_simp; (try with_reducible rfl)
    (try simp only [Act.put, List.getElem_toArray, List.getElem_cons_zero, List.getElem_cons_succ, List.setIfInBounds_toArray, List.set_cons_zero, List.set_cons_succ])
    refine wpAnyF_take (i := 7) (v := ?_) (by kernel_rfl) (by kernel_rfl) rfl (by kernel_rfl) (by kernel_rfl) (by kernel_rfl) (fun _ _ _ h => h) (Or.inl ⟨by rfl, ?_⟩) (by assumption) ?_
    rotate_left
    · intro w' hSw; (try dsimp only at hSw); clear hSw; go_simp; (try with_reducible rfl)
    (try simp only [Act.put, List.getElem_toArray, List.getElem_cons_zero, List.getElem_cons_succ, List.setIfInBounds_toArray, List.set_cons_zero, List.set_cons_succ])
    refine wpAnyF_take (i := 8) (v := ?_) (by kernel_rfl) (by kernel_rfl) rfl (by kernel_rfl) (by kernel_rfl) (by kernel_rfl) (fun _ _ _ h => h) (Or.inl ⟨by rfl, ?_⟩) (by assumption) ?_
    rotate_left
    · intro w' hSw; (try dsimp only at hSw); obtain ⟨⟨p0, p1⟩, _q⟩ := hSw; clear _q; go_simp; (try with_reducible rfl)
    (try simp only [Act.put, List.getElem_toArray, List.getElem_cons_zero, List.getElem_cons_succ, List.setIfInBounds_toArray, List.set_cons_zero, List.set_cons_succ])
    refine wpAnyF_take (i := 9) (v := ?_) (by kernel_rfl) (by kernel_rfl) rfl (by kernel_rfl) (by kernel_rfl) (by kernel_rfl) (fun _ _ _ h => h) (Or.inl ⟨by rfl, ?_⟩) (by assumption) ?_
    rotate_left
    · intro w' hSw; (try dsimp only at hSw); clear hSw; go_simp; (try with_reducible rfl)
    (try simp only [Act.put, List.getElem_toArray, List.getElem_cons_zero, List.getElem_cons_succ, List.setIfInBounds_toArray, List.set_cons_zero, List.set_cons_succ])
    refine wpAnyF_take (i := 10) (v := ?_) (by kernel_rfl) (by kernel_rfl) rfl (by kernel_rfl) (by kernel_rfl) (by kernel_rfl) (fun _ _ _ h => h) (Or.inl ⟨by rfl, ?_⟩) (by assumption) ?_
    rotate_left
    · intro w' hSw; (try dsimp only at hSw); clear hSw; go_simp; (try with_reducible rfl)
    (try simp only [Act.put, List.getElem_toArray, List.getElem_cons_zero, List.getElem_cons_succ, List.setIfInBounds_toArray, List.set_cons_zero, List.set_cons_succ])
    refine wpAnyF_take (i := 11) (v := ?_) (by kernel_rfl) (by kernel_rfl) rfl (by kernel_rfl) (by kernel_rfl) (by kernel_rfl) (fun _ _ _ h => h) (Or.inl ⟨by rfl, ?_⟩) (by assumption) ?_
    rotate_left
    · intro w' hSw; (try dsimp only at hSw); obtain ⟨⟨p0, p1⟩, _q⟩ := hSw; clear _q; go_simp; (try with_reducible rfl)
    (try simp only [Act.put, List.getElem_toArray, List.getElem_cons_zero, List.getElem_cons_succ, List.setIfInBounds_toArray, List.set_cons_zero, List.set_cons_succ])
    refine wpAnyF_take (i := 12) (v := ?_) (by kernel_rfl) (by kernel_rfl) rfl (by kernel_rfl) (by kernel_rfl) (by kernel_rfl) (fun _ _ _ h => h) (Or.inl ⟨by rfl, ?_⟩) (by assumption) ?_
    rotate_left
    · intro w' hSw; (try dsimp only at hSw); clear hSw; go_simp; (try with_reducible rfl)
    (try simp only [Act.put, List.getElem_toArray, List.getElem_cons_zero, List.getElem_cons_succ, List.setIfInBounds_toArray, List.set_cons_zero, List.set_cons_succ])
    refine wpAnyF_take (i := 13) (v := ?_) (by kernel_rfl) (by kernel_rfl) rfl (by kernel_rfl) (by kernel_rfl) (by kernel_rfl) (fun _ _ _ h => h) (Or.inl ⟨by rfl, ?_⟩) (by assumption) ?_
    rotate_left
    · intro w' hSw; (try dsimp only at hSw); clear hSw; go_simp; (try with_reducible rfl)
    (try simp only [Act.put, List.getElem_toArray, List.getElem_cons_zero, List.getElem_cons_succ, List.setIfInBounds_toArray, List.set_cons_zero, List.set_cons_succ])
    refine wpAnyF_take (i := 14) (v := ?_) (by kernel_rfl) (by kernel_rfl) rfl (by kernel_rfl) (by kernel_rfl) (by kernel_rfl) (fun _ _ _ h => h) (Or.inl ⟨by rfl, ?_⟩) (by assumption) ?_
    rotate_left
    · intro w' hSw; (try dsimp only at hSw); clear hSw; go_simp; (try with_reducible rfl)
    (try simp only [Act.put, List.getElem_toArray, List.getElem_cons_zero, List.getElem_cons_succ, List.setIfInBounds_toArray, List.set_cons_zero, List.set_cons_succ])
    refine wpAnyF_take (i := 15) (v := ?_) (by kernel_rfl) (by kernel_rfl) rfl (by kernel_rfl) (by kernel_rfl) (by kernel_rfl) (fun _ _ _ h => h) (Or.inl ⟨by rfl, ?_⟩) (by assumption) ?_
    rotate_left
    · intro w' hSw; (try dsimp only at hSw); clear hSw; go_simp; (try with_reducible rfl)
    (try simp only [Act.put, List.getElem_toArray, List.getElem_cons_zero, List.getElem_cons_succ, List.setIfInBounds_toArray, List.set_cons_zero, List.set_cons_succ])
    refine wpAnyF_take (i := 16) (v := ?_) (by kernel_rfl) (by kernel_rfl) rfl (by kernel_rfl) (by kernel_rfl) (by kernel_rfl) (fun _ _ _ h => h) (Or.inl ⟨by rfl, ?_⟩) (by assumption) ?_
    rotate_left
    · intro w' hSw; (try dsimp only at hSw); clear hSw; go_simp; (try with_reducible rfl)
    (try simp only [Act.put, List.getElem_toArray, List.getElem_cons_zero, List.getElem_cons_succ, List.setIfInBounds_toArray, List.set_cons_zero, List.set_cons_succ])
    refine wpAnyF_ready (rs := [17]) (by kernel_rfl) (by simp) ?_
    refine AllReadyF.last (by kernel_rfl) rfl (fun KK hKK => ?_) AllReadyF.nil
    have m2 := H.out.2.below hHeld.2
    have qc := m2.bytes.cell o HM.out.1
    have qf := m2.bytes.frozen o
    have qz := m2.bytes.lt
    have HM2 := hi m2
    clear m2
    go_simp
    refine hKK.out _ _ ?_
    clear hKK KK
    (try simp only [Act.put, List.getElem_toArray, List.getElem_cons_zero, List.getElem_cons_succ, List.setIfInBounds_toArray, List.set_cons_zero, List.set_cons_succ])
    refine wpAnyF_done (by kernel_rfl) ?_ _
    refine NoPanic.normal ?_
    go_wp2
    go_end0
    have hst := kept_setCell w1.drew h o (.int .u8 (v' : Int))
    exact ⟨⟨_, rfl⟩, HM2.out.set hst (HM2.out.bytes.set o v' HM.out.1 HM.out.2) (by simp), (Kept.of (HB.out.more (below_dr _))).trans hst⟩

end Go.Proofs.YtobhdjepfhbgaaaDoor
