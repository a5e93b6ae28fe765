/-
  The document's lists, as the reference reckons them: May, Put, Take, Of, From, Union, Meet, Less: each comes in blocks of its own.
-/
import Derived.Test.YtobhdjepfhbgaaaDoorRefA
import Derived.Test.YtobhdjepfhbgaaaDoorCol
namespace Go.Proofs.YtobhdjepfhbgaaaDoor
open Go.ChangeShapes Go.WideShapes Go.ChangeAt Go.RowKit Go.Shelf
set_option linter.unusedVariables false

/-- A value's number in a world that has grown. -/
theorem intsAt_read {w W : World} {a : Option Addr} {cap k : Nat} {xs : List Int} (h : IntsAt w (.slice a xs.length cap) xs) (hb : Below w.heap.size w W) (hk : k < xs.length) :
    ∃ b off : Nat, a = some ⟨b, off, none⟩ ∧ b < w.heap.size ∧ w.cell? ⟨b, off + k, none⟩ = some (.int .i64 (xs[k]?.getD 0)) ∧ W.cell? ⟨b, off + k, none⟩ = some (.int .i64 (xs[k]?.getD 0)) := by
  obtain ⟨a', cap', e, hcap, hcs⟩ := h
  simp only [Value.slice.injEq, true_and] at e
  obtain ⟨rfl, rfl⟩ := e
  obtain ⟨b, off, rfl, hc⟩ := hcs (fun e => by simp [e] at hk)
  have hbl := World.block_lt_of_cell? w _ (hc k hk)
  exact ⟨b, off, rfl, hbl, hc k hk, (hb.cell (p := ⟨b, off + k, none⟩) hbl).trans (hc k hk)⟩

/-- The list comes in blocks of the call's own. -/
def GivesCol (w : World) (xs : List Int) (e : Ending) (W : World) : Prop := ∃ a cap, e = .returned (.slice a xs.length cap) ∧ Col w (.slice a xs.length cap) xs W
theorem gives {w W : World} {xs : List Int} {o : Value} (h : Col w o xs W) {e : Ending} (he : e = .returned o) : GivesCol w xs e W := by
  obtain ⟨a, cap, rfl⟩ := h.slice
  exact ⟨a, cap, he, h⟩

set_option maxHeartbeats 400000 in
theorem smay_any (m : Int) (w : World) : Calls Tryd.prog 92 #[.int .i64 m] w fun e w' => e = .returned (.bool (okM m)) ∧ w = w' := by
  by_cases h0 : 0 ≤ m
  · by_cases h1 : m < 16384
    · have e : okM m = true := decide_eq_true ⟨h0, h1⟩
      rw [e]; clear e
      go_enter Tryd.func92, Tryd.ntmps92
      go_wp2
      go_ret
      exact ⟨rfl, rfl⟩
    · have e : okM m = false := decide_eq_false (fun h => h1 h.2)
      have h2 : decide (m < 16384) = false := decide_eq_false h1
      rw [e]; clear e h1
      go_enter Tryd.func92, Tryd.ntmps92
      go_wp2
      go_ret
      exact ⟨by simp [h2], rfl⟩
  · have e : okM m = false := decide_eq_false (fun h => h0 h.1)
    have h1 : decide (0 ≤ m) = false := decide_eq_false h0
    have h2 : m < 0 := by omega
    rw [e]; clear e h0
    go_enter Tryd.func92, Tryd.ntmps92
    go_wp2
    go_ret
    exact ⟨by simp [h1], rfl⟩

theorem filter_snoc (p : Int → Bool) (l : List Int) {k : Nat} (h : k < l.length) : (l.take (k + 1)).filter p = (l.take k).filter p ++ if p (l[k]?.getD 0) = true then [l[k]?.getD 0] else [] := by
  rw [take_snoc l h, List.filter_append]
  simp only [List.filter_cons, List.filter_nil]

set_option maxRecDepth 100000 in
set_option maxHeartbeats 1000000 in
theorem takeL_any (xs : List Int) (a : Option Addr) (ca : Nat) (m : Int) (w : World) (hv : IntsAt w (.slice a xs.length ca) xs) (hl : xs.length ≤ 20000) :
    Calls Tryd.prog 85 #[.slice a xs.length ca, .int .i64 m] w (GivesCol w (xs.filter fun x => decide (x ≠ m))) := by
  obtain ⟨i0, hi', hz0, hz1, hz2⟩ := info_parts info_int
  have HV := hi hv
  have HL := hi hl
  clear hv hl
  go_enter Tryd.func85, Tryd.ntmps85
  go_wp2
  go_loopw [5, 6] (fun o i wr => ∃ k : Nat, i = .int .i64 k ∧ Hi (k ≤ xs.length ∧ Col w o ((xs.take k).filter fun x => decide (x ≠ m)) wr)) (fun _ i _ => xs.length - (intOf i).toNat)
  case atStart => exact ⟨0, rfl, hi ⟨Nat.zero_le _, Col.nil _ _ (Below.refl _ _)⟩⟩
  case round =>
    obtain ⟨k, rfl, HH⟩ := hrel
    obtain ⟨hk, hC⟩ := HH.out
    by_cases hlt : k < xs.length
    · obtain ⟨b, off, rfl, hbl, hx0, hx⟩ := intsAt_read HV.out hC.below hlt
      have hs := filter_snoc (fun x => decide (x ≠ m)) xs hlt
      have hfl : ((xs.take k).filter fun x => decide (x ≠ m)).length ≤ 20000 := by
        have h1 := List.length_filter_le (fun x => decide (x ≠ m)) (xs.take k)
        have h2 := List.length_take_le k xs
        have := HL.out; omega
      obtain ⟨x, ex⟩ : ∃ x, xs[k]?.getD 0 = x := ⟨_, rfl⟩
      rw [ex] at hx0 hx hs
      obtain ⟨q, eq⟩ : ∃ q, (xs.take k).filter (fun x => decide (x ≠ m)) = q := ⟨_, rfl⟩
      rw [eq] at hC hs hfl
      have HS := hi hs
      have HC := hi hC
      have hki : (k : Int) < (xs.length : Int) := by omega
      have hk9 : (k : Int) ≤ 20000 := by have := HL.out; omega
      have HLT := hi hlt
      have hsl := HC.out.slice
      obtain ⟨ao, co, rfl⟩ := hsl
      clear hs hC ex hlt hk HH hx0 eq
      by_cases ht : decide (x ≠ m) = true
      · have HT := hi ht
        have ht2 : (x != m) = true := by rw [bne_iff_ne]; simpa using ht
        clear ht
        go_wp2_with (first
          | (at_builtin; refine wpList_append_own _ rfl (.tmp 19) (.tmp 24) 57 rfl w.heap.size 3 i0 (.int .i64 0) 1 8 Tryd.underlying57 hi' hz0 hz1 hz2 rfl (by decide) _ _ _ rfl (HC.out.own.alloc _) _ 1 1 [.int .i64 x] rfl rfl (cell_one_new _ _ _) (by simp [Value.oneCell']) (by unfold maxLen; omega) (by omega) (by have := HC.out.sz; simp; omega) ?_; intro v' w1 hown' hgrow _; obtain ⟨hc1, g', cap', rfl⟩ := HC.out.app hown' hgrow; replace HC := hi hc1; clear hown' hgrow hc1))
        go_roundw
        case rel => exact ⟨k + 1, by go_num, hi ⟨HLT.out, by rw [HS.out, if_pos HT.out]; exact HC.out⟩⟩
        case measure => have := HLT.out; simp only [intOf]; omega
      · have HT := hi ht
        have ht2 : (x != m) = false := by simpa using ht
        clear ht
        go_wp2
        go_roundw
        case rel => exact ⟨k + 1, by go_num, hi ⟨HLT.out, by rw [HS.out, if_neg HT.out, List.append_nil]; exact HC.out⟩⟩
        case measure => have := HLT.out; simp only [intOf]; omega
    · have ek : k = xs.length := by omega
      subst ek
      rw [List.take_length] at hC
      have HC := hi hC
      clear hC hlt hk HH
      go_wp2
      go_ret
      exact gives HC.out rfl

theorem has_is (xs : List Int) (x : Int) (r : Bool) (va : Value) (w : World) (ha : IntsAt w va xs) (hx : xs.length ≤ 9223372036854775806) (e : isIn xs x = r) :
    Calls Tryd.prog 30 #[va, .int .i64 x] w fun e w' => e = .returned (.bool r) ∧ w = w' := e ▸ (has_any xs x va w ha hx).mono fun _ _ ⟨h1, h2⟩ => ⟨h1, h2.symm⟩

theorem may_is (m : Int) (r : Bool) (w : World) (e : okM m = r) : Calls Tryd.prog 92 #[.int .i64 m] w fun e w' => e = .returned (.bool r) ∧ w = w' := e ▸ smay_any m w

set_option maxHeartbeats 400000 in
theorem put_same (l : List Int) (a : Option Addr) (ca : Nat) (m : Int) (w : World) (hv : IntsAt w (.slice a l.length ca) l) (hl : l.length ≤ 20000) (h : ¬ (okM m = true ∧ isIn l m = false)) :
    Calls Tryd.prog 83 #[.slice a l.length ca, .int .i64 m] w fun e w' => e = .returned (.slice a l.length ca) ∧ w = w' := by
  have HV := hi hv
  have HL := hi hl
  by_cases hm : okM m = true
  · have MAY := hi hm
    have HAS := hi (show isIn l m = true by simpa [hm] using h)
    clear hv hl h hm
    go_enter Tryd.func83, Tryd.ntmps83
    go_wp2_with (first
      | (go_at_call 92; ((with_reducible refine (may_is m _ _ MAY.out).mono ?_); rintro e w2 ⟨rfl, rfl⟩))
      | (go_at_call 30; ((with_reducible refine (has_is l m _ _ _ HV.out (by have := HL.out; omega) HAS.out).mono ?_); rintro e w2 ⟨rfl, rfl⟩)))
    go_ret
    exact ⟨rfl, rfl⟩
  · have MAY := hi (show okM m = false by simpa using hm)
    clear hv hl h hm
    go_enter Tryd.func83, Tryd.ntmps83
    go_wp2_with (go_at_call 92; ((with_reducible refine (may_is m _ _ MAY.out).mono ?_); rintro e w2 ⟨rfl, rfl⟩))
    go_ret
    exact ⟨rfl, rfl⟩

theorem putRun_one {m : Int} {l : List Int} {k : Nat} (hk : k < l.length) {x : Int} (hx : l[k]?.getD 0 = x) {q : List Int} {d : Bool} (h : putRun m (l.take k) = (q, d)) :
    putRun m (l.take (k + 1)) = if m < x ∧ d = false then (q ++ [m] ++ [x], true) else (q ++ [x], d) := by
  rw [take_snoc l hk, putRun_snoc, h, hx]
  unfold putStep
  simp

set_option maxRecDepth 100000 in
set_option maxHeartbeats 1000000 in
theorem put_new (l : List Int) (a : Option Addr) (ca : Nat) (m : Int) (w : World) (hv : IntsAt w (.slice a l.length ca) l) (hl : l.length ≤ 20000) (hm : okM m = true) (hn : isIn l m = false) :
    Calls Tryd.prog 83 #[.slice a l.length ca, .int .i64 m] w (GivesCol w (putFin m (putRun m l))) := by
  obtain ⟨i0, hi', hz0, hz1, hz2⟩ := info_parts info_int
  have HV := hi hv
  have HL := hi hl
  have MAY := hi hm
  have HAS := hi hn
  have hfl := putRun_len m l
  clear hv hl hm hn
  go_enter Tryd.func83, Tryd.ntmps83
  go_wp2_with (first
      | (go_at_call 92; ((with_reducible refine (may_is m _ _ MAY.out).mono ?_); rintro e w2 ⟨rfl, rfl⟩))
      | (go_at_call 30; ((with_reducible refine (has_is l m _ _ _ HV.out (by have := HL.out; omega) HAS.out).mono ?_); rintro e w2 ⟨rfl, rfl⟩)))
  go_loopw [5, 6, 7] (fun o d i wr => ∃ k : Nat, i = .int .i64 k ∧ d = .bool (putRun m (l.take k)).2 ∧ Hi (k ≤ l.length ∧ Col w o (putRun m (l.take k)).1 wr)) (fun _ _ i _ => l.length - (intOf i).toNat)
  case atStart => exact ⟨0, rfl, rfl, hi ⟨Nat.zero_le _, Col.nil _ _ (Below.refl _ _)⟩⟩
  case round =>
    obtain ⟨k, rfl, rfl, HH⟩ := hrel
    obtain ⟨hk, hC⟩ := HH.out
    obtain ⟨st, est⟩ : ∃ st, putRun m (l.take k) = st := ⟨_, rfl⟩
    rw [est] at hC ⊢
    obtain ⟨q, d⟩ := st
    dsimp only at hC ⊢
    obtain ⟨ao, co, rfl⟩ := hC.slice
    by_cases hlt : k < l.length
    · obtain ⟨b, off, rfl, hbl, hx0, hx⟩ := intsAt_read HV.out hC.below hlt
      obtain ⟨x, ex⟩ : ∃ x, l[k]?.getD 0 = x := ⟨_, rfl⟩
      have hs := putRun_one hlt ex est
      have hql : q.length ≤ 20001 := by
        have h1 := (putRun_len m (l.take k)).1
        rw [est] at h1
        have h2 := List.length_take_le k l
        have := HL.out
        dsimp only at h1
        omega
      rw [ex] at hx0 hx
      have HS := hi hs
      have HC := hi hC
      have HBL := hi hbl
      have HX0 := hi hx0
      have hki : (k : Int) < (l.length : Int) := by omega
      have hk9 : (k : Int) ≤ 20000 := by have := HL.out; omega
      have HLT := hi hlt
      clear hs hC ex hlt hk HH hx0 est hfl hbl
      by_cases ht : m < x
      · cases d
        · have HS2 := hi (show putRun m (l.take (k + 1)) = (q ++ [m] ++ [x], true) by rw [HS.out, if_pos ⟨ht, rfl⟩])
          clear HS
          go_wp2_with (first
            | (at_builtin; refine wpList_append_own _ rfl (.tmp 33) (.tmp 35) 57 rfl w.heap.size 3 i0 (.int .i64 0) 1 8 Tryd.underlying57 hi' hz0 hz1 hz2 rfl (by decide) _ _ _ rfl (HC.out.own.alloc _) _ 1 1 [.int .i64 m] rfl rfl (cell_one_new _ _ _) (by simp [Value.oneCell']) (by unfold maxLen; first | omega | (simp; omega)) (by first | omega | (simp; omega)) (by have := HC.out.sz; simp; omega) ?_; intro v' w1 hown' hgrow _; obtain ⟨hc1, g', cap', rfl⟩ := HC.out.app hown' hgrow; replace HC := hi hc1; have hx1 := (hc1.below.cell (p := ⟨b, off + k, none⟩) HBL.out).trans HX0.out; clear hown' hgrow hc1)
            | (at_builtin; refine wpList_append_own _ rfl (.tmp 37) (.tmp 42) 57 rfl w.heap.size 3 i0 (.int .i64 0) 1 8 Tryd.underlying57 hi' hz0 hz1 hz2 rfl (by decide) _ _ _ rfl (HC.out.own.alloc _) _ 1 1 [.int .i64 x] rfl rfl (cell_one_new _ _ _) (by simp [Value.oneCell']) (by unfold maxLen; first | omega | (simp; omega)) (by first | omega | (simp; omega)) (by have := HC.out.sz; simp; omega) ?_; intro v' w1 hown' hgrow _; obtain ⟨hc1, g', cap', rfl⟩ := HC.out.app hown' hgrow; replace HC := hi hc1; clear hown' hgrow hc1))
          go_roundw
          case rel => exact ⟨k + 1, by go_num, by rw [HS2.out], hi ⟨HLT.out, by rw [HS2.out]; have h := HC.out; simpa using h⟩⟩
          case measure => have := HLT.out; simp only [intOf]; omega
        · have HS2 := hi (show putRun m (l.take (k + 1)) = (q ++ [x], true) by rw [HS.out, if_neg (by simp)])
          clear HS
          go_wp2_with (first
            | (at_builtin; refine wpList_append_own _ rfl (.tmp 37) (.tmp 42) 57 rfl w.heap.size 3 i0 (.int .i64 0) 1 8 Tryd.underlying57 hi' hz0 hz1 hz2 rfl (by decide) _ _ _ rfl (HC.out.own.alloc _) _ 1 1 [.int .i64 x] rfl rfl (cell_one_new _ _ _) (by simp [Value.oneCell']) (by unfold maxLen; first | omega | (simp; omega)) (by first | omega | (simp; omega)) (by have := HC.out.sz; simp; omega) ?_; intro v' w1 hown' hgrow _; obtain ⟨hc1, g', cap', rfl⟩ := HC.out.app hown' hgrow; replace HC := hi hc1; clear hown' hgrow hc1))
          go_roundw
          case rel => exact ⟨k + 1, by go_num, by rw [HS2.out], hi ⟨HLT.out, by rw [HS2.out]; exact HC.out⟩⟩
          case measure => have := HLT.out; simp only [intOf]; omega
      · have HS2 := hi (show putRun m (l.take (k + 1)) = (q ++ [x], d) by rw [HS.out, if_neg (fun h => ht h.1)])
        have ht2 : x ≤ m := by omega
        have ht3 : decide (m < x) = false := decide_eq_false ht
        clear HS ht
        go_wp2_with (first
          | (at_builtin; refine wpList_append_own _ rfl (.tmp 37) (.tmp 42) 57 rfl w.heap.size 3 i0 (.int .i64 0) 1 8 Tryd.underlying57 hi' hz0 hz1 hz2 rfl (by decide) _ _ _ rfl (HC.out.own.alloc _) _ 1 1 [.int .i64 x] rfl rfl (cell_one_new _ _ _) (by simp [Value.oneCell']) (by unfold maxLen; first | omega | (simp; omega)) (by first | omega | (simp; omega)) (by have := HC.out.sz; simp; omega) ?_; intro v' w1 hown' hgrow _; obtain ⟨hc1, g', cap', rfl⟩ := HC.out.app hown' hgrow; replace HC := hi hc1; clear hown' hgrow hc1))
        go_roundw
        case rel => exact ⟨k + 1, by go_num, by rw [HS2.out], hi ⟨HLT.out, by rw [HS2.out]; exact HC.out⟩⟩
        case measure => have := HLT.out; simp only [intOf]; omega
    · have ek : k = l.length := by omega
      subst ek
      rw [List.take_length] at est
      rw [est] at hfl
      dsimp only at hfl
      have hql := hfl.1
      have HES := hi est
      have HC := hi hC
      have hl9 := HL.out
      clear hC hlt hk HH est hfl
      cases d
      · go_wp2_with (first
          | (at_builtin; refine wpList_append_own _ rfl (.tmp 46) (.tmp 48) 57 rfl w.heap.size 3 i0 (.int .i64 0) 1 8 Tryd.underlying57 hi' hz0 hz1 hz2 rfl (by decide) _ _ _ rfl (HC.out.own.alloc _) _ 1 1 [.int .i64 m] rfl rfl (cell_one_new _ _ _) (by simp [Value.oneCell']) (by unfold maxLen; first | omega | (simp; omega)) (by first | omega | (simp; omega)) (by have := HC.out.sz; simp; omega) ?_; intro v' w1 hown' hgrow _; obtain ⟨hc1, g', cap', rfl⟩ := HC.out.app hown' hgrow; replace HC := hi hc1; clear hown' hgrow hc1))
        go_ret
        exact gives (by rw [HES.out]; exact HC.out) rfl
      · go_wp2
        go_ret
        exact gives (by rw [HES.out]; exact HC.out) rfl

theorem insL_len (l : List Int) (m : Int) : (insL l m).length ≤ l.length + 1 := by
  unfold insL
  split
  · have h := putRun_len m l
    unfold putFin
    split
    · exact h.1
    · rename_i h2
      have := h.2 (by simpa using h2)
      simp; omega
  · omega
/-- A put onto a list that the call itself has made. -/
def PutCol (w W : World) (xs : List Int) (e : Ending) (W' : World) : Prop := ∃ a cap, e = .returned (.slice a xs.length cap) ∧ Col w (.slice a xs.length cap) xs W' ∧ Below W.heap.size W W'
theorem put_col (w : World) (l : List Int) (a : Option Addr) (ca : Nat) (m : Int) (W : World) (h : Col w (.slice a l.length ca) l W) (hl : l.length ≤ 20000) (q : List Int) (eq : insL l m = q) :
    Calls Tryd.prog 83 #[.slice a l.length ca, .int .i64 m] W (PutCol w W q) := by
  subst eq
  by_cases hc : okM m = true ∧ isIn l m = false
  · have e : insL l m = putFin m (putRun m l) := if_pos hc
    rw [e]
    exact (put_new l a ca m W (intsAt_row h.own) hl hc.1 hc.2).mono fun e W' ⟨a', c', he, hC⟩ =>
      ⟨a', c', he, ⟨ownsRow_base hC.own h.sz, h.below.trans (hC.below.mono h.sz)⟩, hC.below⟩
  · have e : insL l m = l := if_neg hc
    rw [e]
    exact (put_same l a ca m W (intsAt_row h.own) hl hc).mono fun e W' ⟨he, hw⟩ => by
      subst hw
      exact ⟨a, ca, he, h, Below.refl _ _⟩


end Go.Proofs.YtobhdjepfhbgaaaDoor
