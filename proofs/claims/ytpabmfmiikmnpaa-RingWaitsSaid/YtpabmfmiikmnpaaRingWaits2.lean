/-
  The document's own list of the places that wait (crierref02.Waits), at every input.
-/
import Derived.Test.YtpabmfmiikmnpaaRingWaits1
namespace Go.Proofs.Ytpabmfmiikmnpaa
open Go.ChangeShapes Go.WideShapes Go.ChangeAt Go.RowKit Go.Shelf
set_option linter.unusedVariables false

theorem refIndex_j (s t a K : Int) (w : World) (e : a / t = K) (h : mayB s t a = true) (hs : s ≤ 9223372036854775807) :
    Calls Try.prog 11 #[.int .i64 s, .int .i64 t, .int .i64 a] w fun e w' => e = .returned (.int .i64 K) ∧ w = w' := e ▸ (refIndex_yes s t a w h hs).mono fun _ _ ⟨a, b⟩ => ⟨a, b.symm⟩

theorem refIndex_n' (s t a : Int) (w : World) (h : mayB s t a = false) (hs : s ≤ 9223372036854775807) :
    Calls Try.prog 11 #[.int .i64 s, .int .i64 t, .int .i64 a] w fun e w' => e = .returned (.int .i64 (-1)) ∧ w = w' := (refIndex_no s t a w h hs).mono fun _ _ ⟨a, b⟩ => ⟨a, b.symm⟩

/-- Between two rounds: k places have come; the next one has the index j. -/
def AtK (s t r v : Int) (w : World) (k : Nat) (j : Int) (o : Value) (wr : World) : Prop :=
  k ≤ (leftR s t r v).toNat ∧ seqR s t r k / t = j ∧ wr.ownsRow w.heap.size 3 1 o (upR s t r k).length ((upR s t r k).map (Value.int .i64)) ∧ (o = .slice none 0 0 ↔ upR s t r k = []) ∧ Below w.heap.size w wr

theorem AtK.left {s t r v : Int} {w : World} {k : Nat} {j : Int} {o : Value} {wr : World} (h : AtK s t r v w k j o wr) (hr : mayB s t r = true) (hv : mayB s t v = true) : leftR s t (j * t) v = leftR s t r v - k := by
  have hbd := leftR_bd hr hv
  rw [← h.2.1, ← (idx_of (seqR_may hr k)).1]
  exact left_seq hr hv k (by have := h.1; omega)

/-- A round more. -/
theorem AtK.more {s t r v : Int} {w : World} {k : Nat} {j j' : Int} {o o' : Value} {wr w3 : World} {tmp : Obj} (hk : k < (leftR s t r v).toNat) (hj : seqR s t r (k + 1) / t = j') (ea : seqR s t r k = j * t)
    (hrow : wr.ownsRow w.heap.size 3 1 o (upR s t r k).length ((upR s t r k).map (Value.int .i64))) (hb : Below w.heap.size w wr)
    (hown : w3.ownsRow w.heap.size 3 1 o' ((upR s t r k).length + 1) ((upR s t r k).map (Value.int .i64) ++ [.int .i64 (j * t)])) (hg : (wr.alloc tmp).grownBy w3 o.ownBlock) : AtK s t r v w (k + 1) j' o' w3 := by
  refine ⟨hk, hj, by rw [upR_succ]; simpa [ea] using hown, ?_, Below.grown (hb.alloc hb.size _) hg (by have := hb.size; simp; omega) (fun i e => (hrow.lt i e).1)⟩
  obtain ⟨g, cap, rfl⟩ := ownsRow_succ hown
  simp [upR_succ]

theorem xsR_yes {s t r v : Int} (hr : mayB s t r = true) (hv : mayB s t v = true) : xsR s t r v = xsV s t r v := by simp [xsR, hr, hv]

set_option maxRecDepth 100000 in
set_option maxHeartbeats 2000000 in
theorem refWaits_yes (s t r v : Int) (w : World) (hr : mayB s t r = true) (hv : mayB s t v = true) (hs : s ≤ 9223372036854775807) :
    Calls Try.prog 18 #[.int .i64 s, .int .i64 t, .int .i64 r, .int .i64 v] w fun e W' => ∃ o, e = .returned o ∧ OwnsInts w W' o (xsR s t r v) ∧ Below w.heap.size w W' := by
  obtain ⟨i0, hi, hz0, hz1, hz2⟩ := info_parts info_int
  rw [xsR_yes hr hv]
  obtain ⟨hright, _⟩ := mayB_out hr
  obtain ⟨k1, k2, k3, k4⟩ := rightB_out hright
  obtain ⟨er, r0, r1⟩ := idx_of hr
  obtain ⟨ev, v0, v1⟩ := idx_of hv
  obtain ⟨jr, ejr⟩ : ∃ j, r / t = j := ⟨_, rfl⟩
  obtain ⟨jv, ejv⟩ : ∃ j, v / t = j := ⟨_, rfl⟩
  rw [ejr] at r0 r1
  rw [ejv] at v0 v1
  have EJR := Lib.hid ejr
  have EJV := Lib.hid ejv
  have HR := Lib.hid hr
  have HV := Lib.hid hv
  clear hr hv hright k3 er ev ejr ejv
  go_enter Try.func18, Try.ntmps18
  go_wp2_with (first
    | (go_at_call 11; ((with_reducible refine (refIndex_j s t r _ _ EJR.out HR.out hs).mono ?_); rintro e w1 ⟨rfl, rfl⟩))
    | (go_at_call 11; ((with_reducible refine (refIndex_j s t v _ _ EJV.out HV.out hs).mono ?_); rintro e w2 ⟨rfl, rfl⟩)))
  go_loopw [9, 11] (fun a o wr => ∃ (k : Nat) (j : Int) (u : Value), a = .int .i64 j ∧ u = o ∧ AtK s t r v w k j u wr) (fun a _ _ => (leftR s t (intOf a * t) v).toNat)
  case atStart => exact ⟨0, jr, _, rfl, rfl, Nat.zero_le _, EJR.out, by simpa [upR] using World.ownsRow_nil _ _ _ _, by simp [upR], Below.refl _ _⟩
  case round =>
    obtain ⟨k, j, o, rfl, rfl, hat⟩ := hrel
    have hal := hat.left HR.out HV.out
    obtain ⟨hk, hj, hrow, hnil, hb⟩ := hat
    have HAL := Lib.hid hal
    clear hal
    have hm := seqR_may HR.out k
    obtain ⟨ea, j0, j1⟩ := idx_of hm
    rw [hj] at ea j0 j1
    have hbd := leftR_bd HR.out HV.out
    have hls := left_seq HR.out HV.out k (by omega)
    by_cases hne : j = jv
    · have hv' : seqR s t r k = v := idx_inj hm HV.out (by rw [hj, hne]; exact EJV.out.symm)
      have ek : k = (leftR s t r v).toNat := by rw [hv', leftR_self] at hls; omega
      have EK := Lib.hid ek
      have HN := Lib.hid hnil
      have HW := Lib.hid hrow
      have HJ : (j != jv) = false := by simp [hne]
      clear hne hv' ek hls hbd ea hj hm hnil hrow
      go_wp2
      have ho : OwnsInts w wr o (xsV s t r v) := by
        have e : xsV s t r v = upR s t r k := by rw [EK.out]; rfl
        rw [e]
        exact ⟨HW.out, HN.out⟩
      go_ret
      exact ⟨_, rfl, ho, hb⟩
    · have hv' : seqR s t r k ≠ v := fun e => hne (by rw [← hj, e]; exact EJV.out)
      have hlp := left_pos hm HV.out hv'
      have hnx := left_next hm HV.out hv'
      have hni := next_idx hm
      rw [hj] at hni
      obtain ⟨_, m1, m2, _⟩ := mayB_out hm
      have hl : (upR s t r k).length + 1 ≤ 1024 := by rw [upR_len]; omega
      have b1 : 0 ≤ j * t := by rw [← ea]; exact m1
      have b2 : j * t < s := by rw [← ea]; exact m2
      have HJ : (j != jv) = true := by simpa using hne
      have EA := Lib.hid ea
      have HLS := Lib.hid hls
      have HNX := Lib.hid hnx
      have HLP := Lib.hid hlp
      have HK := Lib.hid hk
      have HNI := Lib.hid hni
      have HBD := Lib.hid hbd
      clear hne hv' ea hls hnx hlp hbd hj hm m1 m2 hnil hk hni
      by_cases hend : j + 1 = s / t
      · have HE : (j + 1 == s / t) = true := by simpa using hend
        have HN0 := Lib.hid hend
        clear hend
        go_wp2_with (at_builtin; refine wpList_append_own _ rfl _ _ 33 rfl w.heap.size 3 i0 (.int .i64 0) 1 8 Try.underlying33 hi hz0 hz1 hz2 rfl (by decide) _ _ _ rfl (hrow.alloc _) ⟨wr.heap.size, 0, none⟩ 1 1 [.int .i64 (j * t)] rfl rfl (cell_one_new _ _ _) (by simp [Value.oneCell']) (by unfold maxLen; omega) (by omega) (by have := hb.size; simp; omega) ?_; intro o' w3 hown' hgrow hnil')
        have hat' : AtK s t r v w (k + 1) 0 o' w3 := AtK.more (by have := HLS.out; have := HLP.out; omega) (by show nextR s t (seqR s t r k) / t = 0; rw [HNI.out, if_pos HN0.out]) EA.out hrow hb hown' hgrow
        go_roundw
        case rel => exact ⟨k + 1, 0, _, rfl, rfl, hat'⟩
        case measure =>
          have h1 := hat'.left HR.out HV.out
          have h2 := HAL.out
          have h3 := HLS.out
          have h4 := HLP.out
          simp only [intOf]; rw [h1, h2]; omega
      · have HE : (j + 1 == s / t) = false := by simpa using hend
        have HN0 := Lib.hid hend
        clear hend
        go_wp2_with (at_builtin; refine wpList_append_own _ rfl _ _ 33 rfl w.heap.size 3 i0 (.int .i64 0) 1 8 Try.underlying33 hi hz0 hz1 hz2 rfl (by decide) _ _ _ rfl (hrow.alloc _) ⟨wr.heap.size, 0, none⟩ 1 1 [.int .i64 (j * t)] rfl rfl (cell_one_new _ _ _) (by simp [Value.oneCell']) (by unfold maxLen; omega) (by omega) (by have := hb.size; simp; omega) ?_; intro o' w3 hown' hgrow hnil')
        have hat' : AtK s t r v w (k + 1) (j + 1) o' w3 := AtK.more (by have := HLS.out; have := HLP.out; omega) (by show nextR s t (seqR s t r k) / t = j + 1; rw [HNI.out, if_neg HN0.out]) EA.out hrow hb hown' hgrow
        go_roundw
        case rel => exact ⟨k + 1, j + 1, _, rfl, rfl, hat'⟩
        case measure =>
          have h1 := hat'.left HR.out HV.out
          have h2 := HAL.out
          have h3 := HLS.out
          have h4 := HLP.out
          simp only [intOf]; rw [h1, h2]; omega

set_option maxRecDepth 100000 in
set_option maxHeartbeats 2000000 in
theorem refWaits_no (s t r v : Int) (w : World) (hm : (mayB s t r && mayB s t v) = false) (hs : s ≤ 9223372036854775807) :
    Calls Try.prog 18 #[.int .i64 s, .int .i64 t, .int .i64 r, .int .i64 v] w fun e W' => ∃ o, e = .returned o ∧ OwnsInts w W' o (xsR s t r v) ∧ Below w.heap.size w W' := by
  have hx : xsR s t r v = [] := by simp only [xsR, hm]; rfl
  rw [hx]
  have ho : OwnsInts w w (.slice none 0 0) [] := ⟨World.ownsRow_nil _ _ _ _, by simp⟩
  clear hx
  cases hr : mayB s t r
  · cases hv : mayB s t v
    · have HR := Lib.hid hr
      have HV := Lib.hid hv
      clear hr hv hm
      go_enter Try.func18, Try.ntmps18
      go_wp2_with (first
        | (go_at_call 11; ((with_reducible refine (refIndex_n' s t r _ HR.out hs).mono ?_); rintro e w1 ⟨rfl, rfl⟩))
        | (go_at_call 11; ((with_reducible refine (refIndex_n' s t v _ HV.out hs).mono ?_); rintro e w2 ⟨rfl, rfl⟩)))
      go_ret
      exact ⟨_, rfl, ho, Below.refl _ _⟩
    · have ⟨v0, v1⟩ := (idx_of hv).2
      have HR := Lib.hid hr
      have HV := Lib.hid hv
      clear hr hv hm
      go_enter Try.func18, Try.ntmps18
      go_wp2_with (first
        | (go_at_call 11; ((with_reducible refine (refIndex_n' s t r _ HR.out hs).mono ?_); rintro e w1 ⟨rfl, rfl⟩))
        | (go_at_call 11; ((with_reducible refine (refIndex_j s t v _ _ rfl HV.out hs).mono ?_); rintro e w2 ⟨rfl, rfl⟩)))
      go_ret
      exact ⟨_, rfl, ho, Below.refl _ _⟩
  · have hv : mayB s t v = false := by simpa [hr] using hm
    have ⟨v0, v1⟩ := (idx_of hr).2
    have HR := Lib.hid hr
    have HV := Lib.hid hv
    clear hr hv hm
    go_enter Try.func18, Try.ntmps18
    go_wp2_with (first
      | (go_at_call 11; ((with_reducible refine (refIndex_j s t r _ _ rfl HR.out hs).mono ?_); rintro e w1 ⟨rfl, rfl⟩))
      | (go_at_call 11; ((with_reducible refine (refIndex_n' s t v _ HV.out hs).mono ?_); rintro e w2 ⟨rfl, rfl⟩)))
    go_ret
    exact ⟨_, rfl, ho, Below.refl _ _⟩

theorem refWaits_ints (s t r v : Int) (hs : s ≤ 9223372036854775807) (w : World) :
    Calls Try.prog 18 #[.int .i64 s, .int .i64 t, .int .i64 r, .int .i64 v] w (SomeInts w (xsR s t r v)) := by
  have main : Calls Try.prog 18 #[.int .i64 s, .int .i64 t, .int .i64 r, .int .i64 v] w fun e W' => ∃ o, e = .returned o ∧ OwnsInts w W' o (xsR s t r v) ∧ Below w.heap.size w W' := by
    cases hm : mayB s t r && mayB s t v
    · exact refWaits_no s t r v w hm hs
    · obtain ⟨hr, hv⟩ := mayB_out2 hm
      exact refWaits_yes s t r v w hr hv hs
  exact main.mono fun e W' ⟨o, he, ho, hb⟩ => by
    have hi := intsAt_row ho.1
    obtain ⟨a, cap, rfl, hcap, hc⟩ := hi
    exact ⟨a, cap, he, ⟨a, cap, rfl, hcap, hc⟩, hb⟩

end Go.Proofs.Ytpabmfmiikmnpaa
