/-
  Package lpi: the numbers of the set gone through; Disable.
-/
import Derived.Test.YtobhdjepfhbgaaaDoorLpG
namespace Go.Proofs.YtobhdjepfhbgaaaDoor
open Go.ChangeShapes Go.WideShapes Go.ChangeAt Go.RowKit Go.Shelf
set_option linter.unusedVariables false
set_option linter.unusedSimpArgs false
attribute [local go_sem] Oper.semAt_some

/-- What a round over the set's members keeps: the library's table, and the iterator's own two blocks. -/
def fBs (b : Nat) : Nat → Prop := fun i => i = 0 ∨ i = b ∨ i = b + 1
theorem FromAt.kpb {W W' : World} {b : Nat} {S : Words} {f : Int} (h : FromAt W b S f) (k : KpB (fBs b) W W') : FromAt W' b S f :=
  h.stays (fun i h1 h2 => k.same i (by unfold fBs; omega))
theorem TabW.kpb {W W' : World} {b : Nat} (h : TabW W) (k : KpB (fBs b) W W') : TabW W' := h.stays (fun i h1 h2 => k.same i (by unfold fBs; omega))
theorem ids_cons {k j : Nat} {r : List Int} {r' : List Nat} (h : ids (j :: r') = (k : Int) :: r) : (k : Int) = idOf j ∧ r = ids r' := by
  simp only [ids, List.map_cons, List.cons.injEq] at h
  exact ⟨h.1.symm, h.2.symm⟩

set_option maxRecDepth 100000 in
set_option maxHeartbeats 2000000 in
theorem from1_w (y b : Nat) (S : Words) (L : List Nat) (hxs : MemFrom S 0 (ids L)) (J Jx : List Nat → World → Prop) (W : World)
    (hY : ∀ (pre : List Nat) (x : Nat) (W1 : World), J pre W1 → pre ++ [x] <+: L → W.heap.size + 0 ≤ W1.heap.size → ∀ m, YieldAt Fence.wide m Tryd.prog y (encK x) W1 fun e W' =>
      (e = .returned (.bool true) ∧ J (pre ++ [x]) W' ∧ KpB (fBs b) W1 W') ∨ (e = .returned (.bool false) ∧ Jx (pre ++ [x]) W' ∧ KpB (fBs b) W1 W'))
    (hB : FromAt W b S 0) (hT : TabW W) (h0 : J [] W) :
    Calls Tryd.prog 90 #[.func (.yield y) #[] #[], .pointer (some ⟨b, 0, none⟩), .pointer (some ⟨b + 1, 0, none⟩)] W fun e W' => (∃ v, e = .returned v) ∧
      ((∃ ys, ys = L ∧ J ys W') ∨ (∃ pre, pre <+: L ∧ Jx pre W')) := by
  obtain ⟨k0, hk0, ha0⟩ := atM_of hxs
  have c1 := cell_of_box hB.2 0
  simp at c1
  have hnx := next_near _ b S 0 k0 W hB.1 hT (by omega) hk0
  rw [show ((0 : Nat) : Int) = 0 from rfl] at hnx
  have HNX := hi hnx
  have HB := hi hB
  have HT := hi hT
  have HK := hi hk0
  have HA := hi ha0
  have HYY := hi hY
  clear hnx hB hT hxs hk0 ha0 hY
  refine (callsIn_wide (n := 3)).1 ?_
  refine callsIn_of_wp Tryd.func90 rfl trivial ?_ rfl
  simp only [Tryd.ntmps90, List.size_toArray, List.length_cons, List.length_nil, Nat.reduceAdd, Nat.reduceSub, Array.replicate_succ, Array.replicate_zero, List.push_toArray, List.append_toArray, List.nil_append, List.cons_append]
  gi_wp2_with (first
    | (refine ⟨trivial, ?_⟩; gi_at_call 91; ((with_reducible refine (callsIn_wide.2 HNX.out).mono ?_); rintro e w1 ⟨rfl, rfl⟩))
    | gi_in)
  gi_loopw [4] (fun p wr => ∃ (k : Nat) (pre rest : List Nat), p = .int .i64 k ∧ Hi (L = pre ++ rest ∧ AtM S k (ids rest) ∧ FromAt wr b S 0 ∧ TabW wr ∧ W.heap.size ≤ wr.heap.size ∧ J pre wr))
    (fun p _ => 16384 - (intOf p).toNat)
  case atStart => exact ⟨k0, [], L, rfl, hi ⟨rfl, HA.out, HB.out, HT.out, Nat.le_refl _, h0⟩⟩
  case round =>
    obtain ⟨k, pre, rest, rfl, HH⟩ := hrel
    obtain ⟨hx, ha, hFr, hTr, hsz, hJs⟩ := HH.out
    cases rest with
    | nil =>
      obtain rfl : k = 16384 := by
        rcases ha with ⟨_, e⟩ | ⟨r, e, _⟩
        · exact e
        · simp [ids] at e
      have HE := hi (And.intro hx hJs)
      clear hx hFr hTr hJs ha
      gi_wp2
      go_end0
      exact ⟨⟨_, rfl⟩, .inl ⟨pre, by have := HE.out.1; simpa using this.symm, HE.out.2⟩⟩
    | cons j r =>
      obtain ⟨hkj, hlt, hm⟩ : (k : Int) = idOf j ∧ k < 16384 ∧ MemFrom S (k + 1) (ids r) := by
        rcases ha with ⟨e, _⟩ | ⟨r', e, h1, h2⟩
        · simp [ids] at e
        · obtain ⟨e1, e2⟩ := ids_cons e
          exact ⟨e1, h1, e2 ▸ h2⟩
      obtain ⟨k2, hk2, ha2⟩ := atM_of hm
      have hpr : pre ++ [j] <+: L := ⟨r, by rw [hx]; simp⟩
      have hyy := HYY.out pre j wr hJs hpr (by omega)
      rw [show encK j = #[.int .i64 (k : Int)] by rw [hkj]] at hyy
      obtain ⟨fn, tmps, assign, body, hy, hR⟩ := hyy (3 - 1)
      have hki : (k : Int) < 16384 := by omega
      have HE := hi (And.intro hx (And.intro hpr hsz))
      have HFR := hi hFr
      have HTR := hi hTr
      have HK2 := hi hk2
      have HA2 := hi ha2
      have HLT := hi hlt
      clear hx hFr hTr hm hk2 ha2 hlt hpr hsz ha HH hJs hkj
      gi_wp2
      refine hR.mono ?_
      rintro e W3 (⟨rfl, hJ3, hk3⟩ | ⟨rfl, hJx3, _⟩)
      · have hF3 := HFR.out.kpb hk3
        have hT3 := HTR.out.kpb hk3
        have hnx2 := next_near _ b S (k + 1) k2 W3 hF3.1 hT3 (by have := HLT.out; omega) HK2.out
        rw [show ((k + 1 : Nat) : Int) = (k : Int) + 1 by simp] at hnx2
        have HNX2 := hi hnx2
        have HF3 := hi (And.intro hF3 (And.intro hT3 (And.intro (Nat.le_trans HE.out.2.2 hk3.size) hJ3)))
        clear hF3 hT3 hnx2
        gi_wp2_with (first
          | (refine ⟨trivial, ?_⟩; gi_at_call 91; ((with_reducible refine (callsIn_wide.2 HNX2.out).mono ?_); rintro e w4 ⟨rfl, rfl⟩))
          | gi_in)
        go_roundw
        case rel => exact ⟨k2, pre ++ [j], r, rfl, hi ⟨by rw [HE.out.1]; simp, HA2.out, HF3.out.1, HF3.out.2.1, HF3.out.2.2.1, HF3.out.2.2.2⟩⟩
        case measure =>
          have h1 := HLT.out
          have h2 := HK2.out.1
          simp only [intOf]; omega
      · gi_wp2
        refine bodyPost_ret (results_none rfl _ _ _) rfl ?_
        exact ⟨⟨_, rfl⟩, .inr ⟨_, HE.out.2.1, hJx3⟩⟩
theorem ids_stops (b : Nat) (S : Words) (L : List Nat) (hxs : MemFrom S 0 (ids L)) (w : World) (hB : FromAt w b S 0) (hT : TabW w) :
    SeqW 0 Tryd.prog 90 #[.pointer (some ⟨b, 0, none⟩), .pointer (some ⟨b + 1, 0, none⟩)] encK (fun _ => KpB (fBs b)) (fun ys => ys = L) (fun pre => pre <+: L) (fun pre k => pre ++ [k] <+: L) w := fun y J Jx W hW hJ hJx hY h0 =>
  from1_w y b S L hxs J Jx W hY (hB.below hW) (hT.below hW) h0

end Go.Proofs.YtobhdjepfhbgaaaDoor
