/-
  Package queue: Fill at every call.
-/
import Derived.Test.YtfnokpajendlmaaQuD
namespace Go.Proofs.Ytfnokpajendlmaa
open Go.ChangeShapes Go.WideShapes Go.ChangeAt Go.RowKit
set_option linter.unusedVariables false
set_option linter.unusedSimpArgs false

/-- The cells of a command in a row. -/
def cmdC (W : World) (b o : Nat) (c : Cm) : Prop :=
  W.cell? ⟨b, o, none⟩ = some (.int .i64 c.op) ∧ W.cell? ⟨b, o + 1, none⟩ = some (.int .i64 c.dev) ∧ W.cell? ⟨b, o + 2, none⟩ = some (.int .i64 c.ev) ∧ W.cell? ⟨b, o + 3, none⟩ = some (.int .i64 c.num) ∧ W.cell? ⟨b, o + 4, none⟩ = some (.int .i64 c.coll) ∧
  W.cell? ⟨b, o + 5, none⟩ = some (.int .i64 c.tgt) ∧ W.cell? ⟨b, o + 6, none⟩ = some (.int .i64 c.bit) ∧ W.cell? ⟨b, o + 7, none⟩ = some (.int .i64 c.addr) ∧ W.cell? ⟨b, o + 8, none⟩ = some (.bool c.valid)
/-- A slice of commands, at b from off on. -/
structure CmdsAt (W : World) (a : Option Addr) (b off : Nat) (cs : List Cm) : Prop where
  len : cs.length ≤ 9223372036854775807
  fair : ∀ c ∈ cs, c.Fair
  lt : cs ≠ [] → b < W.heap.size
  at_ : cs ≠ [] → a = some ⟨b, off, none⟩
  cells : ∀ j c, cs[j]? = some c → cmdC W b (off + j * 9) c
theorem cmdC.kept {W W' : World} {b o : Nat} {c : Cm} (h : cmdC W b o c) (k : W'.heap[b]? = W.heap[b]?) : cmdC W' b o c := by
  have e : ∀ i, W'.cell? ⟨b, i, none⟩ = W.cell? ⟨b, i, none⟩ := fun i => by simp only [World.cell?, k]
  unfold cmdC at h ⊢
  simp only [e]
  exact h
theorem CmdsAt.kept {W W' : World} {a : Option Addr} {b off : Nat} {cs : List Cm} (h : CmdsAt W a b off cs) {bs : Nat → Prop} (k : Kept bs W W') (hn : cs ≠ [] → ¬ bs b) : CmdsAt W' a b off cs :=
  ⟨h.len, h.fair, fun x => Nat.lt_of_lt_of_le (h.lt x) k.size, h.at_, fun j c hc => by
    have hne : cs ≠ [] := fun e => by rw [e] at hc; simp at hc
    exact (h.cells j c hc).kept (k.block b (h.lt hne) (hn hne))⟩
theorem CmdsAt.below {W W' : World} {a : Option Addr} {b off : Nat} {cs : List Cm} (h : CmdsAt W a b off cs) (k : Below W.heap.size W W') : CmdsAt W' a b off cs := h.kept (bs := fun _ => False) (Kept.of k) (fun _ x => x)

theorem quQ_fair {n : Nat} {q : Qu} (c : Cm) (h : q.Fair) : (quQ n q c).Fair := by
  unfold quQ
  split
  · rename_i e
    have hr : ¬ rooN q < 1 := fun x => by rw [quE, if_pos x] at e; omega
    obtain ⟨_, h2⟩ := okQ_out (room_ok hr)
    obtain ⟨_, n0, n1, _⟩ := mayB_out (next_may h2)
    have := h.s.2
    exact ⟨h.a, h.s, h.r, ⟨by dsimp only; omega, by dsimp only; omega⟩⟩
  · exact h
theorem passQ_fair {q : Qu} (h : q.Fair) : (passQ q).Fair := by
  unfold passQ
  split
  · exact h
  · rename_i hl
    obtain ⟨h1, _⟩ := okQ_out (left_ok hl)
    obtain ⟨_, n0, n1, _⟩ := mayB_out (next_may h1)
    have := h.s.2
    exact ⟨h.a, h.s, ⟨by dsimp only; omega, by dsimp only; omega⟩, h.w⟩
theorem setQ_fair {q : Qu} {x : Int} (h : q.Fair) (hx : i64B x) : (setQ q x).Fair := by
  unfold setQ
  split
  · exact ⟨h.a, h.s, h.r, hx⟩
  · exact h

set_option maxRecDepth 100000 in
set_option maxHeartbeats 8000000 in
theorem fill_any (p g cap : Nat) (bs : List Nat) (b : Nat) (q : Qu) (a : Option Addr) (B off cp : Nat) (cs : List Cm) (w : World) (hM : MemAt 73 w p g cap bs) (hQ : CB w b 25 (Qu.cs q)) (hF : q.Fair) (hC : CmdsAt w a B off cs) (hap : cs ≠ [] → B ≠ g ∧ B ≠ b) :
    Calls Try.prog 12 #[.pointer (some ⟨b, 0, none⟩), .pointer (some ⟨p, 0, none⟩), .slice a cs.length cp] w fun e w' => e = .returned (.tuple #[.int .i64 (fillS cs bs q).1, .int .i64 (fillS cs bs q).2.1]) ∧ QM w p g cap b (fillS cs bs q).2.2.2 (fillS cs bs q).2.2.1 w' := by
  have HI0 := hi (show ∃ bs1 q1, QM w p g cap b bs1 q1 w ∧ q1.Fair ∧ fillS cs bs q = (0 + (fillS (cs.drop 0) bs1 q1).1, (fillS (cs.drop 0) bs1 q1).2) from ⟨bs, q, QM.refl hM hQ, hF, by simp⟩)
  have HC := hi hC
  have HAP := hi hap
  obtain ⟨T, hT⟩ : ∃ T, fillS cs bs q = T := ⟨_, rfl⟩
  rw [hT] at HI0 ⊢
  have hlen := hC.len
  clear hT hM hQ hF hC hap
  obtain ⟨T1, T2, T3, T4⟩ := T
  dsimp only
  go_enter Try.func12, Try.ntmps12
  go_wp2
  go_loopw [13] (fun i wr => ∃ k : Nat, i = .int .i64 k ∧ Hi (k ≤ cs.length ∧ ∃ bs1 q1, QM w p g cap b bs1 q1 wr ∧ q1.Fair ∧ (T1, T2, T3, T4) = (k + (fillS (cs.drop k) bs1 q1).1, (fillS (cs.drop k) bs1 q1).2))) (fun i _ => cs.length - (intOf i).toNat)
  case atStart => exact ⟨0, rfl, hi ⟨Nat.zero_le _, HI0.out⟩⟩
  case round =>
    obtain ⟨k, rfl, HJ⟩ := hrel
    have hk := HJ.out.1
    obtain ⟨bs1, q1, hqm, hf1, hTe⟩ := HJ.out.2
    by_cases hlt : k < cs.length
    · obtain ⟨c, hc⟩ : ∃ c, cs[k]? = some c := ⟨_, List.getElem?_eq_getElem hlt⟩
      have hne : cs ≠ [] := fun e => by rw [e] at hc; simp at hc
      have hcm := (HC.out.cells k c hc).kept (hqm.kept.block B (HC.out.lt hne) (fun x => by have := HAP.out hne; omega))
      have hcf := HC.out.fair c (List.mem_of_getElem? hc)
      obtain rfl := HC.out.at_ hne
      have hd : cs.drop k = c :: cs.drop (k + 1) := by
        rw [List.drop_eq_getElem_cons hlt]
        congr 1
        rw [List.getElem?_eq_getElem hlt] at hc
        simpa using hc
      have HPT := hi (fun W hM hQ => put_any p g cap bs1 b q1 c W hM hQ hf1 hcf.addr)
      obtain ⟨F, hFF⟩ : ∃ F, quE bs1.length q1 c = F := ⟨_, rfl⟩
      rw [hFF] at HPT
      rw [hd, fillS, hFF] at hTe
      have HQM := hi (And.intro hqm (And.intro hf1 (And.intro hTe hlt)))
      have HNF := hi (quQ_fair (n := bs1.length) c hf1)
      unfold cmdC at hcm
      obtain ⟨m0, m1, m2, m3, m4, m5, m6, m7, m8⟩ := hcm
      obtain ⟨c1, c2, c3, c4, c5, c6, c7, c8, c9⟩ := c
      dsimp only [Cm.v] at HPT m0 m1 m2 m3 m4 m5 m6 m7 m8
      clear hne hcf hd hqm hf1 hTe hFF hc
      by_cases hz : F = 0
      · subst hz
        go_wp2_with (go_at_call 18; ((with_reducible refine (HPT.out _ (HQM.out.1.later (bal _ _)).m (HQM.out.1.later (bal _ _)).q).mono ?_); rintro e w3 ⟨rfl, hq3⟩; have HQ3 := hi (show QM w p g cap b _ _ w3 from ⟨hq3.m, hq3.q, (HQM.out.1.later (bal _ _)).kept.trans hq3.kept⟩); clear hq3))
        go_roundw
        case rel =>
          refine ⟨k + 1, by go_num, hi ⟨HQM.out.2.2.2, _, _, HQ3.out, HNF.out, ?_⟩⟩
          have := HQM.out.2.2.1
          (try rw [if_pos (rfl : (0 : Int) = 0)] at this)
          refine this.trans ?_
          simp only [Prod.mk.injEq, and_true, if_true]
          omega
        case measure => have := HQM.out.2.2.2; simp [intOf]; omega
      · have hne2 : (F != 0) = true := by simpa using hz
        have hTe := HQM.out.2.2.1
        rw [if_neg hz] at hTe
        simp only [Prod.mk.injEq, Nat.add_zero] at hTe
        obtain ⟨rfl, rfl, rfl, rfl⟩ := hTe
        clear hz
        go_wp2_with (go_at_call 18; ((with_reducible refine (HPT.out _ (HQM.out.1.later (bal _ _)).m (HQM.out.1.later (bal _ _)).q).mono ?_); rintro e w3 ⟨rfl, hq3⟩; have HQ3 := hi (show QM w p g cap b _ _ w3 from ⟨hq3.m, hq3.q, (HQM.out.1.later (bal _ _)).kept.trans hq3.kept⟩); clear hq3))
        go_ret2
        exact ⟨rfl, HQ3.out⟩
    · have e : k = cs.length := by omega
      subst e
      rw [List.drop_length, fillS] at hTe
      simp only [Prod.mk.injEq, Nat.add_zero] at hTe
      obtain ⟨rfl, rfl, rfl, rfl⟩ := hTe
      have HQM := hi hqm
      have x1 : ¬ (cs.length : Int) < (cs.length : Int) := by omega
      clear hqm hlt hk
      go_wp2
      go_ret2
      exact ⟨rfl, HQM.out⟩

end Go.Proofs.Ytfnokpajendlmaa
