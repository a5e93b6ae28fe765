/-
  Package cmd: entry, Store, in a memory.
-/
import Derived.Test.YtfnokpajendlmaaCmJ
import Derived.Test.YtfnokpajendlmaaMjB
namespace Go.Proofs.Ytfnokpajendlmaa
open Go.ChangeShapes Go.WideShapes Go.ChangeAt Go.RowKit
set_option linter.unusedVariables false
set_option linter.unusedSimpArgs false

/-- Whether a command may stand there. -/
def entOk (n : Nat) (a s off : Int) : Bool := partOk a s off 32 && (holdsB n a s && decide (off.tmod 8 = 0))
def entV (n : Nat) (a s off : Int) : Value := if entOk n a s off = true then .tuple #[.agg #[.int .i64 (a + off), .int .i64 32], .int .i64 0] else .tuple #[.agg #[.int .i64 0, .int .i64 0], .int .i64 42]
theorem results_wt {fn : Func} {c t : Tmp} (h : fn.results = #[.cell c 23, .tmp t]) (tmps : Array Value) (w : World) (b : Nat) (v0 v1 v : Value) (hp : tmps.getD c undef = .pointer (some ⟨b, 0, none⟩)) (ht : tmps.getD t undef = v) (hb : CB w b 23 #[v0, v1]) :
    (results fn tmps).run Try.prog w = .ok (.tuple #[.agg #[v0, v1], v]) w := by
  have hp' : tmps[c]?.getD undef = .pointer (some ⟨b, 0, none⟩) := by simpa using hp
  have ht' : tmps[t]?.getD undef = v := by simpa using ht
  have c0 := hb.cell 0
  have c1 := hb.cell 1
  simp at c0 c1
  simp [results, h, go_sem, hp', ht', c0, c1]
theorem CB.two {W : World} {b : Nat} {t : TypeId} {v0 v1 : Value} (h : CB W b t #[v0, v1]) : W.cell? ⟨b, 0, none⟩ = some v0 ∧ W.cell? ⟨b, 1, none⟩ = some v1 := ⟨h.cell 0, h.cell 1⟩
abbrev set2 (W : World) (b : Nat) (v0 v1 : Value) : World := (W.setCell ⟨b, 0, none⟩ v0).setCell ⟨b, 1, none⟩ v1
theorem CB.set2 {W : World} {b : Nat} {t : TypeId} {a0 a1 : Value} (h : CB W b t #[a0, a1]) (v0 v1 : Value) : CB (set2 W b v0 v1) b t #[v0, v1] := (h.set 0 v0).set 1 v1
theorem below_s2 {n : Nat} {w W : World} (h : Below n w W) {b : Nat} (hb : n ≤ b) (v0 v1 : Value) : Below n w (set2 W b v0 v1) := below_set (below_set h hb _) hb _

set_option maxRecDepth 100000 in
set_option maxHeartbeats 4000000 in
theorem entry_any (p g cap : Nat) (bs : List Nat) (a s off : Int) (w : World) (hM : MemAt 73 w p g cap bs) (ha : i64B a) (hs : i64B s) (ho : i64B off) :
    Calls Try.prog 52 #[.pointer (some ⟨p, 0, none⟩), win a s, .int .i64 off] w fun e w' => e = .returned (entV bs.length a s off) ∧ Below w.heap.size w w' := by
  have HP := hi (fun W => part_any a s off 32 W (by decide) ho.2)
  have HH := hi (fun W (hb : Below w.heap.size w W) => holds_any p g cap bs a s W (hM.below hb) ha.1 ha.2 hs.1 hs.2)
  have HC := hi (And.intro ((CB.new w 23 #[.int .i64 a, .int .i64 s]).alloc (.cells #[.int .i64 0, .int .i64 0] 23)) (cb_second (w := w) (o := .cells #[.int .i64 a, .int .i64 s] 23) (cs := #[.int .i64 0, .int .i64 0]) (t := 23)))
  have HE := hi (show entV bs.length a s off = if (partOk a s off 32 && (holdsB bs.length a s && decide (off.tmod 8 = 0))) = true then .tuple #[.agg #[.int .i64 (a + off), .int .i64 32], .int .i64 0] else .tuple #[.agg #[.int .i64 0, .int .i64 0], .int .i64 42] from rfl)
  obtain ⟨n, hn⟩ : ∃ n, bs.length = n := ⟨_, rfl⟩
  rw [hn] at HH HE ⊢
  obtain ⟨ev, hev⟩ : ∃ ev, entV n a s off = ev := ⟨_, rfl⟩
  rw [hev] at HE ⊢
  obtain ⟨po, hpo⟩ : ∃ v, partOk a s off 32 = v := ⟨_, rfl⟩
  obtain ⟨hb, hhb⟩ : ∃ v, holdsB n a s = v := ⟨_, rfl⟩
  unfold partV at HP
  rw [hpo] at HP HE
  rw [hhb] at HH HE
  clear hn hev hpo hhb ha hs hM
  unfold win at HP HH ⊢
  cases po
  · have he : ev = .tuple #[.agg #[.int .i64 0, .int .i64 0], .int .i64 42] := by have := HE.out; simpa using this
    subst he
    have HP2 := hi (show ∀ W, Calls Try.prog 68 #[.agg #[.int .i64 a, .int .i64 s], .int .i64 off, .int .i64 32] W fun e w' => e = .returned (.tuple #[.agg #[.int .i64 0, .int .i64 0], .int .i64 42]) ∧ Below W.heap.size W w' from HP.out)
    clear HP HE
    go_enter Try.func52, Try.ntmps52
    go_wp2_with (go_at_call 68; ((with_reducible refine (HP2.out _).mono ?_); rintro e w1 ⟨rfl, hb1⟩; have HR := hi (HC.out.2.below hb1); obtain ⟨q0, q1⟩ := CB.two HR.out; have qf := HR.out.frozen; have hz := HR.out.lt; have hz2 := Nat.lt_of_succ_lt hz; have HB := hi ((bal_two w _ _).trans (hb1.mono (by simp; omega))); clear hb1))
    exact bodyPost_ret (results_wt rfl _ _ (w.heap.size + 1) _ _ _ rfl rfl ((HR.out.set2 _ _).alloc _)) rfl ⟨rfl, (below_s2 HB.out (by omega) _ _).alloc (by simp; exact HB.out.size) _⟩
  · have HP2 := hi (show ∀ W, Calls Try.prog 68 #[.agg #[.int .i64 a, .int .i64 s], .int .i64 off, .int .i64 32] W fun e w' => e = .returned (.tuple #[.agg #[.int .i64 (a + off), .int .i64 32], .int .i64 0]) ∧ Below W.heap.size W w' from HP.out)
    clear HP
    cases hb
    · have he : ev = .tuple #[.agg #[.int .i64 0, .int .i64 0], .int .i64 42] := by have := HE.out; simpa using this
      subst he
      clear HE
      go_enter Try.func52, Try.ntmps52
      go_wp2_with (first
        | (go_at_call 68; ((with_reducible refine (HP2.out _).mono ?_); rintro e w1 ⟨rfl, hb1⟩; have HR := hi (HC.out.2.below hb1); have HW := hi (HC.out.1.below hb1); obtain ⟨q0, q1⟩ := CB.two HW.out; have hz := HR.out.lt; have hz2 := Nat.lt_of_succ_lt hz; have HB := hi ((bal_two w _ _).trans (hb1.mono (by simp; omega))); clear hb1))
        | (go_at_call 59; ((with_reducible refine (HH.out _ (HB.out.alloc HB.out.size _)).mono ?_); rintro e w2 ⟨rfl, hb2⟩; have HR2 := hi ((HR.out.alloc _).below hb2); clear q0 q1; obtain ⟨q0, q1⟩ := CB.two HR2.out; have qf := HR2.out.frozen; have HB2 := hi ((HB.out.alloc HB.out.size _).trans (hb2.mono (by have := HB.out.size; simp; omega))); clear hb2)))
      exact bodyPost_ret (results_wt rfl _ _ (w.heap.size + 1) _ _ _ rfl rfl (HR2.out.set2 _ _)) rfl ⟨rfl, below_s2 HB2.out (by omega) _ _⟩
    · by_cases ht : off.tmod 8 = 0
      · have he : ev = .tuple #[.agg #[.int .i64 (a + off), .int .i64 32], .int .i64 0] := by have := HE.out; simpa [ht] using this
        subst he
        clear HE
        go_enter Try.func52, Try.ntmps52
        go_wp2_with (first
          | (go_at_call 68; ((with_reducible refine (HP2.out _).mono ?_); rintro e w1 ⟨rfl, hb1⟩; have HR := hi (HC.out.2.below hb1); have HW := hi (HC.out.1.below hb1); obtain ⟨q0, q1⟩ := CB.two HW.out; have hz := HR.out.lt; have hz2 := Nat.lt_of_succ_lt hz; have HB := hi ((bal_two w _ _).trans (hb1.mono (by simp; omega))); clear hb1))
          | (go_at_call 59; ((with_reducible refine (HH.out _ (HB.out.alloc HB.out.size _)).mono ?_); rintro e w2 ⟨rfl, hb2⟩; have HR2 := hi ((HR.out.alloc _).below hb2); have HP3 := hi ((CB.new w1 23 #[.int .i64 (a + off), .int .i64 32]).below hb2); clear q0 q1; obtain ⟨q0, q1⟩ := CB.two HR2.out; have qf := HR2.out.frozen; obtain ⟨p0, p1⟩ := CB.two HP3.out; have HB2 := hi ((HB.out.alloc HB.out.size _).trans (hb2.mono (by have := HB.out.size; simp; omega))); clear hb2)))
        exact bodyPost_ret (results_wt rfl _ _ (w.heap.size + 1) _ _ _ rfl rfl (HR2.out.set2 _ _)) rfl ⟨rfl, below_s2 HB2.out (by omega) _ _⟩
      · have he : ev = .tuple #[.agg #[.int .i64 0, .int .i64 0], .int .i64 42] := by have := HE.out; simpa [ht] using this
        have ht2 : (off.tmod 8 != 0) = true := by simpa using ht
        subst he
        clear HE
        go_enter Try.func52, Try.ntmps52
        go_wp2_with (first
          | (go_at_call 68; ((with_reducible refine (HP2.out _).mono ?_); rintro e w1 ⟨rfl, hb1⟩; have HR := hi (HC.out.2.below hb1); have HW := hi (HC.out.1.below hb1); obtain ⟨q0, q1⟩ := CB.two HW.out; have hz := HR.out.lt; have hz2 := Nat.lt_of_succ_lt hz; have HB := hi ((bal_two w _ _).trans (hb1.mono (by simp; omega))); clear hb1))
          | (go_at_call 59; ((with_reducible refine (HH.out _ (HB.out.alloc HB.out.size _)).mono ?_); rintro e w2 ⟨rfl, hb2⟩; have HR2 := hi ((HR.out.alloc _).below hb2); clear q0 q1; obtain ⟨q0, q1⟩ := CB.two HR2.out; have qf := HR2.out.frozen; have HB2 := hi ((HB.out.alloc HB.out.size _).trans (hb2.mono (by have := HB.out.size; simp; omega))); clear hb2)))
        exact bodyPost_ret (results_wt rfl _ _ (w.heap.size + 1) _ _ _ rfl rfl (HR2.out.set2 _ _)) rfl ⟨rfl, below_s2 HB2.out (by omega) _ _⟩

end Go.Proofs.Ytfnokpajendlmaa
