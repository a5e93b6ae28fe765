/-
  The document's Encode where it encodes nothing.
-/
import Derived.Test.YtheajnfbphkigaaCmFa
import Derived.Test.YtheajnfbphkigaaCmG
namespace Go.Proofs.Ytheajnfbphkigaa
open Go.ChangeShapes Go.WideShapes Go.ChangeAt Go.RowKit
set_option linter.unusedVariables false
set_option linter.unusedSimpArgs false

set_option maxRecDepth 100000 in
set_option maxHeartbeats 2000000 in
theorem renc_no (c : Cm) (b : Bool) (hb : b = false ∨ known c.op = false) (HF : ∀ W, Calls Try.prog 47 #[c.v] W fun e w' => (∃ v, e = .returned (.tuple #[v, .bool b])) ∧ Below W.heap.size W w') (w : World) :
    Calls Try.prog 23 #[c.v] w fun e w' => e = .returned (.tuple #[Wv wz, .bool false]) ∧ Below w.heap.size w w' := by
  have HF := hi HF
  have HK := hi (fun W => dknown_any c.op W)
  have HC := hi (And.intro ((CB.new w 36 c.cs).alloc (.cells (Ws.cs wz) 64)) (cb_second (w := w) (o := .cells c.cs 36) (cs := Ws.cs wz) (t := 64)))
  obtain ⟨kn, hkn⟩ : ∃ kn, known c.op = kn := ⟨_, rfl⟩
  rw [hkn] at HK hb
  clear hkn
  obtain ⟨c1, c2, c3, c4, c5, c6, c7, c8, c9⟩ := c
  dsimp only [Cm.v, Cm.cs] at HF HC HK ⊢
  cases b
  · clear hb
    go_enter Try.func23, Try.ntmps23
    go_wp2_with (go_at_call 47; ((with_reducible refine (HF.out _).mono ?_); rintro e w1 ⟨⟨v, rfl⟩, hb1⟩; have HR := hi (HC.out.2.below hb1); obtain ⟨r0, r1, r2, r3⟩ := CB.four HR.out; have rf := HR.out.frozen; have hz := HR.out.lt; have HB := hi ((bal_two w _ _).trans (hb1.mono (by simp; omega))); clear hb1))
    exact bodyPost_ret (results_w rfl _ _ (w.heap.size + 1) _ _ _ _ _ rfl rfl (HR.out.set4 _ _ _ _)) rfl ⟨rfl, below_set4 HB.out (by omega) _ _ _ _⟩
  · have hk : kn = false := by simpa using hb
    subst hk
    clear hb
    go_enter Try.func23, Try.ntmps23
    go_wp2_with (first
      | (go_at_call 47; ((with_reducible refine (HF.out _).mono ?_); rintro e w1 ⟨⟨v, rfl⟩, hb1⟩; have HR1 := hi (And.intro (HC.out.1.below hb1) (HC.out.2.below hb1)); obtain ⟨q0, q1, q2, q3, q4, q5, q6, q7, q8⟩ := CB.nine HR1.out.1; have HB1 := hi ((bal_two w _ _).trans (hb1.mono (by simp; omega))); clear hb1))
      | (go_at_call 48; ((with_reducible refine (HK.out _).mono ?_); rintro e w2 ⟨rfl, hb2⟩; have HR := hi (HR1.out.2.below hb2); obtain ⟨r0, r1, r2, r3⟩ := CB.four HR.out; have rf := HR.out.frozen; have hz := HR.out.lt; have HB := hi (HB1.out.trans (hb2.mono HB1.out.size)); clear hb2 q0 q1 q2 q3 q4 q5 q6 q7 q8)))
    exact bodyPost_ret (results_w rfl _ _ (w.heap.size + 1) _ _ _ _ _ rfl rfl (HR.out.set4 _ _ _ _)) rfl ⟨rfl, below_set4 HB.out (by omega) _ _ _ _⟩

theorem wrong8 {c : Cm} (hF : c.Fair) (h : c.op = 8) (hw : c.addr < 0 ∨ c.addr % 256 ≠ 0) : validC c = false := by
  cases hv : validC c
  · rfl
  · exfalso
    have hf := validC_fits hv
    have hj := validC_join hv
    obtain ⟨op, dev, ev, num, coll, tgt, bit, addr, valid⟩ := c
    dsimp only at h hw
    subst h
    have h7 := fits_iff.1 (hf 7 (show 7 ∈ fieldsL 8 by decide))
    have hpr : (pr 7 : Int) = 1099511627776 := rfl
    rw [hpr] at h7
    have h1 : 0 ≤ addr.tdiv 256 := h7.1
    have h2 : addr.tdiv 256 < 1099511627776 := h7.2
    have ha := congrArg Cm.addr hj
    have ha2 : RowKit.wrap64 (addr.tdiv 256 * 256) = addr := by simpa [joinC, ownF, numC, fieldsL] using ha
    have : RowKit.wrap64 (addr.tdiv 256 * 256) = addr.tdiv 256 * 256 := by unfold RowKit.wrap64; omega
    omega

end Go.Proofs.Ytheajnfbphkigaa
