/-
  The document's Encode at every command (roads joined); its Print.
-/
import Derived.Test.YtkgkfgfnhjhabaaDoorCmEc
import Derived.Test.YtkgkfgfnhjhabaaDoorCmH
import Derived.Test.YtkgkfgfnhjhabaaDoorCmZ
namespace Go.Proofs.YtkgkfgfnhjhabaaDoor
open Go.ChangeShapes Go.WideShapes Go.ChangeAt Go.RowKit Go.Shelf
set_option linter.unusedVariables false
set_option linter.unusedSimpArgs false

theorem validC_unknown {c : Cm} (h : known c.op = false) : validC c = false := by simp [validC, h]
/-- The document's Encode at every command. -/
theorem renc_any (c : Cm) (hF : c.Fair) (w : World) : Calls Tryd.prog 11 #[c.v] w fun e w' => e = .returned (.tuple #[Wv (encW c), .bool (validC c)]) ∧ Below w.heap.size w w' := by
  have no : ∀ b, b = false ∨ known c.op = false → validC c = false → (∀ W, Calls Tryd.prog 33 #[c.v] W fun e w' => (∃ v, e = .returned (.tuple #[v, .bool b])) ∧ Below W.heap.size W w') →
      Calls Tryd.prog 11 #[c.v] w fun e w' => e = .returned (.tuple #[Wv (encW c), .bool (validC c)]) ∧ Below w.heap.size w w' := fun b hb hv HF => by
    rw [encW_no hv, hv]
    exact renc_no c b hb HF w
  by_cases hk : known c.op = true
  · by_cases h8 : c.op = 8 ∧ (c.addr < 0 ∨ c.addr % 256 ≠ 0)
    · refine no false (.inl rfl) (wrong8 hF h8.1 h8.2) (fun W => ?_)
      obtain ⟨op, dev, ev, num, coll, tgt, bit, addr, valid⟩ := c
      obtain ⟨h8, ha⟩ := h8
      dsimp only at h8 ha
      subst h8
      by_cases h0 : addr < 0
      · exact (fields_8a dev ev num coll tgt bit addr valid h0 W).mono fun e w' h => ⟨⟨_, h.1⟩, h.2⟩
      · exact (fields_8b dev ev num coll tgt bit addr valid (by omega) (by omega) W).mono fun e w' h => ⟨⟨_, h.1⟩, h.2⟩
    · have HF := fun W => fields_known c hk hF (fun e => by omega) W
      cases hok : okF c
      · refine no false (.inl rfl) (by rw [validC_of hk, hok, Bool.and_false]) (fun W => ?_)
        refine (HF W).mono fun e w' h => ?_
        unfold FdPost at h
        rw [hok] at h
        obtain ⟨⟨v, h1, _⟩, h2⟩ := h
        exact ⟨⟨v, h1⟩, h2⟩
      · exact renc_loop c hk hok HF w
  · have hk : known c.op = false := by simpa using hk
    have hv := validC_unknown hk
    obtain ⟨op, dev, ev, num, coll, tgt, bit, addr, valid⟩ := c
    exact no (eqCm ⟨0, 0, ev, num, coll, tgt, bit, addr, valid⟩ ⟨0, 0, 0, 0, 0, 0, 0, 0, false⟩) (.inr hk) hv (fun W => fields_no op dev ev num coll tgt bit addr valid hk W)

/-- What the document's Print keeps through its loop. -/
structure RpI (w : World) (base n : Nat) (v : Value) (xs : List Value) (V : World) : Prop where
  row : V.ownsRow base 87 4 v n xs
  tab : TabW V
  below : Below w.heap.size w V
theorem RpI.later {w : World} {base n : Nat} {v : Value} {xs : List Value} {V V' : World} (h : RpI w base n v xs V) (k : Below V.heap.size V V') : RpI w base n v xs V' := ⟨fd_later h.row k, h.tab.below k, h.below.trans (k.mono h.below.size)⟩

set_option maxRecDepth 100000 in
set_option maxHeartbeats 4000000 in
theorem rprint_any (c : Cm) (hF : c.Fair) (w : World) (hT : TabW w) : Calls Tryd.prog 27 #[c.v] w fun e w' => e = .returned (.tuple #[.string (txB c), .bool (validC c)]) ∧ Below w.heap.size w w' := by
  have HE := hi (fun W => renc_any c hF W)
  cases hv : validC c
  · have htx : txB c = ⟨#[]⟩ := by rw [txB, if_neg (by rw [hv]; decide)]
    rw [htx]
    rw [hv] at HE
    obtain ⟨en, hen⟩ : ∃ en, encW c = en := ⟨_, rfl⟩
    rw [hen] at HE
    have HC := hi (CB.new w 24 c.cs)
    clear hv hen htx hF
    obtain ⟨c1, c2, c3, c4, c5, c6, c7, c8, c9⟩ := c
    dsimp only [Cm.v, Cm.cs] at HE HC ⊢
    go_enter Tryd.func27, Tryd.ntmps27
    go_wp2_with (go_at_call 11; ((with_reducible refine (HE.out _).mono ?_); rintro e w1 ⟨rfl, hb1⟩; have HB1 := hi ((bal w _).trans (hb1.mono (by simp))); clear hb1))
    go_ret2
    exact ⟨rfl, HB1.out.alloc HB1.out.size _⟩
  · have hk := validC_known hv
    have hok : okF c = true := by have := validC_of hk; rw [hv] at this; simpa using (Bool.and_eq_true _ _ ▸ this.symm).2
    have h8 : c.op = 8 → 0 ≤ c.addr ∧ c.addr % 256 = 0 := fun e => by
      by_cases h : c.addr < 0 ∨ c.addr % 256 ≠ 0
      · rw [wrong8 hF e h] at hv; cases hv
      · omega
    have HFD := hi (fun W => fields_known c hk hF h8 W)
    have HNM := hi (fun W => name_any c.op W)
    have HFT := hi (validC_fits hv)
    have HC := hi (CB.new w 24 c.cs)
    have HTX := hi (show txB c = ⟨(textN (nameL c.op) (numC c) (fieldsL c.op)).toArray⟩ by rw [txB, if_pos hv]; rfl)
    have hs3 := nameL_len c.op
    have hs5 := fieldsL_len c.op
    rw [hv] at HE
    obtain ⟨en, hen⟩ : ∃ en, encW c = en := ⟨_, rfl⟩
    rw [hen] at HE
    obtain ⟨L, hL⟩ : ∃ L, fieldsL c.op = L := ⟨_, rfl⟩
    have HL0 := hi (show 0 < L.length by rw [← hL]; exact fieldsL_ne hk)
    have HL9 := hi (fun x (hx : x ∈ L) => fieldsL_lt c.op x (by rw [hL]; exact hx))
    obtain ⟨X, hX⟩ : ∃ X, fdX c = X := ⟨_, rfl⟩
    obtain ⟨nums, hn⟩ : ∃ n, numC c = n := ⟨_, rfl⟩
    have HRC := hi (fun (W : World) (base g n cap i x : Nat) (h : W.ownsRow base 87 4 (.slice (some ⟨g, 0, none⟩) n cap) n (fdX c)) (hi : L[i]? = some x) => row_cells hL h hi)
    unfold FdPost at HFD
    rw [hok, hL, hX] at HFD
    rw [hX, hn] at HRC
    rw [hL, hn] at HFT HTX
    rw [hL] at hs5
    have HTW := hi hT
    obtain ⟨tx, htx⟩ : ∃ tx, txB c = tx := ⟨_, rfl⟩
    rw [htx] at HTX ⊢
    obtain ⟨nm, hnm⟩ : ∃ nm, nmB c.op = nm := ⟨_, rfl⟩
    rw [hnm] at HNM
    have HNX := hi (show nm = ⟨(textN (nameL c.op) nums []).toArray⟩ by rw [← hnm]; rfl)
    clear hv hk hok h8 hen hL hX hn hT htx hnm hF
    obtain ⟨c1, c2, c3, c4, c5, c6, c7, c8, c9⟩ := c
    dsimp only [Cm.v, Cm.cs] at HE HC HFD HNM HFT HTX HL9 HNX hs3 ⊢
    go_enter Tryd.func27, Tryd.ntmps27
    go_wp2_with (first
      | (go_at_call 11; ((with_reducible refine (HE.out _).mono ?_); rintro e w1 ⟨rfl, hb1⟩; have HC1 := hi (HC.out.below hb1 |>.alloc (.cells (Ws.cs en) 26)); obtain ⟨q0, q1, q2, q3, q4, q5, q6, q7, q8⟩ := CB.nine HC1.out; have HB1 := hi (((bal w _).trans (hb1.mono (by simp))).alloc (by have := hb1.size; simp at this; omega) (.cells (Ws.cs en) 26)); clear hb1))
      | (go_at_call 33; ((with_reducible refine (HFD.out _).mono ?_); rintro e w2 ⟨⟨v, rfl, hrow⟩, hb2⟩; obtain ⟨g, cap, rfl, hg1, hg2, hcap⟩ := row_form hrow HL0.out; have rc0 := (HC1.out.below hb2).cell 0; have HI2 := hi (show RpI w _ _ _ _ w2 from ⟨hrow, (HTW.out.below HB1.out).below hb2, HB1.out.trans (hb2.mono HB1.out.size)⟩); clear hb2 hrow q0 q1 q2 q3 q4 q5 q6 q7 q8))
      | (go_at_call 52; ((with_reducible refine (HNM.out _).mono ?_); rintro e w3 ⟨rfl, hb3⟩; have HI3 := hi (HI2.out.later hb3); clear hb3)))
    go_loopw [8, 9] (fun s i wr => ∃ k : Nat, k ≤ L.length ∧ i = .int .i64 k ∧ s = .string ⟨(textN (nameL c1) nums (L.take k)).toArray⟩ ∧ Hi (RpI w _ L.length _ X wr)) (fun s i _ => L.length - (intOf i).toNat)
    case atStart => exact ⟨0, by omega, rfl, by rw [HNX.out]; simp, HI3⟩
    case round =>
      obtain ⟨k, hkl, rfl, rfl, HJ⟩ := hrel
      by_cases hlt : k < L.length
      · obtain ⟨x, hx⟩ : ∃ x, L[k]? = some x := ⟨_, List.getElem?_eq_getElem hlt⟩
        have hxL : x ∈ L := List.mem_of_getElem? hx
        have hx9 : x < 9 := HL9.out x hxL
        have hi64 := fits_i64 hx9 (HFT.out x hxL)
        have HIT := hi (fun W hW => itoa_any (nums x) hi64 W hW)
        have hs1 := Lib.itoa_length_le (nums x) hi64.1 hi64.2
        have hs2 := text_len (n := nums) (L.take k) (nameL c1) (fun f hf => fits_i64 (HL9.out f (List.mem_of_mem_take hf)) (HFT.out f (List.mem_of_mem_take hf)))
        have hs4 : (L.take k).length ≤ 4 := by simp; omega
        have htk : L.take (k + 1) = L.take k ++ [x] := by rw [List.take_add_one, hx]; rfl
        obtain ⟨tk, htk2⟩ : ∃ tk : ByteArray, ⟨(textN (nameL c1) nums (L.take k)).toArray⟩ = tk := ⟨_, rfl⟩
        have HSN := hi (show (⟨(textN (nameL c1) nums (L.take (k + 1))).toArray⟩ : ByteArray) = (tk ++ ⟨#[32]⟩) ++ ⟨(Lib.itoa (nums x)).toArray⟩ by
          rw [← htk2, htk, textN_snoc]
          have e : (⟨#[32]⟩ : ByteArray) = ⟨[(32 : UInt8)].toArray⟩ := rfl
          rw [e, ba_append, ba_append]; simp)
        rw [htk2]
        obtain ⟨it, hit⟩ : ∃ it : ByteArray, ⟨(Lib.itoa (nums x)).toArray⟩ = it := ⟨_, rfl⟩
        rw [hit] at HIT HSN
        have ns1 : ¬ 9223372036854775807 < tk.size + 1 := by rw [← htk2, size_of]; omega
        have ns2 : ¬ 9223372036854775807 < tk.size + 1 + it.size := by rw [← hit, ← htk2, size_of, size_of]; omega
        have cc := (HRC.out _ _ _ _ _ _ _ HJ.out.row hx).2.2.2
        have x1 : (k : Int) < (L.length : Int) := by omega
        clear hxL hx9 hi64 hs1 hs2 hs4 htk htk2 hit
        go_wp2_with (go_at_call 51; ((with_reducible refine (HIT.out _ HJ.out.tab).mono ?_); rintro e w4 ⟨rfl, hb4⟩; have HJ4 := hi (HJ.out.later hb4); clear hb4))
        refine ⟨⟨k + 1, hlt, by go_num, by rw [HSN.out], HJ4⟩, ?_⟩
        simp [intOf]; omega
      · have e : k = L.length := by omega
        subst e
        rw [List.take_length, ← HTX.out]
        have x1 : ¬ (L.length : Int) < (L.length : Int) := by omega
        go_wp2
        go_ret2
        exact ⟨rfl, HJ.out.below⟩

end Go.Proofs.YtkgkfgfnhjhabaaDoor
