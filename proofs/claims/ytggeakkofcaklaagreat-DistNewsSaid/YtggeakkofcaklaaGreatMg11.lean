import Derived.Test.YtggeakkofcaklaaGreatMg07
import Derived.Test.YtggeakkofcaklaaGreatMg09
import Derived.Laws.StructEq
namespace Go.Proofs.YtggeakkofcaklaaGreat
open Go.ChangeShapes Go.WideShapes Go.ChangeAt Go.RowKit Go.Shelf
set_option linter.unusedVariables false
def eqI (a b c e a' b' c' e' : Bool) : Bool := (a == a' && b == b') && (c == c' && e == e')
theorem equal_irq (d : Nat) (a b c e a' b' c' e' : Bool) (w : World) : (Op.equalIn (d + 2) 31 (.agg #[.bool a, .bool b, .bool c, .bool e]) (.agg #[.bool a', .bool b', .bool c', .bool e'])).run Tryz.prog w = .ok (eqI a b c e a' b' c' e') w := by
  have u3 := Tryz.underlying4
  have a3 := Tryz.isAgg4
  have z3 := Tryz.sizeOf4
  have hS : Tryz.prog.underlying 31 = some (.struct (Tryz.prog.fieldsOf 31)) := by kernel_rfl
  have hp : Tryz.prog.stoodInHeld 31 = false := by kernel_rfl
  rw [show d + 2 = (d + 1) + 1 from rfl, run_equalIn_agg w (d + 1) _ _ _ hS hp]
  simp only [Program.fieldsOf, Tryz.underlying31]
  go_simp
  unfold eqI
  by_cases h1 : a = a' <;> by_cases h2 : b = b' <;> by_cases h3 : c = c' <;> by_cases h4 : e = e' <;> simp [h1, h2, h3, h4]
def eqLn (a b c e en : Bool) (g p : Int) (a' b' c' e' en' : Bool) (g' p' : Int) : Bool := eqI a b c e a' b' c' e' && (en == en' && (g == g' && p == p'))
theorem equal_line (d : Nat) (a b c e en : Bool) (g p : Int) (a' b' c' e' en' : Bool) (g' p' : Int) (w : World) : (Op.equalIn (d + 3) 58 (.agg #[.bool a, .bool b, .bool c, .bool e, .bool en, .int .i64 g, .int .i64 p]) (.agg #[.bool a', .bool b', .bool c', .bool e', .bool en', .int .i64 g', .int .i64 p'])).run Tryz.prog w = .ok (eqLn a b c e en g p a' b' c' e' en' g' p') w := by
  have hI := fun W => equal_irq d a b c e a' b' c' e' W
  have u3 := Tryz.underlying4
  have a3 := Tryz.isAgg4
  have z3 := Tryz.sizeOf4
  have u4 := Tryz.underlying3
  have a4 := Tryz.isAgg3
  have z4 := Tryz.sizeOf3
  have a5 := Tryz.isAgg31
  have z5 := Tryz.sizeOf31
  have hS : Tryz.prog.underlying 58 = some (.struct (Tryz.prog.fieldsOf 58)) := by kernel_rfl
  have hp : Tryz.prog.stoodInHeld 58 = false := by kernel_rfl
  rw [show d + 3 = (d + 2) + 1 from rfl, run_equalIn_agg w (d + 2) _ _ _ hS hp]
  simp only [Program.fieldsOf, Tryz.underlying58]
  go_simp
  unfold eqLn
  cases eqI a b c e a' b' c' e' <;> by_cases h1 : en = en' <;> by_cases h2 : g = g' <;> by_cases h3 : p = p' <;> simp [h1, h2, h3]
theorem eqLn_iff (x y : Ln) : eqLn x.st.e x.st.l x.st.h x.st.a x.en x.g x.p y.st.e y.st.l y.st.h y.st.a y.en y.g y.p = decide (x = y) := by
  obtain ⟨⟨a, b, c, e⟩, en, g, p⟩ := x
  obtain ⟨⟨a', b', c', e'⟩, en', g', p'⟩ := y
  rw [Bool.eq_iff_iff]
  simp [eqLn, eqI, and_assoc]
theorem eqlLn (a b c e en : Bool) (g p : Int) (a' b' c' e' en' : Bool) (g' p' : Int) (w : World) : (binOp .eql 58 (.agg #[.bool a, .bool b, .bool c, .bool e, .bool en, .int .i64 g, .int .i64 p]) (.agg #[.bool a', .bool b', .bool c', .bool e', .bool en', .int .i64 g', .int .i64 p'])).run Tryz.prog w = .ok (.bool (eqLn a b c e en g p a' b' c' e' en' g' p')) w := by
  rw [run_eql_struct, equal_line 9997]; rfl
theorem neqLn (a b c e en : Bool) (g p : Int) (a' b' c' e' en' : Bool) (g' p' : Int) (w : World) : (binOp .neq 58 (.agg #[.bool a, .bool b, .bool c, .bool e, .bool en, .int .i64 g, .int .i64 p]) (.agg #[.bool a', .bool b', .bool c', .bool e', .bool en', .int .i64 g', .int .i64 p'])).run Tryz.prog w = .ok (.bool (!eqLn a b c e en g p a' b' c' e' en' g' p')) w := by
  rw [run_neq_struct, equal_line 9997]; rfl
theorem guardL (op : BinOp) (x y : Operand) (xs ys : Array Value) (w : World) : (eqGuard op 58 x y (.agg xs) (.agg ys)).run Tryz.prog w = .ok () w := run_eqGuard_agg w op _ _ _ _ _ (by kernel_rfl)
theorem real_idem (x : Int) : realV (realV x) = realV x := by
  unfold realV
  have h1 : (low8 x &&& 248) < 256 := Nat.and_lt_two_pow (n := 8) _ (by decide)
  rw [low8_nat _ h1, Nat.and_assoc, Nat.and_self]
theorem real_rng (x : Int) : 0 ≤ realV x ∧ realV x ≤ 255 := by
  unfold realV
  have h1 : (low8 x &&& 248) < 256 := Nat.and_lt_two_pow (n := 8) _ (by decide)
  omega
theorem fine_chg {id : Int} {l : Ln} {r : Int} {x : Nat} (h : Fine l) (hx : x < 2 ^ wideN r) : Fine (chgV id l r x) := by
  obtain ⟨hg, hp0, hp1, hr⟩ := h
  unfold chgV
  split
  · rename_i h4
    subst h4
    have : x < 2 := hx
    exact ⟨by show (x : Int) = 0 ∨ (x : Int) = 1; omega, hp0, hp1, hr⟩
  · split
    · split
      · exact ⟨hg, hp0, hp1, hr⟩
      · exact ⟨hg, hp0, hp1, hr⟩
    · split
      · exact ⟨hg, (real_rng x).1, (real_rng x).2, real_idem x⟩
      · split
        · exact ⟨hg, hp0, hp1, hr⟩
        · split
          · exact ⟨hg, hp0, hp1, hr⟩
          · exact ⟨hg, hp0, hp1, hr⟩
theorem fine_zero : Fine Ln.zero := ⟨.inl rfl, by decide, by decide, by decide +kernel⟩
def En.with_ (x : En) (l : Ln) : En := ⟨l, x.s⟩
theorem real_fine {x : En} (h : Fine x.ln) : x.real = x := by
  obtain ⟨⟨st, en, g, p⟩, s⟩ := x
  have := h.real
  dsimp only at this
  simp [En.real, this]
def wrK (p : Pl) (f0 : Int) (v : Nat) (q : List En × Nat) (k : Nat) : List En × Nat :=
  (q.1.set (plcK f0 p.f k) ((nthE q.1 (plcK f0 p.f k)).with_ (chgV (p.f + k) (nthE q.1 (plcK f0 p.f k)).ln p.r (fieldN (wideN p.r) v k))),
   if chgV (p.f + k) (nthE q.1 (plcK f0 p.f k)).ln p.r (fieldN (wideN p.r) v k) = (nthE q.1 (plcK f0 p.f k)).ln then q.2 else q.2 + 1)
def wrL (p : Pl) (f0 : Int) (v : Nat) (es : List En) (ks : List Nat) : List En × Nat := ks.foldl (wrK p f0 v) (es, 0)
theorem wrL_snoc (p : Pl) (f0 : Int) (v : Nat) (es : List En) (ks : List Nat) (k : Nat) : wrL p f0 v es (ks ++ [k]) = wrK p f0 v (wrL p f0 v es ks) k := by simp [wrL]
theorem wrK_len (p : Pl) (f0 : Int) (v : Nat) (q : List En × Nat) (k : Nat) : (wrK p f0 v q k).1.length = q.1.length := by simp [wrK]
theorem list_snoc {α : Type} {P : List α → Prop} (h0 : P []) (h1 : ∀ r k, P r → P (r ++ [k])) (ks : List α) : P ks := by
  have h : ∀ n (l : List α), l.length = n → P l := by
    intro n
    induction n with
    | zero => intro l hl; rw [List.length_eq_zero_iff.1 hl]; exact h0
    | succ n ih =>
      intro l hl
      rcases List.eq_nil_or_concat l with rfl | ⟨r, k, rfl⟩
      · exact h0
      · rw [List.concat_eq_append] at hl ⊢
        exact h1 r k (ih r (by simpa using hl))
  exact h _ ks rfl
theorem wrL_len (p : Pl) (f0 : Int) (v : Nat) (es : List En) (ks : List Nat) : (wrL p f0 v es ks).1.length = es.length :=
  list_snoc (P := fun ks => (wrL p f0 v es ks).1.length = es.length) rfl (fun r k ih => by rw [wrL_snoc, wrK_len, ih]) ks
theorem fine_set {es : List En} (h : FineAll es) {k : Nat} {y : En} (hy : Fine y.ln) : FineAll (es.set k y) := fun x hx => by
  rcases List.mem_or_eq_of_mem_set hx with h1 | rfl
  · exact h x h1
  · exact hy
theorem fine_nth (es : List En) (h : FineAll es) (k : Nat) : Fine (nthE es k).ln := by
  by_cases hk : k < es.length
  · exact h.nth hk
  · rw [nthE, List.getElem?_eq_none (by omega)]
    exact fine_zero
theorem wrK_fine {p : Pl} {f0 : Int} {v : Nat} {q : List En × Nat} {k : Nat} (h : FineAll q.1) : FineAll (wrK p f0 v q k).1 := fine_set h (fine_chg (fine_nth _ h _) (fieldN_lt _ _ _))
theorem wrL_fine {p : Pl} {f0 : Int} {v : Nat} {es : List En} {ks : List Nat} (h : FineAll es) : FineAll (wrL p f0 v es ks).1 :=
  list_snoc (P := fun ks => FineAll (wrL p f0 v es ks).1) h (fun r k ih => by rw [wrL_snoc]; exact wrK_fine ih) ks
theorem wrL_le (p : Pl) (f0 : Int) (v : Nat) (es : List En) (ks : List Nat) : (wrL p f0 v es ks).2 ≤ ks.length :=
  list_snoc (P := fun ks => (wrL p f0 v es ks).2 ≤ ks.length) (Nat.le_refl _) (fun r k ih => by
    rw [wrL_snoc, List.length_append]
    simp only [wrK, List.length_cons, List.length_nil]
    split <;> omega) ks
def writeV (p : Pl) (c : Nat) (f0 : Int) (v : Nat) (es : List En) : List En × Nat := wrL p f0 v es (presL f0 es.length p.f c)
theorem set_self {es : List En} {k : Nat} (h : k < es.length) : es.set k (nthE es k) = es := by
  apply List.ext_getElem?
  intro i
  by_cases e : k = i
  · subst e; rw [List.getElem?_set_self h, nthE_at h]
  · rw [List.getElem?_set_ne e]
end Go.Proofs.YtggeakkofcaklaaGreat
