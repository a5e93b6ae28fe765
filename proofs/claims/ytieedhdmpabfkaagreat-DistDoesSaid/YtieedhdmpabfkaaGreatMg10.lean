import Derived.Test.YtieedhdmpabfkaaGreatMg08
import Derived.Test.YtieedhdmpabfkaaGreatMg09
import Derived.Laws.StructEq
import Derived.Test.YtieedhdmpabfkaaGreatMg02
set_option linter.unusedSimpArgs false
namespace Go.Proofs.YtieedhdmpabfkaaGreat
open Go.ChangeShapes Go.WideShapes Go.ChangeAt Go.RowKit Go.Shelf
set_option linter.unusedVariables false
def eqI (a b c e a' b' c' e' : Bool) : Bool := (a == a' && b == b') && (c == c' && e == e')
theorem equal_irq (d : Nat) (a b c e a' b' c' e' : Bool) (w : World) : (Op.equalIn (d + 2) 31 (.agg #[.bool a, .bool b, .bool c, .bool e]) (.agg #[.bool a', .bool b', .bool c', .bool e'])).run Tryz.prog w = .ok (eqI a b c e a' b' c' e') w := by
 have u3 := Tryz.underlying4
 have a3 := Tryz.isAgg4
 have z3 := Tryz.sizeOf4
 have hS : Tryz.prog.underlying 31 = some (.struct (Tryz.prog.fieldsOf 31)) := by kernel_rfl
 have hp : Tryz.prog.stoodInHeld 31 = false := by kernel_rfl
 rw [show d + 2 = (d + 1) + 1 from rfl, run_equalIn_agg w (d + 1) _ _ _ hS hp]
 simp only [Program.fieldsOf, Tryz.underlying31]
 go_simp
 unfold eqI
 by_cases h1 : a = a' <;> by_cases h2 : b = b' <;> by_cases h3 : c = c' <;> by_cases h4 : e = e' <;> simp [h1, h2, h3, h4]
def eqLn (a b c e en : Bool) (g p : Int) (a' b' c' e' en' : Bool) (g' p' : Int) : Bool := eqI a b c e a' b' c' e' && (en == en' && (g == g' && p == p'))
theorem equal_line (d : Nat) (a b c e en : Bool) (g p : Int) (a' b' c' e' en' : Bool) (g' p' : Int) (w : World) : (Op.equalIn (d + 3) 58 (.agg #[.bool a, .bool b, .bool c, .bool e, .bool en, .int .i64 g, .int .i64 p]) (.agg #[.bool a', .bool b', .bool c', .bool e', .bool en', .int .i64 g', .int .i64 p'])).run Tryz.prog w = .ok (eqLn a b c e en g p a' b' c' e' en' g' p') w := by
 have hI := fun W => equal_irq d a b c e a' b' c' e' W
 have u3 := Tryz.underlying4
 have a3 := Tryz.isAgg4
 have z3 := Tryz.sizeOf4
 have u4 := Tryz.underlying3
 have a4 := Tryz.isAgg3
 have z4 := Tryz.sizeOf3
 have a5 := Tryz.isAgg31
 have z5 := Tryz.sizeOf31
 have hS : Tryz.prog.underlying 58 = some (.struct (Tryz.prog.fieldsOf 58)) := by kernel_rfl
 have hp : Tryz.prog.stoodInHeld 58 = false := by kernel_rfl
 rw [show d + 3 = (d + 2) + 1 from rfl, run_equalIn_agg w (d + 2) _ _ _ hS hp]
 simp only [Program.fieldsOf, Tryz.underlying58]
 go_simp
 unfold eqLn
 cases eqI a b c e a' b' c' e' <;> by_cases h1 : en = en' <;> by_cases h2 : g = g' <;> by_cases h3 : p = p' <;> simp [h1, h2, h3]
theorem eqLn_iff (x y : Ln) : eqLn x.st.e x.st.l x.st.h x.st.a x.en x.g x.p y.st.e y.st.l y.st.h y.st.a y.en y.g y.p = decide (x = y) := by
 obtain ⟨⟨a, b, c, e⟩, en, g, p⟩ := x
 obtain ⟨⟨a', b', c', e'⟩, en', g', p'⟩ := y
 rw [Bool.eq_iff_iff]
 simp [eqLn, eqI, and_assoc]
theorem eqlLn (a b c e en : Bool) (g p : Int) (a' b' c' e' en' : Bool) (g' p' : Int) (w : World) : (binOp .eql 58 (.agg #[.bool a, .bool b, .bool c, .bool e, .bool en, .int .i64 g, .int .i64 p]) (.agg #[.bool a', .bool b', .bool c', .bool e', .bool en', .int .i64 g', .int .i64 p'])).run Tryz.prog w = .ok (.bool (eqLn a b c e en g p a' b' c' e' en' g' p')) w := by
 rw [run_eql_struct, equal_line 9997]; rfl
theorem neqLn (a b c e en : Bool) (g p : Int) (a' b' c' e' en' : Bool) (g' p' : Int) (w : World) : (binOp .neq 58 (.agg #[.bool a, .bool b, .bool c, .bool e, .bool en, .int .i64 g, .int .i64 p]) (.agg #[.bool a', .bool b', .bool c', .bool e', .bool en', .int .i64 g', .int .i64 p'])).run Tryz.prog w = .ok (.bool (!eqLn a b c e en g p a' b' c' e' en' g' p')) w := by
 rw [run_neq_struct, equal_line 9997]; rfl
theorem guardL (op : BinOp) (x y : Operand) (xs ys : Array Value) (w : World) : (eqGuard op 58 x y (.agg xs) (.agg ys)).run Tryz.prog w = .ok () w := run_eqGuard_agg w op _ _ _ _ _ (by kernel_rfl)
theorem real_idem (x : Int) : realV (realV x) = realV x := by
 unfold realV
 have h1 : (low8 x &&& 248) < 256 := Nat.and_lt_two_pow (n := 8) _ (by decide)
 rw [low8_nat _ h1, Nat.and_assoc, Nat.and_self]
theorem real_rng (x : Int) : 0 ≤ realV x ∧ realV x ≤ 255 := by
 unfold realV
 have h1 : (low8 x &&& 248) < 256 := Nat.and_lt_two_pow (n := 8) _ (by decide)
 omega
theorem fine_chg {id : Int} {l : Ln} {r : Int} {x : Nat} (h : Fine l) (hx : x < 2 ^ wideN r) : Fine (chgV id l r x) := by
 obtain ⟨hg, hp0, hp1, hr⟩ := h
 unfold chgV
 split
 ·rename_i h4
  subst h4
  have : x < 2 := hx
  exact ⟨by show (x : Int) = 0 ∨ (x : Int) = 1; omega, hp0, hp1, hr⟩
 ·split
  ·split
   ·exact ⟨hg, hp0, hp1, hr⟩
   ·exact ⟨hg, hp0, hp1, hr⟩
  ·split
   ·exact ⟨hg, (real_rng x).1, (real_rng x).2, real_idem x⟩
   ·split
    ·exact ⟨hg, hp0, hp1, hr⟩
    ·split
     ·exact ⟨hg, hp0, hp1, hr⟩
     ·exact ⟨hg, hp0, hp1, hr⟩
theorem fine_zero : Fine Ln.zero := ⟨.inl rfl, by decide, by decide, by decide +kernel⟩
def En.with_ (x : En) (l : Ln) : En := ⟨l, x.s⟩
theorem real_fine {x : En} (h : Fine x.ln) : x.real = x := by
 obtain ⟨⟨st, en, g, p⟩, s⟩ := x
 have := h.real
 dsimp only at this
 simp [En.real, this]
def wrK (p : Pl) (f0 : Int) (v : Nat) (q : List En × Nat) (k : Nat) : List En × Nat :=
 (q.1.set (plcK f0 p.f k) ((nthE q.1 (plcK f0 p.f k)).with_ (chgV (p.f + k) (nthE q.1 (plcK f0 p.f k)).ln p.r (fieldN (wideN p.r) v k))),
  if chgV (p.f + k) (nthE q.1 (plcK f0 p.f k)).ln p.r (fieldN (wideN p.r) v k) = (nthE q.1 (plcK f0 p.f k)).ln then q.2 else q.2 + 1)
def wrL (p : Pl) (f0 : Int) (v : Nat) (es : List En) (ks : List Nat) : List En × Nat := ks.foldl (wrK p f0 v) (es, 0)
theorem wrL_snoc (p : Pl) (f0 : Int) (v : Nat) (es : List En) (ks : List Nat) (k : Nat) : wrL p f0 v es (ks ++ [k]) = wrK p f0 v (wrL p f0 v es ks) k := by simp [wrL]
theorem wrK_len (p : Pl) (f0 : Int) (v : Nat) (q : List En × Nat) (k : Nat) : (wrK p f0 v q k).1.length = q.1.length := by simp [wrK]
theorem list_snoc {α : Type} {P : List α → Prop} (h0 : P []) (h1 : ∀ r k, P r → P (r ++ [k])) (ks : List α) : P ks := by
 have h : ∀ n (l : List α), l.length = n → P l := by
  intro n
  induction n with
  | zero => intro l hl; rw [List.length_eq_zero_iff.1 hl]; exact h0
  | succ n ih =>
   intro l hl
   rcases List.eq_nil_or_concat l with rfl | ⟨r, k, rfl⟩
   ·exact h0
   ·rw [List.concat_eq_append] at hl ⊢
    exact h1 r k (ih r (by simpa using hl))
 exact h _ ks rfl
theorem wrL_len (p : Pl) (f0 : Int) (v : Nat) (es : List En) (ks : List Nat) : (wrL p f0 v es ks).1.length = es.length :=
 list_snoc (P := fun ks => (wrL p f0 v es ks).1.length = es.length) rfl (fun r k ih => by rw [wrL_snoc, wrK_len, ih]) ks
theorem fine_set {es : List En} (h : FineAll es) {k : Nat} {y : En} (hy : Fine y.ln) : FineAll (es.set k y) := fun x hx => by
 rcases List.mem_or_eq_of_mem_set hx with h1 | rfl
 ·exact h x h1
 ·exact hy
theorem fine_nth (es : List En) (h : FineAll es) (k : Nat) : Fine (nthE es k).ln := by
 by_cases hk : k < es.length
 ·exact h.nth hk
 ·rw [nthE, List.getElem?_eq_none (by omega)]
  exact fine_zero
theorem wrK_fine {p : Pl} {f0 : Int} {v : Nat} {q : List En × Nat} {k : Nat} (h : FineAll q.1) : FineAll (wrK p f0 v q k).1 := fine_set h (fine_chg (fine_nth _ h _) (fieldN_lt _ _ _))
theorem wrL_fine {p : Pl} {f0 : Int} {v : Nat} {es : List En} {ks : List Nat} (h : FineAll es) : FineAll (wrL p f0 v es ks).1 :=
 list_snoc (P := fun ks => FineAll (wrL p f0 v es ks).1) h (fun r k ih => by rw [wrL_snoc]; exact wrK_fine ih) ks
theorem wrL_le (p : Pl) (f0 : Int) (v : Nat) (es : List En) (ks : List Nat) : (wrL p f0 v es ks).2 ≤ ks.length :=
 list_snoc (P := fun ks => (wrL p f0 v es ks).2 ≤ ks.length) (Nat.le_refl _) (fun r k ih => by
  rw [wrL_snoc, List.length_append]
  simp only [wrK, List.length_cons, List.length_nil]
  split <;> omega) ks
def writeV (p : Pl) (c : Nat) (f0 : Int) (v : Nat) (es : List En) : List En × Nat := wrL p f0 v es (presL f0 es.length p.f c)
theorem set_self {es : List En} {k : Nat} (h : k < es.length) : es.set k (nthE es k) = es := by
 apply List.ext_getElem?
 intro i
 by_cases e : k = i
 ·subst e; rw [List.getElem?_set_self h, nthE_at h]
 ·rw [List.getElem?_set_ne e]
end Go.Proofs.YtieedhdmpabfkaaGreat
namespace Go.Proofs.YtieedhdmpabfkaaGreat
open Go.ChangeShapes Go.WideShapes Go.ChangeAt Go.RowKit Go.Shelf
set_option linter.unusedVariables false
attribute [local go_sem] Oper.semAt_some
attribute [local go_sem high] eqlLn guardL
structure WA (w w5 : World) (b g cap : Nat) (f0 : Int) (es : List En) (m : Nat) (V : World) : Prop where
 n : CB V (w.heap.size + 3) 3 #[.int .i64 m]
 bk : BkAt V b g cap f0 es
 kept : Kept (fun i => i = w.heap.size + 3 ∨ i = g) w5 V
theorem WA.later {w w5 V V' : World} {b g cap : Nat} {f0 : Int} {es : List En} {m : Nat} (h : WA w w5 b g cap f0 es m V) (k : Below V.heap.size V V') : WA w w5 b g cap f0 es m V' := ⟨h.n.below k, h.bk.below k, h.kept.below k⟩
theorem WA.put {w w5 V V' : World} {b g cap : Nat} {f0 : Int} {es es' : List En} {m : Nat} (h : WA w w5 b g cap f0 es m V) (ha : After V b g cap f0 es' V') (hne : w.heap.size + 3 ≠ g) : WA w w5 b g cap f0 es' m V' :=
 ⟨h.n.keptB ha.kept hne, ha.bk, h.kept.trans (ha.kept.mono (fun i e => .inr e))⟩
theorem WA.count {w w5 V : World} {b g cap : Nat} {f0 : Int} {es : List En} {m : Nat} (h : WA w w5 b g cap f0 es m V) (d : Nat) (hb : b ≠ w.heap.size + 3) (hg : g ≠ w.heap.size + 3) : WA w w5 b g cap f0 es d (V.setCell ⟨w.heap.size + 3, 0, none⟩ (.int .i64 d)) :=
 ⟨h.n.set 0 _, h.bk.kept (Kept.set (bs := (· = w.heap.size + 3)) (Kept.refl _ _) _ _ rfl) hb hg, h.kept.set _ _ (.inl rfl)⟩
theorem Kept.putObj {bs : Nat → Prop} {A W : World} (h : Kept bs A W) {l : Nat} (o : Obj) (hl : A.heap.size ≤ l) : Kept bs A (W.putObj l o) :=
 ⟨h.os, h.tape, h.output, by simpa using h.size, fun i hi hn => (World.putObj_heap_other (by omega)).trans (h.block i hi hn)⟩
theorem WA.done {w w5 V : World} {b g cap : Nat} {f0 : Int} {es : List En} {m : Nat} (h : WA w w5 b g cap f0 es m V) (hb : Below w.heap.size w w5) (h1 : b < w.heap.size) (h2 : g < w.heap.size) (l : Nat) (o : Obj) (hl : w.heap.size ≤ l) : After w b g cap f0 es (V.putObj l o) :=
 ⟨⟨h.bk.box.heap (World.putObj_heap_other (by omega)), h.bk.row.heap (World.putObj_heap_other (by omega)), h.bk.ne⟩,
  (((Kept.of hb).trans h.kept).mono' (fun k hk q => by rcases q with q | q; omega; exact q)).putObj o hl⟩
theorem KW.of_kept {B : Nat} {bs : Nat → Prop} {W W' : World} (k : Kept bs W W') (hn : ∀ i, bs i → i < B ∨ B + 2 ≤ i) : KW B W W' :=
 ⟨k.size, fun i o a b h _ => (k.block i (Array.getElem?_eq_some_iff.1 h).1 (fun x => by have := hn i x; omega)).trans h⟩
set_option maxRecDepth 100000 in
set_option maxHeartbeats 40000000 in
theorem write_any {b g cap : Nat} {f0 : Int} {es : List En} {p : Pl} {c : Nat} {v : Nat} {w : World} (h : BkAt w b g cap f0 es) (hf : Fit f0 es.length) (hfine : FineAll es) (hp : PlOk p c) (hv : v < 18446744073709551616) :
  Calls Tryz.prog 44 #[.pointer (some ⟨b, 0, none⟩), p.v, .int .u64 v] w fun e w' => e = .returned (.int .i64 ((writeV p c f0 v es).2 : Nat)) ∧ After w b g cap f0 (writeV p c f0 v es).1 w' := by
 have HP := hi hp
 have HF := hi hf
 have HFA := hi hfine
 have H := hi h
 have CP := hi (fun W (hW : Below w.heap.size w W) => present_it b (.slice (some ⟨g, 0, none⟩) es.length cap) p f0 W (h.below hW).box)
 have HFD := hi (fun k W hk hc => field_any v p k W hv hk hc)
 have HWI := hi (wide_pos p.r).2
 have hbw := h.box.lt
 have hgw := h.row.lt
 have hbg := h.ne
 obtain ⟨n, hn⟩ : ∃ n, es.length = n := ⟨_, rfl⟩
 have HN := hi hn
 have hpk := hp.cnt
 have hfew := hp.few
 unfold writeV
 rw [hn] at CP ⊢
 clear h hf hfine hp hn
 obtain ⟨r, fp, pc⟩ := p
 dsimp only at hpk
 subst hpk
 dsimp only [Pl.v, Pl.cs] at CP HFD ⊢
 dsimp only at HWI
 obtain ⟨w3, hw3⟩ : ∃ w3, (w.alloc (.cells #[.pointer (some ⟨b, 0, none⟩)] 81)).alloc (.cells #[.int .i64 r, .int .i64 fp, .int .i64 c] 70) = w3 := ⟨_, rfl⟩
 have hz3 : w3.heap.size = w.heap.size + 2 := by rw [← hw3]; simp
 have H2 := hi (show CB ((w3.alloc (.cells #[.int .u64 v] 28)).alloc (.cells #[.int .i64 0] 3)) w.heap.size 81 #[.pointer (some ⟨b, 0, none⟩)] by rw [← hw3]; exact (((CB.new w _ _).alloc _).alloc _).alloc _)
 have H3 := hi (show CB ((w3.alloc (.cells #[.int .u64 v] 28)).alloc (.cells #[.int .i64 0] 3)) (w.heap.size + 1) 70 #[.int .i64 r, .int .i64 fp, .int .i64 c] by rw [← hw3]; exact (cb_second.alloc _).alloc _)
 have H4 := hi (show CB ((w3.alloc (.cells #[.int .u64 v] 28)).alloc (.cells #[.int .i64 0] 3)) (w.heap.size + 2) 28 #[.int .u64 v] by rw [← hz3]; exact (CB.new w3 _ _).alloc _)
 have H5 := hi (show CB ((w3.alloc (.cells #[.int .u64 v] 28)).alloc (.cells #[.int .i64 0] 3)) (w.heap.size + 3) 3 #[.int .i64 0] by rw [show w.heap.size + 3 = w3.heap.size + 1 by omega]; exact cb_second)
 have HB := hi (show Below w.heap.size w ((w3.alloc (.cells #[.int .u64 v] 28)).alloc (.cells #[.int .i64 0] 3)) by rw [← hw3]; exact (bal_three w _ _ _).alloc (by simp; omega) _)
 have HSZ := hi (show ((w3.alloc (.cells #[.int .u64 v] 28)).alloc (.cells #[.int .i64 0] 3)).heap.size = w.heap.size + 4 by simp; omega)
 subst hw3
 clear hz3
 refine (callsIn_wide (n := 6)).1 ?_
 refine callsIn_of_wp_marks Tryz.func44 rfl trivial ?_ rfl
 simp only [Tryz.ntmps44, List.size_toArray, List.length_cons, List.length_nil, Nat.reduceAdd, Nat.reduceSub, Array.replicate_succ, Array.replicate_zero, List.push_toArray, List.append_toArray, List.nil_append, List.cons_append]
 refine wpIn_wide.2 ?_
 go_wp2_with (go_at_call 86; ((with_reducible refine (CP.out _ HB.out).mono ?_); rintro e' w5 ⟨pp, bp, rfl, hpp, hbp, hpr, hb⟩; have HPR := hi hpr; have X2 := hi (H2.out.below hb); have X3 := hi (H3.out.below hb); have X4 := hi (H4.out.below hb); have X5 := hi (H5.out.below hb); have XB := hi (HB.out.trans (hb.mono HB.out.size)); have hs5 := hb.size; rw [HSZ.out] at hs5 hpp hbp; clear hb hpr H2 H3 H4 H5))
 have HKS := hi HPR.out.lt
 have hppl := HPR.out.pl.lt
 have hbpl := HPR.out.bx.lt
 have HST := hi (pres_stops pp bp b g n cap ⟨r, fp, c⟩ c f0 HP.out HF.out.f0 w5 HPR.out)
 have HJ0 := hi (show WA w w5 b g cap f0 (wrL ⟨r, fp, c⟩ f0 v es []).1 (wrL ⟨r, fp, c⟩ f0 v es []).2 w5 from ⟨X5.out, H.out.below XB.out, Kept.refl _ _⟩)
 have HKB := hi (show ∀ i, ksP pp bp b i → i ≠ w.heap.size + 3 ∧ i ≠ g from fun i q => by rcases q with rfl | rfl | rfl <;> omega)
 clear CP HB HSZ
 refine (wpIn_wide (n := 6)).1 ?_
 refine range_win (n := 6) (by omega) (gf := 122) (lb := #[.pointer (some ⟨pp, 0, none⟩), .pointer (some ⟨bp, 0, none⟩)]) rfl (enters_of Tryz.func122 (by kernel_rfl) rfl)
  HST.out (fun a b => KpS.trans a b) (fun V l o o' h1 h2 h3 h4 => kps_put (fun q => by have := HKS.out l q; omega) (by omega)) (Below.refl _ _) (fun _ => rfl)
  (fun pre V => WA w w5 b g cap f0 (wrL ⟨r, fp, c⟩ f0 v es pre).1 (wrL ⟨r, fp, c⟩ f0 v es pre).2 V)
  (fun cd pre V => False)
  (AbL.of (m := 2 + 5) (fun s A A' row hs hg hr => ⟨hs.n.kept hg (fun e => by have := hr _ e.symm; omega), ⟨hs.bk.box.kept hg (fun e => by have := hr _ e.symm; omega), hs.bk.row.heap (hg.block g hs.bk.row.lt (fun e => by have := hr _ e.symm; omega)), hs.bk.ne⟩, hs.kept.grownW hg (fun r e => by have := hr _ e; omega)⟩) rfl)
  (fun _ _ _ _ _ hs _ _ => hs)
  HJ0.out
  (fun x a' V => a' = { tmps := #[.pointer (some ⟨b, 0, none⟩), .agg #[.int .i64 r, .int .i64 fp, .int .i64 c], .int .u64 v, .pointer (some ⟨w.heap.size, 0, none⟩), .pointer (some ⟨w.heap.size + 1, 0, none⟩), .pointer (some ⟨w.heap.size + 1 + 1, 0, none⟩), .int .i64 0, .pointer (some ⟨w.heap.size + 1 + 1 + 1, 0, none⟩), .int .i64 x, .int .i64 (fp + (x : Int)), undef, undef, undef, .pointer (some ⟨b, 0, none⟩), .agg #[.int .i64 r, .int .i64 fp, .int .i64 c], .func (.func 122) #[] #[.pointer (some ⟨pp, 0, none⟩), .pointer (some ⟨bp, 0, none⟩)], .int .i64 x, .int .i64 (fp + (x : Int)), undef, undef, undef, undef, undef, undef, undef, undef, undef, undef, undef, undef, undef, undef, undef, undef, undef, undef, undef, undef, undef, undef, undef, undef, undef, undef, undef, undef, undef], defers := [] })
  (fun x a' => AbL.pure _ _ _)
  ?assign ?body ?done ?stop
 case assign =>
  rintro l' pre x V K h hsz hK
  gi_wp2
  exact hK _ _ (KW.refl _ _) (KpS.refl _ _ _ _) h rfl
 case body =>
  rintro l' pre x a' V hsz hJ rfl hpx
  dsimp only at hpx
  obtain ⟨hxc, hin⟩ := pres_mem hpx
  obtain ⟨hid, hjn⟩ := plc_at hin
  have HSN := hi (wrL_snoc ⟨r, fp, c⟩ f0 v es pre x)
  have hlen1 := wrL_len ⟨r, fp, c⟩ f0 v es pre
  have hfin1 := wrL_fine (p := ⟨r, fp, c⟩) (f0 := f0) (v := v) (ks := pre) HFA.out
  have hcnt := wrL_le ⟨r, fp, c⟩ f0 v es pre
  have hpl : pre.length ≤ c := by
   have h1 := hpx.length_le
   have h2 : (presL f0 n fp c).length ≤ (List.range c).length := List.length_filter_le _ _
   rw [List.length_range] at h2
   rw [List.length_append] at h1
   omega
  have HJ := hi hJ
  have HBV := hi (show Below w.heap.size w V ∨ True from .inr trivial)
  obtain ⟨q1, hq1⟩ : ∃ q1, (wrL ⟨r, fp, c⟩ f0 v es pre).1 = q1 := ⟨_, rfl⟩
  obtain ⟨m, hm⟩ : ∃ m, (wrL ⟨r, fp, c⟩ f0 v es pre).2 = m := ⟨_, rfl⟩
  have hwq : wrL ⟨r, fp, c⟩ f0 v es pre = (q1, m) := by rw [← hq1, ← hm]
  rw [hwq] at HSN HJ hlen1 hfin1 hcnt
  dsimp only at hlen1 hfin1 hcnt HJ
  rw [HN.out] at hlen1
  obtain ⟨j, hj⟩ : ∃ j, plcK f0 fp x = j := ⟨_, rfl⟩
  have hke0 : j < q1.length := by rw [hlen1, ← hj]; exact hjn
  have HWK := hi (show wrK ⟨r, fp, c⟩ f0 v (q1, m) x = (q1.set j ((nthE q1 j).with_ (chgV (fp + x) (nthE q1 j).ln r (fieldN (wideN r) v x))), if chgV (fp + x) (nthE q1 j).ln r (fieldN (wideN r) v x) = (nthE q1 j).ln then m else m + 1) by unfold wrK; dsimp only; rw [hj])
  rw [HWK.out] at HSN
  rw [hj] at hid hjn
  have hke : q1[j]? = some (nthE q1 j) := nthE_at hke0
  have hfj : Fine (nthE q1 j).ln := hfin1.nth hke0
  have HSELF := hi (set_self hke0)
  obtain ⟨y, hy⟩ : ∃ y, nthE q1 j = y := ⟨_, rfl⟩
  rw [hy] at hke hfj HSN HSELF
  have hxl := fieldN_lt63 HWI.out v x
  have hfl := fieldN_lt (wideN r) v x
  have HFD1 := hi (fun W => HFD.out x W (by omega) (by simpa using hxc))
  obtain ⟨fx, hfx⟩ : ∃ fx, fieldN (wideN r) v x = fx := ⟨_, rfl⟩
  rw [hfx] at HFD1 hxl hfl HSN
  have HCH := hi (fun W => changed_any (fp + x) y.ln r fx W hxl)
  have hfc := fine_chg (id := fp + x) (r := r) hfj hfl
  have hfit1 : Fit f0 q1.length := by rw [hlen1, ← HN.out]; exact HF.out
  have HG := hi (get_yes (HJ.out.bk) hfit1 hke)
  rw [← hid] at HG
  obtain ⟨ln2, hl2⟩ : ∃ ln2, chgV (fp + x) y.ln r fx = ln2 := ⟨_, rfl⟩
  rw [hl2] at HCH hfc HSN
  have HPT := hi (fun W (hW : BkAt W b g cap f0 q1) => put_yes (x := y.with_ ln2) hW hfit1 hke0 hfc.ok)
  rw [show (y.with_ ln2).real = y.with_ ln2 from real_fine hfc, ← hid] at HPT
  have HEQ := hi (eqLn_iff ln2 y.ln)
  have v3' := (X2.out.keptB HJ.out.kept (show ¬ (w.heap.size = w.heap.size + 3 ∨ w.heap.size = g) by omega)).cell 0
  have HV3 := hi (X2.out.keptB HJ.out.kept (show ¬ (w.heap.size = w.heap.size + 3 ∨ w.heap.size = g) by omega))
  have HV4 := hi (X3.out.keptB HJ.out.kept (show ¬ (w.heap.size + 1 = w.heap.size + 3 ∨ w.heap.size + 1 = g) by omega))
  have HV5 := hi (X4.out.keptB HJ.out.kept (show ¬ (w.heap.size + 2 = w.heap.size + 3 ∨ w.heap.size + 2 = g) by omega))
  have hwm : IntKind.i64.wrap ((m : Int) + 1) = ((m + 1 : Nat) : Int) := by rw [IntKind.wrap_i64]; omega
  obtain ⟨m2, hm2⟩ : ∃ m2, m + 1 = m2 := ⟨_, rfl⟩
  rw [hm2] at hwm HSN
  have hvb := HJ.out.bk.box.lt
  have hvg := HJ.out.bk.row.lt
  have hvn := HJ.out.n.lt
  clear hJ hpx hin hj hke hfj hy hfx hid hq1 hm hwq hfl hl2 hfc hm2 hlen1 hfin1 hcnt hpl hke0 HWK HFD hxl HBV
  obtain ⟨⟨⟨e, lb', q, a⟩, en, gr, pr⟩, s⟩ := y
  obtain ⟨⟨ne, nl, nq, na⟩, nn, ng, np⟩ := ln2
  dsimp only [En.v, Ln.v, En.with_] at HG HCH HPT
  dsimp only [En.with_] at HSN HEQ
  have hdec : eqLn ne nl nq na nn ng np e lb' q a en gr pr = decide ((⟨⟨ne, nl, nq, na⟩, nn, ng, np⟩ : Ln) = ⟨⟨e, lb', q, a⟩, en, gr, pr⟩) := HEQ.out
  clear HEQ
  gi_wp2_with (first
   | (refine ⟨trivial, ?_⟩; gi_at_call 68; ((with_reducible refine (CallsIn.inRound l' (callsIn_wide.2 HG.out)).mono ?_); rintro e' V1 ⟨rfl, hB⟩; have HBv := hi hB; clear hB))
   | gi_in)
  have HBA := hi (HBv.out.alloc HBv.out.size (.cells #[.bool e, .bool lb', .bool q, .bool a, .bool en, .int .i64 gr, .int .i64 pr, .int .i64 s.c, .bool s.y] 115))
  have hv1 := HBv.out.size
  have hS0 : (fun W' => CB W' (w.heap.size + 2) 28 #[.int .u64 v] ∧ CB W' (w.heap.size + 1) 70 #[.int .i64 r, .int .i64 fp, .int .i64 c] ∧ CB W' V1.heap.size 115 #[.bool e, .bool lb', .bool q, .bool a, .bool en, .int .i64 gr, .int .i64 pr, .int .i64 s.c, .bool s.y]) (V1.alloc (.cells #[.bool e, .bool lb', .bool q, .bool a, .bool en, .int .i64 gr, .int .i64 pr, .int .i64 s.c, .bool s.y] 115)).drew :=
   ⟨(HV5.out.below HBA.out).drew, (HV4.out.below HBA.out).drew, (CB.new _ _ _).drew⟩
  obtain ⟨V2, hV2⟩ : ∃ V2, (V1.alloc (.cells #[.bool e, .bool lb', .bool q, .bool a, .bool en, .int .i64 gr, .int .i64 pr, .int .i64 s.c, .bool s.y] 115)) = V2 := ⟨_, rfl⟩
  have hsz2 := hi (show V2.heap.size = V1.heap.size + 1 by rw [← hV2]; simp)
  rw [hV2] at HBA hS0 ⊢
  have HBD := hi (Below.drewN (m := 1) HBA.out)
  obtain ⟨V2d, hV2d⟩ : ∃ V2d, V2.drewN 1 = V2d := ⟨_, rfl⟩
  have hV2d' : V2.drew = V2d := hV2d
  have hsz3 := hi (show V2d.heap.size = V1.heap.size + 1 by rw [← hV2d]; exact hsz2.out)
  clear hV2 v3'
  refine region_last_r (S := (fun W' => CB W' (w.heap.size + 2) 28 #[.int .u64 v] ∧ CB W' (w.heap.size + 1) 70 #[.int .i64 r, .int .i64 fp, .int .i64 c] ∧ CB W' V1.heap.size 115 #[.bool e, .bool lb', .bool q, .bool a, .bool en, .int .i64 gr, .int .i64 pr, .int .i64 s.c, .bool s.y])) [11] (by kernel_rfl) (by rfl) hS0 (fun hHeld => ?_)
  have HS2 := hi hHeld
  have HB2 := HBD
  rw [hV2d'] at HS2 hHeld ⊢
  rw [hV2d] at HB2
  obtain ⟨V2, rfl⟩ : ∃ V2', V2' = V2d := ⟨_, rfl⟩
  (try simp only [r1, r2, r3, r4, r5])
  refine tk 0 (v := ?_) rfl (Or.inl ⟨by rfl, ?_⟩) ?_
  rotate_left
  ·intro w' hSw; (try dsimp only at hSw); obtain ⟨hs1, hs2, hs3⟩ := hSw; have k0 := hs1.cell 0; have p0 := hs2.cell 0; have p1 := hs2.cell 1; have p2 := hs2.cell 2; obtain ⟨d0, d1, d2, d3, d4, d5, d6, d7, d8⟩ := CB.ent (x := ⟨⟨⟨e, lb', q, a⟩, en, gr, pr⟩, s⟩) hs3; dsimp only at d0 d1 d2 d3 d4 d5 d6 d7 d8; go_simp; (try with_reducible rfl)
  (try simp only [Act.put, n1, n2, n4, n5, n6])
  refine tk 1 (v := ?_) rfl (Or.inl ⟨by rfl, ?_⟩) ?_
  rotate_left
  ·intro w' hSw; (try dsimp only at hSw); obtain ⟨hs1, hs2, hs3⟩ := hSw; have k0 := hs1.cell 0; have p0 := hs2.cell 0; have p1 := hs2.cell 1; have p2 := hs2.cell 2; obtain ⟨d0, d1, d2, d3, d4, d5, d6, d7, d8⟩ := CB.ent (x := ⟨⟨⟨e, lb', q, a⟩, en, gr, pr⟩, s⟩) hs3; dsimp only at d0 d1 d2 d3 d4 d5 d6 d7 d8; go_simp; (try with_reducible rfl)
  (try simp only [Act.put, n1, n2, n3, n4, n5, n6])
  refine tk 2 (v := ?_) rfl (Or.inl ⟨by rfl, ?_⟩) ?_
  rotate_left
  ·intro w' hSw; (try dsimp only at hSw); obtain ⟨hs1, hs2, hs3⟩ := hSw; have k0 := hs1.cell 0; have p0 := hs2.cell 0; have p1 := hs2.cell 1; have p2 := hs2.cell 2; obtain ⟨d0, d1, d2, d3, d4, d5, d6, d7, d8⟩ := CB.ent (x := ⟨⟨⟨e, lb', q, a⟩, en, gr, pr⟩, s⟩) hs3; dsimp only at d0 d1 d2 d3 d4 d5 d6 d7 d8; go_simp; (try with_reducible rfl)
  (try simp only [Act.put, n1, n2, n3, n4, n5, n6])
  refine tk 3 (v := ?_) rfl (Or.inl ⟨by rfl, ?_⟩) ?_
  rotate_left
  ·intro w' hSw; (try dsimp only at hSw); obtain ⟨hs1, hs2, hs3⟩ := hSw; have k0 := hs1.cell 0; have p0 := hs2.cell 0; have p1 := hs2.cell 1; have p2 := hs2.cell 2; obtain ⟨d0, d1, d2, d3, d4, d5, d6, d7, d8⟩ := CB.ent (x := ⟨⟨⟨e, lb', q, a⟩, en, gr, pr⟩, s⟩) hs3; dsimp only at d0 d1 d2 d3 d4 d5 d6 d7 d8; go_simp; (try with_reducible rfl)
  (try simp only [Act.put, n1, n2, n3, n4, n5, n6])
  refine tk 4 (v := ?_) rfl (Or.inl ⟨by rfl, ?_⟩) ?_
  rotate_left
  ·intro w' hSw; (try dsimp only at hSw); obtain ⟨hs1, hs2, hs3⟩ := hSw; have k0 := hs1.cell 0; have p0 := hs2.cell 0; have p1 := hs2.cell 1; have p2 := hs2.cell 2; obtain ⟨d0, d1, d2, d3, d4, d5, d6, d7, d8⟩ := CB.ent (x := ⟨⟨⟨e, lb', q, a⟩, en, gr, pr⟩, s⟩) hs3; dsimp only at d0 d1 d2 d3 d4 d5 d6 d7 d8; go_simp; (try with_reducible rfl)
  (try simp only [Act.put, n1, n2, n3, n4, n5, n6])
  refine tk 5 (v := ?_) rfl (Or.inl ⟨by rfl, ?_⟩) ?_
  rotate_left
  ·intro w' hSw; (try dsimp only at hSw); obtain ⟨hs1, hs2, hs3⟩ := hSw; have k0 := hs1.cell 0; have p0 := hs2.cell 0; have p1 := hs2.cell 1; have p2 := hs2.cell 2; obtain ⟨d0, d1, d2, d3, d4, d5, d6, d7, d8⟩ := CB.ent (x := ⟨⟨⟨e, lb', q, a⟩, en, gr, pr⟩, s⟩) hs3; dsimp only at d0 d1 d2 d3 d4 d5 d6 d7 d8; go_simp; (try with_reducible rfl)
  (try simp only [Act.put, n1, n2, n3, n4, n5, n6])
  refine tk 6 (v := ?_) rfl (Or.inl ⟨by rfl, ?_⟩) ?_
  rotate_left
  ·intro w' hSw; (try dsimp only at hSw); obtain ⟨hs1, hs2, hs3⟩ := hSw; have k0 := hs1.cell 0; have p0 := hs2.cell 0; have p1 := hs2.cell 1; have p2 := hs2.cell 2; obtain ⟨d0, d1, d2, d3, d4, d5, d6, d7, d8⟩ := CB.ent (x := ⟨⟨⟨e, lb', q, a⟩, en, gr, pr⟩, s⟩) hs3; dsimp only at d0 d1 d2 d3 d4 d5 d6 d7 d8; go_simp; (try with_reducible rfl)
  (try simp only [Act.put, n1, n2, n3, n4, n5, n6])
  refine tk 7 (v := ?_) rfl (Or.inl ⟨by rfl, ?_⟩) ?_
  rotate_left
  ·intro w' hSw; (try dsimp only at hSw); obtain ⟨hs1, hs2, hs3⟩ := hSw; have k0 := hs1.cell 0; have p0 := hs2.cell 0; have p1 := hs2.cell 1; have p2 := hs2.cell 2; obtain ⟨d0, d1, d2, d3, d4, d5, d6, d7, d8⟩ := CB.ent (x := ⟨⟨⟨e, lb', q, a⟩, en, gr, pr⟩, s⟩) hs3; dsimp only at d0 d1 d2 d3 d4 d5 d6 d7 d8; go_simp; (try with_reducible rfl)
  (try simp only [Act.put, n1, n2, n3, n4, n5, n6])
  refine wpAnyF_ready (rs := [8, 10]) (by kernel_rfl) (by simp) ?_
  refine (AllReadyF.cons rfl (fun KK hKK => ?_) (AllReadyF.cons rfl (fun KK hKK => ?_) AllReadyF.nil))
  ·go_simp
   ((with_reducible refine (HFD1.out _).mono ?_); rintro e' V3a ⟨rfl, hb⟩; have HS3a := hi (And.intro (HS2.out.1.below hb) (And.intro (HS2.out.2.1.below hb) (HS2.out.2.2.below hb))); have HB3a := hi (HB2.out.trans (hb.mono HB2.out.size)); have hz3a := hb.size; clear hb)
   (try go_simp)
   refine hKK.out _ _ HS3a.out (fun hHeld => ?_)
   clear hKK KK
   (try simp only [Act.put, n1, n2, n3, n4, n5, n6])
   refine wpAnyF_ready (rs := [9, 10]) (by kernel_rfl) (by simp) ?_
   refine (AllReadyF.cons rfl (fun KK hKK => ?_) (AllReadyF.cons rfl (fun KK hKK => ?_) AllReadyF.nil))
   ·go_simp
    ((with_reducible refine (HCH.out _).mono ?_); rintro e' V4a ⟨rfl, hb⟩; have HS4a := hi (And.intro (HS3a.out.1.below hb) (And.intro (HS3a.out.2.1.below hb) (HS3a.out.2.2.below hb))); have HB4a := hi (HB3a.out.trans (hb.mono HB3a.out.size)); have hz4a := hb.size; clear hb)
    (try go_simp)
    refine hKK.out _ _ HS4a.out (fun hHeld => ?_)
    clear hKK KK
    (try simp only [Act.put, n1, n2, n3, n4, n5, n6])
    refine wpAnyF_ready (rs := [10]) (by kernel_rfl) (by simp) ?_
    refine AllReadyF.cons rfl (fun KK hKK => ?_) AllReadyF.nil
    go_simp
    have hb5a := bal V4a (.cells #[.bool false, .bool false, .bool false, .bool false, .bool false, .int .i64 0, .int .i64 0] 58)
    have HS5a := hi (And.intro (HS4a.out.1.below hb5a) (And.intro (HS4a.out.2.1.below hb5a) (HS4a.out.2.2.below hb5a))); have HB5a := hi (HB4a.out.trans (hb5a.mono HB4a.out.size)); have hz5a := hb5a.size
    have HZ5a := hi (CB.new V4a 58 #[.bool false, .bool false, .bool false, .bool false, .bool false, .int .i64 0, .int .i64 0])
    obtain ⟨V5a, hV5a⟩ : ∃ V5a, V4a.alloc (.cells #[.bool false, .bool false, .bool false, .bool false, .bool false, .int .i64 0, .int .i64 0] 58) = V5a := ⟨_, rfl⟩
    rw [hV5a] at hb5a HS5a HB5a hz5a HZ5a ⊢
    obtain ⟨N, hN⟩ : ∃ N, V4a.heap.size = N := ⟨_, rfl⟩
    rw [hN] at HZ5a ⊢
    clear hV5a hb5a
    refine hKK.out _ _ HS5a.out (fun hHeld => ?_)
    clear hKK KK
    (try simp only [Act.put, n1, n2, n3, n4, n5, n6])
    refine wpAnyF_ready (rs := [11]) (by kernel_rfl) (by simp) ?_
    refine AllReadyF.last (by kernel_rfl) rfl (fun KK hKK => ?_) AllReadyF.nil
    obtain ⟨z0, z1, z2, z3, z4, z5, z6⟩ := CB.cells7 (l := Ln.zero) HZ5a.out
    have fz := HZ5a.out.frozen
    dsimp only [Ln.zero, St.zero] at z0 z1 z2 z3 z4 z5 z6
    go_simp
    have HSE := HS5a
    have HBE := HB5a
    have HZE := HZ5a
    obtain ⟨VE, hVE⟩ : ∃ VE, V5a = VE := ⟨_, rfl⟩
    have hNE : V1.heap.size + 1 ≤ N := by have := hsz3.out; omega
    rw [hVE] at HSE HBE HZE ⊢
    refine hKK.out _ _ ?_
    clear hKK KK
    (try simp only [Act.put, n1, n2, n3, n4, n5, n6])
    refine wpAnyF_done (by kernel_rfl) ?_ _
    refine normQ_in ?_
    have hN1 := HZE.out.lt
    have HNL := hi (CB.putL (y := Ln.zero) HZE.out ⟨⟨ne, nl, nq, na⟩, nn, ng, np⟩)
    have HEL := hi (show CB (setL VE N 0 ⟨⟨ne, nl, nq, na⟩, nn, ng, np⟩) V1.heap.size 115 #[.bool e, .bool lb', .bool q, .bool a, .bool en, .int .i64 gr, .int .i64 pr, .int .i64 s.c, .bool s.y] from HSE.out.2.2.otherL (by omega) _)
    have HBL := hi (show Below V.heap.size V (setL VE N 0 ⟨⟨ne, nl, nq, na⟩, nn, ng, np⟩) from below_putL HBE.out (by omega) _)
    dsimp only [setL] at HNL HEL HBL
    obtain ⟨V6, hV6⟩ : ∃ V6, ((((((VE.setCell ⟨N, 0, none⟩ (.bool ne)).setCell ⟨N, 0 + 1, none⟩ (.bool nl)).setCell ⟨N, 0 + 2, none⟩ (.bool nq)).setCell ⟨N, 0 + 3, none⟩ (.bool na)).setCell ⟨N, 0 + 4, none⟩ (.bool nn)).setCell ⟨N, 0 + 5, none⟩ (.int .i64 ng)).setCell ⟨N, 0 + 6, none⟩ (.int .i64 np) = V6 := ⟨_, rfl⟩
    simp only [Nat.zero_add] at hV6
    simp only [Nat.zero_add, hV6] at HNL HEL HBL
    try rw [hV6]
    obtain ⟨k0, k1, k2, k3, k4, k5, k6⟩ := CB.cells7 (l := ⟨⟨ne, nl, nq, na⟩, nn, ng, np⟩) HNL.out
    obtain ⟨d0, d1, d2, d3, d4, d5, d6, d7, d8⟩ := CB.ent (x := ⟨⟨⟨e, lb', q, a⟩, en, gr, pr⟩, s⟩) HEL.out
    have fe := HEL.out.frozen
    dsimp only at k0 k1 k2 k3 k4 k5 k6 d0 d1 d2 d3 d4 d5 d6 d7 d8
    have z3 := (HV3.out.below HBL.out).cell 0
    have HW6 := hi (HJ.out.later HBL.out)
    clear hV6 hV2d hV2d' hHeld HSE HBE HZE hNE hN hVE hS0
    by_cases heq : (⟨⟨ne, nl, nq, na⟩, nn, ng, np⟩ : Ln) = ⟨⟨e, lb', q, a⟩, en, gr, pr⟩
    ·rw [if_pos heq, heq, HSELF.out] at HSN
     have hd : eqLn ne nl nq na nn ng np e lb' q a en gr pr = true := by rw [hdec]; exact decide_eq_true heq
     clear hdec heq
     gi_wp2
     refine ⟨KW.of_below HBL.out, KpS.of_below HBL.out (fun i q => by have := HKS.out i q; omega) (by omega), ?_⟩
     refine (?_ : WA w w5 b g cap f0 (wrL ⟨r, fp, c⟩ f0 v es (pre ++ [x])).1 (wrL ⟨r, fp, c⟩ f0 v es (pre ++ [x])).2 V6)
     rw [HSN.out]
     exact HW6.out
    ·rw [if_neg heq] at HSN
     have hd : eqLn ne nl nq na nn ng np e lb' q a en gr pr = false := by rw [hdec]; exact decide_eq_false heq
     have hB7 : Below V.heap.size V (setL V6 V1.heap.size 0 ⟨⟨ne, nl, nq, na⟩, nn, ng, np⟩) := below_putL HBL.out (by omega) _
     have HB7 := hi hB7
     have HW7 := hi (HJ.out.later hB7)
     have z7 := (HV3.out.below hB7).cell 0
     dsimp only [setL] at HB7 HW7 z7
     simp only [Nat.zero_add] at HB7 HW7 z7
     clear hdec heq hB7
     gi_wp2_with (first
      | (refine ⟨trivial, ?_⟩; gi_at_call 85; ((with_reducible refine (CallsIn.inRound l' (callsIn_wide.2 (HPT.out _ HW7.out.bk))).mono ?_); rintro e' V8 ⟨rfl, hA⟩; have HW8 := hi (HW7.out.put hA (by omega)); have HA8 := hi hA.kept; have n0 := HW8.out.n.cell 0; have n1 := HW8.out.n.frozen 0; clear hA))
      | gi_in)
     have HKV := hi (show Kept (fun i => i = w.heap.size + 3 ∨ i = g) V (V8.setCell ⟨w.heap.size + 3, 0, none⟩ (.int .i64 m2)) from (((Kept.of HB7.out).trans (HA8.out.mono (fun i e => .inr e))).set _ _ (.inl rfl)))
     refine ⟨KW.of_kept HKV.out (fun i q => by omega), KpS.kept HKV.out (fun i q => by have := HKS.out i q; omega) (by omega) (fun i q1 q2 => by rcases q2 with q2 | q2; exact (by have := HKB.out i q2; omega); omega), ?_⟩
     refine (?_ : WA w w5 b g cap f0 (wrL ⟨r, fp, c⟩ f0 v es (pre ++ [x])).1 (wrL ⟨r, fp, c⟩ f0 v es (pre ++ [x])).2 _)
     rw [HSN.out]
     exact HW8.out.count m2 (by omega) (by omega)
   ·go_simp
    have hb4b := bal V3a (.cells #[.bool false, .bool false, .bool false, .bool false, .bool false, .int .i64 0, .int .i64 0] 58)
    have HS4b := hi (And.intro (HS3a.out.1.below hb4b) (And.intro (HS3a.out.2.1.below hb4b) (HS3a.out.2.2.below hb4b))); have HB4b := hi (HB3a.out.trans (hb4b.mono HB3a.out.size)); have hz4b := hb4b.size
    have HZ4b := hi (CB.new V3a 58 #[.bool false, .bool false, .bool false, .bool false, .bool false, .int .i64 0, .int .i64 0])
    obtain ⟨V4b, hV4b⟩ : ∃ V4b, V3a.alloc (.cells #[.bool false, .bool false, .bool false, .bool false, .bool false, .int .i64 0, .int .i64 0] 58) = V4b := ⟨_, rfl⟩
    rw [hV4b] at hb4b HS4b HB4b hz4b HZ4b ⊢
    obtain ⟨N, hN⟩ : ∃ N, V3a.heap.size = N := ⟨_, rfl⟩
    rw [hN] at HZ4b ⊢
    clear hV4b hb4b
    refine hKK.out _ _ HS4b.out (fun hHeld => ?_)
    clear hKK KK
    (try simp only [Act.put, n1, n2, n3, n4, n5, n6])
    refine wpAnyF_ready (rs := [9]) (by kernel_rfl) (by simp) ?_
    refine AllReadyF.cons rfl (fun KK hKK => ?_) AllReadyF.nil
    go_simp
    ((with_reducible refine (HCH.out _).mono ?_); rintro e' V5b ⟨rfl, hb⟩; have HS5b := hi (And.intro (HS4b.out.1.below hb) (And.intro (HS4b.out.2.1.below hb) (HS4b.out.2.2.below hb))); have HB5b := hi (HB4b.out.trans (hb.mono HB4b.out.size)); have hz5b := hb.size; have HZ5b := hi (HZ4b.out.below hb); clear hb)
    (try go_simp)
    refine hKK.out _ _ HS5b.out (fun hHeld => ?_)
    clear hKK KK
    (try simp only [Act.put, n1, n2, n3, n4, n5, n6])
    refine wpAnyF_ready (rs := [11]) (by kernel_rfl) (by simp) ?_
    refine AllReadyF.last (by kernel_rfl) rfl (fun KK hKK => ?_) AllReadyF.nil
    obtain ⟨z0, z1, z2, z3, z4, z5, z6⟩ := CB.cells7 (l := Ln.zero) HZ5b.out
    have fz := HZ5b.out.frozen
    dsimp only [Ln.zero, St.zero] at z0 z1 z2 z3 z4 z5 z6
    go_simp
    have HSE := HS5b
    have HBE := HB5b
    have HZE := HZ5b
    obtain ⟨VE, hVE⟩ : ∃ VE, V5b = VE := ⟨_, rfl⟩
    have hNE : V1.heap.size + 1 ≤ N := by have := hsz3.out; omega
    rw [hVE] at HSE HBE HZE ⊢
    refine hKK.out _ _ ?_
    clear hKK KK
    (try simp only [Act.put, n1, n2, n3, n4, n5, n6])
    refine wpAnyF_done (by kernel_rfl) ?_ _
    refine normQ_in ?_
    have hN1 := HZE.out.lt
    have HNL := hi (CB.putL (y := Ln.zero) HZE.out ⟨⟨ne, nl, nq, na⟩, nn, ng, np⟩)
    have HEL := hi (show CB (setL VE N 0 ⟨⟨ne, nl, nq, na⟩, nn, ng, np⟩) V1.heap.size 115 #[.bool e, .bool lb', .bool q, .bool a, .bool en, .int .i64 gr, .int .i64 pr, .int .i64 s.c, .bool s.y] from HSE.out.2.2.otherL (by omega) _)
    have HBL := hi (show Below V.heap.size V (setL VE N 0 ⟨⟨ne, nl, nq, na⟩, nn, ng, np⟩) from below_putL HBE.out (by omega) _)
    dsimp only [setL] at HNL HEL HBL
    obtain ⟨V6, hV6⟩ : ∃ V6, ((((((VE.setCell ⟨N, 0, none⟩ (.bool ne)).setCell ⟨N, 0 + 1, none⟩ (.bool nl)).setCell ⟨N, 0 + 2, none⟩ (.bool nq)).setCell ⟨N, 0 + 3, none⟩ (.bool na)).setCell ⟨N, 0 + 4, none⟩ (.bool nn)).setCell ⟨N, 0 + 5, none⟩ (.int .i64 ng)).setCell ⟨N, 0 + 6, none⟩ (.int .i64 np) = V6 := ⟨_, rfl⟩
    simp only [Nat.zero_add] at hV6
    simp only [Nat.zero_add, hV6] at HNL HEL HBL
    try rw [hV6]
    obtain ⟨k0, k1, k2, k3, k4, k5, k6⟩ := CB.cells7 (l := ⟨⟨ne, nl, nq, na⟩, nn, ng, np⟩) HNL.out
    obtain ⟨d0, d1, d2, d3, d4, d5, d6, d7, d8⟩ := CB.ent (x := ⟨⟨⟨e, lb', q, a⟩, en, gr, pr⟩, s⟩) HEL.out
    have fe := HEL.out.frozen
    dsimp only at k0 k1 k2 k3 k4 k5 k6 d0 d1 d2 d3 d4 d5 d6 d7 d8
    have z3 := (HV3.out.below HBL.out).cell 0
    have HW6 := hi (HJ.out.later HBL.out)
    clear hV6 hV2d hV2d' hHeld HSE HBE HZE hNE hN hVE hS0
    by_cases heq : (⟨⟨ne, nl, nq, na⟩, nn, ng, np⟩ : Ln) = ⟨⟨e, lb', q, a⟩, en, gr, pr⟩
    ·rw [if_pos heq, heq, HSELF.out] at HSN
     have hd : eqLn ne nl nq na nn ng np e lb' q a en gr pr = true := by rw [hdec]; exact decide_eq_true heq
     clear hdec heq
     gi_wp2
     refine ⟨KW.of_below HBL.out, KpS.of_below HBL.out (fun i q => by have := HKS.out i q; omega) (by omega), ?_⟩
     refine (?_ : WA w w5 b g cap f0 (wrL ⟨r, fp, c⟩ f0 v es (pre ++ [x])).1 (wrL ⟨r, fp, c⟩ f0 v es (pre ++ [x])).2 V6)
     rw [HSN.out]
     exact HW6.out
    ·rw [if_neg heq] at HSN
     have hd : eqLn ne nl nq na nn ng np e lb' q a en gr pr = false := by rw [hdec]; exact decide_eq_false heq
     have hB7 : Below V.heap.size V (setL V6 V1.heap.size 0 ⟨⟨ne, nl, nq, na⟩, nn, ng, np⟩) := below_putL HBL.out (by omega) _
     have HB7 := hi hB7
     have HW7 := hi (HJ.out.later hB7)
     have z7 := (HV3.out.below hB7).cell 0
     dsimp only [setL] at HB7 HW7 z7
     simp only [Nat.zero_add] at HB7 HW7 z7
     clear hdec heq hB7
     gi_wp2_with (first
      | (refine ⟨trivial, ?_⟩; gi_at_call 85; ((with_reducible refine (CallsIn.inRound l' (callsIn_wide.2 (HPT.out _ HW7.out.bk))).mono ?_); rintro e' V8 ⟨rfl, hA⟩; have HW8 := hi (HW7.out.put hA (by omega)); have HA8 := hi hA.kept; have n0 := HW8.out.n.cell 0; have n1 := HW8.out.n.frozen 0; clear hA))
      | gi_in)
     have HKV := hi (show Kept (fun i => i = w.heap.size + 3 ∨ i = g) V (V8.setCell ⟨w.heap.size + 3, 0, none⟩ (.int .i64 m2)) from (((Kept.of HB7.out).trans (HA8.out.mono (fun i e => .inr e))).set _ _ (.inl rfl)))
     refine ⟨KW.of_kept HKV.out (fun i q => by omega), KpS.kept HKV.out (fun i q => by have := HKS.out i q; omega) (by omega) (fun i q1 q2 => by rcases q2 with q2 | q2; exact (by have := HKB.out i q2; omega); omega), ?_⟩
     refine (?_ : WA w w5 b g cap f0 (wrL ⟨r, fp, c⟩ f0 v es (pre ++ [x])).1 (wrL ⟨r, fp, c⟩ f0 v es (pre ++ [x])).2 _)
     rw [HSN.out]
     exact HW8.out.count m2 (by omega) (by omega)
  ·go_simp
   have hb3c := bal V2 (.cells #[.bool false, .bool false, .bool false, .bool false, .bool false, .int .i64 0, .int .i64 0] 58)
   have HS3c := hi (And.intro (HS2.out.1.below hb3c) (And.intro (HS2.out.2.1.below hb3c) (HS2.out.2.2.below hb3c))); have HB3c := hi (HB2.out.trans (hb3c.mono HB2.out.size)); have hz3c := hb3c.size
   have HZ3c := hi (CB.new V2 58 #[.bool false, .bool false, .bool false, .bool false, .bool false, .int .i64 0, .int .i64 0])
   obtain ⟨V3c, hV3c⟩ : ∃ V3c, V2.alloc (.cells #[.bool false, .bool false, .bool false, .bool false, .bool false, .int .i64 0, .int .i64 0] 58) = V3c := ⟨_, rfl⟩
   rw [hV3c] at hb3c HS3c HB3c hz3c HZ3c ⊢
   obtain ⟨N, hN⟩ : ∃ N, V2.heap.size = N := ⟨_, rfl⟩
   rw [hN] at HZ3c ⊢
   clear hV3c hb3c
   refine hKK.out _ _ HS3c.out (fun hHeld => ?_)
   clear hKK KK
   (try simp only [Act.put, n1, n2, n3, n4, n5, n6])
   refine wpAnyF_ready (rs := [8]) (by kernel_rfl) (by simp) ?_
   refine AllReadyF.cons rfl (fun KK hKK => ?_) AllReadyF.nil
   go_simp
   ((with_reducible refine (HFD1.out _).mono ?_); rintro e' V4c ⟨rfl, hb⟩; have HS4c := hi (And.intro (HS3c.out.1.below hb) (And.intro (HS3c.out.2.1.below hb) (HS3c.out.2.2.below hb))); have HB4c := hi (HB3c.out.trans (hb.mono HB3c.out.size)); have hz4c := hb.size; have HZ4c := hi (HZ3c.out.below hb); clear hb)
   (try go_simp)
   refine hKK.out _ _ HS4c.out (fun hHeld => ?_)
   clear hKK KK
   (try simp only [Act.put, n1, n2, n3, n4, n5, n6])
   refine wpAnyF_ready (rs := [9]) (by kernel_rfl) (by simp) ?_
   refine AllReadyF.cons rfl (fun KK hKK => ?_) AllReadyF.nil
   go_simp
   ((with_reducible refine (HCH.out _).mono ?_); rintro e' V5c ⟨rfl, hb⟩; have HS5c := hi (And.intro (HS4c.out.1.below hb) (And.intro (HS4c.out.2.1.below hb) (HS4c.out.2.2.below hb))); have HB5c := hi (HB4c.out.trans (hb.mono HB4c.out.size)); have hz5c := hb.size; have HZ5c := hi (HZ4c.out.below hb); clear hb)
   (try go_simp)
   refine hKK.out _ _ HS5c.out (fun hHeld => ?_)
   clear hKK KK
   (try simp only [Act.put, n1, n2, n3, n4, n5, n6])
   refine wpAnyF_ready (rs := [11]) (by kernel_rfl) (by simp) ?_
   refine AllReadyF.last (by kernel_rfl) rfl (fun KK hKK => ?_) AllReadyF.nil
   obtain ⟨z0, z1, z2, z3, z4, z5, z6⟩ := CB.cells7 (l := Ln.zero) HZ5c.out
   have fz := HZ5c.out.frozen
   dsimp only [Ln.zero, St.zero] at z0 z1 z2 z3 z4 z5 z6
   go_simp
   have HSE := HS5c
   have HBE := HB5c
   have HZE := HZ5c
   obtain ⟨VE, hVE⟩ : ∃ VE, V5c = VE := ⟨_, rfl⟩
   have hNE : V1.heap.size + 1 ≤ N := by have := hsz3.out; omega
   rw [hVE] at HSE HBE HZE ⊢
   refine hKK.out _ _ ?_
   clear hKK KK
   (try simp only [Act.put, n1, n2, n3, n4, n5, n6])
   refine wpAnyF_done (by kernel_rfl) ?_ _
   refine normQ_in ?_
   have hN1 := HZE.out.lt
   have HNL := hi (CB.putL (y := Ln.zero) HZE.out ⟨⟨ne, nl, nq, na⟩, nn, ng, np⟩)
   have HEL := hi (show CB (setL VE N 0 ⟨⟨ne, nl, nq, na⟩, nn, ng, np⟩) V1.heap.size 115 #[.bool e, .bool lb', .bool q, .bool a, .bool en, .int .i64 gr, .int .i64 pr, .int .i64 s.c, .bool s.y] from HSE.out.2.2.otherL (by omega) _)
   have HBL := hi (show Below V.heap.size V (setL VE N 0 ⟨⟨ne, nl, nq, na⟩, nn, ng, np⟩) from below_putL HBE.out (by omega) _)
   dsimp only [setL] at HNL HEL HBL
   obtain ⟨V6, hV6⟩ : ∃ V6, ((((((VE.setCell ⟨N, 0, none⟩ (.bool ne)).setCell ⟨N, 0 + 1, none⟩ (.bool nl)).setCell ⟨N, 0 + 2, none⟩ (.bool nq)).setCell ⟨N, 0 + 3, none⟩ (.bool na)).setCell ⟨N, 0 + 4, none⟩ (.bool nn)).setCell ⟨N, 0 + 5, none⟩ (.int .i64 ng)).setCell ⟨N, 0 + 6, none⟩ (.int .i64 np) = V6 := ⟨_, rfl⟩
   simp only [Nat.zero_add] at hV6
   simp only [Nat.zero_add, hV6] at HNL HEL HBL
   try rw [hV6]
   obtain ⟨k0, k1, k2, k3, k4, k5, k6⟩ := CB.cells7 (l := ⟨⟨ne, nl, nq, na⟩, nn, ng, np⟩) HNL.out
   obtain ⟨d0, d1, d2, d3, d4, d5, d6, d7, d8⟩ := CB.ent (x := ⟨⟨⟨e, lb', q, a⟩, en, gr, pr⟩, s⟩) HEL.out
   have fe := HEL.out.frozen
   dsimp only at k0 k1 k2 k3 k4 k5 k6 d0 d1 d2 d3 d4 d5 d6 d7 d8
   have z3 := (HV3.out.below HBL.out).cell 0
   have HW6 := hi (HJ.out.later HBL.out)
   clear hV6 hV2d hV2d' hHeld HSE HBE HZE hNE hN hVE hS0
   by_cases heq : (⟨⟨ne, nl, nq, na⟩, nn, ng, np⟩ : Ln) = ⟨⟨e, lb', q, a⟩, en, gr, pr⟩
   ·rw [if_pos heq, heq, HSELF.out] at HSN
    have hd : eqLn ne nl nq na nn ng np e lb' q a en gr pr = true := by rw [hdec]; exact decide_eq_true heq
    clear hdec heq
    gi_wp2
    refine ⟨KW.of_below HBL.out, KpS.of_below HBL.out (fun i q => by have := HKS.out i q; omega) (by omega), ?_⟩
    refine (?_ : WA w w5 b g cap f0 (wrL ⟨r, fp, c⟩ f0 v es (pre ++ [x])).1 (wrL ⟨r, fp, c⟩ f0 v es (pre ++ [x])).2 V6)
    rw [HSN.out]
    exact HW6.out
   ·rw [if_neg heq] at HSN
    have hd : eqLn ne nl nq na nn ng np e lb' q a en gr pr = false := by rw [hdec]; exact decide_eq_false heq
    have hB7 : Below V.heap.size V (setL V6 V1.heap.size 0 ⟨⟨ne, nl, nq, na⟩, nn, ng, np⟩) := below_putL HBL.out (by omega) _
    have HB7 := hi hB7
    have HW7 := hi (HJ.out.later hB7)
    have z7 := (HV3.out.below hB7).cell 0
    dsimp only [setL] at HB7 HW7 z7
    simp only [Nat.zero_add] at HB7 HW7 z7
    clear hdec heq hB7
    gi_wp2_with (first
     | (refine ⟨trivial, ?_⟩; gi_at_call 85; ((with_reducible refine (CallsIn.inRound l' (callsIn_wide.2 (HPT.out _ HW7.out.bk))).mono ?_); rintro e' V8 ⟨rfl, hA⟩; have HW8 := hi (HW7.out.put hA (by omega)); have HA8 := hi hA.kept; have n0 := HW8.out.n.cell 0; have n1 := HW8.out.n.frozen 0; clear hA))
     | gi_in)
    have HKV := hi (show Kept (fun i => i = w.heap.size + 3 ∨ i = g) V (V8.setCell ⟨w.heap.size + 3, 0, none⟩ (.int .i64 m2)) from (((Kept.of HB7.out).trans (HA8.out.mono (fun i e => .inr e))).set _ _ (.inl rfl)))
    refine ⟨KW.of_kept HKV.out (fun i q => by omega), KpS.kept HKV.out (fun i q => by have := HKS.out i q; omega) (by omega) (fun i q1 q2 => by rcases q2 with q2 | q2; exact (by have := HKB.out i q2; omega); omega), ?_⟩
    refine (?_ : WA w w5 b g cap f0 (wrL ⟨r, fp, c⟩ f0 v es (pre ++ [x])).1 (wrL ⟨r, fp, c⟩ f0 v es (pre ++ [x])).2 _)
    rw [HSN.out]
    exact HW8.out.count m2 (by omega) (by omega)
 case done =>
  rintro ys V rfl hJ hK hs2
  have v0 := hJ.n.cell 0
  have HW := hi hJ
  have HK := hi hK
  clear hJ hK
  dsimp only
  go_wp2
  refine ⟨by simp, .inl ⟨_, _, rfl, run_takeDeferred HK.out, ?_⟩⟩
  exact ⟨_, results_tmp rfl _ _ _, rfl, HW.out.done XB.out hbw hgw _ _ (by omega)⟩
 case stop =>
  rintro cd pre V hpre h hK _
  exact h.elim
end Go.Proofs.YtieedhdmpabfkaaGreat
namespace Go.Proofs.YtieedhdmpabfkaaGreat
open Go.ChangeShapes Go.WideShapes Go.ChangeAt Go.RowKit Go.Shelf
set_option linter.unusedVariables false
attribute [local go_sem] Oper.semAt_some
attribute [local go_sem high] neqLn guardL
structure RW (w1 : World) (b lg xg : Nat) (la xa : Option Addr) (lc xc : Nat) (f0 : Int) (es es' : List En) (V : World) : Prop where
 rf : RfAt V b lg xg la xa lc xc f0 es'
 kept : Kept (fun i => es ≠ [] ∧ (i = lg ∨ i = xg)) w1 V
section
variable {w1 V V' : World} {b lg xg : Nat} {la xa : Option Addr} {lc xc : Nat} {f0 : Int} {es es' : List En}
theorem RW.later (h : RW w1 b lg xg la xa lc xc f0 es es' V) (k : Below V.heap.size V V') : RW w1 b lg xg la xa lc xc f0 es es' V' := ⟨h.rf.below k, h.kept.below k⟩
theorem RW.setLn (h : RW w1 b lg xg la xa lc xc f0 es es' V) {k : Nat} {x : En} (hk : es'[k]? = some x) (hne : es ≠ []) (y : Ln) : RW w1 b lg xg la xa lc xc f0 es (es'.set k ⟨y, x.s⟩) (V.setCells lg (k * 7) y.cs) :=
 ⟨h.rf.setLn hk y, kept_sets (bs := fun i => es ≠ [] ∧ (i = lg ∨ i = xg)) (b := lg) ⟨hne, .inl rfl⟩ _ _ h.kept⟩
theorem RW.drew (h : RW w1 b lg xg la xa lc xc f0 es es' V) : RW w1 b lg xg la xa lc xc f0 es es' V.drew := ⟨h.rf.drew, h.kept.drew⟩
end
set_option maxRecDepth 100000 in
set_option maxHeartbeats 40000000 in
theorem rwrite_any {b lg xg : Nat} {la xa : Option Addr} {lc xc : Nat} {f0 : Int} {es : List En} {p : Pl} {c : Nat} {v : Nat} {w : World} (h : RfAt w b lg xg la xa lc xc f0 es) (hf : Fit f0 es.length) (hfine : FineAll es) (hp : PlOk p c) (hv : v < 18446744073709551616) :
  Calls Tryz.prog 91 #[.pointer (some ⟨b, 0, none⟩), p.v, .int .u64 v] w fun e w' => e = .returned (.int .i64 ((writeV p c f0 v es).2 : Nat)) ∧ RfAfter w b lg xg la xa lc xc f0 (writeV p c f0 v es).1 w' := by
 have HF := hi hf
 have HFA := hi hfine
 have H := hi h
 have HAT := hi (fun (es' : List En) id W (hW : RfAt W b lg xg la xa lc xc f0 es') (hF : Fit f0 es'.length) => at_any (id := id) hW hF)
 have HFD := hi (fun k W hk hc => rfieldD_any v p k W hv hk hc)
 have HWI := hi (wide_pos p.r).2
 have HLN := hi (fun ks => wrL_len p f0 v es ks)
 have HFN := hi (fun ks => wrL_fine (p := p) (f0 := f0) (v := v) (ks := ks) hfine)
 have hbw := h.box.lt
 have HNB := hi (show es ≠ [] → lg < w.heap.size ∧ xg < w.heap.size from fun e => ⟨(h.ne0 e).2.2.1.lt, (h.ne0 e).2.2.2.1.lt⟩)
 obtain ⟨n, hn⟩ : ∃ n, es.length = n := ⟨_, rfl⟩
 have HN := hi hn
 have hpk := hp.cnt
 have hfew := hp.few
 have hpf0 := hp.f0
 have hpf1 := hp.f1
 have HCN := hi (fun k => Nat.le_trans (wrL_le p f0 v es (presL f0 n p.f k)) (show (presL f0 n p.f k).length ≤ k from by
  have h2 : (presL f0 n p.f k).length ≤ (List.range k).length := List.length_filter_le _ _
  rwa [List.length_range] at h2))
 unfold writeV
 rw [hn]
 clear h hf hfine hp hn
 obtain ⟨r, fp, pc⟩ := p
 dsimp only at hpk hpf0 hpf1 HCN HWI
 subst hpk
 dsimp only [Pl.v, Pl.cs] at HFD ⊢
 have HNW := hi (CB.new w 70 #[.int .i64 r, .int .i64 fp, .int .i64 c])
 have HBW := hi (bal w (.cells #[.int .i64 r, .int .i64 fp, .int .i64 c] 70))
 have HSZ := hi (show (w.alloc (.cells #[.int .i64 r, .int .i64 fp, .int .i64 c] 70)).heap.size = w.heap.size + 1 by simp)
 have HR0 := hi (show RW (w.alloc (.cells #[.int .i64 r, .int .i64 fp, .int .i64 c] 70)) b lg xg la xa lc xc f0 es (wrL ⟨r, fp, c⟩ f0 v es []).1 (w.alloc (.cells #[.int .i64 r, .int .i64 fp, .int .i64 c] 70)) from ⟨H.out.below HBW.out, Kept.refl _ _⟩)
 go_enter Tryz.func91, Tryz.ntmps91
 go_wp2
 obtain ⟨w1, hw1⟩ : ∃ w1, w.alloc (.cells #[.int .i64 r, .int .i64 fp, .int .i64 c] 70) = w1 := ⟨_, rfl⟩
 rw [hw1] at HNW HBW HSZ HR0 ⊢
 clear hw1
 go_loopw [7, 8] (fun o i wr => ∃ k : Nat, k ≤ c ∧ i = .int .i64 k ∧ o = .int .i64 ((wrL ⟨r, fp, c⟩ f0 v es (presL f0 n fp k)).2 : Nat) ∧ Hi (RW w1 b lg xg la xa lc xc f0 es (wrL ⟨r, fp, c⟩ f0 v es (presL f0 n fp k)).1 wr)) (fun _ i _ => c - (intOf i).toNat)
 case atStart => exact ⟨0, Nat.zero_le _, rfl, rfl, HR0⟩
 case round =>
  obtain ⟨k, hk, rfl, rfl, HX⟩ := hrel
  clear HR0
  have HP := hi (HNW.out.keptB HX.out.kept (fun q => by have := HNB.out q.1; omega))
  have p0' : wr.cell? ⟨w.heap.size, 0, none⟩ = some (.int .i64 r) := HP.out.cell 0
  have p1' : wr.cell? ⟨w.heap.size, 1, none⟩ = some (.int .i64 fp) := HP.out.cell 1
  have p2' : wr.cell? ⟨w.heap.size, 2, none⟩ = some (.int .i64 c) := HP.out.cell 2
  by_cases hlt : k < c
  ·have hlen1 := HLN.out (presL f0 n fp k)
   have hfin1 := HFN.out (presL f0 n fp k)
   have hcnt := HCN.out k
   have HSN := hi (wrL_snoc ⟨r, fp, c⟩ f0 v es (presL f0 n fp k) k)
   obtain ⟨q1, hq1⟩ : ∃ q1, (wrL ⟨r, fp, c⟩ f0 v es (presL f0 n fp k)).1 = q1 := ⟨_, rfl⟩
   obtain ⟨m, hm⟩ : ∃ m, (wrL ⟨r, fp, c⟩ f0 v es (presL f0 n fp k)).2 = m := ⟨_, rfl⟩
   have hwq : wrL ⟨r, fp, c⟩ f0 v es (presL f0 n fp k) = (q1, m) := by rw [← hq1, ← hm]
   rw [hwq] at HSN HX hlen1 hfin1 hcnt ⊢
   have HWQ := hi hwq
   dsimp only at hlen1 hfin1 hcnt HX ⊢
   rw [HN.out] at hlen1
   have hfit1 : Fit f0 q1.length := by rw [hlen1, ← HN.out]; exact HF.out
   have HA1 := hi (HAT.out q1 (fp + k) wr HX.out.rf hfit1)
   rw [hlen1] at HA1
   have hw : IntKind.i64.wrap (fp + k) = fp + k := by rw [IntKind.wrap_i64]; omega
   cases hin : hasB f0 n (fp + k)
   ·rw [atI_no hin] at HA1
    have HE := hi (pres_no hin)
    clear hin hq1 hm hwq hlen1 hfin1 hcnt hfit1
    go_wp2_with (go_at_call 90; ((with_reducible refine HA1.out.mono ?_); rintro e w2 ⟨rfl, rfl⟩))
    go_roundw
    case rel => exact ⟨k + 1, by omega, by go_num, by rw [HE.out, HWQ.out], by rw [HE.out, HWQ.out]; exact HX⟩
    case measure => simp only [intOf]; omega
   ·obtain ⟨hid, hjn⟩ := plc_at hin
    have HE := hi (pres_yes hin)
    obtain ⟨j, hj⟩ : ∃ j, plcK f0 fp k = j := ⟨_, rfl⟩
    have HWK := hi (show wrK ⟨r, fp, c⟩ f0 v (q1, m) k = (q1.set j ((nthE q1 j).with_ (chgV (fp + k) (nthE q1 j).ln r (fieldN (wideN r) v k))), if chgV (fp + k) (nthE q1 j).ln r (fieldN (wideN r) v k) = (nthE q1 j).ln then m else m + 1) by unfold wrK; dsimp only; rw [hj])
    rw [HWK.out] at HSN
    rw [hj] at hid hjn
    have HA2 := HA1
    rw [hid, atI_at hjn, ← hid] at HA1
    have hje : j < q1.length := by rw [hlen1]; exact hjn
    have hne : q1 ≠ [] := fun e => by rw [e] at hje; simp at hje
    have hne0 : es ≠ [] := fun e => by rw [e] at HN; have := HN.out; simp at this; omega
    have hfj : Fine (nthE q1 j).ln := hfin1.nth hje
    have HKE := hi (nthE_at hje)
    obtain ⟨rfl, hxa, hlr, _, hblg, _, _⟩ := HX.out.rf.ne0 hne
    have hb1 := HX.out.rf.box.cell 1
    rw [hlen1] at hb1
    have hlgw := (HNB.out hne0).1
    have hwsz := HX.out.kept.size
    have hw1s := HSZ.out
    obtain ⟨y, hy⟩ : ∃ y, nthE q1 j = y := ⟨_, rfl⟩
    rw [hy] at hfj HSN HKE
    have HLC := hi (hlr.lnc HKE.out)
    have hxl := fieldN_lt63 HWI.out v k
    have hfl := fieldN_lt (wideN r) v k
    have HFD1 := hi (fun W => HFD.out k W (by omega) (by simpa using hlt))
    obtain ⟨fx, hfx⟩ : ∃ fx, fieldN (wideN r) v k = fx := ⟨_, rfl⟩
    rw [hfx] at HFD1 hxl hfl HSN
    have HCH := hi (fun W => rchanged_any (fp + k) y.ln r fx W hxl)
    obtain ⟨ln2, hl2⟩ : ∃ ln2, chgV (fp + k) y.ln r fx = ln2 := ⟨_, rfl⟩
    rw [hl2] at HCH HSN
    have HEQ := hi (eqLn_iff ln2 y.ln)
    have hwm : IntKind.i64.wrap ((m : Int) + 1) = ((m + 1 : Nat) : Int) := by rw [IntKind.wrap_i64]; omega
    obtain ⟨m2, hm2⟩ : ∃ m2, m + 1 = m2 := ⟨_, rfl⟩
    rw [hm2] at hwm HSN
    have hbl := HX.out.rf.box.lt
    have hlgl := hlr.lt
    have HNE := hi hne0
    have HJE := hi hje
    clear hin hj hy hfx hq1 hm hwq hfl hl2 hm2 hlen1 hfin1 hcnt hje HWK hxl hlr hne hfj HA2 hid hne0 hfit1
    obtain ⟨⟨⟨e, lb', q, a⟩, en, gr, pr⟩, s⟩ := y
    obtain ⟨⟨ne, nl, nq, na⟩, nn, ng, np⟩ := ln2
    dsimp only [Ln.v] at HCH
    dsimp only [En.with_] at HSN HEQ
    dsimp only at HLC HCH HEQ
    have HDEC := hi (show eqLn ne nl nq na nn ng np e lb' q a en gr pr = decide ((⟨⟨ne, nl, nq, na⟩, nn, ng, np⟩ : Ln) = ⟨⟨e, lb', q, a⟩, en, gr, pr⟩) from HEQ.out)
    clear HEQ
    go_wp2_with (go_at_call 90; ((with_reducible refine HA1.out.mono ?_); rintro e' w2 ⟨rfl, rfl⟩))
    have hS0 : (fun W' => CB W' w.heap.size 70 #[.int .i64 r, .int .i64 fp, .int .i64 c] ∧ W'.cell? ⟨b, 1, none⟩ = some (.slice (some ⟨lg, 0, none⟩) n lc) ∧ LnC W' lg (j * 7) ⟨⟨e, lb', q, a⟩, en, gr, pr⟩ ∧ b < W'.heap.size ∧ lg < W'.heap.size) wr.drew := ⟨HP.out.drew, hb1, HLC.out.drew, hbl, hlgl⟩
    obtain ⟨V2d, hV2d⟩ : ∃ V2d, wr.drew = V2d := ⟨_, rfl⟩
    have HBD := hi (show Below wr.heap.size wr V2d by rw [← hV2d]; exact Below.drewN (m := 1) (Below.refl _ _))
    have hsz3 := hi (show V2d.heap.size = wr.heap.size by rw [← hV2d]; rfl)
    clear p0' p1' p2'
    refine wp_region_noPanic ?_
    refine wp_region_last_drew (S := (fun W' => CB W' w.heap.size 70 #[.int .i64 r, .int .i64 fp, .int .i64 c] ∧ W'.cell? ⟨b, 1, none⟩ = some (.slice (some ⟨lg, 0, none⟩) n lc) ∧ LnC W' lg (j * 7) ⟨⟨e, lb', q, a⟩, en, gr, pr⟩ ∧ b < W'.heap.size ∧ lg < W'.heap.size)) [19] (by kernel_rfl) hS0 (fun hHeld => ?_)
    have HS2 := hi hHeld
    have HB2 := HBD
    rw [hV2d] at HS2 hHeld ⊢
    obtain ⟨V2, rfl⟩ : ∃ V2', V2' = V2d := ⟨_, rfl⟩
    (try simp only [r1, r2, r3, r4, r5])
    refine tk 0 (v := ?_) rfl (Or.inl ⟨by rfl, ?_⟩) ?_
    rotate_left
    ·intro w' hSw; (try dsimp only at hSw); obtain ⟨hs1, hs2, hs3, _, _⟩ := hSw; have k0 := hs1.cell 0; have k1 := hs1.cell 1; have k2 := hs1.cell 2; obtain ⟨d0, d1, d2, d3, d4, d5, d6⟩ := hs3; dsimp only at d0 d1 d2 d3 d4 d5 d6; go_simp; (try with_reducible rfl)
    (try simp only [Act.put, n1, n2, n4, n5, n6])
    refine tk 1 (v := ?_) rfl (Or.inl ⟨by rfl, ?_⟩) ?_
    rotate_left
    ·intro w' hSw; (try dsimp only at hSw); obtain ⟨hs1, hs2, hs3, _, _⟩ := hSw; have k0 := hs1.cell 0; have k1 := hs1.cell 1; have k2 := hs1.cell 2; obtain ⟨d0, d1, d2, d3, d4, d5, d6⟩ := hs3; dsimp only at d0 d1 d2 d3 d4 d5 d6; go_simp; (try with_reducible rfl)
    (try simp only [Act.put, n1, n2, n3, n4, n5, n6])
    refine tk 2 (v := ?_) rfl (Or.inl ⟨by rfl, ?_⟩) ?_
    rotate_left
    ·intro w' hSw; (try dsimp only at hSw); obtain ⟨hs1, hs2, hs3, _, _⟩ := hSw; have k0 := hs1.cell 0; have k1 := hs1.cell 1; have k2 := hs1.cell 2; obtain ⟨d0, d1, d2, d3, d4, d5, d6⟩ := hs3; dsimp only at d0 d1 d2 d3 d4 d5 d6; go_simp; (try with_reducible rfl)
    (try simp only [Act.put, n1, n2, n3, n4, n5, n6])
    refine tk 3 (v := ?_) rfl (Or.inl ⟨by rfl, ?_⟩) ?_
    rotate_left
    ·intro w' hSw; (try dsimp only at hSw); obtain ⟨hs1, hs2, hs3, _, _⟩ := hSw; have k0 := hs1.cell 0; have k1 := hs1.cell 1; have k2 := hs1.cell 2; obtain ⟨d0, d1, d2, d3, d4, d5, d6⟩ := hs3; dsimp only at d0 d1 d2 d3 d4 d5 d6; go_simp; (try with_reducible rfl)
    (try simp only [Act.put, n1, n2, n3, n4, n5, n6])
    refine tk 4 (v := ?_) rfl (Or.inl ⟨by rfl, ?_⟩) ?_
    rotate_left
    ·intro w' hSw; (try dsimp only at hSw); obtain ⟨hs1, hs2, hs3, _, _⟩ := hSw; have k0 := hs1.cell 0; have k1 := hs1.cell 1; have k2 := hs1.cell 2; obtain ⟨d0, d1, d2, d3, d4, d5, d6⟩ := hs3; dsimp only at d0 d1 d2 d3 d4 d5 d6; go_simp; (try with_reducible rfl)
    (try simp only [Act.put, n1, n2, n3, n4, n5, n6])
    refine tk 5 (v := ?_) rfl (Or.inl ⟨by rfl, ?_⟩) ?_
    rotate_left
    ·intro w' hSw; (try dsimp only at hSw); obtain ⟨hs1, hs2, hs3, _, _⟩ := hSw; have k0 := hs1.cell 0; have k1 := hs1.cell 1; have k2 := hs1.cell 2; obtain ⟨d0, d1, d2, d3, d4, d5, d6⟩ := hs3; dsimp only at d0 d1 d2 d3 d4 d5 d6; go_simp; (try with_reducible rfl)
    (try simp only [Act.put, n1, n2, n3, n4, n5, n6])
    refine tk 6 (v := ?_) rfl (Or.inl ⟨by rfl, ?_⟩) ?_
    rotate_left
    ·intro w' hSw; (try dsimp only at hSw); obtain ⟨hs1, hs2, hs3, _, _⟩ := hSw; have k0 := hs1.cell 0; have k1 := hs1.cell 1; have k2 := hs1.cell 2; obtain ⟨d0, d1, d2, d3, d4, d5, d6⟩ := hs3; dsimp only at d0 d1 d2 d3 d4 d5 d6; go_simp; (try with_reducible rfl)
    (try simp only [Act.put, n1, n2, n3, n4, n5, n6])
    refine tk 7 (v := ?_) rfl (Or.inl ⟨by rfl, ?_⟩) ?_
    rotate_left
    ·intro w' hSw; (try dsimp only at hSw); obtain ⟨hs1, hs2, hs3, _, _⟩ := hSw; have k0 := hs1.cell 0; have k1 := hs1.cell 1; have k2 := hs1.cell 2; obtain ⟨d0, d1, d2, d3, d4, d5, d6⟩ := hs3; dsimp only at d0 d1 d2 d3 d4 d5 d6; go_simp; (try with_reducible rfl)
    (try simp only [Act.put, n1, n2, n3, n4, n5, n6])
    refine tk 8 (v := ?_) rfl (Or.inl ⟨by rfl, ?_⟩) ?_
    rotate_left
    ·intro w' hSw; (try dsimp only at hSw); obtain ⟨hs1, hs2, hs3, _, _⟩ := hSw; have k0 := hs1.cell 0; have k1 := hs1.cell 1; have k2 := hs1.cell 2; obtain ⟨d0, d1, d2, d3, d4, d5, d6⟩ := hs3; dsimp only at d0 d1 d2 d3 d4 d5 d6; go_simp; (try with_reducible rfl)
    (try simp only [Act.put, n1, n2, n3, n4, n5, n6])
    refine tk 9 (v := ?_) rfl (Or.inl ⟨by rfl, ?_⟩) ?_
    rotate_left
    ·intro w' hSw; (try dsimp only at hSw); obtain ⟨hs1, hs2, hs3, _, _⟩ := hSw; have k0 := hs1.cell 0; have k1 := hs1.cell 1; have k2 := hs1.cell 2; obtain ⟨d0, d1, d2, d3, d4, d5, d6⟩ := hs3; dsimp only at d0 d1 d2 d3 d4 d5 d6; go_simp; (try with_reducible rfl)
    (try simp only [Act.put, n1, n2, n3, n4, n5, n6])
    refine tk 10 (v := ?_) rfl (Or.inl ⟨by rfl, ?_⟩) ?_
    rotate_left
    ·intro w' hSw; (try dsimp only at hSw); obtain ⟨hs1, hs2, hs3, _, _⟩ := hSw; have k0 := hs1.cell 0; have k1 := hs1.cell 1; have k2 := hs1.cell 2; obtain ⟨d0, d1, d2, d3, d4, d5, d6⟩ := hs3; dsimp only at d0 d1 d2 d3 d4 d5 d6; go_simp; (try with_reducible rfl)
    (try simp only [Act.put, n1, n2, n3, n4, n5, n6])
    refine tk 11 (v := ?_) rfl (Or.inl ⟨by rfl, ?_⟩) ?_
    rotate_left
    ·intro w' hSw; (try dsimp only at hSw); obtain ⟨hs1, hs2, hs3, _, _⟩ := hSw; have k0 := hs1.cell 0; have k1 := hs1.cell 1; have k2 := hs1.cell 2; obtain ⟨d0, d1, d2, d3, d4, d5, d6⟩ := hs3; dsimp only at d0 d1 d2 d3 d4 d5 d6; go_simp; (try with_reducible rfl)
    (try simp only [Act.put, n1, n2, n3, n4, n5, n6])
    refine tk 12 (v := ?_) rfl (Or.inl ⟨by rfl, ?_⟩) ?_
    rotate_left
    ·intro w' hSw; (try dsimp only at hSw); obtain ⟨hs1, hs2, hs3, _, _⟩ := hSw; have k0 := hs1.cell 0; have k1 := hs1.cell 1; have k2 := hs1.cell 2; obtain ⟨d0, d1, d2, d3, d4, d5, d6⟩ := hs3; dsimp only at d0 d1 d2 d3 d4 d5 d6; go_simp; (try with_reducible rfl)
    (try simp only [Act.put, n1, n2, n3, n4, n5, n6])
    refine tk 13 (v := ?_) rfl (Or.inl ⟨by rfl, ?_⟩) ?_
    rotate_left
    ·intro w' hSw; (try dsimp only at hSw); obtain ⟨hs1, hs2, hs3, _, _⟩ := hSw; have k0 := hs1.cell 0; have k1 := hs1.cell 1; have k2 := hs1.cell 2; obtain ⟨d0, d1, d2, d3, d4, d5, d6⟩ := hs3; dsimp only at d0 d1 d2 d3 d4 d5 d6; go_simp; (try with_reducible rfl)
    (try simp only [Act.put, n1, n2, n3, n4, n5, n6])
    refine tk 14 (v := ?_) rfl (Or.inl ⟨by rfl, ?_⟩) ?_
    rotate_left
    ·intro w' hSw; (try dsimp only at hSw); obtain ⟨hs1, hs2, hs3, _, _⟩ := hSw; have k0 := hs1.cell 0; have k1 := hs1.cell 1; have k2 := hs1.cell 2; obtain ⟨d0, d1, d2, d3, d4, d5, d6⟩ := hs3; dsimp only at d0 d1 d2 d3 d4 d5 d6; go_simp; (try with_reducible rfl)
    (try simp only [Act.put, n1, n2, n3, n4, n5, n6])
    refine tk 15 (v := ?_) rfl (Or.inl ⟨by rfl, ?_⟩) ?_
    rotate_left
    ·intro w' hSw; (try dsimp only at hSw); obtain ⟨hs1, hs2, hs3, _, _⟩ := hSw; have k0 := hs1.cell 0; have k1 := hs1.cell 1; have k2 := hs1.cell 2; obtain ⟨d0, d1, d2, d3, d4, d5, d6⟩ := hs3; dsimp only at d0 d1 d2 d3 d4 d5 d6; go_simp; (try with_reducible rfl)
    (try simp only [Act.put, n1, n2, n3, n4, n5, n6])
    refine wpAnyF_ready (rs := [16, 18]) (by kernel_rfl) (by simp) ?_
    refine (AllReadyF.cons rfl (fun KK hKK => ?_) (AllReadyF.cons rfl (fun KK hKK => ?_) AllReadyF.nil))
    ·go_simp
     ((with_reducible refine (HFD1.out _).mono ?_); rintro e' V3a ⟨rfl, hb⟩; have HS3a := hi (And.intro (HS2.out.1.below hb) (And.intro ((hb.cell (p := ⟨b, 1, none⟩) HS2.out.2.2.2.1).trans HS2.out.2.1) (And.intro (HS2.out.2.2.1.below HS2.out.2.2.2.2 hb) (And.intro (Nat.lt_of_lt_of_le HS2.out.2.2.2.1 hb.size) (Nat.lt_of_lt_of_le HS2.out.2.2.2.2 hb.size))))); have HB3a := hi (HB2.out.trans (hb.mono HB2.out.size)); have hz3a := hb.size; clear hb)
     (try go_simp)
     refine hKK.out _ _ HS3a.out (fun hHeld => ?_)
     clear hKK KK
     (try simp only [Act.put, n1, n2, n3, n4, n5, n6])
     refine wpAnyF_ready (rs := [17, 18]) (by kernel_rfl) (by simp) ?_
     refine (AllReadyF.cons rfl (fun KK hKK => ?_) (AllReadyF.cons rfl (fun KK hKK => ?_) AllReadyF.nil))
     ·go_simp
      ((with_reducible refine (HCH.out _).mono ?_); rintro e' V4a ⟨rfl, hb⟩; have HS4a := hi (And.intro (HS3a.out.1.below hb) (And.intro ((hb.cell (p := ⟨b, 1, none⟩) HS3a.out.2.2.2.1).trans HS3a.out.2.1) (And.intro (HS3a.out.2.2.1.below HS3a.out.2.2.2.2 hb) (And.intro (Nat.lt_of_lt_of_le HS3a.out.2.2.2.1 hb.size) (Nat.lt_of_lt_of_le HS3a.out.2.2.2.2 hb.size))))); have HB4a := hi (HB3a.out.trans (hb.mono HB3a.out.size)); have hz4a := hb.size; clear hb)
      (try go_simp)
      refine hKK.out _ _ HS4a.out (fun hHeld => ?_)
      clear hKK KK
      (try simp only [Act.put, n1, n2, n3, n4, n5, n6])
      refine wpAnyF_ready (rs := [18]) (by kernel_rfl) (by simp) ?_
      refine AllReadyF.cons rfl (fun KK hKK => ?_) AllReadyF.nil
      go_simp
      have hb5a := bal V4a (.cells #[.bool false, .bool false, .bool false, .bool false, .bool false, .int .i64 0, .int .i64 0] 58)
      have HS5a := hi (And.intro (HS4a.out.1.below hb5a) (And.intro ((hb5a.cell (p := ⟨b, 1, none⟩) HS4a.out.2.2.2.1).trans HS4a.out.2.1) (And.intro (HS4a.out.2.2.1.below HS4a.out.2.2.2.2 hb5a) (And.intro (Nat.lt_of_lt_of_le HS4a.out.2.2.2.1 hb5a.size) (Nat.lt_of_lt_of_le HS4a.out.2.2.2.2 hb5a.size))))); have HB5a := hi (HB4a.out.trans (hb5a.mono HB4a.out.size)); have hz5a := hb5a.size
      have HZ5a := hi (CB.new V4a 58 #[.bool false, .bool false, .bool false, .bool false, .bool false, .int .i64 0, .int .i64 0])
      obtain ⟨V5a, hV5a⟩ : ∃ V5a, V4a.alloc (.cells #[.bool false, .bool false, .bool false, .bool false, .bool false, .int .i64 0, .int .i64 0] 58) = V5a := ⟨_, rfl⟩
      rw [hV5a] at hb5a HS5a HB5a hz5a HZ5a ⊢
      obtain ⟨N, hN⟩ : ∃ N, V4a.heap.size = N := ⟨_, rfl⟩
      rw [hN] at HZ5a ⊢
      clear hV5a hb5a
      refine hKK.out _ _ HS5a.out (fun hHeld => ?_)
      clear hKK KK
      (try simp only [Act.put, n1, n2, n3, n4, n5, n6])
      refine wpAnyF_ready (rs := [19]) (by kernel_rfl) (by simp) ?_
      refine AllReadyF.last (by kernel_rfl) rfl (fun KK hKK => ?_) AllReadyF.nil
      obtain ⟨z0, z1, z2, z3, z4, z5, z6⟩ := CB.cells7 (l := Ln.zero) HZ5a.out
      have fz := HZ5a.out.frozen
      dsimp only [Ln.zero, St.zero] at z0 z1 z2 z3 z4 z5 z6
      go_simp
      have HSE := HS5a
      have HBE := HB5a
      have HZE := HZ5a
      obtain ⟨VE, hVE⟩ : ∃ VE, V5a = VE := ⟨_, rfl⟩
      have hNE : wr.heap.size ≤ N := by have := hsz3.out; omega
      rw [hVE] at HSE HBE HZE ⊢
      refine hKK.out _ _ ?_
      clear hKK KK
      (try simp only [Act.put, n1, n2, n3, n4, n5, n6])
      refine wpAnyF_done (by kernel_rfl) ?_ _
      refine NoPanic.normal ?_
      have HNL := hi (CB.putL (y := Ln.zero) HZE.out ⟨⟨ne, nl, nq, na⟩, nn, ng, np⟩)
      have HBL := hi (show Below wr.heap.size wr (setL VE N 0 ⟨⟨ne, nl, nq, na⟩, nn, ng, np⟩) from below_putL HBE.out (by omega) _)
      dsimp only [setL] at HNL HBL
      simp only [Nat.zero_add] at HNL HBL
      obtain ⟨V6, hV6⟩ : ∃ V6, ((((((VE.setCell ⟨N, 0, none⟩ (.bool ne)).setCell ⟨N, 1, none⟩ (.bool nl)).setCell ⟨N, 2, none⟩ (.bool nq)).setCell ⟨N, 3, none⟩ (.bool na)).setCell ⟨N, 4, none⟩ (.bool nn)).setCell ⟨N, 5, none⟩ (.int .i64 ng)).setCell ⟨N, 6, none⟩ (.int .i64 np) = V6 := ⟨_, rfl⟩
      simp only [hV6] at HNL HBL
      try rw [hV6]
      have HW6 := hi (HX.out.later HBL.out)
      have hb6 : V6.cell? ⟨b, 1, none⟩ = some (.slice (some ⟨lg, 0, none⟩) n lc) := (HBL.out.cell (p := ⟨b, 1, none⟩) hbl).trans hb1
      have HTH := hi (show V6.drew.drew.there lg (j * 7) 7 from ((HW6.out.drew.drew.rf.ne0 (fun e => by have := HJE.out; rw [e] at this; simp at this)).2.2.1.lnThere HJE.out))
      have HS8 := hi (And.intro HNL.out.drew (And.intro hb6 ((HLC.out.below hlgl HBL.out).drew)))
      clear hV6 hV2d hHeld HSE HBE HZE hNE hN hVE hS0
      go_wp2
      refine wp_region_noPanic ?_
      refine wp_region_last_drew (S := (fun W' => CB W' N 58 #[.bool ne, .bool nl, .bool nq, .bool na, .bool nn, .int .i64 ng, .int .i64 np] ∧ W'.cell? ⟨b, 1, none⟩ = some (.slice (some ⟨lg, 0, none⟩) n lc) ∧ LnC W' lg (j * 7) ⟨⟨e, lb', q, a⟩, en, gr, pr⟩)) [] (by kernel_rfl) HS8.out (fun hHeld => ?_)
      (try simp only [r1, r2, r3, r4, r5])
      refine tk 0 (v := ?_) rfl (Or.inl ⟨by rfl, ?_⟩) ?_
      rotate_left
      ·intro w' hSw; (try dsimp only at hSw); obtain ⟨hs1, hs2, hs3⟩ := hSw; obtain ⟨k0, k1, k2, k3, k4, k5, k6⟩ := CB.cells7 (l := ⟨⟨ne, nl, nq, na⟩, nn, ng, np⟩) hs1; obtain ⟨d0, d1, d2, d3, d4, d5, d6⟩ := hs3; dsimp only at k0 k1 k2 k3 k4 k5 k6 d0 d1 d2 d3 d4 d5 d6; go_simp; (try with_reducible rfl)
      (try simp only [Act.put, n1, n2, n4, n5, n6])
      refine tk 1 (v := ?_) rfl (Or.inl ⟨by rfl, ?_⟩) ?_
      rotate_left
      ·intro w' hSw; (try dsimp only at hSw); obtain ⟨hs1, hs2, hs3⟩ := hSw; obtain ⟨k0, k1, k2, k3, k4, k5, k6⟩ := CB.cells7 (l := ⟨⟨ne, nl, nq, na⟩, nn, ng, np⟩) hs1; obtain ⟨d0, d1, d2, d3, d4, d5, d6⟩ := hs3; dsimp only at k0 k1 k2 k3 k4 k5 k6 d0 d1 d2 d3 d4 d5 d6; go_simp; (try with_reducible rfl)
      (try simp only [Act.put, n1, n2, n3, n4, n5, n6])
      refine tk 2 (v := ?_) rfl (Or.inl ⟨by rfl, ?_⟩) ?_
      rotate_left
      ·intro w' hSw; (try dsimp only at hSw); obtain ⟨hs1, hs2, hs3⟩ := hSw; obtain ⟨k0, k1, k2, k3, k4, k5, k6⟩ := CB.cells7 (l := ⟨⟨ne, nl, nq, na⟩, nn, ng, np⟩) hs1; obtain ⟨d0, d1, d2, d3, d4, d5, d6⟩ := hs3; dsimp only at k0 k1 k2 k3 k4 k5 k6 d0 d1 d2 d3 d4 d5 d6; go_simp; (try with_reducible rfl)
      (try simp only [Act.put, n1, n2, n3, n4, n5, n6])
      refine tk 3 (v := ?_) rfl (Or.inl ⟨by rfl, ?_⟩) ?_
      rotate_left
      ·intro w' hSw; (try dsimp only at hSw); obtain ⟨hs1, hs2, hs3⟩ := hSw; obtain ⟨k0, k1, k2, k3, k4, k5, k6⟩ := CB.cells7 (l := ⟨⟨ne, nl, nq, na⟩, nn, ng, np⟩) hs1; obtain ⟨d0, d1, d2, d3, d4, d5, d6⟩ := hs3; dsimp only at k0 k1 k2 k3 k4 k5 k6 d0 d1 d2 d3 d4 d5 d6; go_simp; (try with_reducible rfl)
      (try simp only [Act.put, n1, n2, n3, n4, n5, n6])
      refine tk 4 (v := ?_) rfl (Or.inl ⟨by rfl, ?_⟩) ?_
      rotate_left
      ·intro w' hSw; (try dsimp only at hSw); obtain ⟨hs1, hs2, hs3⟩ := hSw; obtain ⟨k0, k1, k2, k3, k4, k5, k6⟩ := CB.cells7 (l := ⟨⟨ne, nl, nq, na⟩, nn, ng, np⟩) hs1; obtain ⟨d0, d1, d2, d3, d4, d5, d6⟩ := hs3; dsimp only at k0 k1 k2 k3 k4 k5 k6 d0 d1 d2 d3 d4 d5 d6; go_simp; (try with_reducible rfl)
      (try simp only [Act.put, n1, n2, n3, n4, n5, n6])
      refine tk 5 (v := ?_) rfl (Or.inl ⟨by rfl, ?_⟩) ?_
      rotate_left
      ·intro w' hSw; (try dsimp only at hSw); obtain ⟨hs1, hs2, hs3⟩ := hSw; obtain ⟨k0, k1, k2, k3, k4, k5, k6⟩ := CB.cells7 (l := ⟨⟨ne, nl, nq, na⟩, nn, ng, np⟩) hs1; obtain ⟨d0, d1, d2, d3, d4, d5, d6⟩ := hs3; dsimp only at k0 k1 k2 k3 k4 k5 k6 d0 d1 d2 d3 d4 d5 d6; go_simp; (try with_reducible rfl)
      (try simp only [Act.put, n1, n2, n3, n4, n5, n6])
      refine tk 6 (v := ?_) rfl (Or.inl ⟨by rfl, ?_⟩) ?_
      rotate_left
      ·intro w' hSw; (try dsimp only at hSw); obtain ⟨hs1, hs2, hs3⟩ := hSw; obtain ⟨k0, k1, k2, k3, k4, k5, k6⟩ := CB.cells7 (l := ⟨⟨ne, nl, nq, na⟩, nn, ng, np⟩) hs1; obtain ⟨d0, d1, d2, d3, d4, d5, d6⟩ := hs3; dsimp only at k0 k1 k2 k3 k4 k5 k6 d0 d1 d2 d3 d4 d5 d6; go_simp; (try with_reducible rfl)
      (try simp only [Act.put, n1, n2, n3, n4, n5, n6])
      refine tk 7 (v := ?_) rfl (Or.inl ⟨by rfl, ?_⟩) ?_
      rotate_left
      ·intro w' hSw; (try dsimp only at hSw); obtain ⟨hs1, hs2, hs3⟩ := hSw; obtain ⟨k0, k1, k2, k3, k4, k5, k6⟩ := CB.cells7 (l := ⟨⟨ne, nl, nq, na⟩, nn, ng, np⟩) hs1; obtain ⟨d0, d1, d2, d3, d4, d5, d6⟩ := hs3; dsimp only at k0 k1 k2 k3 k4 k5 k6 d0 d1 d2 d3 d4 d5 d6; go_simp; (try with_reducible rfl)
      (try simp only [Act.put, n1, n2, n3, n4, n5, n6])
      refine tk 8 (v := ?_) rfl (Or.inl ⟨by rfl, ?_⟩) ?_
      rotate_left
      ·intro w' hSw; (try dsimp only at hSw); obtain ⟨hs1, hs2, hs3⟩ := hSw; obtain ⟨k0, k1, k2, k3, k4, k5, k6⟩ := CB.cells7 (l := ⟨⟨ne, nl, nq, na⟩, nn, ng, np⟩) hs1; obtain ⟨d0, d1, d2, d3, d4, d5, d6⟩ := hs3; dsimp only at k0 k1 k2 k3 k4 k5 k6 d0 d1 d2 d3 d4 d5 d6; go_simp; (try with_reducible rfl)
      (try simp only [Act.put, n1, n2, n3, n4, n5, n6])
      refine wpAnyF_done (by kernel_rfl) ?_ _
      refine NoPanic.normal ?_
      clear HS8 hHeld
      by_cases heq : (⟨⟨ne, nl, nq, na⟩, nn, ng, np⟩ : Ln) = ⟨⟨e, lb', q, a⟩, en, gr, pr⟩
      ·rw [if_pos heq] at HSN
       have hd : eqLn ne nl nq na nn ng np e lb' q a en gr pr = true := by rw [HDEC.out]; exact decide_eq_true heq
       rw [hd]
       simp only [Bool.not_true]
       clear HDEC heq hd
       go_wp2
       have HS10 := hi (And.intro HNL.out.drew.drew hb6)
       refine wp_region_noPanic ?_
       refine wp_region_last_drew (S := (fun W' => CB W' N 58 #[.bool ne, .bool nl, .bool nq, .bool na, .bool nn, .int .i64 ng, .int .i64 np] ∧ W'.cell? ⟨b, 1, none⟩ = some (.slice (some ⟨lg, 0, none⟩) n lc))) [7] (by kernel_rfl) HS10.out (fun hHeld => ?_)
       (try simp only [r1, r2, r3, r4, r5])
       refine tk 0 (v := ?_) rfl (Or.inl ⟨by rfl, ?_⟩) ?_
       rotate_left
       ·intro w' hSw; (try dsimp only at hSw); obtain ⟨hs1, hs2⟩ := hSw; obtain ⟨k0, k1, k2, k3, k4, k5, k6⟩ := CB.cells7 (l := ⟨⟨ne, nl, nq, na⟩, nn, ng, np⟩) hs1; dsimp only at k0 k1 k2 k3 k4 k5 k6; go_simp; (try with_reducible rfl)
       (try simp only [Act.put, n1, n2, n4, n5, n6])
       refine tk 1 (v := ?_) rfl (Or.inl ⟨by rfl, ?_⟩) ?_
       rotate_left
       ·intro w' hSw; (try dsimp only at hSw); obtain ⟨hs1, hs2⟩ := hSw; obtain ⟨k0, k1, k2, k3, k4, k5, k6⟩ := CB.cells7 (l := ⟨⟨ne, nl, nq, na⟩, nn, ng, np⟩) hs1; dsimp only at k0 k1 k2 k3 k4 k5 k6; go_simp; (try with_reducible rfl)
       (try simp only [Act.put, n1, n2, n3, n4, n5, n6])
       refine tk 2 (v := ?_) rfl (Or.inl ⟨by rfl, ?_⟩) ?_
       rotate_left
       ·intro w' hSw; (try dsimp only at hSw); obtain ⟨hs1, hs2⟩ := hSw; obtain ⟨k0, k1, k2, k3, k4, k5, k6⟩ := CB.cells7 (l := ⟨⟨ne, nl, nq, na⟩, nn, ng, np⟩) hs1; dsimp only at k0 k1 k2 k3 k4 k5 k6; go_simp; (try with_reducible rfl)
       (try simp only [Act.put, n1, n2, n3, n4, n5, n6])
       refine tk 3 (v := ?_) rfl (Or.inl ⟨by rfl, ?_⟩) ?_
       rotate_left
       ·intro w' hSw; (try dsimp only at hSw); obtain ⟨hs1, hs2⟩ := hSw; obtain ⟨k0, k1, k2, k3, k4, k5, k6⟩ := CB.cells7 (l := ⟨⟨ne, nl, nq, na⟩, nn, ng, np⟩) hs1; dsimp only at k0 k1 k2 k3 k4 k5 k6; go_simp; (try with_reducible rfl)
       (try simp only [Act.put, n1, n2, n3, n4, n5, n6])
       refine tk 4 (v := ?_) rfl (Or.inl ⟨by rfl, ?_⟩) ?_
       rotate_left
       ·intro w' hSw; (try dsimp only at hSw); obtain ⟨hs1, hs2⟩ := hSw; obtain ⟨k0, k1, k2, k3, k4, k5, k6⟩ := CB.cells7 (l := ⟨⟨ne, nl, nq, na⟩, nn, ng, np⟩) hs1; dsimp only at k0 k1 k2 k3 k4 k5 k6; go_simp; (try with_reducible rfl)
       (try simp only [Act.put, n1, n2, n3, n4, n5, n6])
       refine tk 5 (v := ?_) rfl (Or.inl ⟨by rfl, ?_⟩) ?_
       rotate_left
       ·intro w' hSw; (try dsimp only at hSw); obtain ⟨hs1, hs2⟩ := hSw; obtain ⟨k0, k1, k2, k3, k4, k5, k6⟩ := CB.cells7 (l := ⟨⟨ne, nl, nq, na⟩, nn, ng, np⟩) hs1; dsimp only at k0 k1 k2 k3 k4 k5 k6; go_simp; (try with_reducible rfl)
       (try simp only [Act.put, n1, n2, n3, n4, n5, n6])
       refine tk 6 (v := ?_) rfl (Or.inl ⟨by rfl, ?_⟩) ?_
       rotate_left
       ·intro w' hSw; (try dsimp only at hSw); obtain ⟨hs1, hs2⟩ := hSw; obtain ⟨k0, k1, k2, k3, k4, k5, k6⟩ := CB.cells7 (l := ⟨⟨ne, nl, nq, na⟩, nn, ng, np⟩) hs1; dsimp only at k0 k1 k2 k3 k4 k5 k6; go_simp; (try with_reducible rfl)
       (try simp only [Act.put, n1, n2, n3, n4, n5, n6])
       refine wpAnyF_ready (rs := [7]) (by kernel_rfl) (by simp) ?_
       refine AllReadyF.last (by kernel_rfl) rfl (fun KK hKK => ?_) AllReadyF.nil
       rw [if_pos (by rfl)]
       refine wp_store_mid 58 (.tmp 60) (.tmp 59) rfl lg (j * 7) #[.bool ne, .bool nl, .bool nq, .bool na, .bool nn, .int .i64 ng, .int .i64 np] rfl rfl HTH.out size_ln (by simp [Value.oneCell']) ?_
       simp only
       refine hKK.out _ _ ?_
       clear hKK KK
       (try simp only [Act.put, List.getElem_toArray, List.getElem_cons_zero, List.getElem_cons_succ])
       refine wpAnyF_done (by kernel_rfl) ?_ _
       refine NoPanic.normal ?_
       have HR9 := hi (HW6.out.drew.drew.setLn HKE.out HNE.out ⟨⟨ne, nl, nq, na⟩, nn, ng, np⟩)
       go_wp2
       go_roundw
       case rel =>
        refine ⟨k + 1, by omega, by go_num, by rw [HE.out, HSN.out], ?_⟩
        rw [HE.out, HSN.out]
        exact HR9
       case measure => simp only [intOf]; omega
      ·rw [if_neg heq] at HSN
       have hd : eqLn ne nl nq na nn ng np e lb' q a en gr pr = false := by rw [HDEC.out]; exact decide_eq_false heq
       rw [hd]
       simp only [Bool.not_false]
       clear HDEC heq hd
       go_wp2
       have HS10 := hi (And.intro HNL.out.drew.drew hb6)
       refine wp_region_noPanic ?_
       refine wp_region_last_drew (S := (fun W' => CB W' N 58 #[.bool ne, .bool nl, .bool nq, .bool na, .bool nn, .int .i64 ng, .int .i64 np] ∧ W'.cell? ⟨b, 1, none⟩ = some (.slice (some ⟨lg, 0, none⟩) n lc))) [7] (by kernel_rfl) HS10.out (fun hHeld => ?_)
       (try simp only [r1, r2, r3, r4, r5])
       refine tk 0 (v := ?_) rfl (Or.inl ⟨by rfl, ?_⟩) ?_
       rotate_left
       ·intro w' hSw; (try dsimp only at hSw); obtain ⟨hs1, hs2⟩ := hSw; obtain ⟨k0, k1, k2, k3, k4, k5, k6⟩ := CB.cells7 (l := ⟨⟨ne, nl, nq, na⟩, nn, ng, np⟩) hs1; dsimp only at k0 k1 k2 k3 k4 k5 k6; go_simp; (try with_reducible rfl)
       (try simp only [Act.put, n1, n2, n4, n5, n6])
       refine tk 1 (v := ?_) rfl (Or.inl ⟨by rfl, ?_⟩) ?_
       rotate_left
       ·intro w' hSw; (try dsimp only at hSw); obtain ⟨hs1, hs2⟩ := hSw; obtain ⟨k0, k1, k2, k3, k4, k5, k6⟩ := CB.cells7 (l := ⟨⟨ne, nl, nq, na⟩, nn, ng, np⟩) hs1; dsimp only at k0 k1 k2 k3 k4 k5 k6; go_simp; (try with_reducible rfl)
       (try simp only [Act.put, n1, n2, n3, n4, n5, n6])
       refine tk 2 (v := ?_) rfl (Or.inl ⟨by rfl, ?_⟩) ?_
       rotate_left
       ·intro w' hSw; (try dsimp only at hSw); obtain ⟨hs1, hs2⟩ := hSw; obtain ⟨k0, k1, k2, k3, k4, k5, k6⟩ := CB.cells7 (l := ⟨⟨ne, nl, nq, na⟩, nn, ng, np⟩) hs1; dsimp only at k0 k1 k2 k3 k4 k5 k6; go_simp; (try with_reducible rfl)
       (try simp only [Act.put, n1, n2, n3, n4, n5, n6])
       refine tk 3 (v := ?_) rfl (Or.inl ⟨by rfl, ?_⟩) ?_
       rotate_left
       ·intro w' hSw; (try dsimp only at hSw); obtain ⟨hs1, hs2⟩ := hSw; obtain ⟨k0, k1, k2, k3, k4, k5, k6⟩ := CB.cells7 (l := ⟨⟨ne, nl, nq, na⟩, nn, ng, np⟩) hs1; dsimp only at k0 k1 k2 k3 k4 k5 k6; go_simp; (try with_reducible rfl)
       (try simp only [Act.put, n1, n2, n3, n4, n5, n6])
       refine tk 4 (v := ?_) rfl (Or.inl ⟨by rfl, ?_⟩) ?_
       rotate_left
       ·intro w' hSw; (try dsimp only at hSw); obtain ⟨hs1, hs2⟩ := hSw; obtain ⟨k0, k1, k2, k3, k4, k5, k6⟩ := CB.cells7 (l := ⟨⟨ne, nl, nq, na⟩, nn, ng, np⟩) hs1; dsimp only at k0 k1 k2 k3 k4 k5 k6; go_simp; (try with_reducible rfl)
       (try simp only [Act.put, n1, n2, n3, n4, n5, n6])
       refine tk 5 (v := ?_) rfl (Or.inl ⟨by rfl, ?_⟩) ?_
       rotate_left
       ·intro w' hSw; (try dsimp only at hSw); obtain ⟨hs1, hs2⟩ := hSw; obtain ⟨k0, k1, k2, k3, k4, k5, k6⟩ := CB.cells7 (l := ⟨⟨ne, nl, nq, na⟩, nn, ng, np⟩) hs1; dsimp only at k0 k1 k2 k3 k4 k5 k6; go_simp; (try with_reducible rfl)
       (try simp only [Act.put, n1, n2, n3, n4, n5, n6])
       refine tk 6 (v := ?_) rfl (Or.inl ⟨by rfl, ?_⟩) ?_
       rotate_left
       ·intro w' hSw; (try dsimp only at hSw); obtain ⟨hs1, hs2⟩ := hSw; obtain ⟨k0, k1, k2, k3, k4, k5, k6⟩ := CB.cells7 (l := ⟨⟨ne, nl, nq, na⟩, nn, ng, np⟩) hs1; dsimp only at k0 k1 k2 k3 k4 k5 k6; go_simp; (try with_reducible rfl)
       (try simp only [Act.put, n1, n2, n3, n4, n5, n6])
       refine wpAnyF_ready (rs := [7]) (by kernel_rfl) (by simp) ?_
       refine AllReadyF.last (by kernel_rfl) rfl (fun KK hKK => ?_) AllReadyF.nil
       rw [if_pos (by rfl)]
       refine wp_store_mid 58 (.tmp 60) (.tmp 59) rfl lg (j * 7) #[.bool ne, .bool nl, .bool nq, .bool na, .bool nn, .int .i64 ng, .int .i64 np] rfl rfl HTH.out size_ln (by simp [Value.oneCell']) ?_
       simp only
       refine hKK.out _ _ ?_
       clear hKK KK
       (try simp only [Act.put, List.getElem_toArray, List.getElem_cons_zero, List.getElem_cons_succ])
       refine wpAnyF_done (by kernel_rfl) ?_ _
       refine NoPanic.normal ?_
       have HR9 := hi (HW6.out.drew.drew.setLn HKE.out HNE.out ⟨⟨ne, nl, nq, na⟩, nn, ng, np⟩)
       go_wp2
       go_roundw
       case rel =>
        refine ⟨k + 1, by omega, by go_num, by rw [HE.out, HSN.out], ?_⟩
        rw [HE.out, HSN.out]
        exact HR9
       case measure => simp only [intOf]; omega
     ·go_simp
      have hb4b := bal V3a (.cells #[.bool false, .bool false, .bool false, .bool false, .bool false, .int .i64 0, .int .i64 0] 58)
      have HS4b := hi (And.intro (HS3a.out.1.below hb4b) (And.intro ((hb4b.cell (p := ⟨b, 1, none⟩) HS3a.out.2.2.2.1).trans HS3a.out.2.1) (And.intro (HS3a.out.2.2.1.below HS3a.out.2.2.2.2 hb4b) (And.intro (Nat.lt_of_lt_of_le HS3a.out.2.2.2.1 hb4b.size) (Nat.lt_of_lt_of_le HS3a.out.2.2.2.2 hb4b.size))))); have HB4b := hi (HB3a.out.trans (hb4b.mono HB3a.out.size)); have hz4b := hb4b.size
      have HZ4b := hi (CB.new V3a 58 #[.bool false, .bool false, .bool false, .bool false, .bool false, .int .i64 0, .int .i64 0])
      obtain ⟨V4b, hV4b⟩ : ∃ V4b, V3a.alloc (.cells #[.bool false, .bool false, .bool false, .bool false, .bool false, .int .i64 0, .int .i64 0] 58) = V4b := ⟨_, rfl⟩
      rw [hV4b] at hb4b HS4b HB4b hz4b HZ4b ⊢
      obtain ⟨N, hN⟩ : ∃ N, V3a.heap.size = N := ⟨_, rfl⟩
      rw [hN] at HZ4b ⊢
      clear hV4b hb4b
      refine hKK.out _ _ HS4b.out (fun hHeld => ?_)
      clear hKK KK
      (try simp only [Act.put, n1, n2, n3, n4, n5, n6])
      refine wpAnyF_ready (rs := [17]) (by kernel_rfl) (by simp) ?_
      refine AllReadyF.cons rfl (fun KK hKK => ?_) AllReadyF.nil
      go_simp
      ((with_reducible refine (HCH.out _).mono ?_); rintro e' V5b ⟨rfl, hb⟩; have HS5b := hi (And.intro (HS4b.out.1.below hb) (And.intro ((hb.cell (p := ⟨b, 1, none⟩) HS4b.out.2.2.2.1).trans HS4b.out.2.1) (And.intro (HS4b.out.2.2.1.below HS4b.out.2.2.2.2 hb) (And.intro (Nat.lt_of_lt_of_le HS4b.out.2.2.2.1 hb.size) (Nat.lt_of_lt_of_le HS4b.out.2.2.2.2 hb.size))))); have HB5b := hi (HB4b.out.trans (hb.mono HB4b.out.size)); have hz5b := hb.size; have HZ5b := hi (HZ4b.out.below hb); clear hb)
      (try go_simp)
      refine hKK.out _ _ HS5b.out (fun hHeld => ?_)
      clear hKK KK
      (try simp only [Act.put, n1, n2, n3, n4, n5, n6])
      refine wpAnyF_ready (rs := [19]) (by kernel_rfl) (by simp) ?_
      refine AllReadyF.last (by kernel_rfl) rfl (fun KK hKK => ?_) AllReadyF.nil
      obtain ⟨z0, z1, z2, z3, z4, z5, z6⟩ := CB.cells7 (l := Ln.zero) HZ5b.out
      have fz := HZ5b.out.frozen
      dsimp only [Ln.zero, St.zero] at z0 z1 z2 z3 z4 z5 z6
      go_simp
      have HSE := HS5b
      have HBE := HB5b
      have HZE := HZ5b
      obtain ⟨VE, hVE⟩ : ∃ VE, V5b = VE := ⟨_, rfl⟩
      have hNE : wr.heap.size ≤ N := by have := hsz3.out; omega
      rw [hVE] at HSE HBE HZE ⊢
      refine hKK.out _ _ ?_
      clear hKK KK
      (try simp only [Act.put, n1, n2, n3, n4, n5, n6])
      refine wpAnyF_done (by kernel_rfl) ?_ _
      refine NoPanic.normal ?_
      have HNL := hi (CB.putL (y := Ln.zero) HZE.out ⟨⟨ne, nl, nq, na⟩, nn, ng, np⟩)
      have HBL := hi (show Below wr.heap.size wr (setL VE N 0 ⟨⟨ne, nl, nq, na⟩, nn, ng, np⟩) from below_putL HBE.out (by omega) _)
      dsimp only [setL] at HNL HBL
      simp only [Nat.zero_add] at HNL HBL
      obtain ⟨V6, hV6⟩ : ∃ V6, ((((((VE.setCell ⟨N, 0, none⟩ (.bool ne)).setCell ⟨N, 1, none⟩ (.bool nl)).setCell ⟨N, 2, none⟩ (.bool nq)).setCell ⟨N, 3, none⟩ (.bool na)).setCell ⟨N, 4, none⟩ (.bool nn)).setCell ⟨N, 5, none⟩ (.int .i64 ng)).setCell ⟨N, 6, none⟩ (.int .i64 np) = V6 := ⟨_, rfl⟩
      simp only [hV6] at HNL HBL
      try rw [hV6]
      have HW6 := hi (HX.out.later HBL.out)
      have hb6 : V6.cell? ⟨b, 1, none⟩ = some (.slice (some ⟨lg, 0, none⟩) n lc) := (HBL.out.cell (p := ⟨b, 1, none⟩) hbl).trans hb1
      have HTH := hi (show V6.drew.drew.there lg (j * 7) 7 from ((HW6.out.drew.drew.rf.ne0 (fun e => by have := HJE.out; rw [e] at this; simp at this)).2.2.1.lnThere HJE.out))
      have HS8 := hi (And.intro HNL.out.drew (And.intro hb6 ((HLC.out.below hlgl HBL.out).drew)))
      clear hV6 hV2d hHeld HSE HBE HZE hNE hN hVE hS0
      go_wp2
      refine wp_region_noPanic ?_
      refine wp_region_last_drew (S := (fun W' => CB W' N 58 #[.bool ne, .bool nl, .bool nq, .bool na, .bool nn, .int .i64 ng, .int .i64 np] ∧ W'.cell? ⟨b, 1, none⟩ = some (.slice (some ⟨lg, 0, none⟩) n lc) ∧ LnC W' lg (j * 7) ⟨⟨e, lb', q, a⟩, en, gr, pr⟩)) [] (by kernel_rfl) HS8.out (fun hHeld => ?_)
      (try simp only [r1, r2, r3, r4, r5])
      refine tk 0 (v := ?_) rfl (Or.inl ⟨by rfl, ?_⟩) ?_
      rotate_left
      ·intro w' hSw; (try dsimp only at hSw); obtain ⟨hs1, hs2, hs3⟩ := hSw; obtain ⟨k0, k1, k2, k3, k4, k5, k6⟩ := CB.cells7 (l := ⟨⟨ne, nl, nq, na⟩, nn, ng, np⟩) hs1; obtain ⟨d0, d1, d2, d3, d4, d5, d6⟩ := hs3; dsimp only at k0 k1 k2 k3 k4 k5 k6 d0 d1 d2 d3 d4 d5 d6; go_simp; (try with_reducible rfl)
      (try simp only [Act.put, n1, n2, n4, n5, n6])
      refine tk 1 (v := ?_) rfl (Or.inl ⟨by rfl, ?_⟩) ?_
      rotate_left
      ·intro w' hSw; (try dsimp only at hSw); obtain ⟨hs1, hs2, hs3⟩ := hSw; obtain ⟨k0, k1, k2, k3, k4, k5, k6⟩ := CB.cells7 (l := ⟨⟨ne, nl, nq, na⟩, nn, ng, np⟩) hs1; obtain ⟨d0, d1, d2, d3, d4, d5, d6⟩ := hs3; dsimp only at k0 k1 k2 k3 k4 k5 k6 d0 d1 d2 d3 d4 d5 d6; go_simp; (try with_reducible rfl)
      (try simp only [Act.put, n1, n2, n3, n4, n5, n6])
      refine tk 2 (v := ?_) rfl (Or.inl ⟨by rfl, ?_⟩) ?_
      rotate_left
      ·intro w' hSw; (try dsimp only at hSw); obtain ⟨hs1, hs2, hs3⟩ := hSw; obtain ⟨k0, k1, k2, k3, k4, k5, k6⟩ := CB.cells7 (l := ⟨⟨ne, nl, nq, na⟩, nn, ng, np⟩) hs1; obtain ⟨d0, d1, d2, d3, d4, d5, d6⟩ := hs3; dsimp only at k0 k1 k2 k3 k4 k5 k6 d0 d1 d2 d3 d4 d5 d6; go_simp; (try with_reducible rfl)
      (try simp only [Act.put, n1, n2, n3, n4, n5, n6])
      refine tk 3 (v := ?_) rfl (Or.inl ⟨by rfl, ?_⟩) ?_
      rotate_left
      ·intro w' hSw; (try dsimp only at hSw); obtain ⟨hs1, hs2, hs3⟩ := hSw; obtain ⟨k0, k1, k2, k3, k4, k5, k6⟩ := CB.cells7 (l := ⟨⟨ne, nl, nq, na⟩, nn, ng, np⟩) hs1; obtain ⟨d0, d1, d2, d3, d4, d5, d6⟩ := hs3; dsimp only at k0 k1 k2 k3 k4 k5 k6 d0 d1 d2 d3 d4 d5 d6; go_simp; (try with_reducible rfl)
      (try simp only [Act.put, n1, n2, n3, n4, n5, n6])
      refine tk 4 (v := ?_) rfl (Or.inl ⟨by rfl, ?_⟩) ?_
      rotate_left
      ·intro w' hSw; (try dsimp only at hSw); obtain ⟨hs1, hs2, hs3⟩ := hSw; obtain ⟨k0, k1, k2, k3, k4, k5, k6⟩ := CB.cells7 (l := ⟨⟨ne, nl, nq, na⟩, nn, ng, np⟩) hs1; obtain ⟨d0, d1, d2, d3, d4, d5, d6⟩ := hs3; dsimp only at k0 k1 k2 k3 k4 k5 k6 d0 d1 d2 d3 d4 d5 d6; go_simp; (try with_reducible rfl)
      (try simp only [Act.put, n1, n2, n3, n4, n5, n6])
      refine tk 5 (v := ?_) rfl (Or.inl ⟨by rfl, ?_⟩) ?_
      rotate_left
      ·intro w' hSw; (try dsimp only at hSw); obtain ⟨hs1, hs2, hs3⟩ := hSw; obtain ⟨k0, k1, k2, k3, k4, k5, k6⟩ := CB.cells7 (l := ⟨⟨ne, nl, nq, na⟩, nn, ng, np⟩) hs1; obtain ⟨d0, d1, d2, d3, d4, d5, d6⟩ := hs3; dsimp only at k0 k1 k2 k3 k4 k5 k6 d0 d1 d2 d3 d4 d5 d6; go_simp; (try with_reducible rfl)
      (try simp only [Act.put, n1, n2, n3, n4, n5, n6])
      refine tk 6 (v := ?_) rfl (Or.inl ⟨by rfl, ?_⟩) ?_
      rotate_left
      ·intro w' hSw; (try dsimp only at hSw); obtain ⟨hs1, hs2, hs3⟩ := hSw; obtain ⟨k0, k1, k2, k3, k4, k5, k6⟩ := CB.cells7 (l := ⟨⟨ne, nl, nq, na⟩, nn, ng, np⟩) hs1; obtain ⟨d0, d1, d2, d3, d4, d5, d6⟩ := hs3; dsimp only at k0 k1 k2 k3 k4 k5 k6 d0 d1 d2 d3 d4 d5 d6; go_simp; (try with_reducible rfl)
      (try simp only [Act.put, n1, n2, n3, n4, n5, n6])
      refine tk 7 (v := ?_) rfl (Or.inl ⟨by rfl, ?_⟩) ?_
      rotate_left
      ·intro w' hSw; (try dsimp only at hSw); obtain ⟨hs1, hs2, hs3⟩ := hSw; obtain ⟨k0, k1, k2, k3, k4, k5, k6⟩ := CB.cells7 (l := ⟨⟨ne, nl, nq, na⟩, nn, ng, np⟩) hs1; obtain ⟨d0, d1, d2, d3, d4, d5, d6⟩ := hs3; dsimp only at k0 k1 k2 k3 k4 k5 k6 d0 d1 d2 d3 d4 d5 d6; go_simp; (try with_reducible rfl)
      (try simp only [Act.put, n1, n2, n3, n4, n5, n6])
      refine tk 8 (v := ?_) rfl (Or.inl ⟨by rfl, ?_⟩) ?_
      rotate_left
      ·intro w' hSw; (try dsimp only at hSw); obtain ⟨hs1, hs2, hs3⟩ := hSw; obtain ⟨k0, k1, k2, k3, k4, k5, k6⟩ := CB.cells7 (l := ⟨⟨ne, nl, nq, na⟩, nn, ng, np⟩) hs1; obtain ⟨d0, d1, d2, d3, d4, d5, d6⟩ := hs3; dsimp only at k0 k1 k2 k3 k4 k5 k6 d0 d1 d2 d3 d4 d5 d6; go_simp; (try with_reducible rfl)
      (try simp only [Act.put, n1, n2, n3, n4, n5, n6])
      refine wpAnyF_done (by kernel_rfl) ?_ _
      refine NoPanic.normal ?_
      clear HS8 hHeld
      by_cases heq : (⟨⟨ne, nl, nq, na⟩, nn, ng, np⟩ : Ln) = ⟨⟨e, lb', q, a⟩, en, gr, pr⟩
      ·rw [if_pos heq] at HSN
       have hd : eqLn ne nl nq na nn ng np e lb' q a en gr pr = true := by rw [HDEC.out]; exact decide_eq_true heq
       rw [hd]
       simp only [Bool.not_true]
       clear HDEC heq hd
       go_wp2
       have HS10 := hi (And.intro HNL.out.drew.drew hb6)
       refine wp_region_noPanic ?_
       refine wp_region_last_drew (S := (fun W' => CB W' N 58 #[.bool ne, .bool nl, .bool nq, .bool na, .bool nn, .int .i64 ng, .int .i64 np] ∧ W'.cell? ⟨b, 1, none⟩ = some (.slice (some ⟨lg, 0, none⟩) n lc))) [7] (by kernel_rfl) HS10.out (fun hHeld => ?_)
       (try simp only [r1, r2, r3, r4, r5])
       refine tk 0 (v := ?_) rfl (Or.inl ⟨by rfl, ?_⟩) ?_
       rotate_left
       ·intro w' hSw; (try dsimp only at hSw); obtain ⟨hs1, hs2⟩ := hSw; obtain ⟨k0, k1, k2, k3, k4, k5, k6⟩ := CB.cells7 (l := ⟨⟨ne, nl, nq, na⟩, nn, ng, np⟩) hs1; dsimp only at k0 k1 k2 k3 k4 k5 k6; go_simp; (try with_reducible rfl)
       (try simp only [Act.put, n1, n2, n4, n5, n6])
       refine tk 1 (v := ?_) rfl (Or.inl ⟨by rfl, ?_⟩) ?_
       rotate_left
       ·intro w' hSw; (try dsimp only at hSw); obtain ⟨hs1, hs2⟩ := hSw; obtain ⟨k0, k1, k2, k3, k4, k5, k6⟩ := CB.cells7 (l := ⟨⟨ne, nl, nq, na⟩, nn, ng, np⟩) hs1; dsimp only at k0 k1 k2 k3 k4 k5 k6; go_simp; (try with_reducible rfl)
       (try simp only [Act.put, n1, n2, n3, n4, n5, n6])
       refine tk 2 (v := ?_) rfl (Or.inl ⟨by rfl, ?_⟩) ?_
       rotate_left
       ·intro w' hSw; (try dsimp only at hSw); obtain ⟨hs1, hs2⟩ := hSw; obtain ⟨k0, k1, k2, k3, k4, k5, k6⟩ := CB.cells7 (l := ⟨⟨ne, nl, nq, na⟩, nn, ng, np⟩) hs1; dsimp only at k0 k1 k2 k3 k4 k5 k6; go_simp; (try with_reducible rfl)
       (try simp only [Act.put, n1, n2, n3, n4, n5, n6])
       refine tk 3 (v := ?_) rfl (Or.inl ⟨by rfl, ?_⟩) ?_
       rotate_left
       ·intro w' hSw; (try dsimp only at hSw); obtain ⟨hs1, hs2⟩ := hSw; obtain ⟨k0, k1, k2, k3, k4, k5, k6⟩ := CB.cells7 (l := ⟨⟨ne, nl, nq, na⟩, nn, ng, np⟩) hs1; dsimp only at k0 k1 k2 k3 k4 k5 k6; go_simp; (try with_reducible rfl)
       (try simp only [Act.put, n1, n2, n3, n4, n5, n6])
       refine tk 4 (v := ?_) rfl (Or.inl ⟨by rfl, ?_⟩) ?_
       rotate_left
       ·intro w' hSw; (try dsimp only at hSw); obtain ⟨hs1, hs2⟩ := hSw; obtain ⟨k0, k1, k2, k3, k4, k5, k6⟩ := CB.cells7 (l := ⟨⟨ne, nl, nq, na⟩, nn, ng, np⟩) hs1; dsimp only at k0 k1 k2 k3 k4 k5 k6; go_simp; (try with_reducible rfl)
       (try simp only [Act.put, n1, n2, n3, n4, n5, n6])
       refine tk 5 (v := ?_) rfl (Or.inl ⟨by rfl, ?_⟩) ?_
       rotate_left
       ·intro w' hSw; (try dsimp only at hSw); obtain ⟨hs1, hs2⟩ := hSw; obtain ⟨k0, k1, k2, k3, k4, k5, k6⟩ := CB.cells7 (l := ⟨⟨ne, nl, nq, na⟩, nn, ng, np⟩) hs1; dsimp only at k0 k1 k2 k3 k4 k5 k6; go_simp; (try with_reducible rfl)
       (try simp only [Act.put, n1, n2, n3, n4, n5, n6])
       refine tk 6 (v := ?_) rfl (Or.inl ⟨by rfl, ?_⟩) ?_
       rotate_left
       ·intro w' hSw; (try dsimp only at hSw); obtain ⟨hs1, hs2⟩ := hSw; obtain ⟨k0, k1, k2, k3, k4, k5, k6⟩ := CB.cells7 (l := ⟨⟨ne, nl, nq, na⟩, nn, ng, np⟩) hs1; dsimp only at k0 k1 k2 k3 k4 k5 k6; go_simp; (try with_reducible rfl)
       (try simp only [Act.put, n1, n2, n3, n4, n5, n6])
       refine wpAnyF_ready (rs := [7]) (by kernel_rfl) (by simp) ?_
       refine AllReadyF.last (by kernel_rfl) rfl (fun KK hKK => ?_) AllReadyF.nil
       rw [if_pos (by rfl)]
       refine wp_store_mid 58 (.tmp 60) (.tmp 59) rfl lg (j * 7) #[.bool ne, .bool nl, .bool nq, .bool na, .bool nn, .int .i64 ng, .int .i64 np] rfl rfl HTH.out size_ln (by simp [Value.oneCell']) ?_
       simp only
       refine hKK.out _ _ ?_
       clear hKK KK
       (try simp only [Act.put, List.getElem_toArray, List.getElem_cons_zero, List.getElem_cons_succ])
       refine wpAnyF_done (by kernel_rfl) ?_ _
       refine NoPanic.normal ?_
       have HR9 := hi (HW6.out.drew.drew.setLn HKE.out HNE.out ⟨⟨ne, nl, nq, na⟩, nn, ng, np⟩)
       go_wp2
       go_roundw
       case rel =>
        refine ⟨k + 1, by omega, by go_num, by rw [HE.out, HSN.out], ?_⟩
        rw [HE.out, HSN.out]
        exact HR9
       case measure => simp only [intOf]; omega
      ·rw [if_neg heq] at HSN
       have hd : eqLn ne nl nq na nn ng np e lb' q a en gr pr = false := by rw [HDEC.out]; exact decide_eq_false heq
       rw [hd]
       simp only [Bool.not_false]
       clear HDEC heq hd
       go_wp2
       have HS10 := hi (And.intro HNL.out.drew.drew hb6)
       refine wp_region_noPanic ?_
       refine wp_region_last_drew (S := (fun W' => CB W' N 58 #[.bool ne, .bool nl, .bool nq, .bool na, .bool nn, .int .i64 ng, .int .i64 np] ∧ W'.cell? ⟨b, 1, none⟩ = some (.slice (some ⟨lg, 0, none⟩) n lc))) [7] (by kernel_rfl) HS10.out (fun hHeld => ?_)
       (try simp only [r1, r2, r3, r4, r5])
       refine tk 0 (v := ?_) rfl (Or.inl ⟨by rfl, ?_⟩) ?_
       rotate_left
       ·intro w' hSw; (try dsimp only at hSw); obtain ⟨hs1, hs2⟩ := hSw; obtain ⟨k0, k1, k2, k3, k4, k5, k6⟩ := CB.cells7 (l := ⟨⟨ne, nl, nq, na⟩, nn, ng, np⟩) hs1; dsimp only at k0 k1 k2 k3 k4 k5 k6; go_simp; (try with_reducible rfl)
       (try simp only [Act.put, n1, n2, n4, n5, n6])
       refine tk 1 (v := ?_) rfl (Or.inl ⟨by rfl, ?_⟩) ?_
       rotate_left
       ·intro w' hSw; (try dsimp only at hSw); obtain ⟨hs1, hs2⟩ := hSw; obtain ⟨k0, k1, k2, k3, k4, k5, k6⟩ := CB.cells7 (l := ⟨⟨ne, nl, nq, na⟩, nn, ng, np⟩) hs1; dsimp only at k0 k1 k2 k3 k4 k5 k6; go_simp; (try with_reducible rfl)
       (try simp only [Act.put, n1, n2, n3, n4, n5, n6])
       refine tk 2 (v := ?_) rfl (Or.inl ⟨by rfl, ?_⟩) ?_
       rotate_left
       ·intro w' hSw; (try dsimp only at hSw); obtain ⟨hs1, hs2⟩ := hSw; obtain ⟨k0, k1, k2, k3, k4, k5, k6⟩ := CB.cells7 (l := ⟨⟨ne, nl, nq, na⟩, nn, ng, np⟩) hs1; dsimp only at k0 k1 k2 k3 k4 k5 k6; go_simp; (try with_reducible rfl)
       (try simp only [Act.put, n1, n2, n3, n4, n5, n6])
       refine tk 3 (v := ?_) rfl (Or.inl ⟨by rfl, ?_⟩) ?_
       rotate_left
       ·intro w' hSw; (try dsimp only at hSw); obtain ⟨hs1, hs2⟩ := hSw; obtain ⟨k0, k1, k2, k3, k4, k5, k6⟩ := CB.cells7 (l := ⟨⟨ne, nl, nq, na⟩, nn, ng, np⟩) hs1; dsimp only at k0 k1 k2 k3 k4 k5 k6; go_simp; (try with_reducible rfl)
       (try simp only [Act.put, n1, n2, n3, n4, n5, n6])
       refine tk 4 (v := ?_) rfl (Or.inl ⟨by rfl, ?_⟩) ?_
       rotate_left
       ·intro w' hSw; (try dsimp only at hSw); obtain ⟨hs1, hs2⟩ := hSw; obtain ⟨k0, k1, k2, k3, k4, k5, k6⟩ := CB.cells7 (l := ⟨⟨ne, nl, nq, na⟩, nn, ng, np⟩) hs1; dsimp only at k0 k1 k2 k3 k4 k5 k6; go_simp; (try with_reducible rfl)
       (try simp only [Act.put, n1, n2, n3, n4, n5, n6])
       refine tk 5 (v := ?_) rfl (Or.inl ⟨by rfl, ?_⟩) ?_
       rotate_left
       ·intro w' hSw; (try dsimp only at hSw); obtain ⟨hs1, hs2⟩ := hSw; obtain ⟨k0, k1, k2, k3, k4, k5, k6⟩ := CB.cells7 (l := ⟨⟨ne, nl, nq, na⟩, nn, ng, np⟩) hs1; dsimp only at k0 k1 k2 k3 k4 k5 k6; go_simp; (try with_reducible rfl)
       (try simp only [Act.put, n1, n2, n3, n4, n5, n6])
       refine tk 6 (v := ?_) rfl (Or.inl ⟨by rfl, ?_⟩) ?_
       rotate_left
       ·intro w' hSw; (try dsimp only at hSw); obtain ⟨hs1, hs2⟩ := hSw; obtain ⟨k0, k1, k2, k3, k4, k5, k6⟩ := CB.cells7 (l := ⟨⟨ne, nl, nq, na⟩, nn, ng, np⟩) hs1; dsimp only at k0 k1 k2 k3 k4 k5 k6; go_simp; (try with_reducible rfl)
       (try simp only [Act.put, n1, n2, n3, n4, n5, n6])
       refine wpAnyF_ready (rs := [7]) (by kernel_rfl) (by simp) ?_
       refine AllReadyF.last (by kernel_rfl) rfl (fun KK hKK => ?_) AllReadyF.nil
       rw [if_pos (by rfl)]
       refine wp_store_mid 58 (.tmp 60) (.tmp 59) rfl lg (j * 7) #[.bool ne, .bool nl, .bool nq, .bool na, .bool nn, .int .i64 ng, .int .i64 np] rfl rfl HTH.out size_ln (by simp [Value.oneCell']) ?_
       simp only
       refine hKK.out _ _ ?_
       clear hKK KK
       (try simp only [Act.put, List.getElem_toArray, List.getElem_cons_zero, List.getElem_cons_succ])
       refine wpAnyF_done (by kernel_rfl) ?_ _
       refine NoPanic.normal ?_
       have HR9 := hi (HW6.out.drew.drew.setLn HKE.out HNE.out ⟨⟨ne, nl, nq, na⟩, nn, ng, np⟩)
       go_wp2
       go_roundw
       case rel =>
        refine ⟨k + 1, by omega, by go_num, by rw [HE.out, HSN.out], ?_⟩
        rw [HE.out, HSN.out]
        exact HR9
       case measure => simp only [intOf]; omega
    ·go_simp
     have hb3c := bal V2 (.cells #[.bool false, .bool false, .bool false, .bool false, .bool false, .int .i64 0, .int .i64 0] 58)
     have HS3c := hi (And.intro (HS2.out.1.below hb3c) (And.intro ((hb3c.cell (p := ⟨b, 1, none⟩) HS2.out.2.2.2.1).trans HS2.out.2.1) (And.intro (HS2.out.2.2.1.below HS2.out.2.2.2.2 hb3c) (And.intro (Nat.lt_of_lt_of_le HS2.out.2.2.2.1 hb3c.size) (Nat.lt_of_lt_of_le HS2.out.2.2.2.2 hb3c.size))))); have HB3c := hi (HB2.out.trans (hb3c.mono HB2.out.size)); have hz3c := hb3c.size
     have HZ3c := hi (CB.new V2 58 #[.bool false, .bool false, .bool false, .bool false, .bool false, .int .i64 0, .int .i64 0])
     obtain ⟨V3c, hV3c⟩ : ∃ V3c, V2.alloc (.cells #[.bool false, .bool false, .bool false, .bool false, .bool false, .int .i64 0, .int .i64 0] 58) = V3c := ⟨_, rfl⟩
     rw [hV3c] at hb3c HS3c HB3c hz3c HZ3c ⊢
     obtain ⟨N, hN⟩ : ∃ N, V2.heap.size = N := ⟨_, rfl⟩
     rw [hN] at HZ3c ⊢
     clear hV3c hb3c
     refine hKK.out _ _ HS3c.out (fun hHeld => ?_)
     clear hKK KK
     (try simp only [Act.put, n1, n2, n3, n4, n5, n6])
     refine wpAnyF_ready (rs := [16]) (by kernel_rfl) (by simp) ?_
     refine AllReadyF.cons rfl (fun KK hKK => ?_) AllReadyF.nil
     go_simp
     ((with_reducible refine (HFD1.out _).mono ?_); rintro e' V4c ⟨rfl, hb⟩; have HS4c := hi (And.intro (HS3c.out.1.below hb) (And.intro ((hb.cell (p := ⟨b, 1, none⟩) HS3c.out.2.2.2.1).trans HS3c.out.2.1) (And.intro (HS3c.out.2.2.1.below HS3c.out.2.2.2.2 hb) (And.intro (Nat.lt_of_lt_of_le HS3c.out.2.2.2.1 hb.size) (Nat.lt_of_lt_of_le HS3c.out.2.2.2.2 hb.size))))); have HB4c := hi (HB3c.out.trans (hb.mono HB3c.out.size)); have hz4c := hb.size; have HZ4c := hi (HZ3c.out.below hb); clear hb)
     (try go_simp)
     refine hKK.out _ _ HS4c.out (fun hHeld => ?_)
     clear hKK KK
     (try simp only [Act.put, n1, n2, n3, n4, n5, n6])
     refine wpAnyF_ready (rs := [17]) (by kernel_rfl) (by simp) ?_
     refine AllReadyF.cons rfl (fun KK hKK => ?_) AllReadyF.nil
     go_simp
     ((with_reducible refine (HCH.out _).mono ?_); rintro e' V5c ⟨rfl, hb⟩; have HS5c := hi (And.intro (HS4c.out.1.below hb) (And.intro ((hb.cell (p := ⟨b, 1, none⟩) HS4c.out.2.2.2.1).trans HS4c.out.2.1) (And.intro (HS4c.out.2.2.1.below HS4c.out.2.2.2.2 hb) (And.intro (Nat.lt_of_lt_of_le HS4c.out.2.2.2.1 hb.size) (Nat.lt_of_lt_of_le HS4c.out.2.2.2.2 hb.size))))); have HB5c := hi (HB4c.out.trans (hb.mono HB4c.out.size)); have hz5c := hb.size; have HZ5c := hi (HZ4c.out.below hb); clear hb)
     (try go_simp)
     refine hKK.out _ _ HS5c.out (fun hHeld => ?_)
     clear hKK KK
     (try simp only [Act.put, n1, n2, n3, n4, n5, n6])
     refine wpAnyF_ready (rs := [19]) (by kernel_rfl) (by simp) ?_
     refine AllReadyF.last (by kernel_rfl) rfl (fun KK hKK => ?_) AllReadyF.nil
     obtain ⟨z0, z1, z2, z3, z4, z5, z6⟩ := CB.cells7 (l := Ln.zero) HZ5c.out
     have fz := HZ5c.out.frozen
     dsimp only [Ln.zero, St.zero] at z0 z1 z2 z3 z4 z5 z6
     go_simp
     have HSE := HS5c
     have HBE := HB5c
     have HZE := HZ5c
     obtain ⟨VE, hVE⟩ : ∃ VE, V5c = VE := ⟨_, rfl⟩
     have hNE : wr.heap.size ≤ N := by have := hsz3.out; omega
     rw [hVE] at HSE HBE HZE ⊢
     refine hKK.out _ _ ?_
     clear hKK KK
     (try simp only [Act.put, n1, n2, n3, n4, n5, n6])
     refine wpAnyF_done (by kernel_rfl) ?_ _
     refine NoPanic.normal ?_
     have HNL := hi (CB.putL (y := Ln.zero) HZE.out ⟨⟨ne, nl, nq, na⟩, nn, ng, np⟩)
     have HBL := hi (show Below wr.heap.size wr (setL VE N 0 ⟨⟨ne, nl, nq, na⟩, nn, ng, np⟩) from below_putL HBE.out (by omega) _)
     dsimp only [setL] at HNL HBL
     simp only [Nat.zero_add] at HNL HBL
     obtain ⟨V6, hV6⟩ : ∃ V6, ((((((VE.setCell ⟨N, 0, none⟩ (.bool ne)).setCell ⟨N, 1, none⟩ (.bool nl)).setCell ⟨N, 2, none⟩ (.bool nq)).setCell ⟨N, 3, none⟩ (.bool na)).setCell ⟨N, 4, none⟩ (.bool nn)).setCell ⟨N, 5, none⟩ (.int .i64 ng)).setCell ⟨N, 6, none⟩ (.int .i64 np) = V6 := ⟨_, rfl⟩
     simp only [hV6] at HNL HBL
     try rw [hV6]
     have HW6 := hi (HX.out.later HBL.out)
     have hb6 : V6.cell? ⟨b, 1, none⟩ = some (.slice (some ⟨lg, 0, none⟩) n lc) := (HBL.out.cell (p := ⟨b, 1, none⟩) hbl).trans hb1
     have HTH := hi (show V6.drew.drew.there lg (j * 7) 7 from ((HW6.out.drew.drew.rf.ne0 (fun e => by have := HJE.out; rw [e] at this; simp at this)).2.2.1.lnThere HJE.out))
     have HS8 := hi (And.intro HNL.out.drew (And.intro hb6 ((HLC.out.below hlgl HBL.out).drew)))
     clear hV6 hV2d hHeld HSE HBE HZE hNE hN hVE hS0
     go_wp2
     refine wp_region_noPanic ?_
     refine wp_region_last_drew (S := (fun W' => CB W' N 58 #[.bool ne, .bool nl, .bool nq, .bool na, .bool nn, .int .i64 ng, .int .i64 np] ∧ W'.cell? ⟨b, 1, none⟩ = some (.slice (some ⟨lg, 0, none⟩) n lc) ∧ LnC W' lg (j * 7) ⟨⟨e, lb', q, a⟩, en, gr, pr⟩)) [] (by kernel_rfl) HS8.out (fun hHeld => ?_)
     (try simp only [r1, r2, r3, r4, r5])
     refine tk 0 (v := ?_) rfl (Or.inl ⟨by rfl, ?_⟩) ?_
     rotate_left
     ·intro w' hSw; (try dsimp only at hSw); obtain ⟨hs1, hs2, hs3⟩ := hSw; obtain ⟨k0, k1, k2, k3, k4, k5, k6⟩ := CB.cells7 (l := ⟨⟨ne, nl, nq, na⟩, nn, ng, np⟩) hs1; obtain ⟨d0, d1, d2, d3, d4, d5, d6⟩ := hs3; dsimp only at k0 k1 k2 k3 k4 k5 k6 d0 d1 d2 d3 d4 d5 d6; go_simp; (try with_reducible rfl)
     (try simp only [Act.put, n1, n2, n4, n5, n6])
     refine tk 1 (v := ?_) rfl (Or.inl ⟨by rfl, ?_⟩) ?_
     rotate_left
     ·intro w' hSw; (try dsimp only at hSw); obtain ⟨hs1, hs2, hs3⟩ := hSw; obtain ⟨k0, k1, k2, k3, k4, k5, k6⟩ := CB.cells7 (l := ⟨⟨ne, nl, nq, na⟩, nn, ng, np⟩) hs1; obtain ⟨d0, d1, d2, d3, d4, d5, d6⟩ := hs3; dsimp only at k0 k1 k2 k3 k4 k5 k6 d0 d1 d2 d3 d4 d5 d6; go_simp; (try with_reducible rfl)
     (try simp only [Act.put, n1, n2, n3, n4, n5, n6])
     refine tk 2 (v := ?_) rfl (Or.inl ⟨by rfl, ?_⟩) ?_
     rotate_left
     ·intro w' hSw; (try dsimp only at hSw); obtain ⟨hs1, hs2, hs3⟩ := hSw; obtain ⟨k0, k1, k2, k3, k4, k5, k6⟩ := CB.cells7 (l := ⟨⟨ne, nl, nq, na⟩, nn, ng, np⟩) hs1; obtain ⟨d0, d1, d2, d3, d4, d5, d6⟩ := hs3; dsimp only at k0 k1 k2 k3 k4 k5 k6 d0 d1 d2 d3 d4 d5 d6; go_simp; (try with_reducible rfl)
     (try simp only [Act.put, n1, n2, n3, n4, n5, n6])
     refine tk 3 (v := ?_) rfl (Or.inl ⟨by rfl, ?_⟩) ?_
     rotate_left
     ·intro w' hSw; (try dsimp only at hSw); obtain ⟨hs1, hs2, hs3⟩ := hSw; obtain ⟨k0, k1, k2, k3, k4, k5, k6⟩ := CB.cells7 (l := ⟨⟨ne, nl, nq, na⟩, nn, ng, np⟩) hs1; obtain ⟨d0, d1, d2, d3, d4, d5, d6⟩ := hs3; dsimp only at k0 k1 k2 k3 k4 k5 k6 d0 d1 d2 d3 d4 d5 d6; go_simp; (try with_reducible rfl)
     (try simp only [Act.put, n1, n2, n3, n4, n5, n6])
     refine tk 4 (v := ?_) rfl (Or.inl ⟨by rfl, ?_⟩) ?_
     rotate_left
     ·intro w' hSw; (try dsimp only at hSw); obtain ⟨hs1, hs2, hs3⟩ := hSw; obtain ⟨k0, k1, k2, k3, k4, k5, k6⟩ := CB.cells7 (l := ⟨⟨ne, nl, nq, na⟩, nn, ng, np⟩) hs1; obtain ⟨d0, d1, d2, d3, d4, d5, d6⟩ := hs3; dsimp only at k0 k1 k2 k3 k4 k5 k6 d0 d1 d2 d3 d4 d5 d6; go_simp; (try with_reducible rfl)
     (try simp only [Act.put, n1, n2, n3, n4, n5, n6])
     refine tk 5 (v := ?_) rfl (Or.inl ⟨by rfl, ?_⟩) ?_
     rotate_left
     ·intro w' hSw; (try dsimp only at hSw); obtain ⟨hs1, hs2, hs3⟩ := hSw; obtain ⟨k0, k1, k2, k3, k4, k5, k6⟩ := CB.cells7 (l := ⟨⟨ne, nl, nq, na⟩, nn, ng, np⟩) hs1; obtain ⟨d0, d1, d2, d3, d4, d5, d6⟩ := hs3; dsimp only at k0 k1 k2 k3 k4 k5 k6 d0 d1 d2 d3 d4 d5 d6; go_simp; (try with_reducible rfl)
     (try simp only [Act.put, n1, n2, n3, n4, n5, n6])
     refine tk 6 (v := ?_) rfl (Or.inl ⟨by rfl, ?_⟩) ?_
     rotate_left
     ·intro w' hSw; (try dsimp only at hSw); obtain ⟨hs1, hs2, hs3⟩ := hSw; obtain ⟨k0, k1, k2, k3, k4, k5, k6⟩ := CB.cells7 (l := ⟨⟨ne, nl, nq, na⟩, nn, ng, np⟩) hs1; obtain ⟨d0, d1, d2, d3, d4, d5, d6⟩ := hs3; dsimp only at k0 k1 k2 k3 k4 k5 k6 d0 d1 d2 d3 d4 d5 d6; go_simp; (try with_reducible rfl)
     (try simp only [Act.put, n1, n2, n3, n4, n5, n6])
     refine tk 7 (v := ?_) rfl (Or.inl ⟨by rfl, ?_⟩) ?_
     rotate_left
     ·intro w' hSw; (try dsimp only at hSw); obtain ⟨hs1, hs2, hs3⟩ := hSw; obtain ⟨k0, k1, k2, k3, k4, k5, k6⟩ := CB.cells7 (l := ⟨⟨ne, nl, nq, na⟩, nn, ng, np⟩) hs1; obtain ⟨d0, d1, d2, d3, d4, d5, d6⟩ := hs3; dsimp only at k0 k1 k2 k3 k4 k5 k6 d0 d1 d2 d3 d4 d5 d6; go_simp; (try with_reducible rfl)
     (try simp only [Act.put, n1, n2, n3, n4, n5, n6])
     refine tk 8 (v := ?_) rfl (Or.inl ⟨by rfl, ?_⟩) ?_
     rotate_left
     ·intro w' hSw; (try dsimp only at hSw); obtain ⟨hs1, hs2, hs3⟩ := hSw; obtain ⟨k0, k1, k2, k3, k4, k5, k6⟩ := CB.cells7 (l := ⟨⟨ne, nl, nq, na⟩, nn, ng, np⟩) hs1; obtain ⟨d0, d1, d2, d3, d4, d5, d6⟩ := hs3; dsimp only at k0 k1 k2 k3 k4 k5 k6 d0 d1 d2 d3 d4 d5 d6; go_simp; (try with_reducible rfl)
     (try simp only [Act.put, n1, n2, n3, n4, n5, n6])
     refine wpAnyF_done (by kernel_rfl) ?_ _
     refine NoPanic.normal ?_
     clear HS8 hHeld
     by_cases heq : (⟨⟨ne, nl, nq, na⟩, nn, ng, np⟩ : Ln) = ⟨⟨e, lb', q, a⟩, en, gr, pr⟩
     ·rw [if_pos heq] at HSN
      have hd : eqLn ne nl nq na nn ng np e lb' q a en gr pr = true := by rw [HDEC.out]; exact decide_eq_true heq
      rw [hd]
      simp only [Bool.not_true]
      clear HDEC heq hd
      go_wp2
      have HS10 := hi (And.intro HNL.out.drew.drew hb6)
      refine wp_region_noPanic ?_
      refine wp_region_last_drew (S := (fun W' => CB W' N 58 #[.bool ne, .bool nl, .bool nq, .bool na, .bool nn, .int .i64 ng, .int .i64 np] ∧ W'.cell? ⟨b, 1, none⟩ = some (.slice (some ⟨lg, 0, none⟩) n lc))) [7] (by kernel_rfl) HS10.out (fun hHeld => ?_)
      (try simp only [r1, r2, r3, r4, r5])
      refine tk 0 (v := ?_) rfl (Or.inl ⟨by rfl, ?_⟩) ?_
      rotate_left
      ·intro w' hSw; (try dsimp only at hSw); obtain ⟨hs1, hs2⟩ := hSw; obtain ⟨k0, k1, k2, k3, k4, k5, k6⟩ := CB.cells7 (l := ⟨⟨ne, nl, nq, na⟩, nn, ng, np⟩) hs1; dsimp only at k0 k1 k2 k3 k4 k5 k6; go_simp; (try with_reducible rfl)
      (try simp only [Act.put, n1, n2, n4, n5, n6])
      refine tk 1 (v := ?_) rfl (Or.inl ⟨by rfl, ?_⟩) ?_
      rotate_left
      ·intro w' hSw; (try dsimp only at hSw); obtain ⟨hs1, hs2⟩ := hSw; obtain ⟨k0, k1, k2, k3, k4, k5, k6⟩ := CB.cells7 (l := ⟨⟨ne, nl, nq, na⟩, nn, ng, np⟩) hs1; dsimp only at k0 k1 k2 k3 k4 k5 k6; go_simp; (try with_reducible rfl)
      (try simp only [Act.put, n1, n2, n3, n4, n5, n6])
      refine tk 2 (v := ?_) rfl (Or.inl ⟨by rfl, ?_⟩) ?_
      rotate_left
      ·intro w' hSw; (try dsimp only at hSw); obtain ⟨hs1, hs2⟩ := hSw; obtain ⟨k0, k1, k2, k3, k4, k5, k6⟩ := CB.cells7 (l := ⟨⟨ne, nl, nq, na⟩, nn, ng, np⟩) hs1; dsimp only at k0 k1 k2 k3 k4 k5 k6; go_simp; (try with_reducible rfl)
      (try simp only [Act.put, n1, n2, n3, n4, n5, n6])
      refine tk 3 (v := ?_) rfl (Or.inl ⟨by rfl, ?_⟩) ?_
      rotate_left
      ·intro w' hSw; (try dsimp only at hSw); obtain ⟨hs1, hs2⟩ := hSw; obtain ⟨k0, k1, k2, k3, k4, k5, k6⟩ := CB.cells7 (l := ⟨⟨ne, nl, nq, na⟩, nn, ng, np⟩) hs1; dsimp only at k0 k1 k2 k3 k4 k5 k6; go_simp; (try with_reducible rfl)
      (try simp only [Act.put, n1, n2, n3, n4, n5, n6])
      refine tk 4 (v := ?_) rfl (Or.inl ⟨by rfl, ?_⟩) ?_
      rotate_left
      ·intro w' hSw; (try dsimp only at hSw); obtain ⟨hs1, hs2⟩ := hSw; obtain ⟨k0, k1, k2, k3, k4, k5, k6⟩ := CB.cells7 (l := ⟨⟨ne, nl, nq, na⟩, nn, ng, np⟩) hs1; dsimp only at k0 k1 k2 k3 k4 k5 k6; go_simp; (try with_reducible rfl)
      (try simp only [Act.put, n1, n2, n3, n4, n5, n6])
      refine tk 5 (v := ?_) rfl (Or.inl ⟨by rfl, ?_⟩) ?_
      rotate_left
      ·intro w' hSw; (try dsimp only at hSw); obtain ⟨hs1, hs2⟩ := hSw; obtain ⟨k0, k1, k2, k3, k4, k5, k6⟩ := CB.cells7 (l := ⟨⟨ne, nl, nq, na⟩, nn, ng, np⟩) hs1; dsimp only at k0 k1 k2 k3 k4 k5 k6; go_simp; (try with_reducible rfl)
      (try simp only [Act.put, n1, n2, n3, n4, n5, n6])
      refine tk 6 (v := ?_) rfl (Or.inl ⟨by rfl, ?_⟩) ?_
      rotate_left
      ·intro w' hSw; (try dsimp only at hSw); obtain ⟨hs1, hs2⟩ := hSw; obtain ⟨k0, k1, k2, k3, k4, k5, k6⟩ := CB.cells7 (l := ⟨⟨ne, nl, nq, na⟩, nn, ng, np⟩) hs1; dsimp only at k0 k1 k2 k3 k4 k5 k6; go_simp; (try with_reducible rfl)
      (try simp only [Act.put, n1, n2, n3, n4, n5, n6])
      refine wpAnyF_ready (rs := [7]) (by kernel_rfl) (by simp) ?_
      refine AllReadyF.last (by kernel_rfl) rfl (fun KK hKK => ?_) AllReadyF.nil
      rw [if_pos (by rfl)]
      refine wp_store_mid 58 (.tmp 60) (.tmp 59) rfl lg (j * 7) #[.bool ne, .bool nl, .bool nq, .bool na, .bool nn, .int .i64 ng, .int .i64 np] rfl rfl HTH.out size_ln (by simp [Value.oneCell']) ?_
      simp only
      refine hKK.out _ _ ?_
      clear hKK KK
      (try simp only [Act.put, List.getElem_toArray, List.getElem_cons_zero, List.getElem_cons_succ])
      refine wpAnyF_done (by kernel_rfl) ?_ _
      refine NoPanic.normal ?_
      have HR9 := hi (HW6.out.drew.drew.setLn HKE.out HNE.out ⟨⟨ne, nl, nq, na⟩, nn, ng, np⟩)
      go_wp2
      go_roundw
      case rel =>
       refine ⟨k + 1, by omega, by go_num, by rw [HE.out, HSN.out], ?_⟩
       rw [HE.out, HSN.out]
       exact HR9
      case measure => simp only [intOf]; omega
     ·rw [if_neg heq] at HSN
      have hd : eqLn ne nl nq na nn ng np e lb' q a en gr pr = false := by rw [HDEC.out]; exact decide_eq_false heq
      rw [hd]
      simp only [Bool.not_false]
      clear HDEC heq hd
      go_wp2
      have HS10 := hi (And.intro HNL.out.drew.drew hb6)
      refine wp_region_noPanic ?_
      refine wp_region_last_drew (S := (fun W' => CB W' N 58 #[.bool ne, .bool nl, .bool nq, .bool na, .bool nn, .int .i64 ng, .int .i64 np] ∧ W'.cell? ⟨b, 1, none⟩ = some (.slice (some ⟨lg, 0, none⟩) n lc))) [7] (by kernel_rfl) HS10.out (fun hHeld => ?_)
      (try simp only [r1, r2, r3, r4, r5])
      refine tk 0 (v := ?_) rfl (Or.inl ⟨by rfl, ?_⟩) ?_
      rotate_left
      ·intro w' hSw; (try dsimp only at hSw); obtain ⟨hs1, hs2⟩ := hSw; obtain ⟨k0, k1, k2, k3, k4, k5, k6⟩ := CB.cells7 (l := ⟨⟨ne, nl, nq, na⟩, nn, ng, np⟩) hs1; dsimp only at k0 k1 k2 k3 k4 k5 k6; go_simp; (try with_reducible rfl)
      (try simp only [Act.put, n1, n2, n4, n5, n6])
      refine tk 1 (v := ?_) rfl (Or.inl ⟨by rfl, ?_⟩) ?_
      rotate_left
      ·intro w' hSw; (try dsimp only at hSw); obtain ⟨hs1, hs2⟩ := hSw; obtain ⟨k0, k1, k2, k3, k4, k5, k6⟩ := CB.cells7 (l := ⟨⟨ne, nl, nq, na⟩, nn, ng, np⟩) hs1; dsimp only at k0 k1 k2 k3 k4 k5 k6; go_simp; (try with_reducible rfl)
      (try simp only [Act.put, n1, n2, n3, n4, n5, n6])
      refine tk 2 (v := ?_) rfl (Or.inl ⟨by rfl, ?_⟩) ?_
      rotate_left
      ·intro w' hSw; (try dsimp only at hSw); obtain ⟨hs1, hs2⟩ := hSw; obtain ⟨k0, k1, k2, k3, k4, k5, k6⟩ := CB.cells7 (l := ⟨⟨ne, nl, nq, na⟩, nn, ng, np⟩) hs1; dsimp only at k0 k1 k2 k3 k4 k5 k6; go_simp; (try with_reducible rfl)
      (try simp only [Act.put, n1, n2, n3, n4, n5, n6])
      refine tk 3 (v := ?_) rfl (Or.inl ⟨by rfl, ?_⟩) ?_
      rotate_left
      ·intro w' hSw; (try dsimp only at hSw); obtain ⟨hs1, hs2⟩ := hSw; obtain ⟨k0, k1, k2, k3, k4, k5, k6⟩ := CB.cells7 (l := ⟨⟨ne, nl, nq, na⟩, nn, ng, np⟩) hs1; dsimp only at k0 k1 k2 k3 k4 k5 k6; go_simp; (try with_reducible rfl)
      (try simp only [Act.put, n1, n2, n3, n4, n5, n6])
      refine tk 4 (v := ?_) rfl (Or.inl ⟨by rfl, ?_⟩) ?_
      rotate_left
      ·intro w' hSw; (try dsimp only at hSw); obtain ⟨hs1, hs2⟩ := hSw; obtain ⟨k0, k1, k2, k3, k4, k5, k6⟩ := CB.cells7 (l := ⟨⟨ne, nl, nq, na⟩, nn, ng, np⟩) hs1; dsimp only at k0 k1 k2 k3 k4 k5 k6; go_simp; (try with_reducible rfl)
      (try simp only [Act.put, n1, n2, n3, n4, n5, n6])
      refine tk 5 (v := ?_) rfl (Or.inl ⟨by rfl, ?_⟩) ?_
      rotate_left
      ·intro w' hSw; (try dsimp only at hSw); obtain ⟨hs1, hs2⟩ := hSw; obtain ⟨k0, k1, k2, k3, k4, k5, k6⟩ := CB.cells7 (l := ⟨⟨ne, nl, nq, na⟩, nn, ng, np⟩) hs1; dsimp only at k0 k1 k2 k3 k4 k5 k6; go_simp; (try with_reducible rfl)
      (try simp only [Act.put, n1, n2, n3, n4, n5, n6])
      refine tk 6 (v := ?_) rfl (Or.inl ⟨by rfl, ?_⟩) ?_
      rotate_left
      ·intro w' hSw; (try dsimp only at hSw); obtain ⟨hs1, hs2⟩ := hSw; obtain ⟨k0, k1, k2, k3, k4, k5, k6⟩ := CB.cells7 (l := ⟨⟨ne, nl, nq, na⟩, nn, ng, np⟩) hs1; dsimp only at k0 k1 k2 k3 k4 k5 k6; go_simp; (try with_reducible rfl)
      (try simp only [Act.put, n1, n2, n3, n4, n5, n6])
      refine wpAnyF_ready (rs := [7]) (by kernel_rfl) (by simp) ?_
      refine AllReadyF.last (by kernel_rfl) rfl (fun KK hKK => ?_) AllReadyF.nil
      rw [if_pos (by rfl)]
      refine wp_store_mid 58 (.tmp 60) (.tmp 59) rfl lg (j * 7) #[.bool ne, .bool nl, .bool nq, .bool na, .bool nn, .int .i64 ng, .int .i64 np] rfl rfl HTH.out size_ln (by simp [Value.oneCell']) ?_
      simp only
      refine hKK.out _ _ ?_
      clear hKK KK
      (try simp only [Act.put, List.getElem_toArray, List.getElem_cons_zero, List.getElem_cons_succ])
      refine wpAnyF_done (by kernel_rfl) ?_ _
      refine NoPanic.normal ?_
      have HR9 := hi (HW6.out.drew.drew.setLn HKE.out HNE.out ⟨⟨ne, nl, nq, na⟩, nn, ng, np⟩)
      go_wp2
      go_roundw
      case rel =>
       refine ⟨k + 1, by omega, by go_num, by rw [HE.out, HSN.out], ?_⟩
       rw [HE.out, HSN.out]
       exact HR9
      case measure => simp only [intOf]; omega
  ·obtain rfl : k = c := by omega
   have HBB := hi (show RfAfter w b lg xg la xa lc xc f0 (wrL ⟨r, fp, k⟩ f0 v es (presL f0 n fp k)).1 wr from ⟨HX.out.rf, ((Kept.of HBW.out).trans HX.out.kept).mono (fun i q => ⟨fun e => q.1 (by
    have h1 := HLN.out (presL f0 n fp k)
    rw [e] at h1
    exact List.length_eq_zero_iff.1 h1.symm), q.2⟩)⟩)
   go_wp2
   go_ret
   exact ⟨rfl, HBB.out⟩
end Go.Proofs.YtieedhdmpabfkaaGreat
namespace Go.Proofs.YtieedhdmpabfkaaGreat
open Go.ChangeShapes Go.WideShapes Go.ChangeAt Go.RowKit Go.Shelf
set_option linter.unusedVariables false
attribute [local go_sem] Oper.semAt_some
structure Rr where
 fr : Int
 to : Int
 wd : Int
 r : Int
 f : Int
 o : Int
 p : Int
deriving Inhabited
def Rr.cs (x : Rr) : List Value := [.int .i64 x.fr, .int .i64 x.to, .int .i64 x.wd, .int .i64 x.r, .int .i64 x.f, .int .i64 x.o, .int .i64 x.p]
abbrev Rr.ca (x : Rr) : Array Value := #[.int .i64 x.fr, .int .i64 x.to, .int .i64 x.wd, .int .i64 x.r, .int .i64 x.f, .int .i64 x.o, .int .i64 x.p]
theorem rr_len (x : Rr) : x.cs.length = 7 := rfl
abbrev flR (xs : List Rr) : List Value := flat Rr.cs xs
theorem flR_len (xs : List Rr) : (flR xs).length = xs.length * 7 := flat_len rr_len xs
theorem rr_one (x : Rr) : ∀ v ∈ x.cs, v.oneCell' = true := by
 intro v hv
 simp only [Rr.cs, List.mem_cons, List.not_mem_nil, or_false] at hv
 rcases hv with rfl | rfl | rfl | rfl | rfl | rfl | rfl <;> rfl
theorem info_rr : (Tryz.prog.info? 184).map (fun i => (i.zero, i.size, i.bytes)) = some (some (.agg #[.int .i64 0, .int .i64 0, .int .i64 0, .int .i64 0, .int .i64 0, .int .i64 0, .int .i64 0]), 7, 56) := by kernel_rfl
theorem own_later {W W' : World} {base sz : Nat} {te : TypeId} {v : Value} {n : Nat} {cs : List Value} (h : W.ownsRow base te sz v n cs) (k : Below W.heap.size W W') : W'.ownsRow base te sz v n cs :=
 h.kept (Below.grew k) (by cases ho : v.ownBlock with
  | none => exact .inl rfl
  | some b => exact .inr (by simp))
theorem cells_new (w : World) (cs : List Value) (t : TypeId) : ∀ j u, cs[j]? = some u → (w.alloc (.cells cs.toArray t)).cell? ((⟨w.heap.size, 0, none⟩ : Addr).add j) = some u := by
 intro j u h
 rw [addr_add, Nat.zero_add, (CB.new w t _).cell]
 simpa using h
def bitRow (k : Nat) : Rr := ⟨128 + 128 * k, 128 + 128 * k + 128, 4, 4 + k, 0, 8, 1⟩
def bitRows (k : Nat) : List Rr := (List.range k).map bitRow
theorem bitRows_len (k : Nat) : (bitRows k).length = k := by simp [bitRows]
theorem flR_bits (k : Nat) : flR (bitRows (k + 1)) = flR (bitRows k) ++ (bitRow k).cs := by
 rw [bitRows, List.range_succ, List.map_append, flR, flat_append]
 rfl
abbrev regsA : Array Value := #[.int .i64 4, .int .i64 5, .int .i64 6, .int .i64 7, .int .i64 8, .int .i64 9, .int .i64 10]
theorem regs_at {W : World} {B : Nat} {t : TypeId} (h : CB W B t regsA) {k : Nat} (hk : k < 7) : W.cell? ⟨B, k, none⟩ = some (.int .i64 (4 + k)) := by
 rw [h.cell]
 match k, hk with
 | 0, _ => rfl
 | 1, _ => rfl
 | 2, _ => rfl
 | 3, _ => rfl
 | 4, _ => rfl
 | 5, _ => rfl
 | 6, _ => rfl
 | k + 7, hk => omega
structure BW (w : World) (k : Nat) (v : Value) (W : World) : Prop where
 rg : CB W w.heap.size 68 regsA
 o : W.ownsRow (w.heap.size + 1) 184 7 v k (flR (bitRows k))
 below : Below w.heap.size w W
theorem BW.next {w W w9 : World} {k : Nat} {v v' : Value} {tmp : Obj} (h : BW w k v W) (ho : w9.ownsRow (w.heap.size + 1) 184 7 v' (k + 1) (flR (bitRows k) ++ (bitRow k).cs)) (hg : (W.alloc tmp).grownBy w9 v.ownBlock) : BW w (k + 1) v' w9 :=
 ⟨CB.kept (h.rg.alloc tmp) hg (own_above h.o (by omega)), by rw [flR_bits]; exact ho, (h.below.alloc h.below.size tmp).grown hg (by have := h.below.size; simp; omega) (fun j e => by have := (h.o.lt j e).1; omega)⟩
def Rowed (w : World) (n : Nat) (xs : List Rr) (e : Ending) (w' : World) : Prop := ∃ v, e = .returned v ∧ w'.ownsRow w.heap.size 184 7 v n (flR xs) ∧ Below w.heap.size w w'
set_option maxRecDepth 100000 in
set_option maxHeartbeats 4000000 in
theorem bits_any (w : World) : Calls Tryz.prog 130 #[.int .i64 128, .int .i64 128, .int .i64 128] w (Rowed w 7 (bitRows 7)) := by
 obtain ⟨i0, hi2, hz0, hz1, hz2⟩ := info_parts info_rr
 have H0 := hi (show BW w 0 (.slice none 0 0) (w.alloc (.cells regsA 68)) from ⟨CB.new _ _ _, World.ownsRow_nil _ _ _ _, bal w _⟩)
 go_enter Tryz.func130, Tryz.ntmps130
 go_wp2
 go_loopw [8, 9] (fun o i wr => ∃ k : Nat, k ≤ 7 ∧ i = .int .i64 k ∧ Hi (BW w k o wr)) (fun _ i _ => 7 - (intOf i).toNat)
 case atStart => exact ⟨0, Nat.zero_le _, rfl, H0⟩
 case round =>
  obtain ⟨k, hk, rfl, HX⟩ := hrel
  clear H0
  by_cases hlt : k < 7
  ·have hX := HX.out
   have hl := hX.o
   have hbs := hX.below.size
   have hrg := regs_at hX.rg hlt
   have hwl := hX.rg.lt
   have hw1 : IntKind.i64.wrap (128 * (k : Int)) = 128 * k := by rw [IntKind.wrap_i64]; omega
   have hw2 : IntKind.i64.wrap (128 + 128 * (k : Int)) = 128 + 128 * k := by rw [IntKind.wrap_i64]; omega
   have hw3 : IntKind.i64.wrap (128 + 128 * (k : Int) + 128) = 128 + 128 * k + 128 := by rw [IntKind.wrap_i64]; omega
   obtain ⟨va, vc, rfl⟩ := own_slice hl
   clear hX
   go_wp2_with (first
    | (at_builtin; refine wpList_append_own _ rfl _ _ 147 rfl (w.heap.size + 1) 184 i0 (.agg #[.int .i64 0, .int .i64 0, .int .i64 0, .int .i64 0, .int .i64 0, .int .i64 0, .int .i64 0]) 7 56 Tryz.underlying147 hi2 hz0 hz1 hz2 rfl (by decide) _ _ _ rfl (hl.alloc _) ⟨wr.heap.size, 0, none⟩ 1 1 (bitRow k).cs rfl rfl (cells_new _ _ _) (rr_one _) (by unfold maxLen; omega) (by omega) (by simp; omega) ?_; intro v' w9 hown' hgrow _; have HM := hi (HX.out.next hown' hgrow)))
   go_roundw
   case rel => exact ⟨k + 1, by omega, by go_num, HM⟩
   case measure => simp only [intOf]; omega
  ·obtain rfl : k = 7 := by omega
   go_wp2
   go_ret
   exact ⟨_, rfl, own_base HX.out.o (by omega), HX.out.below⟩
def rowsA : List Rr := [⟨0, 4, 4, 1, 0, 0, 1⟩, ⟨4, 8, 4, 2, 0, 0, 1⟩]
def rowsB : List Rr := [⟨1024, 2048, 4, 11, 0, 1, 1⟩, ⟨3072, 3328, 4, 12, 0, 4, 1⟩, ⟨24832, 32768, 8, 13, 32, 1, 8⟩]
def distRows : List Rr := (rowsA ++ bitRows 7) ++ rowsB
theorem flR_one (xs : List Rr) : ∀ v ∈ flR xs, v.oneCell' = true := flat_one_cell rr_one xs
theorem own_cells {W : World} {base n : Nat} {g cap : Nat} {xs : List Rr} (h : W.ownsRow base 184 7 (.slice (some ⟨g, 0, none⟩) n cap) n (flR xs)) : ∀ j u, (flR xs)[j]? = some u → W.cell? ((⟨g, 0, none⟩ : Addr).add j) = some u := by
 intro j u hu
 rw [addr_add, Nat.zero_add, (Row.own h).cell (List.getElem?_eq_some_iff.1 hu).1, hu]
theorem own_new (w : World) (xs : List Rr) (n : Nat) (hn : xs.length = n) (h2 : n ≤ maxLen) : (w.alloc (.cells (flR xs).toArray 184)).ownsRow w.heap.size 184 7 (.slice (some ⟨w.heap.size, 0, none⟩) n n) n (flR xs) :=
 ⟨by rw [flR_len, hn], .inr ⟨w.heap.size, n, (flR xs).toArray, rfl, Nat.le_refl _, World.alloc_heap_new w _, Nat.le_refl _, h2, by rw [List.size_toArray, flR_len, hn], by rw [List.take_of_length_le]; rw [flR_len, hn]; exact Nat.le_refl _⟩⟩
theorem bits7_len : (bitRows 7).length = 7 := bitRows_len 7
set_option maxRecDepth 100000 in
set_option maxHeartbeats 4000000 in
theorem dist_any (w : World) : Calls Tryz.prog 127 #[] w (Rowed w 12 distRows) := by
 obtain ⟨i0, hi2, hz0, hz1, hz2⟩ := info_parts info_rr
 have CB0 := hi (fun W => bits_any W)
 have HA := hi (own_new w rowsA 2 rfl (by unfold maxLen; omega))
 have HBA := hi (bal w (.cells (flR rowsA).toArray 184))
 have HFA : (flR rowsA).toArray = #[.int .i64 0, .int .i64 4, .int .i64 4, .int .i64 1, .int .i64 0, .int .i64 0, .int .i64 1, .int .i64 4, .int .i64 8, .int .i64 4, .int .i64 2, .int .i64 0, .int .i64 0, .int .i64 1] := rfl
 rw [HFA] at HA HBA
 clear HFA
 go_enter Tryz.func127, Tryz.ntmps127
 go_wp2_with (first
  | (go_at_call 130; ((with_reducible refine (CB0.out _).mono ?_); rintro e w2 ⟨v7, rfl, ho7, hb7⟩; obtain ⟨g7, c7, rfl⟩ := ownsRow_succ ho7; have HO7 := hi ho7; have HA2 := hi (own_later HA.out hb7); have HB2 := hi (HBA.out.trans (hb7.mono HBA.out.size)); clear ho7 hb7))
  | (at_builtin; refine wpList_append_own _ rfl _ _ 147 rfl w.heap.size 184 i0 (.agg #[.int .i64 0, .int .i64 0, .int .i64 0, .int .i64 0, .int .i64 0, .int .i64 0, .int .i64 0]) 7 56 Tryz.underlying147 hi2 hz0 hz1 hz2 rfl (by decide) _ _ _ rfl HA2.out ⟨g7, 0, none⟩ 7 c7 (flR (bitRows 7)) rfl (by rw [flR_len, bits7_len]) (own_cells HO7.out) (flR_one _) (by unfold maxLen; omega) (by omega) HB2.out.size ?_; intro v' w9 hown' hgrow _; obtain ⟨g9, c9, rfl⟩ := ownsRow_succ hown'; have HO9 := hi hown'; have HB9 := hi (HB2.out.grown hgrow HB2.out.size (fun j e => by cases e; exact Nat.le_refl _)); clear hown' hgrow)
  | (at_builtin; refine wpList_append_own _ rfl _ _ 147 rfl w.heap.size 184 i0 (.agg #[.int .i64 0, .int .i64 0, .int .i64 0, .int .i64 0, .int .i64 0, .int .i64 0, .int .i64 0]) 7 56 Tryz.underlying147 hi2 hz0 hz1 hz2 rfl (by decide) _ _ _ rfl (HO9.out.alloc _) ⟨w9.heap.size, 0, none⟩ 3 3 (flR rowsB) rfl rfl (cells_new _ _ _) (flR_one _) (by unfold maxLen; omega) (by omega) (by have := HB9.out.size; simp; omega) ?_; intro v'' w8 hown8 hgrow8 _; have HO8 := hi hown8; have HB8 := hi ((HB9.out.alloc HB9.out.size _).grown hgrow8 (by have := HB9.out.size; simp; omega) (fun j e => (HO9.out.lt j e).1)); clear hown8 hgrow8))
 go_ret
 refine ⟨_, rfl, ?_, HB8.out⟩
 have h8 := HO8.out
 rw [show flR distRows = (flR rowsA ++ flR (bitRows 7)) ++ flR rowsB by rw [distRows, flR, flat_append, flat_append]]
 exact h8
end Go.Proofs.YtieedhdmpabfkaaGreat
