import Derived.Test.YtieedhdmpabfkaaGreatMg02
import Derived.Test.YtieedhdmpabfkaaGreatMg26
import Derived.Test.YtieedhdmpabfkaaGreatMg06
import Derived.Test.YtieedhdmpabfkaaGreatMg04
set_option linter.unusedSimpArgs false
namespace Go.Proofs.YtieedhdmpabfkaaGreat
open Go.ChangeShapes Go.WideShapes Go.ChangeAt Go.RowKit
set_option linter.unusedVariables false
theorem tg {F : Fence} {n : Nat} {P : Program} {ops : Array Oper} {Q : Exit → Act → World → Prop} {md : Region.Mode} {S : World → Prop} (i : Nat) {oi : Oper} {v : Value} {fuel : Nat} {listed : Array Bool} {a : Act} {w : World} (hro : F.round = none) (hi : ops[i]? = some oi) (hy : YieldsIf P ops S oi v a)
  (h : wpAnyG F n P md ops Q S fuel (listed.setIfInBounds i true) (a.put oi.dst v) w)
  (hs : Region.noSelect ops = true := by kernel_rfl) (hf : Region.free md ops listed i = true := by kernel_rfl) (hr : (Region.ready md ops listed).contains i = true := by kernel_rfl)
  (hQ : ∀ c a w, Q (.panic c) (a.put oi.dst v) w → Q (.panic c) a w := by exact fun _ _ _ h => h) (hab : ∀ w, oi.about P w a.eval = none := by exact fun _ => rfl) (hS : S w := by assumption) : wpAnyG F n P md ops Q S (fuel + 1) listed a w :=
 wpAnyG_take hro hi hs hf hr hQ hy hab hS h
end Go.Proofs.YtieedhdmpabfkaaGreat
namespace Go.Proofs.YtieedhdmpabfkaaGreat
open Go.ChangeShapes Go.WideShapes Go.ChangeAt Go.RowKit
set_option linter.unusedVariables false
structure KF (F R : Nat → Prop) (W W' : World) : Prop where
 size : W.heap.size ≤ W'.heap.size
 same : ∀ i, F i ∨ R i → W'.heap[i]? = W.heap[i]?
theorem KF.refl (F R : Nat → Prop) (W : World) : KF F R W W := ⟨Nat.le_refl _, fun _ _ => rfl⟩
theorem KF.trans {F R : Nat → Prop} {A B C : World} (h : KF F R A B) (k : KF F R B C) : KF F R A C := ⟨Nat.le_trans h.size k.size, fun i q => (k.same i q).trans (h.same i q)⟩
theorem KF.of_below {F R : Nat → Prop} {W W' : World} (h : Below W.heap.size W W') (hl : ∀ i, F i ∨ R i → i < W.heap.size) : KF F R W W' := ⟨h.size, fun i q => h.block i (hl i q)⟩
theorem KF.of_kept {F R bs : Nat → Prop} {W W' : World} (h : Kept bs W W') (hl : ∀ i, F i ∨ R i → i < W.heap.size) (hn : ∀ i, bs i → ¬ (F i ∨ R i)) : KF F R W W' := ⟨h.size, fun i q => h.block i (hl i q) (fun x => hn i x q)⟩
theorem KF.put {F R : Nat → Prop} {W : World} {l : Nat} {o : Obj} (h : ¬ (F l ∨ R l)) : KF F R W (W.putObj l o) := ⟨by simp, fun i q => World.putObj_heap_other (fun e => h (e ▸ q))⟩
theorem KF.mono {F R F' R' : Nat → Prop} {W W' : World} (h : KF F R W W') (hs : ∀ i, F' i ∨ R' i → F i ∨ R i) : KF F' R' W W' := ⟨h.size, fun i q => h.same i (hs i q)⟩
structure FrOk {β : Type} (J : β → (Nat → Prop) → World → Prop) : Prop where
 st : ∀ s F A A', J s F A → Kept F A A' → J s F A'
 sub : ∀ s F G A, J s F A → (∀ i, G i → F i ∨ A.heap.size ≤ i) → J s G A
theorem FrOk.and {β : Type} {I J : β → (Nat → Prop) → World → Prop} (h : FrOk I) (k : FrOk J) : FrOk (fun s F W => I s F W ∧ J s F W) :=
 ⟨fun s F A A' q w => ⟨h.st s F A A' q.1 w, k.st s F A A' q.2 w⟩, fun s F G A q w => ⟨h.sub s F G A q.1 w, k.sub s F G A q.2 w⟩⟩
theorem FrOk.pure {β : Type} (p : β → Prop) : FrOk (fun s (_ : Nat → Prop) (_ : World) => p s) := ⟨fun _ _ _ _ h _ => h, fun _ _ _ _ h _ => h⟩
theorem FrOk.map {β γ : Type} {J : β → (Nat → Prop) → World → Prop} (h : FrOk J) (f : γ → β) : FrOk (fun s F W => J (f s) F W) := ⟨fun s => h.st (f s), fun s => h.sub (f s)⟩
def OwnB {β : Type} (b : Nat) (t : TypeId) (f : β → Array Value) (s : β) (F : Nat → Prop) (W : World) : Prop := ¬ F b ∧ CB W b t (f s)
theorem FrOk.ownB {β : Type} (b : Nat) (t : TypeId) (f : β → Array Value) : FrOk (OwnB b t f) :=
 ⟨fun s F A A' q w => ⟨q.1, q.2.heap (w.block b q.2.lt q.1)⟩, fun s F G A q w => ⟨fun g => by rcases w b g with x | x; exact q.1 x; have := q.2.lt; omega, q.2⟩⟩
theorem FrOk.reads {β : Type} (R : Nat → Prop) (p : β → World → Prop) (hl : ∀ s A, p s A → ∀ i, R i → i < A.heap.size) (hp : ∀ s A A', p s A → A.heap.size ≤ A'.heap.size → (∀ i, R i → A'.heap[i]? = A.heap[i]?) → p s A') :
  FrOk (fun s F W => (∀ i, R i → ¬ F i) ∧ p s W) :=
 ⟨fun s F A A' q w => ⟨q.1, hp s A A' q.2 w.size (fun i r => w.block i (hl s A q.2 i r) (q.1 i r))⟩, fun s F G A q w => ⟨fun i r g => by rcases w i g with x | x; exact q.1 i r x; have := hl s A q.2 i r; omega, q.2⟩⟩
theorem FrOk.with_ {β : Type} {J : β → (Nat → Prop) → World → Prop} (h : FrOk J) (X : Nat → Prop) : FrOk (fun s F W => J s (fun i => F i ∨ X i) W) :=
 ⟨fun s F A A' q w => h.st s _ A A' q (w.mono (fun i x => .inl x)), fun s F G A q w => h.sub s _ _ A q (fun i x => by rcases x with x | x; (rcases w i x with y | y; exact .inl (.inl y); exact .inr y); exact .inl (.inr x))⟩
theorem FrOk.since {β : Type} (n : Nat) (w0 : World) (hn : n ≤ w0.heap.size) : FrOk (fun (_ : β) F W => (∀ i, F i → n ≤ i) ∧ Below n w0 W) :=
 ⟨fun s F A A' q w => ⟨q.1, q.2.trans (w.toBelow (Nat.le_trans hn q.2.size) q.1)⟩, fun s F G A q w => ⟨fun i g => by rcases w i g with x | x; exact q.1 i x; have := q.2.size; omega, q.2⟩⟩
def SeqS {α : Type} (P : Program) (g : Nat) (lb : Array Value) (encs : α → Array Value) (R : Nat → Prop) (S Sp : List α → Prop) (N : List α → α → Prop) (w : World) : Prop :=
 ∀ (l : Nat) (J Jx : List α → (Nat → Prop) → World → Prop) (F : Nat → Prop) (W : World), Below w.heap.size w W → FrOk J → FrOk Jx → (∀ i, F i → i < W.heap.size ∧ ¬ R i) →
  (∀ pre x (G : Nat → Prop) W1, J pre G W1 → N pre x → (∀ i, F i → G i) → (∀ i, G i → i < W1.heap.size ∧ ¬ R i) → W.heap.size ≤ W1.heap.size → ∀ m, YieldAt Fence.wide m P l (encs x) W1 fun e W' =>
   (e = .returned (.bool true) ∧ J (pre ++ [x]) G W' ∧ KF G R W1 W') ∨ (e = .returned (.bool false) ∧ Jx (pre ++ [x]) G W' ∧ KF G R W1 W')) →
  J [] F W →
  Calls P g (#[.func (.yield l) #[] #[]] ++ lb) W fun e W' => (∃ v, e = .returned v) ∧ ((∃ xs, S xs ∧ ∃ G, (∀ i, F i → G i) ∧ J xs G W') ∨ (∃ pre, Sp pre ∧ ∃ G, (∀ i, F i → G i) ∧ Jx pre G W'))
def ownPostF {α : Type} (F R : Nat → Prop) (I : List α → (Nat → Prop) → World → Prop) (Ix : Code → List α → (Nat → Prop) → World → Prop) (xs : List α) (W : World) : Exit → Act → World → Prop
 | .normal, _, W' => KF F R W W' ∧ I xs F W'
 | .ret, _, W' => KF F R W W' ∧ Ix .ret xs F W'
 | .exit id, _, W' => KF F R W W' ∧ Ix (.exit id) xs F W'
 | .goto t, _, W' => KF F R W W' ∧ Ix (.goto t) xs F W'
 | .panic _, _, _ => False
 | .outgrown, _, _ => False
variable {n : Nat} {P : Program} {w : World}
theorem range_fr {α : Type} {g : Operand} {ps : Array Tmp} {assign body : Code} {Q : Exit → Act → World → Prop} {a : Act}
  (h1 : 1 ≤ n) {gf : Nat} {lb : Array Value} (hg : a.eval g = .func (.func gf) #[] lb) (eg : ∀ args w, (callFunc gf args).run P w = .ok (.enter gf args) w)
  {encs : α → Array Value} {R : Nat → Prop} {S Sp : List α → Prop} {N : List α → α → Prop} {w0 : World} (hseq : SeqS P gf lb encs R S Sp N w0)
  (hb0 : Below w0.heap.size w0 w) (hps : ∀ x, (encs x).size = ps.size) (hR : ∀ i, R i → i < w.heap.size)
  (Fr : Nat → Prop) (hFr : ∀ i, Fr i → i < w.heap.size ∧ ¬ R i)
  (I : List α → (Nat → Prop) → World → Prop) (Ix : Code → List α → (Nat → Prop) → World → Prop) (hI : FrOk I) (hIx : ∀ c, FrOk (Ix c)) (h0 : I [] Fr w)
  (Ax : α → Act → (Nat → Prop) → World → Prop) (hAx : ∀ x a', FrOk (fun (_ : Unit) F W => Ax x a' F W))
  (hassign : ∀ (l : Nat) (pre : List α) (x : α) (F : Nat → Prop) (W : World) (K : Act → World → Prop), I pre F W → (∀ i, Fr i → F i) → (∀ i, F i → i < W.heap.size ∧ ¬ R i) → w.heap.size + 2 ≤ W.heap.size → (∀ a' W', KF F R W W' → I pre F W' → Ax x a' F W' → K a' W') →
   assign.wpIn (Fence.wide.inRound l) (n - 1 - 1) P (Exit.then K (fun _ _ _ => False)) { tmps := (ps.zip (encs x)).foldl (fun t (p, v) => t.setIfInBounds p v) a.tmps, defers := [] } W)
  (hbody : ∀ (l : Nat) (pre : List α) (x : α) (a' : Act) (F : Nat → Prop) (W : World), (∀ i, Fr i → F i) → (∀ i, F i → i < W.heap.size ∧ ¬ R i) → w.heap.size + 2 ≤ W.heap.size → I pre F W → Ax x a' F W → N pre x → body.wpIn (Fence.wide.inRound l) (n - 1 - 1) P (ownPostF F R I Ix (pre ++ [x]) W) a' W)
  (hdone : ∀ (xs : List α) (F : Nat → Prop) (W : World), S xs → (∀ i, Fr i → F i) → I xs F W → W.heap[w.heap.size]? = some (.deferred (some [])) → w.heap.size + 2 ≤ W.heap.size → Q .normal { a with defers := { target := .collected w.heap.size, args := #[] } :: a.defers } W)
  (hstop : ∀ (c : Code) (pre : List α) (F : Nat → Prop) (W : World), Sp pre → (∀ i, Fr i → F i) → Ix c pre F W → W.heap[w.heap.size]? = some (.deferred (some [])) → w.heap.size + 2 ≤ W.heap.size → c.wpIn Fence.wide n P Q { a with defers := { target := .collected w.heap.size, args := #[] } :: a.defers } W) :
  (Code.rangeFunc g ps assign body).wpIn Fence.wide n P Q a w := by
 refine wpIn_rangeFunc ?_
 intro fn hfn
 rw [show Fence.wide.round = none from rfl]
 obtain ⟨rec, hrec⟩ : ∃ rec : LoopState → Option Code → Loop, rec = fun st pe => { state := st, pending := pe, fn, tmps := a.tmps, params := ps, assign, body, defers := w.heap.size } := ⟨_, rfl⟩
 obtain ⟨W1, hW1⟩ : ∃ W1, (w.alloc (.deferred (some []))).alloc (.loop (rec .ready none)) = W1 := ⟨_, rfl⟩
 have hL1 : W1.heap[w.heap.size + 1]? = some (.loop (rec .ready none)) := by
  rw [← hW1]; have := World.alloc_heap_new (w.alloc (.deferred (some []))) (.loop (rec .ready none)); rwa [World.size_alloc] at this
 have hK1 : W1.heap[w.heap.size]? = some (.deferred (some [])) := by
  rw [← hW1]; exact (Below.heap_alloc _ _ _ (by simp)).trans (World.alloc_heap_new w _)
 have hbw : Below w.heap.size w W1 := by
  rw [← hW1]; exact ((Below.refl _ w).alloc (Nat.le_refl _) _).alloc (by simp) _
 obtain ⟨Y, hY⟩ : ∃ Y : (Nat → Prop) → (Nat → Prop), Y = fun G i => G i ∨ i = w.heap.size ∨ i = w.heap.size + 1 := ⟨_, rfl⟩
 have Yl : ∀ {G : Nat → Prop} {i : Nat}, G i → Y G i := fun h => by rw [hY]; exact .inl h
 have Y0 : ∀ {G : Nat → Prop}, Y G w.heap.size := by intro G; rw [hY]; exact .inr (.inl rfl)
 have Y1 : ∀ {G : Nat → Prop}, Y G (w.heap.size + 1) := by intro G; rw [hY]; exact .inr (.inr rfl)
 have Yc : ∀ {G : Nat → Prop} {i : Nat}, Y G i → G i ∨ i = w.heap.size ∨ i = w.heap.size + 1 := fun h => by rw [hY] at h; exact h
 have hI1 : I [] (Y Fr) W1 := hI.st _ _ _ _ (hI.sub _ _ _ _ h0 (fun i q => by rcases Yc q with q | q | q; exact .inl q; exact .inr (by omega); exact .inr (by omega))) (Kept.of hbw)
 have hs1 : W1.heap.size = w.heap.size + 2 := by rw [← hW1]; simp
 have hb1 : Below w0.heap.size w0 W1 := hb0.trans (hbw.mono hb0.size)
 clear hY
 refine ⟨w.heap.size + 1, [{ target := .collected w.heap.size, args := #[] }], W1, { target := .fn (.func gf) lb, args := #[.func (.yield (w.heap.size + 1)) #[] #[]] }, W1, gf,
  #[.func (.yield (w.heap.size + 1)) #[] #[]] ++ lb, W1, ?_, ?_, ?_, ?_, fun _ => h1, ?_⟩
 ·rw [← hW1, hrec]; exact run_enterLoop_outer _ _ _ _ _
 ·simp only [resolve, hg]
  simp [go_sem]
 ·intro f' hf'; trivial
 ·simp [invoke, go_sem, eg]
 ·have keepPut : ∀ (G : Nat → Prop) (W : World) (o : Obj), Kept (Y G) W (W.putObj (w.heap.size + 1) o) := fun G W o => ⟨rfl, rfl, rfl, by simp, fun i _ hn => World.putObj_heap_other (fun e => hn (by rw [e]; exact Y1))⟩
  have ok : ∀ (X : List α → (Nat → Prop) → World → Prop) (ob : Obj), FrOk X → FrOk (fun pre (G : Nat → Prop) W => X pre (Y G) W ∧ (W.heap[w.heap.size + 1]? = some ob ∧ W.heap[w.heap.size]? = some (.deferred (some []))) ∧ ¬ G w.heap.size ∧ ¬ G (w.heap.size + 1)) := fun X ob hX =>
   ⟨fun s G A A' q k => ⟨hX.st _ _ _ _ q.1 (k.mono (fun i x => Yl x)), ⟨(k.block _ (Array.getElem?_eq_some_iff.1 q.2.1.1).1 q.2.2.2).trans q.2.1.1, (k.block _ (Array.getElem?_eq_some_iff.1 q.2.1.2).1 q.2.2.1).trans q.2.1.2⟩, q.2.2⟩,
    fun s F G A q k => ⟨hX.sub _ _ _ _ q.1 (fun i x => by rcases Yc x with x | x | x; (rcases k i x with y | y; exact .inl (Yl y); exact .inr y); exact .inl (by rw [x]; exact Y0); exact .inl (by rw [x]; exact Y1)), q.2.1,
     fun x => by rcases k _ x with y | y; exact q.2.2.1 y; have := (Array.getElem?_eq_some_iff.1 q.2.1.2).1; omega,
     fun x => by rcases k _ x with y | y; exact q.2.2.2 y; have := (Array.getElem?_eq_some_iff.1 q.2.1.1).1; omega⟩⟩
  refine (callsIn_wide.2 (hseq (w.heap.size + 1)
   (fun pre G W => I pre (Y G) W ∧ (W.heap[w.heap.size + 1]? = some (.loop (rec .ready none)) ∧ W.heap[w.heap.size]? = some (.deferred (some []))) ∧ ¬ G w.heap.size ∧ ¬ G (w.heap.size + 1))
   (fun pre G W => ∃ c, Ix c pre (Y G) W ∧ (W.heap[w.heap.size + 1]? = some (.loop (rec .done (some c))) ∧ W.heap[w.heap.size]? = some (.deferred (some []))) ∧ ¬ G w.heap.size ∧ ¬ G (w.heap.size + 1))
   Fr W1 hb1 (ok I _ hI)
   ⟨fun s G A A' q k => by obtain ⟨c, q⟩ := q; exact ⟨c, (ok (Ix c) _ (hIx c)).st s G A A' q k⟩, fun s F G A q k => by obtain ⟨c, q⟩ := q; exact ⟨c, (ok (Ix c) _ (hIx c)).sub s F G A q k⟩⟩
   (fun i q => ⟨by have := (hFr i q).1; omega, (hFr i q).2⟩)
   ?_ ⟨hI1, ⟨hL1, hK1⟩, fun q => by have := (hFr _ q).1; omega, fun q => by have := (hFr _ q).1; omega⟩)).mono ?_
  ·
   rintro pre x G W ⟨hi, ⟨hl, hk⟩, hn0, hn1⟩ hlen hFG hGs hsz m
   refine yieldAny rfl (m := n - 1 - 1) m ?_
   rw [hs1] at hsz
   have hlt : w.heap.size + 1 < W.heap.size := (Array.getElem?_eq_some_iff.1 hl).1
   have hy := run_yield (P := P) (args := encs x) hl (by rw [hrec]; exact hps x)
   rw [hrec] at hy
   have hYs : ∀ W' : World, W.heap.size ≤ W'.heap.size → ∀ i, Y G i → i < W'.heap.size ∧ ¬ R i := fun W' hs i q => by
    rcases Yc q with q | q | q
    ·exact ⟨Nat.lt_of_lt_of_le (hGs i q).1 hs, (hGs i q).2⟩
    ·exact ⟨by omega, fun r => by have := hR i r; omega⟩
    ·exact ⟨by omega, fun r => by have := hR i r; omega⟩
   refine ⟨fn, _, assign, body, hy, roundIn_of_wpIn hfn (hassign _ pre x (Y G) W _ hi (fun i q => Yl (hFG i q)) (hYs W (Nat.le_refl _)) hsz ?_)⟩
   clear hy
   intro a' Wa hka hia hax
   have hla := (hka.same _ (.inl Y1)).trans hl
   have hka0 := (hka.same _ (.inl Y0)).trans hk
   have hlta : w.heap.size + 1 < Wa.heap.size := (Array.getElem?_eq_some_iff.1 hla).1
   refine ⟨_, run_beginRound hla (by rw [hrec]), ?_⟩
   obtain ⟨Wb, hWb⟩ : ∃ Wb, Wa.putObj (w.heap.size + 1) (.loop { rec .ready none with state := .busy }) = Wb := ⟨_, rfl⟩
   have hlb : Wb.heap[w.heap.size + 1]? = some (.loop { rec .ready none with state := .busy }) := by rw [← hWb]; exact World.putObj_heap_same hlta
   have hkb : Wb.heap[w.heap.size]? = some (.deferred (some [])) := by rw [← hWb]; exact (World.putObj_heap_other (by omega)).trans hka0
   have hib : I pre (Y G) Wb := by rw [← hWb]; exact hI.st _ _ _ _ hia (keepPut G Wa _)
   have hxb : Ax x a' (Y G) Wb := by rw [← hWb]; exact (hAx x a').st () _ _ _ hax (keepPut G Wa _)
   have hsb : Wa.heap.size = Wb.heap.size := by rw [← hWb]; simp
   have hnk : ∀ (V : World) (o : Obj), KF G R V (V.putObj (w.heap.size + 1) o) := fun V o => KF.put (fun q => by rcases q with q | q; exact hn1 q; have := hR _ q; omega)
   have hkw : KF G R W Wb := (hka.mono (fun i q => by rcases q with q | q; exact .inl (Yl q); exact .inr q)).trans (by rw [← hWb]; exact hnk Wa _)
   rw [hWb]
   refine wpIn_mono (hbody _ pre x a' (Y G) _ (fun i q => Yl (hFG i q)) (hYs _ (by have := hka.size; omega)) (by have := hka.size; omega) hib hxb hlen) ?_
   have fin : ∀ (jump : Option Code) (W3 : World), KF (Y G) R Wb W3 →
     (Instr.endRound (w.heap.size + 1) jump).run P W3 = .ok (.bool jump.isNone) (W3.putObj (w.heap.size + 1) (.loop (rec (if jump.isNone then .ready else .done) jump))) ∧
     (W3.putObj (w.heap.size + 1) (.loop (rec (if jump.isNone then .ready else .done) jump))).heap[w.heap.size + 1]? = some (.loop (rec (if jump.isNone then .ready else .done) jump)) ∧
     (W3.putObj (w.heap.size + 1) (.loop (rec (if jump.isNone then .ready else .done) jump))).heap[w.heap.size]? = some (.deferred (some [])) ∧
     KF G R W (W3.putObj (w.heap.size + 1) (.loop (rec (if jump.isNone then .ready else .done) jump))) := fun jump W3 hk3 => by
    have hl3 := (hk3.same _ (.inl Y1)).trans hlb
    have := run_endRound (P := P) jump hl3
    rw [hrec] at this ⊢
    exact ⟨this, World.putObj_heap_same (Array.getElem?_eq_some_iff.1 hl3).1, (World.putObj_heap_other (by omega)).trans ((hk3.same _ (.inl Y0)).trans hkb), (hkw.trans (hk3.mono (fun i q => by rcases q with q | q; exact .inl (Yl q); exact .inr q))).trans (hnk W3 _)⟩
   rintro e a3 W3 hp
   cases e with
   | normal =>
    obtain ⟨hk3, hi3⟩ := hp
    obtain ⟨hr, hl4, hk4, hkf⟩ := fin none W3 hk3
    exact ⟨_, _, hr, .inl ⟨rfl, ⟨hI.st _ _ _ _ hi3 (keepPut G W3 _), ⟨hl4, hk4⟩, hn0, hn1⟩, hkf⟩⟩
   | ret =>
    obtain ⟨hk3, hi3⟩ := hp
    obtain ⟨hr, hl4, hk4, hkf⟩ := fin (some .ret) W3 hk3
    exact ⟨_, _, hr, .inr ⟨rfl, ⟨.ret, (hIx _).st _ _ _ _ hi3 (keepPut G W3 _), ⟨hl4, hk4⟩, hn0, hn1⟩, hkf⟩⟩
   | exit id =>
    obtain ⟨hk3, hi3⟩ := hp
    obtain ⟨hr, hl4, hk4, hkf⟩ := fin (some (.exit id)) W3 hk3
    exact ⟨_, _, hr, .inr ⟨rfl, ⟨.exit id, (hIx _).st _ _ _ _ hi3 (keepPut G W3 _), ⟨hl4, hk4⟩, hn0, hn1⟩, hkf⟩⟩
   | goto t =>
    obtain ⟨hk3, hi3⟩ := hp
    obtain ⟨hr, hl4, hk4, hkf⟩ := fin (some (.goto t)) W3 hk3
    exact ⟨_, _, hr, .inr ⟨rfl, ⟨.goto t, (hIx _).st _ _ _ _ hi3 (keepPut G W3 _), ⟨hl4, hk4⟩, hn0, hn1⟩, hkf⟩⟩
   | panic ch => exact hp.elim
   | outgrown => exact hp.elim
  ·
   rintro e W2 ⟨⟨v, rfl⟩, (⟨xs, hS, G, hFG, hi, ⟨hl, hk⟩, hn0, hn1⟩ | ⟨pre, hSp, G, hFG, c, hi, ⟨hl, hk⟩, hn0, hn1⟩)⟩
   ·exact ⟨none, _, by have := run_endLoop (P := P) hl (by rw [hrec]; simp); rw [hrec] at this; exact this, hdone xs (Y G) _ hS (fun i q => Yl (hFG i q)) (hI.st _ _ _ _ hi (keepPut G W2 _)) ((World.putObj_heap_other (by omega)).trans hk) (by have := (Array.getElem?_eq_some_iff.1 hl).1; simp; omega)⟩
   ·exact ⟨some c, _, by have := run_endLoop (P := P) hl (by rw [hrec]; simp); rw [hrec] at this; exact this, hstop c pre (Y G) _ hSp (fun i q => Yl (hFG i q)) ((hIx c).st _ _ _ _ hi (keepPut G W2 _)) ((World.putObj_heap_other (by omega)).trans hk) (by have := (Array.getElem?_eq_some_iff.1 hl).1; simp; omega)⟩
end Go.Proofs.YtieedhdmpabfkaaGreat
