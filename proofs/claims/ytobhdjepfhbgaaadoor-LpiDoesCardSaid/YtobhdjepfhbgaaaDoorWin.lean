/-
  The law on a range over a function where the iterator keeps state of its own: what it may turn is a window of blocks that it lays ahead of its first round; the loop's own two blocks lie just ahead of that window. Nothing of the program.
-/
import Derived.RangeFuncNested
import Derived.RangeFuncBound
import Derived.RangeFuncCalls
import Derived.RangeFuncLeaves
import Derived.Test.YtobhdjepfhbgaaaDoorGnd
namespace Go.Proofs.YtobhdjepfhbgaaaDoor
open Go.ChangeShapes Go.WideShapes Go.ChangeAt Go.RowKit
set_option linter.unusedVariables false

theorem roundAny {F : Fence} (hd : F.depth = none) {m m' : Nat} {P : Program} {l : Nat} {f : FuncId} {tmps : Array Value} {assign body : Code} {w : World} {R : Ending → World → Prop}
    (h : RoundIn F m P l f tmps assign body w R) : RoundIn F m' P l f tmps assign body w R := ⟨h.1, fun c cs _ => h.2 c cs (fun d e => by rw [hd] at e; cases e)⟩
theorem yieldAny {F : Fence} (hd : F.depth = none) {m : Nat} (m' : Nat) {P : Program} {l : Nat} {args : Array Value} {W : World} {R : Ending → World → Prop} (h : YieldAt F m P l args W R) : YieldAt F m' P l args W R := by
  obtain ⟨fn, tmps, assign, body, hy, hR⟩ := h
  exact ⟨fn, tmps, assign, body, hy, roundAny hd hR⟩

/-- J abides new blocks, and the turn of a block of the window of k blocks from B on. -/
def AbW {β : Type} (B k : Nat) (J : β → World → Prop) : Prop := ∀ s A A' row, J s A → A.grownBy A' row → (∀ r, row = some r → B ≤ r ∧ r < B + k) → J s A'
theorem AbW.alloc {β : Type} {B k : Nat} {J : β → World → Prop} (h : AbW B k J) {s : β} {W : World} (o : Obj) (hs : J s W) : J s (W.alloc o) :=
  h s W _ none hs (World.grownBy_alloc W o none) (fun r e => by cases e)
theorem AbW.put {β : Type} {B k : Nat} {J : β → World → Prop} (h : AbW B k J) {s : β} {W : World} {l : Nat} (o' : Obj) (hs : J s W) (h1 : B ≤ l) (h2 : l < B + k) : J s (W.putObj l o') :=
  h s W _ (some l) hs (grownBy_putObj' W l o') (fun r e => by cases e; exact ⟨h1, h2⟩)
theorem AbW.set {β : Type} {B k : Nat} {J : β → World → Prop} (h : AbW B k J) {s : β} {W : World} {l : Nat} (v : Value) (hs : J s W) (h1 : B ≤ l) (h2 : l < B + k) : J s (W.setCell ⟨l, 0, none⟩ v) :=
  h s W _ (some l) hs (grownBy_setCell' W l v) (fun r e => by cases e; exact ⟨h1, h2⟩)
theorem AbW.grow {β : Type} {B k : Nat} {J : β → World → Prop} (h : AbW B k J) {s : β} {W W' : World} (hs : J s W) (hg : W.grownBy W' none) : J s W' := h s W _ none hs hg (fun r e => by cases e)
theorem AbW.and {β : Type} {B k : Nat} {I I' : β → World → Prop} (h : AbW B k I) (h' : AbW B k I') : AbW B k (fun s W => I s W ∧ I' s W) := fun s W W' row hs hg hr => ⟨h s W W' row hs.1 hg hr, h' s W W' row hs.2 hg hr⟩
theorem AbW.pure {β : Type} (B k : Nat) (p : β → Prop) : AbW B k (fun s (_ : World) => p s) := fun _ _ _ _ hs _ _ => hs
theorem AbW.mono {β : Type} {B B' k k' : Nat} {I : β → World → Prop} (h : AbW B k I) (h1 : B ≤ B') (h2 : B' + k' ≤ B + k) : AbW B' k' I := fun s W W' row hs hg hr => h s W W' row hs hg (fun r e => by have := hr r e; omega)
theorem AbW.boxed {β : Type} {B k : Nat} (b : Nat) (t : TypeId) (f : β → Value) (hb : b < B ∨ B + k ≤ b) : AbW B k (fun s W => Boxed W b t (f s)) := fun s A A' row hs hg hr => hs.kept hg (fun e => by have := hr b e.symm; omega)
theorem AbW.below {β : Type} {B k n₀ : Nat} {w : World} (hn : n₀ ≤ w.heap.size) (hB : n₀ ≤ B) : AbW B k (fun (_ : β) W => Below n₀ w W) := fun s A A' row hs hg hr => hs.grown hg (Nat.le_trans hn hs.size) (fun r e => by have := hr r e; omega)

/-- I abides new blocks, the turn of a block that is no cells among the two from B on (the loop's own), and the turn of one of the k behind them (the iterator's). -/
def AbL {β : Type} (B k : Nat) (I : β → World → Prop) : Prop := ∀ s A A' row, I s A → A.grownBy A' row →
  (∀ r, row = some r → (B ≤ r ∧ r < B + 2 ∧ ∃ o : Obj, A.heap[r]? = some o ∧ o.isCells = false) ∨ (B + 2 ≤ r ∧ r < B + 2 + k)) → I s A'
theorem AbL.alloc {β : Type} {B k : Nat} {J : β → World → Prop} (h : AbL B k J) {s : β} {W : World} (o : Obj) (hs : J s W) : J s (W.alloc o) :=
  h s W _ none hs (World.grownBy_alloc W o none) (fun r e => by cases e)
theorem AbL.put {β : Type} {B k : Nat} {J : β → World → Prop} (h : AbL B k J) {s : β} {W : World} {l : Nat} (o' : Obj) (hs : J s W) (h1 : B ≤ l) (h2 : l < B + 2) {o : Obj} (hl : W.heap[l]? = some o) (ho : o.isCells = false) : J s (W.putObj l o') :=
  h s W _ (some l) hs (grownBy_putObj' W l o') (fun r e => by cases e; exact .inl ⟨h1, h2, o, hl, ho⟩)
theorem AbL.of {β : Type} {B k m : Nat} {I : β → World → Prop} (h : AbW B m I) (hm : m = 2 + k) : AbL B k I := fun s A A' row hs hg hr => h s A A' row hs hg (fun r e => by
  rcases hr r e with ⟨h1, h2, _⟩ | ⟨h1, h2⟩ <;> omega)
theorem AbL.own {β : Type} {B : Nat} {I : β → World → Prop} (h : Own I) : AbL B 0 I := fun s A A' row hs hg hr => h s A A' row hs hg (fun r e => by
  rcases hr r e with ⟨_, _, h3⟩ | ⟨h1, h2⟩
  · exact h3
  · omega)
theorem AbL.and {β : Type} {B k : Nat} {I I' : β → World → Prop} (h : AbL B k I) (h' : AbL B k I') : AbL B k (fun s W => I s W ∧ I' s W) := fun s W W' row hs hg hr => ⟨h s W W' row hs.1 hg hr, h' s W W' row hs.2 hg hr⟩
theorem AbL.pure {β : Type} (B k : Nat) (p : β → Prop) : AbL B k (fun s (_ : World) => p s) := fun _ _ _ _ hs _ _ => hs
theorem AbL.boxed {β : Type} {B k : Nat} (b : Nat) (t : TypeId) (f : β → Value) (hb : b < B ∨ B + 2 + k ≤ b) : AbL B k (fun s W => Boxed W b t (f s)) := AbL.of (AbW.boxed (k := 2 + k) b t f (by omega)) rfl
theorem AbL.below {β : Type} {B k n₀ : Nat} {w : World} (hn : n₀ ≤ w.heap.size) (hB : n₀ ≤ B) : AbL B k (fun (_ : β) W => Below n₀ w W) := AbL.of (AbW.below (k := 2 + k) hn hB) rfl

/-- WHAT IS NO CELLS AMONG A WINDOW's TWO BLOCKS LIES AS IT LAY. -/
structure KW (B : Nat) (W W' : World) : Prop where
  size : W.heap.size ≤ W'.heap.size
  same : ∀ (i : Nat) (o : Obj), B ≤ i → i < B + 2 → W.heap[i]? = some o → o.isCells = false → W'.heap[i]? = some o
theorem KW.refl (B : Nat) (W : World) : KW B W W := ⟨Nat.le_refl _, fun _ _ _ _ h _ => h⟩
theorem KW.trans {B : Nat} {X Y Z : World} (h : KW B X Y) (k : KW B Y Z) : KW B X Z := ⟨Nat.le_trans h.size k.size, fun i o a b c d => k.same i o a b (h.same i o a b c d) d⟩
theorem KW.of_others {B : Nat} {W W' : World} (h : KeepsOthers W W') : KW B W W' := ⟨h.size, fun i o _ _ c d => h.same i o c d⟩
theorem KW.of_below {B : Nat} {W W' : World} (h : Below W.heap.size W W') : KW B W W' := ⟨h.size, fun i o _ b c _ => (h.block i (Array.getElem?_eq_some_iff.1 c).1).trans c⟩
theorem KW.of_grown {B : Nat} {W W' : World} {row : Option Nat} (hg : W.grownBy W' row) (hr : ∀ r, row = some r → r < B ∨ B + 2 ≤ r) : KW B W W' :=
  ⟨hg.size, fun i o a b c _ => (hg.block i (Array.getElem?_eq_some_iff.1 c).1 (fun e => by have := hr i e.symm; omega)).trans c⟩
theorem KW.set {B : Nat} (W : World) (a : Addr) (v : Value) : KW B W (W.setCell a v) := KW.of_others (KeepsOthers.setCell _ _ _)

/-- AN ITERATOR's CONTRACT: it turns a window of k blocks at most, laid when its call begins. -/
def SeqW {α : Type} (k : Nat) (P : Program) (g : Nat) (lb : Array Value) (encs : α → Array Value) (Kp : Nat → World → World → Prop) (S Sp : List α → Prop) (N : List α → α → Prop) (w : World) : Prop :=
  ∀ (l : Nat) (J Jx : List α → World → Prop) (W : World), Below w.heap.size w W → AbW W.heap.size k J → AbW W.heap.size k Jx →
    (∀ pre x W1, J pre W1 → N pre x → W.heap.size + k ≤ W1.heap.size → ∀ m, YieldAt Fence.wide m P l (encs x) W1 fun e W' =>
      (e = .returned (.bool true) ∧ J (pre ++ [x]) W' ∧ Kp W.heap.size W1 W') ∨ (e = .returned (.bool false) ∧ Jx (pre ++ [x]) W' ∧ Kp W.heap.size W1 W')) →
    J [] W →
    Calls P g (#[.func (.yield l) #[] #[]] ++ lb) W fun e W' => (∃ v, e = .returned v) ∧ ((∃ xs, S xs ∧ J xs W') ∨ (∃ pre, Sp pre ∧ Jx pre W'))

/-- HOW THE BODY OF A ROUND MAY BE LEFT. -/
def ownPostW {α : Type} (B : Nat) (Kp : World → World → Prop) (I : List α → World → Prop) (Ix : Code → List α → World → Prop) (xs : List α) (W : World) : Exit → Act → World → Prop
  | .normal, _, W' => KW B W W' ∧ Kp W W' ∧ I xs W'
  | .ret, _, W' => KW B W W' ∧ Kp W W' ∧ Ix .ret xs W'
  | .exit id, _, W' => KW B W W' ∧ Kp W W' ∧ Ix (.exit id) xs W'
  | .goto t, _, W' => KW B W W' ∧ Kp W W' ∧ Ix (.goto t) xs W'
  | .panic _, _, _ => False
  | .outgrown, _, _ => False

variable {n : Nat} {P : Program} {w : World}

theorem range_win {α : Type} {g : Operand} {ps : Array Tmp} {assign body : Code} {Q : Exit → Act → World → Prop} {a : Act}
    (h1 : 1 ≤ n) {gf : Nat} {lb : Array Value} (hg : a.eval g = .func (.func gf) #[] lb) (eg : ∀ args w, (callFunc gf args).run P w = .ok (.enter gf args) w)
    {k : Nat} {encs : α → Array Value} {Kp : Nat → World → World → Prop} {S Sp : List α → Prop} {N : List α → α → Prop} {w0 : World} (hseq : SeqW k P gf lb encs Kp S Sp N w0)
    (hKt : ∀ {A B C : World}, Kp (w.heap.size + 2) A B → Kp (w.heap.size + 2) B C → Kp (w.heap.size + 2) A C)
    (hKb : ∀ (W : World) (l : Nat) (o o' : Obj), w.heap.size ≤ l → l < w.heap.size + 2 → W.heap[l]? = some o → o.isCells = false → Kp (w.heap.size + 2) W (W.putObj l o'))
    (hb0 : Below w0.heap.size w0 w) (hps : ∀ x, (encs x).size = ps.size)
    (I : List α → World → Prop) (Ix : Code → List α → World → Prop) (hI : AbL w.heap.size k I) (hIx : ∀ c, AbL w.heap.size k (Ix c)) (h0 : I [] w)
    (Ax : α → Act → World → Prop) (hAx : ∀ x a', AbL w.heap.size k (fun (_ : Unit) W => Ax x a' W))
    (hassign : ∀ (l : Nat) (pre : List α) (x : α) (W : World) (K : Act → World → Prop), I pre W → w.heap.size + 2 + k ≤ W.heap.size → (∀ a' W', KW w.heap.size W W' → Kp (w.heap.size + 2) W W' → I pre W' → Ax x a' W' → K a' W') →
      assign.wpIn (Fence.wide.inRound l) (n - 1 - 1) P (Exit.then K (fun _ _ _ => False)) { tmps := (ps.zip (encs x)).foldl (fun t (p, v) => t.setIfInBounds p v) a.tmps, defers := [] } W)
    (hbody : ∀ (l : Nat) (pre : List α) (x : α) (a' : Act) (W : World), w.heap.size + 2 + k ≤ W.heap.size → I pre W → Ax x a' W → N pre x → body.wpIn (Fence.wide.inRound l) (n - 1 - 1) P (ownPostW w.heap.size (Kp (w.heap.size + 2)) I Ix (pre ++ [x]) W) a' W)
    (hdone : ∀ (xs : List α) (W : World), S xs → I xs W → W.heap[w.heap.size]? = some (.deferred (some [])) → w.heap.size + 2 ≤ W.heap.size → Q .normal { a with defers := { target := .collected w.heap.size, args := #[] } :: a.defers } W)
    (hstop : ∀ (c : Code) (pre : List α) (W : World), Sp pre → Ix c pre W → W.heap[w.heap.size]? = some (.deferred (some [])) → w.heap.size + 2 ≤ W.heap.size → c.wpIn Fence.wide n P Q { a with defers := { target := .collected w.heap.size, args := #[] } :: a.defers } W) :
    (Code.rangeFunc g ps assign body).wpIn Fence.wide n P Q a w := by
  refine wpIn_rangeFunc ?_
  intro fn hfn
  rw [show Fence.wide.round = none from rfl]
  obtain ⟨rec, hrec⟩ : ∃ rec : LoopState → Option Code → Loop, rec = fun st pe => { state := st, pending := pe, fn, tmps := a.tmps, params := ps, assign, body, defers := w.heap.size } := ⟨_, rfl⟩
  obtain ⟨W1, hW1⟩ : ∃ W1, (w.alloc (.deferred (some []))).alloc (.loop (rec .ready none)) = W1 := ⟨_, rfl⟩
  have hL1 : W1.heap[w.heap.size + 1]? = some (.loop (rec .ready none)) := by
    rw [← hW1]; have := World.alloc_heap_new (w.alloc (.deferred (some []))) (.loop (rec .ready none)); rwa [World.size_alloc] at this
  have hK1 : W1.heap[w.heap.size]? = some (.deferred (some [])) := by
    rw [← hW1]; exact (Below.heap_alloc _ _ _ (by simp)).trans (World.alloc_heap_new w _)
  have hI1 : I [] W1 := by rw [← hW1]; exact hI.alloc _ (hI.alloc _ h0)
  have hs1 : W1.heap.size = w.heap.size + 2 := by rw [← hW1]; simp
  have hb1 : Below w0.heap.size w0 W1 := by
    rw [← hW1]; exact hb0.trans ((((Below.refl _ w).alloc (Nat.le_refl _) _).alloc (by simp) _).mono hb0.size)
  refine ⟨w.heap.size + 1, [{ target := .collected w.heap.size, args := #[] }], W1, { target := .fn (.func gf) lb, args := #[.func (.yield (w.heap.size + 1)) #[] #[]] }, W1, gf,
    #[.func (.yield (w.heap.size + 1)) #[] #[]] ++ lb, W1, ?_, ?_, ?_, ?_, fun _ => h1, ?_⟩
  · rw [← hW1, hrec]; exact run_enterLoop_outer _ _ _ _ _
  · simp only [resolve, hg]
    simp [go_sem]
  · intro f' hf'; trivial
  · simp [invoke, go_sem, eg]
  · have hwin : ∀ {A B : World} {row : Option Nat} {i : Nat} {o : Obj}, A.grownBy B row → (∀ r, row = some r → W1.heap.size ≤ r ∧ r < W1.heap.size + k) → i < w.heap.size + 2 → A.heap[i]? = some o → B.heap[i]? = some o := fun hg hr hi ho =>
      (hg.block _ (Array.getElem?_eq_some_iff.1 ho).1 (fun e => by have := (hr _ e.symm).1; omega)).trans ho
    refine (callsIn_wide.2 (hseq (w.heap.size + 1)
      (fun pre W => I pre W ∧ W.heap[w.heap.size + 1]? = some (.loop (rec .ready none)) ∧ W.heap[w.heap.size]? = some (.deferred (some [])))
      (fun pre W => ∃ c, Ix c pre W ∧ W.heap[w.heap.size + 1]? = some (.loop (rec .done (some c))) ∧ W.heap[w.heap.size]? = some (.deferred (some [])))
      W1 hb1
      (fun s A B row hs hg' hr => ⟨hI s A B row hs.1 hg' (fun r e => .inr (by have := hr r e; omega)), hwin hg' hr (by omega) hs.2.1, hwin hg' hr (by omega) hs.2.2⟩)
      (fun s A B row hs hg' hr => by
        obtain ⟨c, hc, hl, hk⟩ := hs
        exact ⟨c, hIx c s A B row hc hg' (fun r e => .inr (by have := hr r e; omega)), hwin hg' hr (by omega) hl, hwin hg' hr (by omega) hk⟩)
      ?_ ⟨hI1, hL1, hK1⟩)).mono ?_
    · -- ONE ROUND
      rintro pre x W ⟨hi, hl, hk⟩ hlen hsz m
      refine yieldAny rfl (m := n - 1 - 1) m ?_
      rw [hs1] at hsz ⊢
      have hlt : w.heap.size + 1 < W.heap.size := (Array.getElem?_eq_some_iff.1 hl).1
      have hy := run_yield (P := P) (args := encs x) hl (by rw [hrec]; exact hps x)
      rw [hrec] at hy
      refine ⟨fn, _, assign, body, hy, roundIn_of_wpIn hfn (hassign _ pre x W _ hi hsz ?_)⟩
      clear hy
      intro a' Wa hkfa hkpa hia hax
      replace hl := hkfa.same _ _ (by omega) (by omega) hl rfl
      replace hk := hkfa.same _ _ (Nat.le_refl _) (by omega) hk rfl
      replace hlt : w.heap.size + 1 < Wa.heap.size := (Array.getElem?_eq_some_iff.1 hl).1
      replace hsz : w.heap.size + 2 + k ≤ Wa.heap.size := Nat.le_trans hsz hkfa.size
      replace hi := hia
      clear hia
      revert hkpa hkfa
      generalize W = Wb
      intro hkfa hkpa
      obtain ⟨W, rfl⟩ : ∃ W, W = Wa := ⟨_, rfl⟩
      refine ⟨_, run_beginRound hl (by rw [hrec]), ?_⟩
      have hl2 : (W.putObj (w.heap.size + 1) (.loop { rec .ready none with state := .busy })).heap[w.heap.size + 1]? = some (.loop { rec .ready none with state := .busy }) := World.putObj_heap_same hlt
      have hk2 : (W.putObj (w.heap.size + 1) (.loop { rec .ready none with state := .busy })).heap[w.heap.size]? = some (.deferred (some [])) := (World.putObj_heap_other (by omega)).trans hk
      have hw2 : Kp (w.heap.size + 2) W (W.putObj (w.heap.size + 1) (.loop { rec .ready none with state := .busy })) := hKb _ _ _ _ (by omega) (by omega) hl rfl
      refine wpIn_mono (hbody _ pre x a' _ (by simpa using hsz) (hI.put _ hi (by omega) (by omega) hl rfl) ((hAx x a').put (s := ()) _ hax (by omega) (by omega) hl rfl) hlen) ?_
      have fin : ∀ (jump : Option Code) (W3 : World), KW w.heap.size (W.putObj (w.heap.size + 1) (.loop { rec .ready none with state := .busy })) W3 →
          (Instr.endRound (w.heap.size + 1) jump).run P W3 = .ok (.bool jump.isNone) (W3.putObj (w.heap.size + 1) (.loop (rec (if jump.isNone then .ready else .done) jump))) ∧
          W3.heap[w.heap.size + 1]? = some (.loop { rec .ready none with state := .busy }) ∧
          (W3.putObj (w.heap.size + 1) (.loop (rec (if jump.isNone then .ready else .done) jump))).heap[w.heap.size + 1]? = some (.loop (rec (if jump.isNone then .ready else .done) jump)) ∧
          (W3.putObj (w.heap.size + 1) (.loop (rec (if jump.isNone then .ready else .done) jump))).heap[w.heap.size]? = some (.deferred (some [])) := fun jump W3 hk3 => by
        have hl3 := hk3.same _ _ (by omega) (by omega) hl2 rfl
        have := run_endRound (P := P) jump hl3
        rw [hrec] at this ⊢
        exact ⟨this, by rw [hrec] at hl3; exact hl3, World.putObj_heap_same (Array.getElem?_eq_some_iff.1 hl3).1, (World.putObj_heap_other (by omega)).trans (hk3.same _ _ (Nat.le_refl _) (by omega) hk2 rfl)⟩
      rintro e a3 W3 hp
      cases e with
      | normal =>
        obtain ⟨hk3, hkp3, hi3⟩ := hp
        obtain ⟨hr, hl3, hl4, hk4⟩ := fin none W3 hk3
        exact ⟨_, _, hr, .inl ⟨rfl, ⟨hI.put _ hi3 (by omega) (by omega) hl3 rfl, hl4, hk4⟩, hKt hkpa (hKt (hKt hw2 hkp3) (hKb _ _ _ _ (by omega) (by omega) hl3 rfl))⟩⟩
      | ret =>
        obtain ⟨hk3, hkp3, hi3⟩ := hp
        obtain ⟨hr, hl3, hl4, hk4⟩ := fin (some .ret) W3 hk3
        exact ⟨_, _, hr, .inr ⟨rfl, ⟨.ret, (hIx _).put _ hi3 (by omega) (by omega) hl3 rfl, hl4, hk4⟩, hKt hkpa (hKt (hKt hw2 hkp3) (hKb _ _ _ _ (by omega) (by omega) hl3 rfl))⟩⟩
      | exit id =>
        obtain ⟨hk3, hkp3, hi3⟩ := hp
        obtain ⟨hr, hl3, hl4, hk4⟩ := fin (some (.exit id)) W3 hk3
        exact ⟨_, _, hr, .inr ⟨rfl, ⟨.exit id, (hIx _).put _ hi3 (by omega) (by omega) hl3 rfl, hl4, hk4⟩, hKt hkpa (hKt (hKt hw2 hkp3) (hKb _ _ _ _ (by omega) (by omega) hl3 rfl))⟩⟩
      | goto t =>
        obtain ⟨hk3, hkp3, hi3⟩ := hp
        obtain ⟨hr, hl3, hl4, hk4⟩ := fin (some (.goto t)) W3 hk3
        exact ⟨_, _, hr, .inr ⟨rfl, ⟨.goto t, (hIx _).put _ hi3 (by omega) (by omega) hl3 rfl, hl4, hk4⟩, hKt hkpa (hKt (hKt hw2 hkp3) (hKb _ _ _ _ (by omega) (by omega) hl3 rfl))⟩⟩
      | panic ch => exact hp.elim
      | outgrown => exact hp.elim
    · -- BEHIND THE ITERATOR
      rintro e W2 ⟨⟨v, rfl⟩, (⟨xs, hS, hi, hl, hk⟩ | ⟨pre, hSp, c, hi, hl, hk⟩)⟩
      · exact ⟨none, _, by have := run_endLoop (P := P) hl (by rw [hrec]; simp); rw [hrec] at this; exact this, hdone xs _ hS (hI.put _ hi (by omega) (by omega) hl rfl) ((World.putObj_heap_other (by omega)).trans hk) (by have := (Array.getElem?_eq_some_iff.1 hl).1; simp; omega)⟩
      · exact ⟨some c, _, by have := run_endLoop (P := P) hl (by rw [hrec]; simp); rw [hrec] at this; exact this, hstop c pre _ hSp ((hIx c).put _ hi (by omega) (by omega) hl rfl) ((World.putObj_heap_other (by omega)).trans hk) (by have := (Array.getElem?_eq_some_iff.1 hl).1; simp; omega)⟩

end Go.Proofs.YtobhdjepfhbgaaaDoor
