/-
  Iterators over a bank's interrupts, whoever asks: what they keep, what they are told. All's iterator.
-/
import Derived.Test.YtjgamfonpagkbaaBnkG
import Derived.Test.YtjgamfonpagkbaaWin
import Derived.OwnWalkIn
import Derived.TacticsInMore
import Derived.LoopNIn
import Derived.LoopIn
namespace Go.Proofs.Ytjgamfonpagkbaa
open Go.ChangeShapes Go.WideShapes Go.ChangeAt Go.RowKit Go.Shelf
set_option linter.unusedVariables false
attribute [local go_sem] Oper.semAt_some

abbrev It := Int × En
abbrev encI (x : It) : Array Value := #[.int .i64 x.1, x.2.v]
def items (f : Int) : List En → List It
  | [] => []
  | x :: r => (f, x) :: items (f + 1) r
theorem items_len : ∀ (f : Int) (es : List En), (items f es).length = es.length
  | _, [] => rfl
  | f, x :: r => by simp [items, items_len (f + 1) r]
theorem items_get : ∀ (f : Int) (es : List En) (k : Nat) (x : En), es[k]? = some x → (items f es)[k]? = some (f + k, x)
  | f, [], k, x, h => by simp at h
  | f, y :: r, 0, x, h => by simp at h; simp [items, h]
  | f, y :: r, k + 1, x, h => by
    have := items_get (f + 1) r k x (by simpa using h)
    rw [items, List.getElem?_cons_succ, this]
    congr 2
    omega
theorem items_succ {f : Int} {es : List En} {k : Nat} {x : En} (h : es[k]? = some x) : (items f es).take (k + 1) = (items f es).take k ++ [(f + k, x)] := by
  rw [List.take_add_one, items_get f es k x h]; rfl

/-- What a round of a loop keeps of what its iterator stands on: blocks from lo up to hi, and the k blocks from B on. -/
structure KpX (lo hi k B : Nat) (W W' : World) : Prop where
  size : W.heap.size ≤ W'.heap.size
  same : ∀ i, (lo ≤ i ∧ i < hi) ∨ (B ≤ i ∧ i < B + k) → W'.heap[i]? = W.heap[i]?
theorem KpX.refl (lo hi k B : Nat) (W : World) : KpX lo hi k B W W := ⟨Nat.le_refl _, fun _ _ => rfl⟩
theorem KpX.trans {lo hi k B : Nat} {X Y Z : World} (h : KpX lo hi k B X Y) (j : KpX lo hi k B Y Z) : KpX lo hi k B X Z := ⟨Nat.le_trans h.size j.size, fun i q => (j.same i q).trans (h.same i q)⟩
theorem KpX.of_below {lo hi k B : Nat} {W W' : World} (h : Below W.heap.size W W') (h1 : hi ≤ W.heap.size) (h2 : B + k ≤ W.heap.size) : KpX lo hi k B W W' := ⟨h.size, fun i q => h.block i (by omega)⟩
theorem KpX.kept {lo hi k B : Nat} {bs : Nat → Prop} {W W' : World} (h : Kept bs W W') (h1 : hi ≤ W.heap.size) (h2 : B + k ≤ W.heap.size) (hn : ∀ i, bs i → ¬ ((lo ≤ i ∧ i < hi) ∨ (B ≤ i ∧ i < B + k))) : KpX lo hi k B W W' :=
  ⟨h.size, fun i q => h.block i (by omega) (fun x => hn i x q)⟩

abbrev SeqI (lo hi k : Nat) (g : Nat) (lb : Array Value) (xs : List It) (w : World) : Prop :=
  SeqW k Try.prog g lb encI (KpX lo hi k) (fun ys => ys = xs) (fun pre => pre <+: xs) (fun pre x => pre ++ [x] <+: xs) w
/-- An iterator value: it stands on the blocks from lo up to hi, and yields xs. -/
def Iter (lo hi k : Nat) (fv : Value) (xs : List It) (W : World) : Prop :=
  ∃ (g : Nat) (lb : Array Value), fv = .func (.func g) #[] lb ∧ (∀ args w, (callFunc g args).run Try.prog w = .ok (.enter g args) w) ∧ hi ≤ W.heap.size ∧
    ∀ W', W.heap.size ≤ W'.heap.size → (∀ i, lo ≤ i → i < hi → W'.heap[i]? = W.heap[i]?) → SeqI lo hi k g lb xs W'
theorem Iter.heap {lo hi k : Nat} {fv : Value} {xs : List It} {W W' : World} (h : Iter lo hi k fv xs W) (hs : W.heap.size ≤ W'.heap.size) (hk : ∀ i, lo ≤ i → i < hi → W'.heap[i]? = W.heap[i]?) : Iter lo hi k fv xs W' := by
  obtain ⟨g, lb, e, eg, hh, hq⟩ := h
  exact ⟨g, lb, e, eg, Nat.le_trans hh hs, fun W2 h2 h3 => hq W2 (Nat.le_trans hs h2) (fun i a b => (h3 i a b).trans (hk i a b))⟩
theorem Iter.below {lo hi k : Nat} {fv : Value} {xs : List It} {W W' : World} (h : Iter lo hi k fv xs W) (j : Below W.heap.size W W') : Iter lo hi k fv xs W' := by
  have hh : hi ≤ W.heap.size := by obtain ⟨_, _, _, _, hh, _⟩ := h; exact hh
  exact h.heap j.size (fun i a b => j.block i (by omega))
theorem Iter.kept {lo hi k : Nat} {fv : Value} {xs : List It} {bs : Nat → Prop} {W W' : World} (h : Iter lo hi k fv xs W) (j : Kept bs W W') (hn : ∀ i, bs i → ¬ (lo ≤ i ∧ i < hi)) : Iter lo hi k fv xs W' := by
  have hh : hi ≤ W.heap.size := by obtain ⟨_, _, _, _, hh, _⟩ := h; exact hh
  exact h.heap j.size (fun i a b => j.block i (by omega) (fun x => hn i x ⟨a, b⟩))
theorem Iter.hi_le {lo hi k : Nat} {fv : Value} {xs : List It} {W : World} (h : Iter lo hi k fv xs W) : hi ≤ W.heap.size := by obtain ⟨_, _, _, _, hh, _⟩ := h; exact hh

theorem ItAt.heap {lo hi : Nat} {W W' : World} {pf pb g cap : Nat} {f : Int} {es : List En} (h : ItAt lo hi W pf pb g cap f es) (hk : ∀ i, lo ≤ i → i < hi → W'.heap[i]? = W.heap[i]?) : ItAt lo hi W' pf pb g cap f es :=
  ⟨h.f.heap (hk _ h.lf.1 h.lf.2), h.b.heap (hk _ h.lb.1 h.lb.2), h.row.heap (hk _ h.lg.1 h.lg.2), h.lf, h.lb, h.lg⟩
theorem ItAt.below {lo hi : Nat} {W W' : World} {pf pb g cap : Nat} {f : Int} {es : List En} (h : ItAt lo hi W pf pb g cap f es) (k : Below W.heap.size W W') : ItAt lo hi W' pf pb g cap f es :=
  ⟨h.f.below k, h.b.below k, h.row.below k, h.lf, h.lb, h.lg⟩

set_option maxRecDepth 100000 in
set_option maxHeartbeats 4000000 in
theorem all1_any (lo hi' l pf pb g cap : Nat) (f : Int) (es : List En) (J Jx : List It → World → Prop) (W : World) (hJ : AbW W.heap.size 0 J) (hf : Fit f es.length) (hA : ItAt lo hi' W pf pb g cap f es)
    (hY : ∀ (pre : List It) (x : It) (W1 : World), J pre W1 → pre ++ [x] <+: items f es → W.heap.size + 0 ≤ W1.heap.size → ∀ m, YieldAt Fence.wide m Try.prog l (encI x) W1 fun e W' =>
      (e = .returned (.bool true) ∧ J (pre ++ [x]) W' ∧ KpX lo hi' 0 W.heap.size W1 W') ∨ (e = .returned (.bool false) ∧ Jx (pre ++ [x]) W' ∧ KpX lo hi' 0 W.heap.size W1 W'))
    (h0 : J [] W) :
    Calls Try.prog 42 #[.func (.yield l) #[] #[], .pointer (some ⟨pb, 0, none⟩), .pointer (some ⟨pf, 0, none⟩)] W fun e W' => (∃ v, e = .returned v) ∧
      ((∃ ys, ys = items f es ∧ J ys W') ∨ (∃ pre, pre <+: items f es ∧ Jx pre W')) := by
  obtain ⟨n, hn⟩ : ∃ n, es.length = n := ⟨_, rfl⟩
  have HN := hi hn
  have HYY := hi hY
  have HJ := hi hJ
  have hn1 := hf.n1
  have hf0 := hf.f0
  have hs1 := hf.s1
  rw [hn] at hn1 hs1
  have HTA := hi (show (items f es).take n = items f es by rw [← hn, ← items_len f es, List.take_length])
  have H0 := hi (show ItAt lo hi' W pf pb g cap f es ∧ J ((items f es).take 0) W from ⟨hA, by simpa using h0⟩)
  have b1 := hA.b.cell 0
  rw [hn] at b1
  clear hY hJ hn hf hA h0
  refine (callsIn_wide (n := 3)).1 ?_
  refine callsIn_of_wp Try.func42 rfl trivial ?_ rfl
  simp only [Try.ntmps42, List.size_toArray, List.length_cons, List.length_nil, Nat.reduceAdd, Nat.reduceSub, Array.replicate_succ, Array.replicate_zero, List.push_toArray, List.append_toArray, List.nil_append, List.cons_append]
  gi_wp2
  gi_loopw [8] (fun i wr => ∃ k : Nat, k ≤ n ∧ i = .int .i64 k ∧ Hi (W.heap.size ≤ wr.heap.size ∧ ItAt lo hi' wr pf pb g cap f es ∧ J ((items f es).take k) wr))
    (fun i _ => n - (intOf i).toNat)
  case atStart => exact ⟨0, Nat.zero_le _, rfl, hi ⟨Nat.le_refl _, H0.out.1, H0.out.2⟩⟩
  case round =>
    obtain ⟨k, hk, rfl, HP⟩ := hrel
    clear b1 H0
    by_cases hlt : k < n
    · have hke : es[k]? = some (nthE es k) := nthE_at (by rw [HN.out]; exact hlt)
      have HS := hi (items_succ (f := f) hke)
      have HPRE := hi (show (items f es).take k ++ [(f + (k : Int), nthE es k)] <+: items f es by rw [← HS.out]; exact List.take_prefix _ _)
      have hI := HP.out.2.1
      obtain ⟨e0, e1, e2, e3, e4, e5, e6, e7⟩ := hI.row.ent hke
      have f0 := hI.f.cell 0
      have fl := hI.f.lt
      have hw : IntKind.i64.wrap (f + k) = f + k := by rw [IntKind.wrap_i64]; omega
      obtain ⟨x, hx⟩ : ∃ x, nthE es k = x := ⟨_, rfl⟩
      rw [hx] at HS HPRE e0 e1 e2 e3 e4 e5 e6 e7
      obtain ⟨W1, hW1⟩ : ∃ W1, wr.alloc (.cells x.ca 54) = W1 := ⟨_, rfl⟩
      obtain ⟨fn, tmps, assign, body, hy, hRd⟩ := HYY.out _ _ W1 (by rw [← hW1]; exact HJ.out.alloc _ HP.out.2.2) HPRE.out (by rw [← hW1]; have := HP.out.1; simp; omega) (3 - 1)
      subst hW1
      clear hx hke hI
      obtain ⟨⟨⟨e, lb, q, a⟩, en, gr, p⟩, s⟩ := x
      dsimp only at e0 e1 e2 e3 e4 e5 e6 e7
      dsimp only [En.ca, encI, En.v] at hy hRd
      gi_wp2
      refine hRd.mono ?_
      rintro e' W3 (⟨rfl, hJ3, hk3⟩ | ⟨rfl, hJx3, _⟩)
      · gi_wp2
        go_roundw
        case rel => exact ⟨k + 1, by omega, by go_num, hi ⟨by have := HP.out.1; have := hk3.size; simp at this; omega, (HP.out.2.1.below (bal _ _)).heap (fun i a b => hk3.same i (.inl ⟨a, b⟩)), by rw [HS.out]; exact hJ3⟩⟩
        case measure => simp only [intOf]; omega
      · gi_wp2
        refine bodyPost_ret (results_none rfl _ _ _) rfl ?_
        exact ⟨⟨_, rfl⟩, .inr ⟨_, HPRE.out, hJx3⟩⟩
    · obtain rfl : k = n := by omega
      gi_wp2
      go_end0
      exact ⟨⟨_, rfl⟩, .inl ⟨_, rfl, by have := HP.out.2.2; rwa [HTA.out] at this⟩⟩

end Go.Proofs.Ytjgamfonpagkbaa
