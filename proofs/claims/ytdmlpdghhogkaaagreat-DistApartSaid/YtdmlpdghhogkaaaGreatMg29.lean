import Derived.Test.YtdmlpdghhogkaaaGreatMg20
import Derived.Test.YtdmlpdghhogkaaaGreatMg28
namespace Go.Proofs.YtdmlpdghhogkaaaGreat
open Go.ChangeShapes Go.WideShapes Go.ChangeAt Go.RowKit Go.Shelf
set_option linter.unusedVariables false
structure Col (w : World) (o : Value) (xs : List Int) (W : World) : Prop where
  own : W.ownsRow w.heap.size 3 1 o xs.length (xs.map (Value.int .i64))
  below : Below w.heap.size w W
theorem Col.sz {w W : World} {o : Value} {xs : List Int} (h : Col w o xs W) : w.heap.size ≤ W.heap.size := h.below.size
theorem Col.nil (w W : World) (h : Below w.heap.size w W) : Col w (.slice none 0 0) [] W := ⟨World.ownsRow_nil _ _ _ _, h⟩
theorem Col.app {w W w1 : World} {o v' : Value} {xs : List Int} {x : Int} {tmp : Obj} (h : Col w o xs W)
    (hown : w1.ownsRow w.heap.size 3 1 v' (xs.length + 1) (xs.map (Value.int .i64) ++ [.int .i64 x])) (hg : (W.alloc tmp).grownBy w1 o.ownBlock) :
    Col w v' (xs ++ [x]) w1 ∧ ∃ g cap, v' = .slice (some ⟨g, 0, none⟩) (xs.length + 1) cap := by
  refine ⟨⟨by simpa using hown, ?_⟩, ownsRow_succ hown⟩
  refine Below.grown (h.below.alloc h.sz _) hg (by have := h.sz; simp; omega) (fun k e => (h.own.lt k e).1)
theorem Col.some {w W : World} {o : Value} {xs : List Int} (h : Col w o xs W) : SomeInts w xs (.returned o) W := someInts_of (base := w.heap.size) h.own h.below
def refL (all odd : Bool) (tg fr cores : Int) : List Nat := toL ⟨0, all, tg, odd⟩ fr cores
theorem refL_eq (c : Cl) (fr cores : Int) : refL c.all c.odd c.tg fr cores = toL c fr cores := rfl
set_option maxRecDepth 100000 in
set_option maxHeartbeats 4000000 in
theorem refTo_any (all odd : Bool) (tg fr cores : Int) (w : World) : Calls Tryz.prog 96 #[.bool all, .bool odd, .int .i64 tg, .int .i64 fr, .int .i64 cores] w (fun e W => ∃ o, e = .returned o ∧ Col w o (nums (refL all odd tg fr cores)) W) := by
  obtain ⟨i0, hi', hz0, hz1, hz2⟩ := info_parts info_i
  have hcap : capN cores = (min cores 8).toNat := rfl
  obtain ⟨f, hf⟩ : ∃ f, callV ⟨0, all, tg, odd⟩ fr = f := ⟨_, rfl⟩
  have hr : refL all odd tg fr cores = upto f (capN cores) := by rw [← hf]; rfl
  rw [hr]
  have HF := hi (fun k => congrFun hf k)
  clear hr hf
  go_enter Tryz.func96, Tryz.ntmps96
  go_wp2
  go_loopw [11, 12] (fun o i wr => ∃ k : Nat, i = .int .i64 k ∧ Hi (k ≤ capN cores ∧ Col w o (nums (upto f k)) wr)) (fun _ i _ => 8 - (intOf i).toNat)
  case atStart => exact ⟨0, rfl, hi ⟨Nat.zero_le _, Col.nil _ _ (Below.refl _ _)⟩⟩
  case round =>
    obtain ⟨k, rfl, HH⟩ := hrel
    obtain ⟨hk, hC⟩ := HH.out
    by_cases hlt : k < capN cores
    · have x1 : (k : Int) < cores := by omega
      have x2 : (k : Int) < 8 := by omega
      have hfk := HF.out k
      obtain ⟨q, eq⟩ : ∃ q, nums (upto f k) = q := ⟨_, rfl⟩
      have hq8 : q.length ≤ 8 := by rw [← eq, nums_len]; have := upto_len f k; omega
      rw [eq] at hC
      have HC := hi hC
      have HLT := hi hlt
      have HQ := hi eq
      have hb := bit_eq tg k (by omega)
      obtain ⟨ao, co, rfl⟩ := own_slice HC.out.own
      clear hC hlt hk HH hcap eq
      cases all
      · cases odd
        · cases hbt : bt tg k
          · rw [hbt] at hb
            replace hfk : f k = false := by rw [← hfk]; simp [callV, hbt]
            clear hbt
            have HE := hi (upto_neg hfk)
            clear hfk HF
            go_wp2
            go_roundw
            case rel => exact ⟨k + 1, by go_num, hi ⟨HLT.out, by rw [HE.out, HQ.out]; exact HC.out⟩⟩
            case measure => have := HLT.out; simp only [intOf]; omega
          · rw [hbt] at hb
            replace hfk : f k = true := by rw [← hfk]; simp [callV, hbt]
            clear hbt
            have HE := hi (upto_pos hfk)
            clear hfk HF
            go_wp2_with (first
              | (at_builtin; refine wpList_append_own _ rfl _ _ 47 rfl w.heap.size 3 i0 (.int .i64 0) 1 8 Tryz.underlying47 hi' hz0 hz1 hz2 rfl (by decide) _ _ _ rfl (HC.out.own.alloc _) ⟨wr.heap.size, 0, none⟩ 1 1 [.int .i64 k] rfl rfl (cell_one_new _ _ _) (by simp [Value.oneCell']) (by unfold maxLen; omega) (by omega) (by have := HC.out.sz; simp; omega) ?_; intro v' w1 hown' hgrow _; obtain ⟨hc1, g', cap', rfl⟩ := HC.out.app hown' hgrow; replace HC := hi hc1; clear hown' hgrow hc1))
            go_roundw
            case rel => exact ⟨k + 1, by go_num, hi ⟨HLT.out, by rw [HE.out, nums_append, nums_one, HQ.out]; exact HC.out⟩⟩
            case measure => have := HLT.out; simp only [intOf]; omega
        · replace hfk : f k = false := by rw [← hfk]; simp [callV]
          clear hb
          have HE := hi (upto_neg hfk)
          clear hfk HF
          go_wp2
          go_roundw
          case rel => exact ⟨k + 1, by go_num, hi ⟨HLT.out, by rw [HE.out, HQ.out]; exact HC.out⟩⟩
          case measure => have := HLT.out; simp only [intOf]; omega
      · by_cases hkf : (k : Int) = fr
        · have ht : ((k : Int) != fr) = false := by simp [hkf]
          replace hfk : f k = false := by rw [← hfk]; simp [callV, hkf]
          clear hb hkf
          have HE := hi (upto_neg hfk)
          clear hfk HF
          go_wp2
          go_roundw
          case rel => exact ⟨k + 1, by go_num, hi ⟨HLT.out, by rw [HE.out, HQ.out]; exact HC.out⟩⟩
          case measure => have := HLT.out; simp only [intOf]; omega
        · have ht : ((k : Int) != fr) = true := by simp [hkf]
          replace hfk : f k = true := by rw [← hfk]; simp [callV, hkf]
          clear hb hkf
          have HE := hi (upto_pos hfk)
          clear hfk HF
          go_wp2_with (first
            | (at_builtin; refine wpList_append_own _ rfl _ _ 47 rfl w.heap.size 3 i0 (.int .i64 0) 1 8 Tryz.underlying47 hi' hz0 hz1 hz2 rfl (by decide) _ _ _ rfl (HC.out.own.alloc _) ⟨wr.heap.size, 0, none⟩ 1 1 [.int .i64 k] rfl rfl (cell_one_new _ _ _) (by simp [Value.oneCell']) (by unfold maxLen; omega) (by omega) (by have := HC.out.sz; simp; omega) ?_; intro v' w1 hown' hgrow _; obtain ⟨hc1, g', cap', rfl⟩ := HC.out.app hown' hgrow; replace HC := hi hc1; clear hown' hgrow hc1))
          go_roundw
          case rel => exact ⟨k + 1, by go_num, hi ⟨HLT.out, by rw [HE.out, nums_append, nums_one, HQ.out]; exact HC.out⟩⟩
          case measure => have := HLT.out; simp only [intOf]; omega
    · have ek : k = capN cores := by omega
      have hx : ¬ (k : Int) < cores ∨ ((k : Int) < cores ∧ ¬ (k : Int) < 8) := by omega
      rw [ek] at hC
      have HC := hi hC
      obtain ⟨ao, co, rfl⟩ := own_slice HC.out.own
      clear hC hlt hk HH hcap ek HF
      rcases hx with hx | ⟨hx, hx2⟩
      all_goals
        go_wp2
        go_ret
        exact ⟨_, rfl, HC.out⟩
def NotUpto (xs : List Int) (x : Int) (k : Nat) : Prop := ∀ j, j < k → xs[j]?.getD 0 ≠ x
theorem NotUpto.zero (xs : List Int) (x : Int) : NotUpto xs x 0 := fun j h => by omega
theorem NotUpto.succ {xs : List Int} {x : Int} {k : Nat} (h : NotUpto xs x k) (e : xs[k]?.getD 0 ≠ x) : NotUpto xs x (k + 1) := fun j hj => by
  by_cases y : j = k
  · subst y; exact e
  · exact h j (by omega)
end Go.Proofs.YtdmlpdghhogkaaaGreat
namespace Go.Proofs.YtdmlpdghhogkaaaGreat
open Go.ChangeShapes Go.WideShapes Go.ChangeAt Go.RowKit Go.Shelf
set_option linter.unusedVariables false
def inG (D : Ds) (k : Nat) (id g : Int) : Bool := (nthE (D.nth k).es id.toNat).ln.g == g
def callStep (id g : Int) (q : Ds × Nat) (k : Nat) : Ds × Nat := if inG q.1 k id g then (q.1.setOwn k (doR 0 (q.1.nth k).es id 3).1, q.2 + 1) else q
def callL (D : Ds) (id g : Int) (ks : List Nat) : Ds × Nat := ks.foldl (callStep id g) (D, 0)
theorem callL_snoc (D : Ds) (id g : Int) (ks : List Nat) (k : Nat) : callL D id g (ks ++ [k]) = callStep id g (callL D id g ks) k := by simp [callL]
theorem callL_take (D : Ds) (id g : Int) (ks : List Nat) {k : Nat} (h : k < ks.length) : callL D id g (ks.take (k + 1)) = callStep id g (callL D id g (ks.take k)) ks[k] := by
  rw [← callL_snoc, List.take_append_getElem h]
def callDV (D : Ds) (fr g : Int) (v : Nat) : (Ds × Nat) × Int :=
  if hasN D.cs.length fr then (callL D (decV v).id g (toL (decV v) fr D.cs.length), 0) else ((D, 0), 130)
theorem callStep_len (id g : Int) (q : Ds × Nat) (k : Nat) : (callStep id g q k).1.cs.length = q.1.cs.length := by
  unfold callStep
  split
  · exact Ds.own_len _ _ _
  · rfl
theorem callL_len (D : Ds) (id g : Int) : ∀ ks : List Nat, (callL D id g ks).1.cs.length = D.cs.length :=
  list_snoc (P := fun ks => (callL D id g ks).1.cs.length = D.cs.length) rfl (fun r k ih => by rw [callL_snoc, callStep_len, ih])
theorem callL_count (D : Ds) (id g : Int) : ∀ ks : List Nat, (callL D id g ks).2 ≤ ks.length :=
  list_snoc (P := fun ks => (callL D id g ks).2 ≤ ks.length) (Nat.le_refl _) (fun r k ih => by
    rw [callL_snoc, List.length_append]
    unfold callStep
    split
    · simpa using ih
    · exact Nat.le_trans ih (Nat.le_add_right _ _))
theorem callStep_ok {id g : Int} {q : Ds × Nat} {k : Nat} (ok : q.1.Ok) (hk : k < q.1.cs.length) : (callStep id g q k).1.Ok := by
  unfold callStep
  split
  · exact ok.setOwn hk (by rw [doR_len]; exact ok.own k hk) (doR_fine (ok.fine k hk))
  · exact ok
theorem callL_ok {D : Ds} (ok : D.Ok) (id g : Int) : ∀ ks : List Nat, (∀ k ∈ ks, k < D.cs.length) → (callL D id g ks).1.Ok :=
  list_snoc (P := fun ks => (∀ k ∈ ks, k < D.cs.length) → (callL D id g ks).1.Ok) (fun _ => ok) (fun r k ih hr => by
    rw [callL_snoc]
    exact callStep_ok (ih (fun x hx => hr x (List.mem_append_left _ hx))) (by rw [callL_len]; exact hr k (by simp)))
theorem toL_in {c : Cl} {fr : Int} {n : Nat} {k : Nat} (h : k ∈ toL c fr n) : k < n := by
  have h1 := ((mem_upto _ _ _).1 h).1
  unfold capN at h1
  omega
theorem callDV_ok {D : Ds} (ok : D.Ok) (fr g : Int) (v : Nat) : (callDV D fr g v).1.1.Ok := by
  unfold callDV
  split
  · exact callL_ok ok _ _ _ (fun k h => toL_in h)
  · exact ok
def NewInts (B : Nat) (a : Option Addr) (xs : List Int) (W : World) : Prop := xs ≠ [] → ∃ g, a = some ⟨g, 0, none⟩ ∧ B ≤ g ∧ Row W g 3 (xs.map (Value.int .i64))
theorem Col.new {w W : World} {o : Value} {xs : List Int} (h : Col w o xs W) : ∃ a cap, o = .slice a xs.length cap ∧ NewInts w.heap.size a xs W := by
  rcases h.own.2 with ⟨e, e2⟩ | ⟨g, cap, cur, e, hb, hg, h1, h2, h3, h4⟩
  · rw [e, e2]
    exact ⟨none, 0, rfl, fun hne => absurd (List.length_eq_zero_iff.1 e2) hne⟩
  · exact ⟨_, _, e, fun _ => ⟨g, rfl, hb, cur, hg, by rw [← h4]; exact List.take_prefix _ _⟩⟩
theorem NewInts.kept {B : Nat} {a : Option Addr} {xs : List Int} {W W' : World} (h : NewInts B a xs W) {bs : Nat → Prop} (k : Kept bs W W') (hb : ∀ i, bs i → i < B) : NewInts B a xs W' := fun hne => by
  obtain ⟨g, e, hg, hr⟩ := h hne
  exact ⟨g, e, hg, hr.kept k (fun q => by have := hb _ q; omega)⟩
theorem NewInts.below {B : Nat} {a : Option Addr} {xs : List Int} {W W' : World} (h : NewInts B a xs W) (k : Below W.heap.size W W') : NewInts B a xs W' := fun hne => by
  obtain ⟨g, e, hg, hr⟩ := h hne
  exact ⟨g, e, hg, hr.below k⟩
end Go.Proofs.YtdmlpdghhogkaaaGreat
