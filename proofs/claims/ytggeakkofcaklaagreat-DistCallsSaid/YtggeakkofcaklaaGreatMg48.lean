import Derived.Test.YtggeakkofcaklaaGreatMg47
namespace Go.Proofs.YtggeakkofcaklaaGreat
open Go.ChangeShapes Go.WideShapes Go.ChangeAt Go.RowKit Go.Shelf
set_option linter.unusedVariables false
def latR (es : List En) (id : Int) : List En := (doR 0 es id 3).1
theorem latR_len (es : List En) (id : Int) : (latR es id).length = es.length := doR_len _ _ _ _
theorem step3 (x : En) : x.step 3 = ⟨{ x.ln with st := ⟨x.ln.st.e, x.ln.st.l, true, x.ln.st.a⟩ }, x.s⟩ := by
  unfold En.step St.step
  simp
theorem latR_at (es : List En) (id : Int) (j : Nat) : nthE (latR es id) j = if (id = j ∧ j < es.length) then (nthE es j).step 3 else nthE es j := by
  unfold latR doR
  cases hb : hasB 0 es.length id
  · simp only [Bool.false_eq_true, if_false]
    rw [if_neg]
    rintro ⟨rfl, h⟩
    have : hasB 0 es.length (j : Int) = true := by rw [hasB_iff]; omega
    rw [hb] at this
    cases this
  · rw [hasB_iff] at hb
    simp only [if_true]
    unfold nthE
    by_cases h : id = j
    · subst h
      have hj : j < es.length := by omega
      rw [if_pos ⟨rfl, hj⟩, show ((j : Int) - 0).toNat = j by omega, List.getElem?_set_self hj]
      rfl
    · rw [if_neg (fun q => h q.1), List.getElem?_set_ne (by omega)]
theorem latR_g (es : List En) (id : Int) (j : Nat) : (nthE (latR es id) j).ln.g = (nthE es j).ln.g := by
  rw [latR_at]
  split
  · rw [step3]
  · rfl
theorem ext_nthE {a b : List En} (hl : a.length = b.length) (h : ∀ j, j < a.length → nthE a j = nthE b j) : a = b := by
  apply List.ext_getElem? 
  intro j
  by_cases hj : j < a.length
  · rw [nthE_at hj, nthE_at (hl ▸ hj), h j hj]
  · rw [List.getElem?_eq_none (by omega), List.getElem?_eq_none (by omega)]
theorem latR_twice (es : List En) (id : Int) : latR (latR es id) id = latR es id := by
  refine ext_nthE (latR_len _ _) (fun j hj => ?_)
  rw [latR_len, latR_len] at hj
  rw [latR_at (latR es id), latR_len]
  split
  · rename_i h
    rw [latR_at, if_pos h, step3, step3]
  · rfl
def callN (D : Ds) (id g : Int) (ks : List Nat) : Nat := (ks.filter (fun k => inG D k id g)).length
theorem callL_is (D : Ds) (id g : Int) : ∀ ks : List Nat, (∀ k ∈ ks, k < D.cs.length) →
    (∀ j, ((callL D id g ks).1.nth j).es = if (j ∈ ks ∧ inG D j id g = true) then latR (D.nth j).es id else (D.nth j).es) ∧ (callL D id g ks).1.sh = D.sh ∧ (callL D id g ks).2 = callN D id g ks :=
  list_snoc (P := fun ks => (∀ k ∈ ks, k < D.cs.length) → (∀ j, ((callL D id g ks).1.nth j).es = if (j ∈ ks ∧ inG D j id g = true) then latR (D.nth j).es id else (D.nth j).es) ∧ (callL D id g ks).1.sh = D.sh ∧ (callL D id g ks).2 = callN D id g ks)
    (fun _ => ⟨fun j => by rw [if_neg (by simp)]; rfl, rfl, rfl⟩)
    (fun r k ih hr => by
      obtain ⟨h1, h2, h3⟩ := ih (fun x hx => hr x (List.mem_append_left _ hx))
      have hk : k < (callL D id g r).1.cs.length := by rw [callL_len]; exact hr k (by simp)
      have hg : inG (callL D id g r).1 k id g = inG D k id g := by
        unfold inG
        rw [h1 k]
        split
        · rw [latR_g]
        · rfl
      rw [callL_snoc]
      unfold callStep
      rw [hg]
      cases hi : inG D k id g
      · simp only [Bool.false_eq_true, if_false]
        refine ⟨fun j => ?_, h2, by rw [h3]; unfold callN; simp [hi]⟩
        rw [h1 j]
        by_cases hj : j = k
        · subst hj
          rw [if_neg (fun q => by rw [hi] at q; cases q.2), if_neg (fun q => by rw [hi] at q; cases q.2)]
        · simp only [List.mem_append, List.mem_singleton, hj, or_false]
      · simp only [if_true]
        refine ⟨fun j => ?_, h2, by rw [h3]; unfold callN; simp [hi]⟩
        by_cases hj : j = k
        · subst hj
          rw [Ds.own_same hk]
          rw [if_pos ⟨by simp, hi⟩]
          show (doR 0 ((callL D id g r).1.nth j).es id 3).1 = latR (D.nth j).es id
          rw [h1 j]
          split
          · exact latR_twice _ _
          · rfl
        · rw [Ds.own_other hk hj, h1 j]
          simp only [List.mem_append, List.mem_singleton, hj, or_false])
def turnB (D : Ds) (k : Int) (x : It) : Bool := decide (x.2.ln ≠ (getV D k x.1).1)
theorem getV_own {D : Ds} (ok : D.Ok) {k i : Nat} (hk : k < D.cs.length) (hi : i < 32) : getV D k i = ((nthE (D.nth k).es i).ln, 0) := by
  unfold getV
  rw [if_pos (by simp [hasN]; omega), if_pos (by omega), Int.toNat_natCast]
  have h := getR_at 0 (es := (D.nth k).es) (i := i) (by rw [ok.own k hk]; exact hi)
  rw [Int.zero_add] at h
  rw [h]
theorem getV_sh {D : Ds} {k i : Nat} (hk : k < D.cs.length) (hi : i < D.sh.length) : getV D k (32 + i) = ((nthE D.sh i).ln, 0) := by
  unfold getV
  rw [if_pos (by simp [hasN]; omega), if_neg (by omega)]
  rw [getR_at 32 hi]
def hitB (D : Ds) (id g : Int) (ks : List Nat) (k : Nat) : Bool := decide (k ∈ ks) && inG D k id g
theorem turn_is {D : Ds} (ok : D.Ok) (id g : Int) (ks : List Nat) (hks : ∀ k ∈ ks, k < D.cs.length) {k : Nat} (hk : k < D.cs.length) {x : It} (h : x ∈ seenL (callL D id g ks).1 k) :
    turnB D k x = false ∨ (hitB D id g ks k = true ∧ x.1 = id ∧ x.2.ln = { (getV D k x.1).1 with st := ⟨(getV D k x.1).1.st.e, (getV D k x.1).1.st.l, true, (getV D k x.1).1.st.a⟩ } ∧ x.2.ln.g = g) := by
  obtain ⟨h1, h2, _⟩ := callL_is D id g ks hks
  obtain ⟨j, e, hj, hx⟩ := seen_mem h
  obtain rfl : k = j := by omega
  rcases hx with ⟨i, hi, rfl⟩ | ⟨i, hi, rfl, _⟩
  · have hi32 : i < 32 := by
      rw [h1 k] at hi
      have := ok.own k hk
      split at hi
      · rw [latR_len] at hi; omega
      · omega
    unfold turnB
    dsimp only
    rw [getV_own ok hk hi32, h1 k]
    by_cases hc : k ∈ ks ∧ inG D k id g = true
    · rw [if_pos hc, latR_at]
      by_cases hid : id = (i : Int) ∧ i < (D.nth k).es.length
      · rw [if_pos hid]
        right
        have hg : (nthE (D.nth k).es i).ln.g = g := by
          have := hc.2
          unfold inG at this
          rw [hid.1, Int.toNat_natCast] at this
          simpa using this
        refine ⟨by unfold hitB; simp [hc.1, hc.2], hid.1.symm, by rw [step3], ?_⟩
        rw [step3]
        exact hg
      · rw [if_neg hid]
        left
        simp
    · rw [if_neg hc]
      left
      simp
  · left
    rw [h2] at hi ⊢
    unfold turnB
    dsimp only
    rw [getV_sh hk hi]
    simp
def turnN (D D' : Ds) (k : Nat) : Nat := ((seenL D' k).filter (turnB D k)).length
def turnS (D D' : Ds) : Nat → Nat
  | 0 => 0
  | k + 1 => turnS D D' k + turnN D D' k
theorem rise_one {xs : List It} {id : Int} (hr : RiseI xs) (h : ∀ x ∈ xs, x.1 = id) : xs.length ≤ 1 := by
  match xs with
  | [] => simp
  | [_] => simp
  | x :: y :: r =>
    have h1 := (List.pairwise_cons.1 hr).1 y (by simp)
    have h2 := h x (by simp)
    have h3 := h y (by simp)
    omega
theorem turnN_le {D : Ds} (ok : D.Ok) (id g : Int) (ks : List Nat) (hks : ∀ k ∈ ks, k < D.cs.length) {k : Nat} (hk : k < D.cs.length) : turnN D (callL D id g ks).1 k ≤ if hitB D id g ks k then 1 else 0 := by
  unfold turnN
  have ok' := callL_ok ok id g ks hks
  by_cases hh : hitB D id g ks k = true
  · rw [if_pos hh]
    refine rise_one (id := id) ((seen_rise ok' k).sublist List.filter_sublist) (fun x hx => ?_)
    obtain ⟨h1, h2⟩ := List.mem_filter.1 hx
    rcases turn_is ok id g ks hks hk h1 with h | h
    · rw [h2] at h; cases h
    · exact h.2.1
  · rw [if_neg hh]
    rw [Nat.le_zero_eq, List.length_eq_zero_iff, List.filter_eq_nil_iff]
    intro x hx ht
    rcases turn_is ok id g ks hks hk hx with h | h
    · rw [ht] at h; cases h
    · exact hh h.1
def hitS (D : Ds) (id g : Int) (ks : List Nat) : Nat → Nat
  | 0 => 0
  | k + 1 => hitS D id g ks k + if hitB D id g ks k then 1 else 0
theorem hitS_nil (D : Ds) (id g : Int) : ∀ n, hitS D id g [] n = 0
  | 0 => rfl
  | n + 1 => by rw [hitS, hitS_nil D id g n]; simp [hitB]
theorem hitS_out (D : Ds) (id g : Int) (a : Nat) (r : List Nat) : ∀ n, n ≤ a → hitS D id g (a :: r) n = hitS D id g r n
  | 0, _ => rfl
  | n + 1, h => by
    rw [hitS, hitS, hitS_out D id g a r n (by omega)]
    have : hitB D id g (a :: r) n = hitB D id g r n := by
      unfold hitB
      have : ¬ n = a := by omega
      simp [this]
    rw [this]
theorem hitS_cons (D : Ds) (id g : Int) (a : Nat) (r : List Nat) : ∀ n, hitS D id g (a :: r) n ≤ hitS D id g r n + if inG D a id g then 1 else 0
  | 0 => by simp [hitS]
  | n + 1 => by
    by_cases h : n = a
    · subst h
      rw [hitS, hitS, hitS_out D id g n r n (Nat.le_refl _)]
      unfold hitB
      cases inG D n id g <;> simp
    · have ih := hitS_cons D id g a r n
      rw [hitS, hitS]
      have : hitB D id g (a :: r) n = hitB D id g r n := by
        unfold hitB
        simp [h]
      rw [this]
      omega
theorem hitS_le (D : Ds) (id g : Int) : ∀ (ks : List Nat) (n : Nat), hitS D id g ks n ≤ callN D id g ks
  | [], n => by rw [hitS_nil]; exact Nat.zero_le _
  | a :: r, n => by
    have h1 := hitS_cons D id g a r n
    have h2 := hitS_le D id g r n
    unfold callN at h2 ⊢
    rw [List.filter_cons]
    cases hi : inG D a id g
    · rw [hi] at h1
      simp only [Bool.false_eq_true, if_false] at h1 ⊢
      omega
    · rw [hi] at h1
      simp only [if_true, List.length_cons] at h1 ⊢
      omega
theorem turnS_le {D : Ds} (ok : D.Ok) (id g : Int) (ks : List Nat) (hks : ∀ k ∈ ks, k < D.cs.length) : ∀ n, n ≤ D.cs.length → turnS D (callL D id g ks).1 n ≤ hitS D id g ks n
  | 0, _ => Nat.le_refl _
  | n + 1, h => by
    have h1 := turnS_le ok id g ks hks n (by omega)
    have h2 := turnN_le ok id g ks hks (k := n) (by omega)
    rw [turnS, hitS]
    omega
theorem turns_told {D : Ds} (ok : D.Ok) (id g : Int) (ks : List Nat) (hks : ∀ k ∈ ks, k < D.cs.length) : turnS D (callL D id g ks).1 D.cs.length ≤ (callL D id g ks).2 := by
  rw [(callL_is D id g ks hks).2.2]
  exact Nat.le_trans (turnS_le ok id g ks hks _ (Nat.le_refl _)) (hitS_le D id g ks _)
theorem turn_yes {D : Ds} {k : Int} {pre : List It} {x : It} (h : turnB D k x = true) : ((pre ++ [x]).filter (turnB D k)).length = (pre.filter (turnB D k)).length + 1 := by simp [h]
theorem turn_no {D : Ds} {k : Int} {pre : List It} {x : It} (h : turnB D k x = false) : ((pre ++ [x]).filter (turnB D k)).length = (pre.filter (turnB D k)).length := by simp [h]
end Go.Proofs.YtggeakkofcaklaaGreat
