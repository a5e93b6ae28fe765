/-
  Package bank: Sorted over any iterator.
-/
import Derived.Test.YtfjihpcemmobjaaBnkS
import Derived.Test.YtfjihpcemmobjaaQh
import Derived.Deep.OwnRows
import Derived.Laws.OwnMore
namespace Go.Proofs.Ytfjihpcemmobjaa
open Go.ChangeShapes Go.WideShapes Go.ChangeAt Go.RowKit Go.Shelf
set_option linter.unusedVariables false
attribute [local go_sem] Oper.semAt_some

theorem mixed : Try.prog.follows .mixedOrders = true := by kernel_rfl
theorem info_cd : (Try.prog.info? 51).map (fun i => (i.zero, i.size, i.bytes)) = some (some (.agg #[.int .i64 0, .int .i64 0, .int .i64 0, .bool false]), 4, 32) := by kernel_rfl
theorem flC_snoc (xs : List Cd) (x : Cd) : flC (xs ++ [x]) = flC xs ++ x.cl := by rw [flC, flat_append, flat_one]
def cands (xs : List It) : List Cd := xs.map fun x => candV x.1 x.2.ln
theorem cands_append (a b : List It) : cands (a ++ b) = cands a ++ cands b := by simp [cands]
theorem cands_len (xs : List It) : (cands xs).length = xs.length := by simp [cands]
theorem own_later {W W' : World} {base sz : Nat} {te : TypeId} {v : Value} {n : Nat} {cs : List Value} (h : W.ownsRow base te sz v n cs) (k : Below W.heap.size W W') : W'.ownsRow base te sz v n cs :=
  h.kept (Below.grew k) (by cases ho : v.ownBlock with
    | none => exact .inl rfl
    | some b => exact .inr (by simp))
theorem cell_four_new (w : World) (x : Cd) (t : TypeId) : ∀ j u, x.cl[j]? = some u → (w.alloc (.cells #[.int .i64 x.id, .int .i64 x.p, .int .i64 x.g, .bool x.is] t)).cell? ((⟨w.heap.size, 0, none⟩ : Addr).add j) = some u := by
  intro j u h
  rw [addr_add, Nat.zero_add, (CB.new w t _).cell]
  match j, h with
  | 0, h => simpa [Cd.cl] using h
  | 1, h => simpa [Cd.cl] using h
  | 2, h => simpa [Cd.cl] using h
  | 3, h => simpa [Cd.cl] using h
  | j + 4, h => simp [Cd.cl] at h

/-- What a sort of a row of its own leaves. -/
def SortPost (w : World) (v : Value) (xs : List Cd) (e : Ending) (w' : World) : Prop :=
  e = .returned (.tuple #[]) ∧ ∃ ys : List Cd, ys.Perm xs ∧ SortedC ys ∧ (∀ g, v.ownBlock = some g → CdCells w' g ys) ∧ Kept (fun i => v.ownBlock = some i) w w'
theorem sort_own {base : Nat} {v : Value} {n : Nat} {xs : List Cd} {w : World} (h : w.ownsRow base 51 4 v n (flC xs)) (hn : xs.length = n) (hl : n ≤ 4398046511104) :
    Calls Try.prog 44 #[v, .func (.func 45) #[] #[]] w (SortPost w v xs) := by
  rcases h.2 with ⟨rfl, h0⟩ | ⟨g, cap, cur, rfl, hgb, hgh, _⟩
  · subst h0
    obtain rfl : xs = [] := List.length_eq_zero_iff.1 hn
    refine (sort_none _ _ _).mono ?_
    rintro e w' ⟨rfl, rfl⟩
    exact ⟨rfl, [], List.Perm.refl _, List.Pairwise.nil, fun g e => by simp [Value.ownBlock] at e, Kept.refl _ _⟩
  · refine (sort_any g cap n xs w (Row.own h) hn hl).mono ?_
    rintro e w' ⟨rfl, ys, h1, h2, h3, h4⟩
    refine ⟨rfl, ys, h1, h2, fun g' e => ?_, h4.mono (fun k hk => by subst hk; rfl)⟩
    obtain rfl : g = g' := by simpa [Value.ownBlock] using e
    exact h3

/-- Where the region that appends stands. -/
structure SG (V : World) (b base : Nat) (va : Option Addr) (m vc : Nat) (cs : List Value) (Bx : Nat) (x : En) (W : World) : Prop where
  box : Boxed W b 88 (.slice va m vc)
  row : W.ownsRow base 51 4 (.slice va m vc) m cs
  ent : CB W Bx 62 x.ca
  below : Below V.heap.size V W
theorem SG.later {V W W' : World} {b base : Nat} {va : Option Addr} {m vc : Nat} {cs : List Value} {Bx : Nat} {x : En} (h : SG V b base va m vc cs Bx x W) (k : Below W.heap.size W W') : SG V b base va m vc cs Bx x W' :=
  ⟨(k.block b (Array.getElem?_eq_some_iff.1 h.box).1).trans h.box, own_later h.row k, h.ent.below k, h.below.trans (k.mono h.below.size)⟩
/-- What it reads of the entry. -/
def SE (Bx : Nat) (x : En) (W : World) : Prop := CB W Bx 62 x.ca
theorem SE.cells {W : World} {Bx : Nat} {x : En} (h : SE Bx x W) : W.cell? ⟨Bx, 0, none⟩ = some (.bool x.ln.st.e) ∧ W.cell? ⟨Bx, 1, none⟩ = some (.bool x.ln.st.l) ∧ W.cell? ⟨Bx, 2, none⟩ = some (.bool x.ln.st.h) ∧ W.cell? ⟨Bx, 3, none⟩ = some (.bool x.ln.st.a) ∧ W.cell? ⟨Bx, 4, none⟩ = some (.bool x.ln.en) ∧ W.cell? ⟨Bx, 5, none⟩ = some (.int .i64 x.ln.g) ∧ W.cell? ⟨Bx, 6, none⟩ = some (.int .i64 x.ln.p) :=
  ⟨CB.cell h 0, CB.cell h 1, CB.cell h 2, CB.cell h 3, CB.cell h 4, CB.cell h 5, CB.cell h 6⟩
theorem ty_ne : (62 : Nat) ≠ 51 := by decide
/-- The entry lies apart from the row that grows. -/
theorem SG.apart {V W : World} {b base : Nat} {va : Option Addr} {m vc : Nat} {cs : List Value} {Bx : Nat} {x : En} (h : SG V b base va m vc cs Bx x W) : (Value.slice va m vc).ownBlock ≠ some Bx := fun e => by
  rcases h.row.2 with ⟨e2, _⟩ | ⟨g, cap, cur, e2, _, hg, _⟩
  · rw [e2] at e; simp [Value.ownBlock] at e
  · rw [e2] at e
    obtain rfl : g = Bx := by simpa [Value.ownBlock] using e
    have h1 : W.heap[g]? = _ := h.ent
    rw [h1] at hg
    simp only [Option.some.injEq, Obj.cells.injEq] at hg
    exact ty_ne hg.2.1

/-! ### The numbers -/
def fillI (ys : List Cd) (n k : Nat) : List Int := (ys.take k).map (·.id) ++ List.replicate (n - k) 0
theorem fillI_zero (ys : List Cd) (n : Nat) : fillI ys n 0 = List.replicate n 0 := by simp [fillI]
theorem fillI_all {ys : List Cd} {n : Nat} (h : ys.length = n) : fillI ys n n = ys.map (·.id) := by subst h; simp [fillI]
theorem fillI_len {ys : List Cd} {n k : Nat} (h : ys.length = n) (hk : k ≤ n) : (fillI ys n k).length = n := by simp [fillI]; omega
def nthC (ys : List Cd) (k : Nat) : Cd := ys[k]?.getD default
theorem nthC_at {ys : List Cd} {k : Nat} (h : k < ys.length) : ys[k]? = some (nthC ys k) := by simp [nthC, List.getElem?_eq_getElem h]
theorem fillI_succ {ys : List Cd} {n k : Nat} (h : ys.length = n) (hk : k < n) : (fillI ys n k).set k (nthC ys k).id = fillI ys n (k + 1) := by
  have e1 : ((ys.take k).map (·.id)).length = k := by simp; omega
  rw [fillI, List.set_append_right _ _ (by omega), e1, Nat.sub_self, fillI, List.take_add_one, nthC_at (by omega), show n - k = (n - (k + 1)) + 1 by omega, List.replicate_succ]
  simp
theorem intsAt_row2 {W : World} {g n : Nat} {xs : List Int} (h : Row W g 3 (ints xs)) (hn : xs.length = n) (hl : n ≤ 20000) : IntsAt W (.slice (some ⟨g, 0, none⟩) n n) xs := by
  subst hn
  refine ⟨_, _, rfl, ⟨Nat.le_refl _, by unfold maxLen; omega⟩, fun _ => ⟨g, 0, rfl, fun j hj => ?_⟩⟩
  rw [Nat.zero_add, h.cell (by simpa [ints] using hj)]
  simp [ints, hj]

/-- What the last loop keeps. -/
structure LK (w : World) (D : Nat) (v : Value) (gi n k : Nat) (ys : List Cd) (W : World) : Prop where
  below : Below w.heap.size w W
  cs : ∀ g, v.ownBlock = some g → CdCells W g ys
  row : Row W gi 3 (ints (fillI ys n k))
  df : W.heap[D]? = some (.deferred (some []))
  ne : ∀ g, v.ownBlock = some g → g ≠ gi ∧ g < W.heap.size
  lo : D < gi
theorem LK.alloc {w : World} {D : Nat} {v : Value} {gi n k : Nat} {ys : List Cd} {W : World} (h : LK w D v gi n k ys W) (o : Obj) : LK w D v gi n k ys (W.alloc o) :=
  ⟨h.below.alloc h.below.size o, fun g e => (h.cs g e).heap ((bal W o).block g (h.ne g e).2), h.row.below (bal W o), ((bal W o).block _ (Array.getElem?_eq_some_iff.1 h.df).1).trans h.df, fun g e => ⟨(h.ne g e).1, Nat.lt_of_lt_of_le (h.ne g e).2 (bal W o).size⟩, h.lo⟩
theorem LK.set {w : World} {D : Nat} {v : Value} {gi n k : Nat} {ys : List Cd} {W : World} (h : LK w D v gi n k ys W) (hn : ys.length = n) (hk : k < n) (hw : w.heap.size ≤ D) : LK w D v gi n (k + 1) ys (W.setCell ⟨gi, k, none⟩ (.int .i64 (nthC ys k).id)) :=
  ⟨below_set h.below (by have := h.lo; omega) _, fun g e => (h.cs g e).heap (Below.heap_setCell W ⟨gi, k, none⟩ _ g (h.ne g e).1), by
    have h1 := h.row.set (.int .i64 (nthC ys k).id) (o := k) (by simp [ints, fillI_len hn (Nat.le_of_lt hk), hk])
    rw [← fillI_succ hn hk]
    unfold ints at h1 ⊢
    rwa [← List.map_set] at h1, (Below.heap_setCell W ⟨gi, k, none⟩ _ _ (show D ≠ gi by have := h.lo; omega)).trans h.df, fun g e => by simpa using h.ne g e, h.lo⟩

/-- What Sorted tells: the numbers of some sorted row of the candidates. -/
def SortedPost (w : World) (xs : List It) (e : Ending) (w' : World) : Prop := ∃ ys : List Cd, ys.Perm (cands xs) ∧ SortedC ys ∧ SomeInts w (ys.map (·.id)) e w'

set_option maxRecDepth 100000 in
set_option maxHeartbeats 16000000 in
theorem sorted_any {lo hi' k : Nat} {fv : Value} {xs : List It} {w : World} (h : Iter lo hi' k fv xs w) (hl : xs.length ≤ 20000) :
    Calls Try.prog 25 #[fv] w (SortedPost w xs) := by
  obtain ⟨i0, hi2, hz0, hz1, hz2⟩ := info_parts info_cd
  obtain ⟨w3, hw3⟩ : ∃ w3, w.alloc (.cells #[.slice none 0 0] 88) = w3 := ⟨_, rfl⟩
  have hz3 : w3.heap.size = w.heap.size + 1 := by rw [← hw3]; simp
  have hB3 : Below w.heap.size w w3 := by rw [← hw3]; exact bal w _
  have hC3 : CB w3 w.heap.size 88 #[.slice none 0 0] := by rw [← hw3]; exact CB.new w _ _
  have hhi := h.hi_le
  obtain ⟨gf, lb, rfl, eg, hh3, hq⟩ := h.below hB3
  have hst := hq w3 (Nat.le_refl _) (fun _ _ _ => rfl)
  have HB3 := hi hB3
  have HC3 := hi hC3
  clear hq h hB3 hC3
  subst hw3
  refine (callsIn_wide (n := 6)).1 ?_
  refine callsIn_of_wp_marks Try.func25 rfl trivial ?_ rfl
  simp only [Try.ntmps25, List.size_toArray, List.length_cons, List.length_nil, Nat.reduceAdd, Nat.reduceSub, Array.replicate_succ, Array.replicate_zero, List.push_toArray, List.append_toArray, List.nil_append, List.cons_append]
  gi_wp2
  obtain ⟨w3, hw3⟩ : ∃ w3, w.alloc (.cells #[.slice none 0 0] 88) = w3 := ⟨_, rfl⟩
  rw [hw3] at hz3 hst hh3 HB3 HC3 ⊢
  clear hw3
  refine range_win (n := 6) (by omega) (gf := gf) (lb := lb) rfl eg
    hst (fun a b => KpX.trans a b) (fun V l o o' h1 h2 h3 h4 => kpx_put (by omega) (by omega)) (Below.refl _ _) (fun _ => rfl)
    (fun pre V => (∃ v, Boxed V w.heap.size 88 v ∧ V.ownsRow (w3.heap.size + 2 + k) 51 4 v pre.length (flC (cands pre))) ∧ Below w.heap.size w V)
    (fun cd pre V => False)
    (AbL.and (rowBox_abL 88 51 4 w.heap.size w3.heap.size k (by omega) (fun pre => List.length pre) (fun pre => flC (cands pre))) (AbL.below (Nat.le_refl _) (by omega)))
    (fun _ _ _ _ _ hs _ _ => hs)
    ⟨⟨_, HC3.out, World.ownsRow_nil _ _ _ _⟩, HB3.out⟩
    (fun x a' V => ∃ Bx, w3.heap.size + 2 + k ≤ Bx ∧ CB V Bx 62 x.2.ca ∧ a' = { tmps := #[.func (.func gf) #[] lb, undef, .slice none 0 0, .pointer (some ⟨w.heap.size, 0, none⟩), .int .i64 x.1, .pointer (some ⟨Bx, 0, none⟩), undef, undef, undef, .func (.func gf) #[] lb, .int .i64 x.1, x.2.v, undef, undef, undef, undef, undef, undef, undef, undef, undef, undef, undef, undef, undef, undef, undef, undef, undef, undef, undef, undef, undef, undef, undef, undef, undef, undef], defers := [] })
    (fun x a' => AbL.of (m := 2 + k) (fun s A A' row hs hg hr => by obtain ⟨Bx, e1, e2, e3⟩ := hs; exact ⟨Bx, e1, e2.kept hg (fun e => by have := hr _ e.symm; omega), e3⟩) rfl)
    ?assign ?body ?done ?stop
  case assign =>
    rintro l' pre ⟨id, ⟨⟨⟨e, lb', q, a⟩, en, gr, p⟩, s⟩⟩ V K h hsz hK
    gi_wp2
    obtain ⟨⟨v, hv, hrow⟩, hB⟩ := h
    exact hK _ _ (KW.of_below (bal V _)) (KpX.of_below (bal V _) (by omega) hsz) ⟨⟨v, hv.alloc _, hrow.alloc _⟩, hB.alloc hB.size _⟩ ⟨V.heap.size, hsz, CB.new _ _ _, rfl⟩
  case body =>
    rintro l' pre ⟨id, ⟨⟨⟨e, lb', q, a⟩, en, gr, p⟩, s⟩⟩ a' V hsz ⟨⟨v, hv, hrow⟩, hB⟩ ⟨Bx, hBx, hbx, rfl⟩ hpx
    have hlt : pre.length < xs.length := by have := hpx.length_le; simp at this; omega
    have HCA := hi (fun V => cand_any id ⟨⟨e, lb', q, a⟩, en, gr, p⟩ V)
    dsimp only [candV, Ln.v, Cd.v] at HCA
    have HCS := hi (show cands (pre ++ [(id, ⟨⟨⟨e, lb', q, a⟩, en, gr, p⟩, s⟩)]) = cands pre ++ [⟨id, p, gr, true⟩] by rw [cands_append]; rfl)
    obtain ⟨Q, hq⟩ : ∃ q, flC (cands pre) = q := ⟨_, rfl⟩
    obtain ⟨m, hm⟩ : ∃ m, pre.length = m := ⟨_, rfl⟩
    rw [hq, hm] at hrow
    rw [hm] at hlt
    have hmb : m + 1 ≤ 20000 := by omega
    have HQ := hi hq
    have HM := hi hm
    have HBL := hi hB
    clear hq hm hB hpx hlt
    obtain ⟨va, vc, rfl⟩ := own_slice hrow
    have hS0 : SG V w.heap.size (w3.heap.size + 2 + k) va m vc Q Bx ⟨⟨⟨e, lb', q, a⟩, en, gr, p⟩, s⟩ V.drew := ⟨hv, hrow, hbx, Below.drewN (m := 1) (Below.refl _ _)⟩
    gi_wp2
    clear hv hrow hbx
    refine region_held_r (S := SE Bx ⟨⟨⟨e, lb', q, a⟩, en, gr, p⟩, s⟩) mixed (by kernel_rfl) hS0.ent (fun hHeld => ?_)
    (try simp only [Array.replicate_succ, Array.replicate_zero, List.push_toArray, List.nil_append, List.cons_append])
    obtain ⟨Vd, hVd⟩ : ∃ Vd, V.drew = Vd := ⟨_, rfl⟩
    rw [hVd] at hS0 hHeld ⊢
    clear hVd
    refine wpAnyH_take (i := 1) (v := ?_) rfl (by kernel_rfl) (by kernel_rfl) (by kernel_rfl) (fun _ _ _ h => h) (Or.inl ⟨by rfl, ?_⟩) (by assumption) ?_
    rotate_left
    · intro w' hSw; have hcc := hSw.cells; dsimp only at hcc; obtain ⟨hs0, hs1, hs2, hs3, hs4, hs5, hs6⟩ := hcc; (try clear hSw); go_simp; (try with_reducible rfl)
    (try simp only [Act.put, List.getElem_toArray, List.getElem_cons_zero, List.getElem_cons_succ, List.setIfInBounds_toArray, List.set_cons_zero, List.set_cons_succ])
    refine wpAnyH_take (i := 2) (v := ?_) rfl (by kernel_rfl) (by kernel_rfl) (by kernel_rfl) (fun _ _ _ h => h) (Or.inl ⟨by rfl, ?_⟩) (by assumption) ?_
    rotate_left
    · intro w' hSw; have hcc := hSw.cells; dsimp only at hcc; obtain ⟨hs0, hs1, hs2, hs3, hs4, hs5, hs6⟩ := hcc; (try clear hSw); go_simp; (try with_reducible rfl)
    (try simp only [Act.put, List.getElem_toArray, List.getElem_cons_zero, List.getElem_cons_succ, List.setIfInBounds_toArray, List.set_cons_zero, List.set_cons_succ])
    refine wpAnyH_take (i := 3) (v := ?_) rfl (by kernel_rfl) (by kernel_rfl) (by kernel_rfl) (fun _ _ _ h => h) (Or.inl ⟨by rfl, ?_⟩) (by assumption) ?_
    rotate_left
    · intro w' hSw; have hcc := hSw.cells; dsimp only at hcc; obtain ⟨hs0, hs1, hs2, hs3, hs4, hs5, hs6⟩ := hcc; (try clear hSw); go_simp; (try with_reducible rfl)
    (try simp only [Act.put, List.getElem_toArray, List.getElem_cons_zero, List.getElem_cons_succ, List.setIfInBounds_toArray, List.set_cons_zero, List.set_cons_succ])
    refine wpAnyH_ready (rs := [0, 4]) (by kernel_rfl) (by simp) ?_
    refine AllReadyH.cons rfl (fun KK hKK => ?_) (AllReadyH.cons rfl (fun KK hKK => ?_) AllReadyH.nil)
    · have bx := hS0.box.cell
      go_simp
      refine hKK.out _ _ (show SE Bx ⟨⟨⟨e, lb', q, a⟩, en, gr, p⟩, s⟩ _ from hS0.ent) (fun hHeld => ?_)
      clear hKK KK
      (try simp only [Act.put, List.getElem_toArray, List.getElem_cons_zero, List.getElem_cons_succ, List.setIfInBounds_toArray, List.set_cons_zero, List.set_cons_succ])
      clear bx
      refine wpAnyH_ready (rs := [4]) (by kernel_rfl) (by simp) ?_
      refine AllReadyH.cons rfl (fun KK hKK => ?_) AllReadyH.nil
      go_simp
      ((with_reducible refine (HCA.out _).mono ?_); rintro e' V1 ⟨rfl, hb⟩; have hS1 := hS0.later hb; clear hb)
      (try go_simp)
      refine hKK.out _ _ (show SE Bx ⟨⟨⟨e, lb', q, a⟩, en, gr, p⟩, s⟩ _ from hS1.ent) (fun hHeld => ?_)
      clear hKK KK
      (try simp only [Act.put, List.getElem_toArray, List.getElem_cons_zero, List.getElem_cons_succ, List.setIfInBounds_toArray, List.set_cons_zero, List.set_cons_succ])
      refine wpAnyH_ready (rs := [5]) (by kernel_rfl) (by simp) ?_
      refine AllReadyH.cons rfl (fun KK hKK => ?_) AllReadyH.nil
      go_simp
      refine hKK.out _ _ (show SE Bx ⟨⟨⟨e, lb', q, a⟩, en, gr, p⟩, s⟩ _ from (hS1.ent.alloc (.cells #[.int .i64 id, .int .i64 p, .int .i64 gr, .bool true] 51))) (fun hHeld => ?_)
      clear hKK KK
      (try simp only [Act.put, List.getElem_toArray, List.getElem_cons_zero, List.getElem_cons_succ, List.setIfInBounds_toArray, List.set_cons_zero, List.set_cons_succ])
      have hw2 := hS1.below.size
      have hbw := hS1.row.alloc (.cells #[.int .i64 id, .int .i64 p, .int .i64 gr, .bool true] 51)
      refine wpAnyH_ready (rs := [6]) (by kernel_rfl) (by simp) ?_
      refine AllReadyH.cons rfl (fun KK hKK => ?_) AllReadyH.nil
      rw [if_pos (by rfl)]
      refine wp_append_own _ (.tmp 12) (.tmp 17) 88 rfl (w3.heap.size + 2 + k) 51 i0 (.agg #[.int .i64 0, .int .i64 0, .int .i64 0, .bool false]) 4 32 Try.underlying88 hi2 hz0 hz1 hz2 rfl (by decide) (.slice va m vc) m Q rfl hbw ⟨V1.heap.size, 0, none⟩ 1 1 (Cd.cl ⟨id, p, gr, true⟩) rfl rfl (cell_four_new V1 ⟨id, p, gr, true⟩ _) (cd_one _) (by unfold maxLen; omega) (by omega) (by simp; omega) ?_
      intro v' w9 hown' hgrow _
      obtain ⟨g', cap', rfl⟩ := ownsRow_succ hown'
      obtain ⟨hv1, hv2, hr2, hs2, hk2, hp2⟩ := grow_box hS1.box hS1.row (by omega) (by omega) hown' hgrow
      have hE9 : SE Bx ⟨⟨⟨e, lb', q, a⟩, en, gr, p⟩, s⟩ w9 := CB.kept (hS1.ent.alloc _) hgrow (fun e => hS1.apart e.symm)
      have hE10 : SE Bx ⟨⟨⟨e, lb', q, a⟩, en, gr, p⟩, s⟩ (w9.setCell ⟨w.heap.size, 0, none⟩ (.slice (some ⟨g', 0, none⟩) (m + 1) cap')) := CB.other hE9 _ _ _ (by omega)
      refine hKK.out _ _ hE9 (fun hHeld => ?_)
      clear hKK KK
      (try simp only [Act.put, List.getElem_toArray, List.getElem_cons_zero, List.getElem_cons_succ, List.setIfInBounds_toArray, List.set_cons_zero, List.set_cons_succ])
      have hc1 := hv1.cell
      have hf1 := hv1.frozen
      refine wpAnyH_ready (rs := [7]) (by kernel_rfl) (by simp) ?_
      refine AllReadyH.cons rfl (fun KK hKK => ?_) AllReadyH.nil
      go_simp
      refine hKK.out _ _ hE10 (fun hHeld => ?_)
      clear hKK KK
      (try simp only [Act.put, List.getElem_toArray, List.getElem_cons_zero, List.getElem_cons_succ, List.setIfInBounds_toArray, List.set_cons_zero, List.set_cons_succ])
      refine wpAnyH_done (by kernel_rfl) ?_ _
      refine normQ_in ?_
      clear hHeld
      gi_wp2
      exact ⟨⟨by omega, fun i o h1 h2 h3 _ => ((hk2 i (by omega) (by omega)).trans (hS1.below.block i (by omega))).trans h3⟩, ⟨by omega, fun i q => (hk2 i (by omega) (by omega)).trans (hS1.below.block i (by omega))⟩, ⟨_, hv2, by rw [HCS.out, flC_snoc, HQ.out, show (pre ++ [(id, (⟨⟨⟨e, lb', q, a⟩, en, gr, p⟩, s⟩ : En))]).length = m + 1 by have := HM.out; simp; omega]; exact hr2⟩, HBL.out.trans ((hS1.below.mono HBL.out.size).trans (hp2.mono (by omega)))⟩
    · go_simp
      ((with_reducible refine (HCA.out _).mono ?_); rintro e' V1 ⟨rfl, hb⟩; have hS1 := hS0.later hb; clear hb)
      (try go_simp)
      refine hKK.out _ _ (show SE Bx ⟨⟨⟨e, lb', q, a⟩, en, gr, p⟩, s⟩ _ from hS1.ent) (fun hHeld => ?_)
      clear hKK KK
      (try simp only [Act.put, List.getElem_toArray, List.getElem_cons_zero, List.getElem_cons_succ, List.setIfInBounds_toArray, List.set_cons_zero, List.set_cons_succ])
      refine wpAnyH_ready (rs := [0, 5]) (by kernel_rfl) (by simp) ?_
      refine AllReadyH.cons rfl (fun KK hKK => ?_) (AllReadyH.cons rfl (fun KK hKK => ?_) AllReadyH.nil)
      · have bx := hS1.box.cell
        go_simp
        refine hKK.out _ _ (show SE Bx ⟨⟨⟨e, lb', q, a⟩, en, gr, p⟩, s⟩ _ from hS1.ent) (fun hHeld => ?_)
        clear hKK KK
        (try simp only [Act.put, List.getElem_toArray, List.getElem_cons_zero, List.getElem_cons_succ, List.setIfInBounds_toArray, List.set_cons_zero, List.set_cons_succ])
        clear bx
        refine wpAnyH_ready (rs := [5]) (by kernel_rfl) (by simp) ?_
        refine AllReadyH.cons rfl (fun KK hKK => ?_) AllReadyH.nil
        go_simp
        refine hKK.out _ _ (show SE Bx ⟨⟨⟨e, lb', q, a⟩, en, gr, p⟩, s⟩ _ from (hS1.ent.alloc (.cells #[.int .i64 id, .int .i64 p, .int .i64 gr, .bool true] 51))) (fun hHeld => ?_)
        clear hKK KK
        (try simp only [Act.put, List.getElem_toArray, List.getElem_cons_zero, List.getElem_cons_succ, List.setIfInBounds_toArray, List.set_cons_zero, List.set_cons_succ])
        have hw2 := hS1.below.size
        have hbw := hS1.row.alloc (.cells #[.int .i64 id, .int .i64 p, .int .i64 gr, .bool true] 51)
        refine wpAnyH_ready (rs := [6]) (by kernel_rfl) (by simp) ?_
        refine AllReadyH.cons rfl (fun KK hKK => ?_) AllReadyH.nil
        rw [if_pos (by rfl)]
        refine wp_append_own _ (.tmp 12) (.tmp 17) 88 rfl (w3.heap.size + 2 + k) 51 i0 (.agg #[.int .i64 0, .int .i64 0, .int .i64 0, .bool false]) 4 32 Try.underlying88 hi2 hz0 hz1 hz2 rfl (by decide) (.slice va m vc) m Q rfl hbw ⟨V1.heap.size, 0, none⟩ 1 1 (Cd.cl ⟨id, p, gr, true⟩) rfl rfl (cell_four_new V1 ⟨id, p, gr, true⟩ _) (cd_one _) (by unfold maxLen; omega) (by omega) (by simp; omega) ?_
        intro v' w9 hown' hgrow _
        obtain ⟨g', cap', rfl⟩ := ownsRow_succ hown'
        obtain ⟨hv1, hv2, hr2, hs2, hk2, hp2⟩ := grow_box hS1.box hS1.row (by omega) (by omega) hown' hgrow
        have hE9 : SE Bx ⟨⟨⟨e, lb', q, a⟩, en, gr, p⟩, s⟩ w9 := CB.kept (hS1.ent.alloc _) hgrow (fun e => hS1.apart e.symm)
        have hE10 : SE Bx ⟨⟨⟨e, lb', q, a⟩, en, gr, p⟩, s⟩ (w9.setCell ⟨w.heap.size, 0, none⟩ (.slice (some ⟨g', 0, none⟩) (m + 1) cap')) := CB.other hE9 _ _ _ (by omega)
        refine hKK.out _ _ hE9 (fun hHeld => ?_)
        clear hKK KK
        (try simp only [Act.put, List.getElem_toArray, List.getElem_cons_zero, List.getElem_cons_succ, List.setIfInBounds_toArray, List.set_cons_zero, List.set_cons_succ])
        have hc1 := hv1.cell
        have hf1 := hv1.frozen
        refine wpAnyH_ready (rs := [7]) (by kernel_rfl) (by simp) ?_
        refine AllReadyH.cons rfl (fun KK hKK => ?_) AllReadyH.nil
        go_simp
        refine hKK.out _ _ hE10 (fun hHeld => ?_)
        clear hKK KK
        (try simp only [Act.put, List.getElem_toArray, List.getElem_cons_zero, List.getElem_cons_succ, List.setIfInBounds_toArray, List.set_cons_zero, List.set_cons_succ])
        refine wpAnyH_done (by kernel_rfl) ?_ _
        refine normQ_in ?_
        clear hHeld
        gi_wp2
        exact ⟨⟨by omega, fun i o h1 h2 h3 _ => ((hk2 i (by omega) (by omega)).trans (hS1.below.block i (by omega))).trans h3⟩, ⟨by omega, fun i q => (hk2 i (by omega) (by omega)).trans (hS1.below.block i (by omega))⟩, ⟨_, hv2, by rw [HCS.out, flC_snoc, HQ.out, show (pre ++ [(id, (⟨⟨⟨e, lb', q, a⟩, en, gr, p⟩, s⟩ : En))]).length = m + 1 by have := HM.out; simp; omega]; exact hr2⟩, HBL.out.trans ((hS1.below.mono HBL.out.size).trans (hp2.mono (by omega)))⟩
      · go_simp
        refine hKK.out _ _ (show SE Bx ⟨⟨⟨e, lb', q, a⟩, en, gr, p⟩, s⟩ _ from (hS1.ent.alloc (.cells #[.int .i64 id, .int .i64 p, .int .i64 gr, .bool true] 51))) (fun hHeld => ?_)
        clear hKK KK
        (try simp only [Act.put, List.getElem_toArray, List.getElem_cons_zero, List.getElem_cons_succ, List.setIfInBounds_toArray, List.set_cons_zero, List.set_cons_succ])
        refine wpAnyH_ready (rs := [0]) (by kernel_rfl) (by simp) ?_
        refine AllReadyH.cons rfl (fun KK hKK => ?_) AllReadyH.nil
        have bx := (hS1.later (bal V1 (.cells #[.int .i64 id, .int .i64 p, .int .i64 gr, .bool true] 51))).box.cell
        go_simp
        refine hKK.out _ _ (show SE Bx ⟨⟨⟨e, lb', q, a⟩, en, gr, p⟩, s⟩ _ from (hS1.ent.alloc (.cells #[.int .i64 id, .int .i64 p, .int .i64 gr, .bool true] 51))) (fun hHeld => ?_)
        clear hKK KK
        (try simp only [Act.put, List.getElem_toArray, List.getElem_cons_zero, List.getElem_cons_succ, List.setIfInBounds_toArray, List.set_cons_zero, List.set_cons_succ])
        clear bx
        have hw2 := hS1.below.size
        have hbw := hS1.row.alloc (.cells #[.int .i64 id, .int .i64 p, .int .i64 gr, .bool true] 51)
        refine wpAnyH_ready (rs := [6]) (by kernel_rfl) (by simp) ?_
        refine AllReadyH.cons rfl (fun KK hKK => ?_) AllReadyH.nil
        rw [if_pos (by rfl)]
        refine wp_append_own _ (.tmp 12) (.tmp 17) 88 rfl (w3.heap.size + 2 + k) 51 i0 (.agg #[.int .i64 0, .int .i64 0, .int .i64 0, .bool false]) 4 32 Try.underlying88 hi2 hz0 hz1 hz2 rfl (by decide) (.slice va m vc) m Q rfl hbw ⟨V1.heap.size, 0, none⟩ 1 1 (Cd.cl ⟨id, p, gr, true⟩) rfl rfl (cell_four_new V1 ⟨id, p, gr, true⟩ _) (cd_one _) (by unfold maxLen; omega) (by omega) (by simp; omega) ?_
        intro v' w9 hown' hgrow _
        obtain ⟨g', cap', rfl⟩ := ownsRow_succ hown'
        obtain ⟨hv1, hv2, hr2, hs2, hk2, hp2⟩ := grow_box hS1.box hS1.row (by omega) (by omega) hown' hgrow
        have hE9 : SE Bx ⟨⟨⟨e, lb', q, a⟩, en, gr, p⟩, s⟩ w9 := CB.kept (hS1.ent.alloc _) hgrow (fun e => hS1.apart e.symm)
        have hE10 : SE Bx ⟨⟨⟨e, lb', q, a⟩, en, gr, p⟩, s⟩ (w9.setCell ⟨w.heap.size, 0, none⟩ (.slice (some ⟨g', 0, none⟩) (m + 1) cap')) := CB.other hE9 _ _ _ (by omega)
        refine hKK.out _ _ hE9 (fun hHeld => ?_)
        clear hKK KK
        (try simp only [Act.put, List.getElem_toArray, List.getElem_cons_zero, List.getElem_cons_succ, List.setIfInBounds_toArray, List.set_cons_zero, List.set_cons_succ])
        have hc1 := hv1.cell
        have hf1 := hv1.frozen
        refine wpAnyH_ready (rs := [7]) (by kernel_rfl) (by simp) ?_
        refine AllReadyH.cons rfl (fun KK hKK => ?_) AllReadyH.nil
        go_simp
        refine hKK.out _ _ hE10 (fun hHeld => ?_)
        clear hKK KK
        (try simp only [Act.put, List.getElem_toArray, List.getElem_cons_zero, List.getElem_cons_succ, List.setIfInBounds_toArray, List.set_cons_zero, List.set_cons_succ])
        refine wpAnyH_done (by kernel_rfl) ?_ _
        refine normQ_in ?_
        clear hHeld
        gi_wp2
        exact ⟨⟨by omega, fun i o h1 h2 h3 _ => ((hk2 i (by omega) (by omega)).trans (hS1.below.block i (by omega))).trans h3⟩, ⟨by omega, fun i q => (hk2 i (by omega) (by omega)).trans (hS1.below.block i (by omega))⟩, ⟨_, hv2, by rw [HCS.out, flC_snoc, HQ.out, show (pre ++ [(id, (⟨⟨⟨e, lb', q, a⟩, en, gr, p⟩, s⟩ : En))]).length = m + 1 by have := HM.out; simp; omega]; exact hr2⟩, HBL.out.trans ((hS1.below.mono HBL.out.size).trans (hp2.mono (by omega)))⟩
  case done =>
    rintro ys0 V rfl ⟨⟨v, hv, hrow⟩, hB⟩ hK hs2
    have hcv := hv.cell
    obtain ⟨n, hn⟩ : ∃ n, ys0.length = n := ⟨_, rfl⟩
    rw [hn] at hrow hl
    have HSO := hi (sort_own hrow (by rw [cands_len]; exact hn) (by omega))
    have hvb : v.ownBlock ≠ some w.heap.size ∧ v.ownBlock ≠ some w3.heap.size ∧ ∀ g, v.ownBlock = some g → w3.heap.size + 2 + k ≤ g ∧ g < V.heap.size := by
      refine ⟨fun e => by have := hrow.lt _ e; omega, fun e => by have := hrow.lt _ e; omega, fun g e => hrow.lt g e⟩
    have hnn : n ≠ 0 → ∃ g c, v = .slice (some ⟨g, 0, none⟩) n c := by
      intro h0
      rcases hrow.2 with ⟨_, e0⟩ | ⟨g, cap, cur, e, _⟩
      · exact absurd e0 h0
      · exact ⟨g, cap, e⟩
    have HNN := hi hnn
    have HVB := hi hvb
    have HBV := hi hB
    have HKV := hi hK
    have HN := hi hn
    obtain ⟨va, vc, rfl⟩ := own_slice hrow
    have hvl := (Array.getElem?_eq_some_iff.1 hv).1
    have HV := hi hv
    have hmk := run_make_row' (P := Try.prog) 43 3 (.int .i64 0) 8 Try.underlying43 info_i rfl .i64 .i64 n (by omega) (by omega)
    clear hrow hn hvb hnn hB hK hv
    gi_wp2_with (first
      | (refine ⟨trivial, ?_⟩; gi_at_call 44; ((with_reducible refine (callsIn_wide.2 HSO.out).mono ?_); rintro e' V2 ⟨rfl, ys, hp, hs, hcs, hk⟩; have hcv2 := Boxed.cell (W := V2) ((hk.block _ hvl HVB.out.1).trans HV.out); have HP := hi hp; have HS := hi hs; have HCS := hi hcs; have HKE := hi hk; have hvs := hk.size; have hvl2 : w.heap.size < V2.heap.size := Nat.lt_of_lt_of_le hvl hvs; clear hp hs hcs hk))
      | gi_in)
    have hL0 : LK w (w.heap.size + 1) (.slice va n vc) V2.heap.size n 0 ys (V2.alloc (.cells (madeCells #[.int .i64 0] n) 3)) := by
      have hb2 : Below w.heap.size V V2 := HKE.out.toBelow HBV.out.size (fun i e => by have := (HVB.out.2.2 i e).1; omega)
      refine ⟨(HBV.out.trans hb2).alloc (by omega) _, fun g e => (HCS.out g e).heap ((bal V2 _).block g (by have := (HVB.out.2.2 g e).2; omega)), ⟨_, CB.new V2 _ _, ?_⟩, ?_, fun g e => ?_, by omega⟩
      · rw [fillI_zero, toList_madeCells_one]
        unfold ints
        rw [List.map_replicate]
        exact List.prefix_rfl
      · rw [← hz3]
        exact ((bal V2 _).block _ (by omega)).trans ((HKE.out.block _ (by omega) HVB.out.2.1).trans HKV.out)
      · have := (HVB.out.2.2 g e).2
        rw [World.size_alloc]
        omega
    have HL0 := hi hL0
    have HYL := hi (show ys.length = n by rw [HP.out.length_eq, cands_len, HN.out])
    clear hL0 HSO HKE HCS HV hcv hcv2 hmk
    gi_loopw [26] (fun i wr => ∃ j : Nat, j ≤ n ∧ i = .int .i64 j ∧ Hi (LK w (w.heap.size + 1) (.slice va n vc) V2.heap.size n j ys wr)) (fun i _ => n - (intOf i).toNat)
    case atStart => exact ⟨0, Nat.zero_le _, rfl, HL0⟩
    case round =>
      obtain ⟨j, hj, rfl, HX⟩ := hrel
      clear HL0
      by_cases hlt : j < n
      · obtain ⟨g, c, e⟩ := HNN.out (by omega)
        simp only [Value.slice.injEq] at e
        obtain ⟨rfl, _, rfl⟩ := e
        obtain ⟨c0, c1, c2, c3⟩ := HX.out.cs g rfl j (nthC ys j) (nthC_at (by rw [HYL.out]; exact hlt))
        obtain ⟨u, hu⟩ : ∃ u, wr.cell? ⟨V2.heap.size, j, none⟩ = some u := by
          rw [HX.out.row.cell (by simp [ints, fillI_len HYL.out hj]; exact hlt)]
          exact ⟨_, List.getElem?_eq_getElem (by simp [ints, fillI_len HYL.out hj]; exact hlt)⟩
        have huf := HX.out.row.frozen j
        have hul := HX.out.row.lt
        have HNX := hi (fun o => (HX.out.set HYL.out hlt (Nat.le_succ _)).alloc o)
        obtain ⟨x, hx⟩ : ∃ x, nthC ys j = x := ⟨_, rfl⟩
        rw [hx] at c0 c1 c2 c3 HNX
        clear hx
        obtain ⟨xi, xp, xg, xs'⟩ := x
        dsimp only at c0 c1 c2 c3 HNX
        gi_wp2
        go_roundw
        case rel => exact ⟨j + 1, by omega, by go_num, hi (HNX.out _)⟩
        case measure => simp only [intOf]; omega
      · obtain rfl : j = n := by omega
        gi_wp2
        refine ⟨by simp, .inl ⟨_, _, rfl, run_takeDeferred HX.out.df, ?_⟩⟩
        refine ⟨_, results_tmp rfl _ _ _, ys, HP.out, HS.out, ?_⟩
        have hlen : (ys.map (·.id)).length = j := by rw [List.length_map, HYL.out]
        have hrow := HX.out.row
        rw [fillI_all HYL.out] at hrow
        have hlo := HX.out.lo
        refine ⟨some ⟨V2.heap.size, 0, none⟩, j, by rw [hlen]; rfl, ?_, below_put HX.out.below _ HX.out.below.size (by omega)⟩
        rw [hlen]
        exact intsAt_row2 (hrow.heap (World.putObj_heap_other (by omega))) hlen hl
  case stop =>
    rintro c pre V _ h _ _
    exact h.elim

end Go.Proofs.Ytfjihpcemmobjaa
