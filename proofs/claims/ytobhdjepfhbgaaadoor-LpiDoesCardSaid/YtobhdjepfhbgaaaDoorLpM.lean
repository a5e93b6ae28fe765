/-
  Package lpi: Move, MoveAll.
-/
import Derived.Test.YtobhdjepfhbgaaaDoorLpL
import Derived.LaidEqlPtr
namespace Go.Proofs.YtobhdjepfhbgaaaDoor
open Go.ChangeShapes Go.WideShapes Go.ChangeAt Go.RowKit Go.Shelf
set_option linter.unusedVariables false
set_option linter.unusedSimpArgs false

theorem info_lpis : (Tryd.prog.info? 92).map (·.size) = some 7 := by kernel_rfl
theorem under_plpis : Tryd.prog.underlying 27 = some (.pointer 92) := by kernel_rfl
theorem ptr_other {w : World} {l l' : Nat} {cs cs' : Array Value} (hne : l ≠ l') (h : CB w l 92 cs) (h' : CB w l' 92 cs') :
    (binOp .eql 27 (.pointer (some ⟨l, 0, none⟩)) (.pointer (some ⟨l', 0, none⟩))).run Tryd.prog w = .ok (.bool false) w := by
  cases hq : Tryd.prog.info? 92 with
  | none => have := info_lpis; simp [hq] at this
  | some j =>
    have hj : j.size = 7 := by have := info_lpis; simpa [hq] using this
    exact run_eql_ptr_other w under_plpis hq (by rw [hj]; decide) (fun e => hne (by cases e; rfl)) h h'
theorem ptr_same (w : World) (l : Nat) : (binOp .eql 27 (.pointer (some ⟨l, 0, none⟩)) (.pointer (some ⟨l, 0, none⟩))).run Tryd.prog w = .ok (.bool true) w := by
  cases hq : Tryd.prog.info? 92 with
  | none => have := info_lpis; simp [hq] at this
  | some j => exact run_eql_ptr_same w _ under_plpis hq
theorem LpB.cross {W : World} {l s c cap l' s' c' cap' : Nat} {S S' : Words} {x y : St} (h : LpB W l s c cap S x) (h' : LpB W l' s' c' cap' S' y) : l ≠ s' ∧ l ≠ c' ∧ s ≠ c' ∧ c ≠ s' := by
  have h1 := h.box; have h4 := h.set.1
  have k4 := h'.set.1
  obtain ⟨⟨r3, h3⟩, _⟩ := h.cfg
  obtain ⟨⟨r, k3⟩, _⟩ := h'.cfg
  unfold CB at h1
  refine ⟨fun e => ?_, fun e => ?_, fun e => ?_, fun e => ?_⟩
  · rw [e, k4] at h1; simp only [Option.some.injEq, Obj.cells.injEq] at h1; exact absurd h1.2.1 (by decide)
  · rw [e, k3] at h1; simp only [Option.some.injEq, Obj.cells.injEq] at h1; exact absurd h1.2.1 (by decide)
  · rw [e, k3] at h4; simp only [Option.some.injEq, Obj.cells.injEq] at h4; exact absurd h4.2.1 (by decide)
  · rw [e, k4] at h3; simp only [Option.some.injEq, Obj.cells.injEq] at h3; exact absurd h3.2.1 (by decide)
/-- Both parts, and the memory. -/
structure TwoL (W : World) (l s c cap l' s' c' cap' p g cp : Nat) (t : Tw) : Prop where
  a : ∃ S, LpB W l s c cap S t.x
  b : ∃ S, LpB W l' s' c' cap' S t.y
  m : MemAt 96 W p g cp t.bs
structure TwoN (l s c l' s' c' g : Nat) : Prop where
  ll : l ≠ l'
  ss : s ≠ s'
  cc : c ≠ c'
  gc : g ≠ c
  gc' : g ≠ c'
theorem TwoL.below {A W : World} {l s c cap l' s' c' cap' p g cp : Nat} {t : Tw} (h : TwoL A l s c cap l' s' c' cap' p g cp t) (k : Below A.heap.size A W) : TwoL W l s c cap l' s' c' cap' p g cp t := by
  obtain ⟨⟨S, h1⟩, ⟨S', h2⟩, h3⟩ := h
  exact ⟨⟨S, h1.below k⟩, ⟨S', h2.below k⟩, h3.below k⟩

set_option maxRecDepth 100000 in
set_option maxHeartbeats 4000000 in
theorem move_yes (l s c cap l' s' c' cap' p g cp : Nat) (t : Tw) (L : Nat) (ht : t.Ok L) (n : TwoN l s c l' s' c' g) (id : Int) (hm : mvB t.bs t.x t.y id = true) (w : World) (h : TwoL w l s c cap l' s' c' cap' p g cp t) :
    Calls Tryd.prog 29 #[.pointer (some ⟨p, 0, none⟩), .int .i64 id, .pointer (some ⟨l, 0, none⟩), .pointer (some ⟨l', 0, none⟩)] w fun e w' => e = .returned (.bool true) ∧ TwoL w' l s c cap l' s' c' cap' p g cp (mvS t id) ∧ Kept (fun b => b = s ∨ b = s' ∨ b = g) w w' := by
  obtain ⟨bs, x, y⟩ := t
  obtain ⟨⟨S, h1⟩, ⟨S', h2⟩, h3⟩ := h
  have hlen : bs.length = L := ht.len
  subst hlen
  dsimp only at hm h1 h2 h3 ⊢
  obtain ⟨k, rfl, hx, hy, hh⟩ := mvB_out hm
  have hxo : x.Ok bs.length := ht.x
  have hyo : y.Ok bs.length := ht.y
  obtain ⟨x1, x2, x3, x4⟩ := h1.cross h2
  obtain ⟨a1, a2, a3, a4, a5⟩ := h1.apart h3
  have hoy : ownB y ((8192 + k : Nat) : Int) = true := by rw [ownB_at]; simpa using hy
  have hox : ownB x ((8192 + k : Nat) : Int) = true := by rw [ownB_at]; simpa using hx
  have hv : hasV bs x ((8192 + k : Nat) : Int) = true := by rw [hasV, hox, kOf_at, hh]; rfl
  have HO := hi (owns_is l' s' c' cap' S' y hyo.n5 _ true hoy w h2.hd)
  have HH := hi (fun W h1 h3 => has_is2 l s c cap p g cp S x bs hxo _ true hv W h1 h3)
  have e1 : setV bs y ((8192 + k : Nat) : Int) true = setS bs y k true := by rw [setV, if_pos hoy, kOf_at]
  have em : mvS ⟨bs, x, y⟩ ((8192 + k : Nat) : Int) = ⟨(setS (setS bs y k true).1 x k false).1, (setS (setS bs y k true).1 x k false).2, (setS bs y k true).2⟩ := by rw [mvS, if_pos hm, kOf_at]
  have HS1 := hi (fun W hl hmm => set_lpi l' s' c' cap' p g cp S' y bs hyo ((8192 + k : Nat) : Int) true W hl hmm n.gc')
  rw [e1] at HS1
  have hl1 : (setS bs y k true).1.length = bs.length := setS_len _ _ _ _
  have HS2 := hi (fun W hl hmm => set_lpi l s c cap p g cp S x (setS bs y k true).1 (by rw [hl1]; exact hxo) ((8192 + k : Nat) : Int) false W hl hmm n.gc)
  have e2 : setV (setS bs y k true).1 x ((8192 + k : Nat) : Int) false = setS (setS bs y k true).1 x k false := by rw [setV, if_pos hox, kOf_at]
  rw [e2] at HS2
  rw [em]
  obtain ⟨b1, hb1⟩ : ∃ b, hasV bs y ((8192 + k : Nat) : Int) = b := ⟨_, rfl⟩
  obtain ⟨i1, hi1⟩ : ∃ b, errL y ((8192 + k : Nat) : Int) = b := ⟨_, rfl⟩
  obtain ⟨b2, hb2⟩ : ∃ b, hasV (setS bs y k true).1 x ((8192 + k : Nat) : Int) = b := ⟨_, rfl⟩
  obtain ⟨i2, hi2⟩ : ∃ b, errL x ((8192 + k : Nat) : Int) = b := ⟨_, rfl⟩
  rw [hb1, hi1] at HS1
  rw [hb2, hi2] at HS2
  obtain ⟨t1, ht1⟩ : ∃ t, setS bs y k true = t := ⟨_, rfl⟩
  rw [ht1] at HS1 HS2 ⊢
  obtain ⟨bs1, y1⟩ := t1
  dsimp only at HS1 HS2 ⊢
  obtain ⟨t2, ht2⟩ : ∃ t, setS bs1 x k false = t := ⟨_, rfl⟩
  rw [ht2] at HS2 ⊢
  obtain ⟨bs2, x2'⟩ := t2
  dsimp only at HS2 ⊢
  obtain ⟨z, hz⟩ : ∃ z : Int, ((8192 + k : Nat) : Int) = z := ⟨_, rfl⟩
  rw [hz] at HO HH HS1 HS2
  rw [hz]
  have H := hi (And.intro h1 (And.intro h2 h3))
  have HN := hi (And.intro n (And.intro x1 (And.intro x4 (And.intro a1 (And.intro a2 n.gc.symm)))))
  have hll := ptr_other n.ll h1.box h2.box
  clear ht hm hx hy hh hxo hyo hoy hox hv e1 em hl1 e2 hb1 hi1 hb2 hi2 ht1 ht2 hz h1 h2 h3 x1 x2 x3 x4 a1 a2 a3 a4 a5
  go_enter Tryd.func29, Tryd.ntmps29
  go_wp2_with (first
    | (go_at_call 46; ((with_reducible refine HO.out.mono ?_); rintro e w1 ⟨rfl, rfl⟩))
    | (go_at_call 17; ((with_reducible refine (HH.out _ H.out.1.hd H.out.2.2).mono ?_); rintro e w1 ⟨rfl, hb1⟩; have HB := hi hb1; clear hb1))
    | (go_at_call 13; ((with_reducible refine (HS1.out _ (H.out.2.1.below HB.out) (H.out.2.2.below HB.out)).mono ?_); rintro e w2 ⟨rfl, hp2⟩; have HP2 := hi hp2; have HL2 := hi ((H.out.1.below HB.out).kept hp2.kept (fun e => e.elim HN.out.2.1 HN.out.2.2.2.1) (fun e => e.elim HN.out.1.ss HN.out.2.2.2.2.1) (fun e => e.elim HN.out.2.2.1 HN.out.2.2.2.2.2)); clear hp2))
    | (go_at_call 13; ((with_reducible refine (HS2.out _ HL2.out HP2.out.mem).mono ?_); rintro e w3 ⟨rfl, hp3⟩; have HP3 := hi hp3; clear hp3)))
  go_ret
  obtain ⟨S2, hS2⟩ := HP2.out.lp
  obtain ⟨x1, x2, x3, x4⟩ := hS2.cross HL2.out
  refine ⟨rfl, ⟨HP3.out.lp, ⟨S2, hS2.kept HP3.out.kept (fun e => ?_) (fun e => ?_) (fun e => ?_)⟩, HP3.out.mem⟩, ?_⟩
  · exact e.elim x1 (hS2.apart HP2.out.mem).1
  · exact e.elim (fun e => HN.out.1.ss e.symm) (hS2.apart HP2.out.mem).2.1
  · exact e.elim x4 (fun e => HN.out.1.gc' e.symm)
  · exact ((Kept.of HB.out).trans (HP2.out.kept.mono (fun _ e => .inr e))).trans (HP3.out.kept.mono (fun _ e => e.elim .inl (fun e => .inr (.inr e))))

set_option maxRecDepth 100000 in
set_option maxHeartbeats 4000000 in
theorem move_no (l s c cap l' s' c' cap' p g cp : Nat) (t : Tw) (L : Nat) (ht : t.Ok L) (hll : ¬ l = l') (id : Int) (hm : mvB t.bs t.x t.y id = false) (w : World) (h : TwoL w l s c cap l' s' c' cap' p g cp t) :
    Calls Tryd.prog 29 #[.pointer (some ⟨p, 0, none⟩), .int .i64 id, .pointer (some ⟨l, 0, none⟩), .pointer (some ⟨l', 0, none⟩)] w fun e w' => e = .returned (.bool false) ∧ Below w.heap.size w w' := by
  obtain ⟨bs, x, y⟩ := t
  obtain ⟨⟨S, h1⟩, ⟨S', h2⟩, h3⟩ := h
  have hlen : bs.length = L := ht.len
  subst hlen
  dsimp only at hm h1 h2 h3 ⊢
  have hxo : x.Ok bs.length := ht.x
  have hyo : y.Ok bs.length := ht.y
  have hptr := ptr_other hll h1.box h2.box
  cases hoy : ownB y id
  · have HO := hi (owns_is l' s' c' cap' S' y hyo.n5 _ false hoy w h2.hd)
    clear ht hm hxo hyo hoy h1 h2 h3
    go_enter Tryd.func29, Tryd.ntmps29
    go_wp2_with (go_at_call 46; ((with_reducible refine HO.out.mono ?_); rintro e w1 ⟨rfl, rfl⟩))
    go_ret
    exact ⟨rfl, Below.refl _ _⟩
  · have hv : hasV bs x id = false := by
      rw [mvB, hoy, Bool.true_and] at hm; exact hm
    have HO := hi (owns_is l' s' c' cap' S' y hyo.n5 _ true hoy w h2.hd)
    have HH := hi (has_is2 l s c cap p g cp S x bs hxo _ false hv w h1.hd h3)
    clear ht hm hxo hyo hoy h1 h2 h3 hv
    go_enter Tryd.func29, Tryd.ntmps29
    go_wp2_with (first
      | (go_at_call 46; ((with_reducible refine HO.out.mono ?_); rintro e w1 ⟨rfl, rfl⟩))
      | (go_at_call 17; ((with_reducible refine HH.out.mono ?_); rintro e w1 ⟨rfl, hb1⟩; have HB := hi hb1; clear hb1)))
    go_ret
    exact ⟨rfl, HB.out⟩
theorem move_lpi (l s c cap l' s' c' cap' p g cp : Nat) (t : Tw) (L : Nat) (ht : t.Ok L) (n : TwoN l s c l' s' c' g) (id : Int) (b : Bool) (hb : mvB t.bs t.x t.y id = b) (w : World) (h : TwoL w l s c cap l' s' c' cap' p g cp t) :
    Calls Tryd.prog 29 #[.pointer (some ⟨p, 0, none⟩), .int .i64 id, .pointer (some ⟨l, 0, none⟩), .pointer (some ⟨l', 0, none⟩)] w fun e w' => e = .returned (.bool b) ∧ TwoL w' l s c cap l' s' c' cap' p g cp (mvS t id) ∧ Kept (fun b => b = s ∨ b = s' ∨ b = g) w w' := by
  cases b
  · refine (move_no l s c cap l' s' c' cap' p g cp t L ht n.ll id hb w h).mono ?_
    rintro e w' ⟨rfl, hB⟩
    have e0 : mvS t id = t := by rw [mvS, if_neg (by rw [hb]; simp)]
    rw [e0]
    exact ⟨rfl, h.below hB, Kept.of hB⟩
  · exact move_yes l s c cap l' s' c' cap' p g cp t L ht n id hb w h
set_option maxRecDepth 100000 in
theorem move_self (l p : Nat) (id : Int) (w : World) :
    Calls Tryd.prog 29 #[.pointer (some ⟨p, 0, none⟩), .int .i64 id, .pointer (some ⟨l, 0, none⟩), .pointer (some ⟨l, 0, none⟩)] w fun e w' => e = .returned (.bool false) ∧ w = w' := by
  have hptr := ptr_same w l
  go_enter Tryd.func29, Tryd.ntmps29
  go_wp2
  go_ret
  exact ⟨rfl, rfl⟩

theorem take_snoc' (xs : List Int) {k : Nat} (h : k < xs.length) : xs.take (k + 1) = xs.take k ++ [xs[k]?.getD 0] := take_snoc xs h
theorem TwoL.kept {A W : World} {l s c cap l' s' c' cap' p g cp : Nat} {t : Tw} (h : TwoL A l s c cap l' s' c' cap' p g cp t) {bs : Nat → Prop} (k : Kept bs A W) (hb : ∀ b, (b = l ∨ b = s ∨ b = c ∨ b = l' ∨ b = s' ∨ b = c' ∨ b = p ∨ b = g) → ¬ bs b) : TwoL W l s c cap l' s' c' cap' p g cp t := by
  obtain ⟨⟨S, h1⟩, ⟨S', h2⟩, h3⟩ := h
  exact ⟨⟨S, h1.kept k (hb _ (by simp)) (hb _ (by simp)) (hb _ (by simp))⟩, ⟨S', h2.kept k (hb _ (by simp)) (hb _ (by simp)) (hb _ (by simp))⟩, h3.kept k (hb _ (by simp)) (hb _ (by simp))⟩

set_option maxRecDepth 100000 in
set_option maxHeartbeats 4000000 in
theorem moveAll_lpi (l s c cap l' s' c' cap' p g cp : Nat) (t : Tw) (L : Nat) (ht : t.Ok L) (n : TwoN l s c l' s' c' g) (w : World) (h : TwoL w l s c cap l' s' c' cap' p g cp t) :
    Calls Tryd.prog 28 #[.pointer (some ⟨p, 0, none⟩), .pointer (some ⟨l, 0, none⟩), .pointer (some ⟨l', 0, none⟩)] w fun e w' => e = .returned (.int .i64 (mvAll t).2) ∧ TwoL w' l s c cap l' s' c' cap' p g cp (mvAll t).1 ∧ Kept (fun b => b = s ∨ b = s' ∨ b = g) w w' := by
  obtain ⟨⟨S, h1⟩, ⟨S', h2⟩, h3⟩ := h
  have hlen : t.bs.length = L := ht.len
  have hw0 := waiting_lpi l p w
  have hd := CB.new w 27 #[.pointer (some ⟨l, 0, none⟩)]
  have hm := CB.new (w.alloc (.cells #[.pointer (some ⟨l, 0, none⟩)] 27)) 25 #[.pointer (some ⟨p, 0, none⟩)]
  rw [World.size_alloc] at hm
  have HWT := hi (hw0.mono (R' := fun e w1 => e = .returned (.func (.func 66) #[] #[.pointer (some ⟨w.heap.size, 0, none⟩), .pointer (some ⟨w.heap.size + 1, 0, none⟩)]) ∧ Below w.heap.size w w1 ∧ WtB w.heap.size l s c cap p g cp S t.x t.bs w1) (fun e w1 ⟨he, hw1⟩ => by
    have hb : Below w.heap.size w w1 := by rw [hw1]; exact bal2' w _ _
    exact ⟨he, hb, by rw [hw1]; exact hd.alloc _, by rw [hw1]; exact hm, (h1.below hb).hd, h3.below hb⟩))
  have HCO := hi (fun w1 (hB : WtB w.heap.size l s c cap p g cp S t.x t.bs w1) => collect_wait w.heap.size l s c cap p g cp S t.x t.bs (by rw [hlen]; exact ht.x) w1 hB)
  have hmx : (ids (waitL t.bs t.x)).length ≤ 512 := by rw [ids_len]; exact Nat.le_trans (lst_len _ _) ht.x.n5
  have H := hi (show TwoL w l s c cap l' s' c' cap' p g cp t from ⟨⟨S, h1⟩, ⟨S', h2⟩, h3⟩)
  have hs1 := h1.set.lt
  have hs2 := h2.set.lt
  have hs3 := h3.bytes.lt
  have em : mvAll t = mvN t (ids (waitL t.bs t.x)) := rfl
  rw [em]
  obtain ⟨xs, hxs⟩ : ∃ xs, ids (waitL t.bs t.x) = xs := ⟨_, rfl⟩
  rw [hxs] at HCO hmx ⊢
  have HMV := hi (fun (u : Tw) (hu : u.Ok L) (id : Int) (W : World) (hW : TwoL W l s c cap l' s' c' cap' p g cp u) => move_lpi l s c cap l' s' c' cap' p g cp u L hu n id _ rfl W hW)
  have HOK := hi (fun k => mvN_ok ht (xs.take k))
  have HLE := hi (fun k => mvN_le t (xs.take k))
  clear em hxs h1 h2 h3 hw0 hd hm ht hlen
  go_enter Tryd.func28, Tryd.ntmps28
  go_wp2_with (first
    | (go_at_call 25; ((with_reducible refine HWT.out.mono ?_); rintro e w1 ⟨rfl, hb1, hB1⟩; have H1 := hi (And.intro hb1 hB1); clear hb1 hB1))
    | (go_at_call 68; ((with_reducible refine (HCO.out _ H1.out.2).mono ?_); rintro e w2 ⟨a, k, rfl, hv2, hb2, hy2⟩; have H2 := hi (And.intro hv2 (And.intro (H1.out.1.more hb2) (fun b e => Nat.le_trans H1.out.1.size (hy2 b e)))); clear hv2 hb2 hy2)))
  go_loopw [7, 15] (fun nn i wr => ∃ j : Nat, j ≤ xs.length ∧ i = .int .i64 j ∧ nn = .int .i64 (mvN t (xs.take j)).2 ∧ Hi (TwoL wr l s c cap l' s' c' cap' p g cp (mvN t (xs.take j)).1 ∧ Kept (fun b => b = s ∨ b = s' ∨ b = g) w wr ∧ IntsAt wr (.slice a xs.length k) xs)) (fun _ i _ => xs.length - (intOf i).toNat)
  case atStart => exact ⟨0, Nat.zero_le _, rfl, rfl, hi ⟨H.out.below H2.out.2.1, Kept.of H2.out.2.1, H2.out.1⟩⟩
  case round =>
    obtain ⟨j, hj, rfl, rfl, HP⟩ := hrel
    by_cases hlt : j < xs.length
    · have x1 : (j : Int) < (xs.length : Int) := by omega
      obtain ⟨b, off, hab, hbl, hx0, hx⟩ := intsAt_read HP.out.2.2 (Below.refl _ _) hlt
      subst hab
      obtain ⟨z, hz⟩ : ∃ z, xs[j]?.getD 0 = z := ⟨_, rfl⟩
      rw [hz] at hx0 hx
      have hsn : mvN t (xs.take (j + 1)) = mvF (mvN t (xs.take j)) z := by rw [take_snoc' xs hlt, mvN_snoc, hz]
      have hle := HLE.out j
      have hlt2 : (xs.take j).length ≤ 512 := Nat.le_trans (List.length_take_le _ _) (by omega)
      have hcn : (mvN t (xs.take j)).2 ≤ 512 := by omega
      have HC := hi (HMV.out _ (HOK.out j) z wr HP.out.1)
      have HSN := hi hsn
      obtain ⟨st, hst⟩ : ∃ st, mvN t (xs.take j) = st := ⟨_, rfl⟩
      rw [hst] at HC HSN hcn
      have HP2 := hi HP.out.2
      obtain ⟨bb, hbb⟩ : ∃ b, mvB st.1.bs st.1.x st.1.y z = b := ⟨_, rfl⟩
      rw [hbb] at HC
      have HF := hi (show mvF st z = (mvS st.1 z, st.2 + if bb = true then 1 else 0) by rw [mvF, hbb])
      rw [hst]
      clear hx0 hz hsn hst hbb hle hlt2
      obtain ⟨t1, cn⟩ := st
      dsimp only at HC HF hcn ⊢
      have fin : ∀ (W : World), TwoL W l s c cap l' s' c' cap' p g cp (mvS t1 z) → Kept (fun b => b = s ∨ b = s' ∨ b = g) wr W → Hi (TwoL W l s c cap l' s' c' cap' p g cp (mvN t (xs.take (j + 1))).1 ∧ Kept (fun b => b = s ∨ b = s' ∨ b = g) w W ∧ IntsAt W (.slice (some ⟨b, off, none⟩) xs.length k) xs) := fun W h1 h2 =>
        hi ⟨by rw [HSN.out, HF.out]; exact h1, HP2.out.1.trans h2, HP2.out.2.keptY h2 (fun b' hb' e => by have := H2.out.2.2 b' hb'; omega)⟩
      have FIN := hi fin
      clear fin
      cases bb
      · have HN2 := hi (show (mvN t (xs.take (j + 1))).2 = cn by rw [HSN.out, HF.out]; simp)
        go_wp2_with (go_at_call 29; ((with_reducible refine HC.out.mono ?_); rintro e w3 ⟨rfl, h3, hk3⟩; have HR := FIN.out w3 h3 hk3; clear h3 hk3))
        go_roundw
        case rel => exact ⟨j + 1, by omega, by go_num, by rw [HN2.out], HR⟩
        case measure => simp [intOf]; omega
      · have HN2 := hi (show (mvN t (xs.take (j + 1))).2 = cn + 1 by rw [HSN.out, HF.out]; simp)
        go_wp2_with (go_at_call 29; ((with_reducible refine HC.out.mono ?_); rintro e w3 ⟨rfl, h3, hk3⟩; have HR := FIN.out w3 h3 hk3; clear h3 hk3))
        go_roundw
        case rel => exact ⟨j + 1, by omega, by go_num, by rw [HN2.out]; go_num, HR⟩
        case measure => simp [intOf]; omega
    · obtain rfl : j = xs.length := by omega
      have x1 : ¬ (xs.length : Int) < (xs.length : Int) := by omega
      rw [List.take_length] at HP ⊢
      go_wp2
      go_ret
      exact ⟨rfl, HP.out.1, HP.out.2.1⟩

set_option maxRecDepth 100000 in
set_option maxHeartbeats 4000000 in
theorem moveAll_self (l s c cap p g cp : Nat) (S : Words) (x : St) (bs : List Nat) (hx : x.Ok bs.length) (w : World) (h : LpB w l s c cap S x) (hM : MemAt 96 w p g cp bs) :
    Calls Tryd.prog 28 #[.pointer (some ⟨p, 0, none⟩), .pointer (some ⟨l, 0, none⟩), .pointer (some ⟨l, 0, none⟩)] w fun e w' => e = .returned (.int .i64 0) ∧ Below w.heap.size w w' := by
  have hw0 := waiting_lpi l p w
  have hd := CB.new w 27 #[.pointer (some ⟨l, 0, none⟩)]
  have hm := CB.new (w.alloc (.cells #[.pointer (some ⟨l, 0, none⟩)] 27)) 25 #[.pointer (some ⟨p, 0, none⟩)]
  rw [World.size_alloc] at hm
  have HWT := hi (hw0.mono (R' := fun e w1 => e = .returned (.func (.func 66) #[] #[.pointer (some ⟨w.heap.size, 0, none⟩), .pointer (some ⟨w.heap.size + 1, 0, none⟩)]) ∧ Below w.heap.size w w1 ∧ WtB w.heap.size l s c cap p g cp S x bs w1) (fun e w1 ⟨he, hw1⟩ => by
    have hb : Below w.heap.size w w1 := by rw [hw1]; exact bal2' w _ _
    exact ⟨he, hb, by rw [hw1]; exact hd.alloc _, by rw [hw1]; exact hm, (h.below hb).hd, hM.below hb⟩))
  have HCO := hi (fun w1 (hB : WtB w.heap.size l s c cap p g cp S x bs w1) => collect_wait w.heap.size l s c cap p g cp S x bs hx w1 hB)
  have hmx : (ids (waitL bs x)).length ≤ 512 := by rw [ids_len]; exact Nat.le_trans (lst_len _ _) hx.n5
  obtain ⟨xs, hxs⟩ : ∃ xs, ids (waitL bs x) = xs := ⟨_, rfl⟩
  rw [hxs] at HCO hmx
  have HMV := hi (fun id W => move_self l p id W)
  clear hxs h hM hw0 hd hm
  go_enter Tryd.func28, Tryd.ntmps28
  go_wp2_with (first
    | (go_at_call 25; ((with_reducible refine HWT.out.mono ?_); rintro e w1 ⟨rfl, hb1, hB1⟩; have H1 := hi (And.intro hb1 hB1); clear hb1 hB1))
    | (go_at_call 68; ((with_reducible refine (HCO.out _ H1.out.2).mono ?_); rintro e w2 ⟨a, k, rfl, hv2, hb2, _⟩; have H2 := hi (And.intro hv2 (H1.out.1.more hb2)); clear hv2 hb2)))
  go_loopw [7, 15] (fun nn i wr => ∃ j : Nat, j ≤ xs.length ∧ i = .int .i64 j ∧ nn = .int .i64 0 ∧ wr = w2) (fun _ i _ => xs.length - (intOf i).toNat)
  case atStart => exact ⟨0, Nat.zero_le _, rfl, rfl, rfl⟩
  case round =>
    obtain ⟨j, hj, rfl, rfl, rfl⟩ := hrel
    by_cases hlt : j < xs.length
    · have x1 : (j : Int) < (xs.length : Int) := by omega
      obtain ⟨b, off, hab, hbl, hx0, hx2⟩ := intsAt_read H2.out.1 (Below.refl _ _) hlt
      subst hab
      obtain ⟨z, hz⟩ : ∃ z, xs[j]?.getD 0 = z := ⟨_, rfl⟩
      rw [hz] at hx0 hx2
      clear hx0 hz
      go_wp2_with (go_at_call 29; ((with_reducible refine (HMV.out z _).mono ?_); rintro e w3 ⟨rfl, rfl⟩))
      go_roundw
      case rel => exact ⟨j + 1, by omega, by go_num, rfl, by first | rfl | trivial⟩
      case measure => simp [intOf]; omega
    · obtain rfl : j = xs.length := by omega
      have x1 : ¬ (xs.length : Int) < (xs.length : Int) := by omega
      go_wp2
      go_ret
      exact ⟨rfl, H2.out.2⟩

end Go.Proofs.YtobhdjepfhbgaaaDoor
