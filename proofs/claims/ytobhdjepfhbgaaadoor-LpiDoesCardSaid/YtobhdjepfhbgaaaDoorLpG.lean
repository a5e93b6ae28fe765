/-
  Package lpi: Enable.
-/
import Derived.Test.YtobhdjepfhbgaaaDoorLpF
namespace Go.Proofs.YtobhdjepfhbgaaaDoor
open Go.ChangeShapes Go.WideShapes Go.ChangeAt Go.RowKit Go.Shelf
set_option linter.unusedVariables false
set_option linter.unusedSimpArgs false
attribute [local go_sem] Oper.semAt_some

/-- The set on the way. -/
structure EnI (s : Nat) (x : St) (w1 : World) (pre : List Nat) (W : World) : Prop where
  set : ∃ S', RowAt 120 W s S' ∧ SetIs S' { x with P := fun k => decide (k ∈ pre) }
  kept : Kept (· = s) w1 W
theorem EnI.abl {s : Nat} {x : St} {w1 : World} (hs : s < w1.heap.size) : AbL w1.heap.size 0 (EnI s x w1) := fun pre A A' row h hg hr => by
  obtain ⟨⟨S', h1, h2⟩, hk⟩ := h
  have hrow : ∀ i, i < w1.heap.size → A'.heap[i]? = A.heap[i]? := fun i hi => hg.block i (Nat.lt_of_lt_of_le hi hk.size) (fun e => by
    rcases hr i e.symm with ⟨h3, _⟩ | ⟨h3, _⟩ <;> omega)
  refine ⟨⟨S', ⟨(hrow s hs).trans h1.1, h1.2⟩, h2⟩, ⟨hg.os.trans hk.os, hg.tape.trans hk.tape, hg.output.trans hk.output, Nat.le_trans hk.size hg.size, fun i hi hn => (hrow i hi).trans (hk.block i hi hn)⟩⟩
theorem EnI.put {s : Nat} {x : St} {w1 W W' : World} {pre : List Nat} {k : Nat} {S' : Words} (h : EnI s x w1 pre W) (hn : x.n ≤ 512) (hk : k < x.n) (hS : SetIs S' { x with P := fun k => decide (k ∈ pre) }) (hr : RowAt 120 W' s (putS S' ((8192 + k : Nat) : Int))) (hg : W.grownBy W' (some s)) : EnI s x w1 (pre ++ [k]) W' := by
  refine ⟨⟨_, hr, ?_⟩, h.kept.trans (Kept.grownT hg)⟩
  have h1 := hS.upd (x := { x with P := fun k => decide (k ∈ pre) }) hn hk true
  simp only [if_true] at h1
  intro id
  rw [h1 id]
  congr 1
  simp only [updP, List.mem_append, List.mem_singleton]
  by_cases e : kOf id = k
  · rw [if_pos e]; simp [e]
  · rw [if_neg e]; simp [e]

theorem SetIs_first {S : Words} {L : Nat} {x : St} (hx : x.Ok L) (hon : x.on = false) (h : SetIs S x) : SetIs S { x with P := fun k => decide (k ∈ ([] : List Nat)) } := fun id => by
  rw [h id]
  have e := hx.off hon (kOf id)
  show (ownB x id && x.P (kOf id)) = (ownB x id && decide (kOf id ∈ ([] : List Nat)))
  rw [e]; simp
set_option maxRecDepth 100000 in
set_option maxHeartbeats 4000000 in
theorem enable_off (l s c cap p g cp : Nat) (S : Words) (x : St) (bs : List Nat) (hx : x.Ok bs.length) (hon : x.on = false) (w : World) (h : LpB w l s c cap S x) (hM : MemAt 96 w p g cp bs) (hgc : g ≠ c) :
    Calls Tryd.prog 35 #[.pointer (some ⟨l, 0, none⟩), .pointer (some ⟨p, 0, none⟩)] w fun e w' => (∃ v, e = .returned v) ∧ (∃ S', LpB w' l s c cap S' (enS bs x).2) ∧ MemAt 96 w' p g cp (enS bs x).1 ∧ Kept (fun b => b = l ∨ b = s ∨ b = c ∨ b = g) w w' := by
  obtain ⟨a1, a2, a3, a4, a5⟩ := h.apart hM
  have HA := hi (And.intro a1 (And.intro a2 (And.intro a3 (And.intro a4 (And.intro a5 (And.intro hgc (And.intro h.ls (And.intro h.lc h.sc))))))))
  have H := hi (And.intro h hM)
  have HBOX := hi (And.intro (bal w (.cells #[.pointer (some ⟨l, 0, none⟩)] 27)) (CB.new w 27 #[.pointer (some ⟨l, 0, none⟩)]))
  have hLs := h.set.lt
  have hLl := h.box.lt
  have hLg := hM.bytes.lt
  have hLp := hM.plt
  have hLc := h.cfg.lt
  obtain ⟨c0, hcr⟩ := (h.below HBOX.out.1).cells
  rw [hon] at c0
  clear hcr
  have HWT := hi ((waiting_lpi l p (w.alloc (.cells #[.pointer (some ⟨l, 0, none⟩)] 27))).mono (R' := fun e w1 => e = .returned (.func (.func 66) #[] #[.pointer (some ⟨w.heap.size + 1, 0, none⟩), .pointer (some ⟨w.heap.size + 1 + 1, 0, none⟩)]) ∧ w1.heap.size = w.heap.size + 3 ∧ Below w.heap.size w w1 ∧ CB w1 w.heap.size 27 #[.pointer (some ⟨l, 0, none⟩)] ∧ WtB (w.heap.size + 1) l s c cap p g cp S x bs w1) (fun e w1 ⟨he, hw1⟩ => by
    have h1 := HBOX.out.2.alloc (.cells #[.pointer (some ⟨l, 0, none⟩)] 27)
    have h2 := CB.new (w.alloc (.cells #[.pointer (some ⟨l, 0, none⟩)] 27)) 27 #[.pointer (some ⟨l, 0, none⟩)]
    have h3 := CB.new ((w.alloc (.cells #[.pointer (some ⟨l, 0, none⟩)] 27)).alloc (.cells #[.pointer (some ⟨l, 0, none⟩)] 27)) 25 #[.pointer (some ⟨p, 0, none⟩)]
    have h4 : Below w.heap.size w w1 := by rw [hw1]; exact ((HBOX.out.1.alloc (by simp) _).alloc (by simp; omega) _)
    simp only [World.size_alloc] at he h2 h3
    refine ⟨he, by rw [hw1]; simp, h4, ?_, ?_, ?_, (H.out.1.below h4).hd, H.out.2.below h4⟩
    · rw [hw1]; exact h1.alloc _
    · rw [hw1]; exact h2.alloc _
    · rw [hw1]; exact h3))
  clear h hM a1 a2 a3 a4 a5 hgc
  have hx5 := hx.n5
  refine (callsIn_wide (n := 6)).1 ?_
  refine callsIn_of_wp_marks Tryd.func35 rfl trivial ?_ rfl
  simp only [Tryd.ntmps35, List.size_toArray, List.length_cons, List.length_nil, Nat.reduceAdd, Nat.reduceSub, Array.replicate_succ, Array.replicate_zero, List.push_toArray, List.append_toArray, List.nil_append, List.cons_append]
  gi_wp2_with (first
    | (refine ⟨trivial, ?_⟩; gi_at_call 25; ((with_reducible refine (callsIn_wide.2 HWT.out).mono ?_); rintro e w1 ⟨rfl, hz1, hF1⟩; have HF := hi hF1; clear hF1))
    | gi_in)
  have hlt1 := HF.out.2.2.lt
  have hKs : ∀ i, wtBs (w.heap.size + 1) l s p g x i → i ≠ s := by
    rintro i (rfl | rfl | rfl | rfl | rfl | ⟨e, rfl⟩)
    · omega
    · omega
    · exact HA.out.2.2.2.2.2.2.1
    · exact HA.out.2.2.1
    · exact fun e => HA.out.2.1 e.symm
    · rw [hon] at e; cases e
  have HKS := hi (And.intro hlt1 hKs)
  clear hlt1 hKs
  refine range_win (n := 6) (by omega) (gf := 66) (lb := #[.pointer (some ⟨w.heap.size + 1, 0, none⟩), .pointer (some ⟨w.heap.size + 1 + 1, 0, none⟩)]) rfl (enters_of Tryd.func66 (by kernel_rfl) rfl)
    (wait_stops (w.heap.size + 1) l s c cap p g cp S x bs hx w1 HF.out.2.2) (fun a b => KpB.trans a b) (fun W l' o o' h1 h2 h3 h4 => KpB.put HKS.out.1 h1 W o') (Below.refl _ _) (fun _ => rfl)
    (EnI s x w1) (fun cd pre V => False) (EnI.abl (by omega)) (fun _ _ _ _ _ hs _ _ => hs)
    ⟨⟨S, (H.out.1.below HF.out.1).set, SetIs_first hx hon H.out.1.is⟩, Kept.refl _ _⟩
    (fun k a' V => a' = { tmps := #[.pointer (some ⟨l, 0, none⟩), .pointer (some ⟨p, 0, none⟩), .pointer (some ⟨w.heap.size, 0, none⟩), undef, .int .i64 (idOf k), undef, .pointer (some ⟨l, 0, none⟩), .pointer (some ⟨l, 0, none⟩), .pointer (some ⟨l, 0, none⟩), .bool false, .pointer (some ⟨l, 0, none⟩), .pointer (some ⟨p, 0, none⟩), .func (.func 66) #[] #[.pointer (some ⟨w.heap.size + 1, 0, none⟩), .pointer (some ⟨w.heap.size + 1 + 1, 0, none⟩)], .int .i64 (idOf k), undef, undef, undef, undef, undef, undef, undef, undef, undef, undef, undef, undef, undef, undef, undef, undef, undef, undef, undef, undef, undef, undef, undef], defers := [] })
    (fun x a' => AbL.pure _ _ _)
    ?assign ?body ?done ?stop
  case assign =>
    rintro l' pre k V K h hsz hK
    gi_wp2
    exact hK _ _ (KW.refl _ _) (KpB.refl _ _) h rfl
  case body =>
    rintro l' pre k a' V hsz hI rfl hpx
    obtain ⟨S', hS1, hS2⟩ := hI.set
    have hvs := hI.kept.size
    have hkn : k < x.n := (lst_mem.1 (hpx.subset (by simp))).1
    have b0 := (HF.out.2.1.keptB hI.kept (fun e => by omega)).cell 0
    have c5 := ((H.out.1.below HF.out.1).box.keptB hI.kept (fun e => HA.out.2.2.2.2.2.2.1 e)).cell 5
    have HPUT := hi (sput_any _ s S' ((8192 + k : Nat) : Int) V hS1)
    have HE := hi (fun (W' : World) (hr : RowAt 120 W' s (putS S' ((8192 + k : Nat) : Int))) (hg : V.grownBy W' (some s)) => EnI.put hI hx5 hkn hS2 hr hg)
    have HV := hi hvs
    rw [← idOf_eq] at HPUT HE
    obtain ⟨z, hz⟩ : ∃ z : Int, idOf k = z := ⟨_, rfl⟩
    rw [hz] at HPUT HE
    rw [hz]
    clear hz hI hS1 hS2 hpx hvs
    gi_wp2_with (first
      | (refine ⟨trivial, ?_⟩; gi_at_call 48; ((with_reducible refine (CallsIn.inRound l' (callsIn_wide.2 HPUT.out)).mono ?_); rintro e w2 ⟨rfl, hr2, hg2⟩; have HG := hi (And.intro hr2 hg2); clear hr2 hg2))
      | gi_in)
    exact ⟨KW.of_grown HG.out.2 (fun r e => by cases e; omega), KpB.of_kept (Kept.grownT HG.out.2) (fun i hi => ⟨Nat.lt_of_lt_of_le (HKS.out.1 i hi) HV.out, HKS.out.2 i hi⟩), HE.out _ HG.out.1 HG.out.2⟩
  case done =>
    rintro ys V rfl hI hK hs2
    obtain ⟨S', hS1, hS2⟩ := hI.set
    have hP : (fun k => decide (k ∈ waitL bs x)) = enP bs x := by
      funext k
      unfold enP
      have e1 : hasK bs x k = bitB bs x.qa k := by unfold hasK; rw [if_neg (by rw [hon]; simp)]
      rw [← e1, Bool.eq_iff_iff, decide_eq_true_iff, Bool.and_eq_true, decide_eq_true_iff]
      exact lst_mem
    rw [hP] at hS2
    have hB1 := H.out.1.below HF.out.1
    have hM1 := H.out.2.below HF.out.1
    have HV := hi (show LpB V l s c cap S' { x with P := enP bs x } from ⟨hB1.box.keptB hI.kept (fun e => HA.out.2.2.2.2.2.2.1 e), hS1, hS2, hB1.cfg.of_block (hI.kept.block c hB1.cfg.lt (fun e => HA.out.2.2.2.2.2.2.2.2 e.symm)), hB1.len, hB1.cap⟩)
    have HVM := hi (show MemAt 96 V p g cp bs from hM1.kept hI.kept (fun e => HA.out.2.2.1 e) (fun e => HA.out.2.1 e.symm))
    have HVK := hi (show Kept (fun b => b = l ∨ b = s ∨ b = c ∨ b = g) w V from ((Kept.of HF.out.1).trans hI.kept).mono (fun _ e => .inr (.inl e)))
    have HVB := hi (HF.out.2.1.keptB hI.kept (fun e => by omega))
    have HH : LpH V l s c cap S' x := ⟨HV.out.box, fun e => by rw [hon] at e; cases e⟩
    have HMANY := hi (many_any l s c cap S' x V HH)
    have HHH := hi HH
    have b0 := HVB.out.cell 0
    have HK := hi hK
    have hs3 : w.heap.size + 3 + 2 ≤ V.heap.size := by omega
    have HMK := hi (fun (k : Nat) (hk : k < x.n) (bs2 : List Nat) (hbl : bs2.length = bs.length) (W : World) (hk2 : Kept (· = g) V W) (hm : MemAt 96 W p g cp bs2) => mark_any l s c cap p g cp S' x bs2 (by rw [hbl]; exact hx) k hk false W (HH.kept hk2 (fun e => HA.out.1 e) (fun e => by rw [hon] at e; cases e)) hm)
    clear hI hS1 hS2 hP hB1 hM1 HH hK
    gi_wp2_with (first
      | (refine ⟨trivial, ?_⟩; gi_at_call 23; ((with_reducible refine (callsIn_wide.2 HMANY.out).mono ?_); rintro e w2 ⟨rfl, rfl⟩))
      | gi_in)
    gi_loopw [22] (fun i wr => ∃ k : Nat, k ≤ x.n ∧ i = .int .i64 k ∧ Hi (Kept (· = g) V wr ∧ MemAt 96 wr p g cp (clearTo bs x.qa k))) (fun i _ => x.n - (intOf i).toNat)
    case atStart => exact ⟨0, Nat.zero_le _, rfl, hi ⟨Kept.refl _ _, HVM.out⟩⟩
    case round =>
      obtain ⟨k, hk, rfl, HP⟩ := hrel
      have b1 := (HVB.out.keptB HP.out.1 (fun e => by omega)).cell 0
      by_cases hlt : k < x.n
      · have x1 : (k : Int) < (x.n : Int) := by omega
        have hw : IntKind.i64.wrap (8192 + (k : Int)) = ((8192 + k : Nat) : Int) := by rw [IntKind.wrap_i64]; omega
        have HC := hi (HMK.out k hlt (clearTo bs x.qa k) (clearTo_len _ _ _) wr HP.out.1 HP.out.2)
        rw [show putB (clearTo bs x.qa k) x.qa k false = clearTo bs x.qa (k + 1) from rfl] at HC
        obtain ⟨z, hz⟩ : ∃ z : Int, ((8192 + k : Nat) : Int) = z := ⟨_, rfl⟩
        rw [hz] at HC hw
        clear hz
        gi_wp2_with (first
          | (refine ⟨trivial, ?_⟩; gi_at_call 47; ((with_reducible refine (callsIn_wide.2 HC.out).mono ?_); rintro e w2 ⟨⟨v, rfl⟩, hm2, hk2⟩; have HD := hi (And.intro hm2 hk2); clear hm2 hk2))
          | gi_in)
        go_roundw
        case rel => exact ⟨k + 1, by omega, by go_num, hi ⟨HP.out.1.trans HD.out.2, HD.out.1⟩⟩
        case measure => simp only [intOf]; omega
      · obtain rfl : k = x.n := by omega
        have x1 : ¬ (x.n : Int) < (x.n : Int) := by omega
        have hB2 := HV.out.kept HP.out.1 (fun e => HA.out.1 e) (fun e => HA.out.2.1 e) (fun e => HA.out.2.2.2.2.2.1 e.symm)
        have hk3 := kept_setCell wr l 0 (.bool true)
        have b2 : (wr.setCell ⟨l, 0, none⟩ (.bool true)).cell? ⟨w.heap.size, 0, none⟩ = some (.pointer (some ⟨l, 0, none⟩)) := ((HVB.out.keptB HP.out.1 (fun e => by omega)).keptB hk3 (fun e => by omega)).cell 0
        have c0 : wr.cell? ⟨l, 0, none⟩ = some (.bool x.on) := hB2.box.cell 0
        have f0 := hB2.box.frozen
        have z0 := hB2.box.lt
        have hX := enX_ok (bs := bs) hx
        have hB3 : LpB (wr.setCell ⟨l, 0, none⟩ (.bool true)) l s c cap S' { x with on := true, P := enP bs x } :=
          ⟨hB2.box.set 0 (.bool true), hB2.set.keptB hk3 (fun e => HA.out.2.2.2.2.2.2.1 e.symm), hB2.is, hB2.cfg.of_block (hk3.block c hB2.cfg.lt (fun e => HA.out.2.2.2.2.2.2.2.1 e.symm)), hB2.len, hB2.cap⟩
        have HINV := hi (invAll_lpi l s c cap p g cp S' { x with on := true, P := enP bs x } (clearTo bs x.qa x.n) (by rw [clearTo_len]; exact hX) _ hB3 (HP.out.2.kept hk3 (fun e => HA.out.2.2.2.2.1 e) (fun e => HA.out.1 e.symm)) HA.out.2.2.2.2.2.1)
        have HM3 := hi (HP.out.2.kept hk3 (fun e => HA.out.2.2.2.2.1 e) (fun e => HA.out.1 e.symm))
        have HK3 := hi (show Kept (fun b => b = l ∨ b = s ∨ b = c ∨ b = g) w (wr.setCell ⟨l, 0, none⟩ (.bool true)) from (HVK.out.trans (HP.out.1.mono (fun _ e => .inr (.inr (.inr e))))).trans (hk3.mono (fun _ e => .inl e)))
        have HMK3 := hi (show (wr.setCell ⟨l, 0, none⟩ (.bool true)).heap[w1.heap.size]? = some (.deferred (some [])) from (hk3.block _ (Nat.lt_of_lt_of_le (by omega) HP.out.1.size) (fun e => by omega)).trans ((HP.out.1.block _ (by omega) (fun e => by omega)).trans HK.out))
        clear hB2 hk3 hB3 hX
        gi_wp2_with (first
          | (refine ⟨trivial, ?_⟩; gi_at_call 15; ((with_reducible refine (callsIn_wide.2 HINV.out).mono ?_); rintro e w3 ⟨⟨v, rfl⟩, hb3, hk3⟩; have HD := hi (And.intro hb3 hk3); clear hb3 hk3))
          | gi_in)
        have hKm : w3.heap[w1.heap.size]? = some (.deferred (some [])) := (HD.out.2.block _ (Array.getElem?_eq_some_iff.1 HMK3.out).1 (fun e => by omega)).trans HMK3.out
        rw [hz1] at hKm
        have hput := kept_put w3 (w.heap.size + 3) (.deferred none)
        have e1 : enS bs x = (clearTo bs x.qa x.n, invTo (clearTo bs x.qa x.n) { x with on := true, P := enP bs x } x.n) := by rw [enS, if_neg (by rw [hon]; simp)]
        refine ⟨by simp, .inl ⟨_, _, rfl, run_takeDeferred hKm, ?_⟩⟩
        refine ⟨_, results_none rfl _ _ _, ⟨_, rfl⟩, ?_, ?_, ?_⟩
        · rw [e1]; exact ⟨S', HD.out.1.kept hput (fun e => by omega) (fun e => by omega) (fun e => by omega)⟩
        · rw [e1]; exact (HM3.out.kept HD.out.2 (fun e => HA.out.2.2.2.1 e) (fun e => HA.out.2.2.2.2.2.1 e)).kept hput (fun e => by omega) (fun e => by omega)
        · exact (HK3.out.trans (HD.out.2.mono (fun _ e => .inr (.inr (.inl e))))).putNew (by omega) _
  case stop =>
    rintro cd pre V hpre h _ _
    exact h.elim

set_option maxHeartbeats 1000000 in
theorem enable_lpi (l s c cap p g cp : Nat) (S : Words) (x : St) (bs : List Nat) (hx : x.Ok bs.length) (w : World) (h : LpB w l s c cap S x) (hM : MemAt 96 w p g cp bs) (hgc : g ≠ c) :
    Calls Tryd.prog 35 #[.pointer (some ⟨l, 0, none⟩), .pointer (some ⟨p, 0, none⟩)] w fun e w' => (∃ v, e = .returned v) ∧ (∃ S', LpB w' l s c cap S' (enS bs x).2) ∧ MemAt 96 w' p g cp (enS bs x).1 ∧ Kept (fun b => b = l ∨ b = s ∨ b = c ∨ b = g) w w' := by
  cases hon : x.on
  · exact enable_off l s c cap p g cp S x bs hx hon w h hM hgc
  · have e1 : enS bs x = (bs, x) := by rw [enS, if_pos hon]
    rw [e1]
    have hb := bal w (.cells #[.pointer (some ⟨l, 0, none⟩)] 27)
    have H := hi (And.intro (h.below hb) (And.intro (hM.below hb) hb))
    obtain ⟨c0, _⟩ := H.out.1.cells
    rw [hon] at c0
    clear h hM hb e1
    go_enter Tryd.func35, Tryd.ntmps35
    go_wp2
    refine bodyPost_ret (results_none rfl _ _ _) rfl ?_
    exact ⟨⟨_, rfl⟩, ⟨S, H.out.1⟩, H.out.2.1, Kept.of H.out.2.2⟩

end Go.Proofs.YtobhdjepfhbgaaaDoor
