/-
  Package lpi: Waiting and its iterator, for every loop body that leaves what it asks.
-/
import Derived.Test.YtobhdjepfhbgaaaDoorLpE
import Derived.Test.YtobhdjepfhbgaaaDoorWin
namespace Go.Proofs.YtobhdjepfhbgaaaDoor
open Go.ChangeShapes Go.WideShapes Go.ChangeAt Go.RowKit Go.Shelf
set_option linter.unusedVariables false
set_option linter.unusedSimpArgs false
attribute [local go_sem] Oper.semAt_some

def idOf (k : Nat) : Int := ((8192 + k : Nat) : Int)
theorem idOf_eq (k : Nat) : idOf k = ((8192 + k : Nat) : Int) := rfl
abbrev encK (k : Nat) : Array Value := #[.int .i64 (idOf k)]
theorem noFn : ∀ (f : FuncId), none = some f → Fence.wide.fn f := fun _ h => by cases h
theorem lst_yes {P : Nat → Bool} {k : Nat} (h : P k = true) : lst P (k + 1) = lst P k ++ [k] := by rw [lst_succ, if_pos h]
theorem lst_no {P : Nat → Bool} {k : Nat} (h : P k = false) : lst P (k + 1) = lst P k := by rw [lst_succ, if_neg (by rw [h]; simp)]
/-- What a round over those that wait keeps: some blocks. -/
structure KpB (bs : Nat → Prop) (W W' : World) : Prop where
  size : W.heap.size ≤ W'.heap.size
  same : ∀ i, bs i → W'.heap[i]? = W.heap[i]?
theorem KpB.trans {bs : Nat → Prop} {X Y Z : World} (h : KpB bs X Y) (k : KpB bs Y Z) : KpB bs X Z := ⟨Nat.le_trans h.size k.size, fun i hi => (k.same i hi).trans (h.same i hi)⟩
theorem KpB.refl (bs : Nat → Prop) (W : World) : KpB bs W W := ⟨Nat.le_refl _, fun _ _ => rfl⟩
theorem KpB.of_below {bs : Nat → Prop} {W W' : World} (h : Below W.heap.size W W') (hb : ∀ i, bs i → i < W.heap.size) : KpB bs W W' := ⟨h.size, fun i hi => h.block i (hb i hi)⟩
theorem KpB.of_kept {bs xs : Nat → Prop} {W W' : World} (h : Kept xs W W') (hb : ∀ i, bs i → i < W.heap.size ∧ ¬ xs i) : KpB bs W W' := ⟨h.size, fun i hi => h.block i (hb i hi).1 (hb i hi).2⟩
theorem KpB.put {bs : Nat → Prop} {n l' : Nat} (hb : ∀ i, bs i → i < n) (hl : n ≤ l') (W : World) (o' : Obj) : KpB bs W (W.putObj l' o') := ⟨by simp, fun i hi => World.putObj_heap_other (by have := hb i hi; omega)⟩
theorem kept_put (W : World) (m : Nat) (o : Obj) : Kept (· = m) W (W.putObj m o) := ⟨rfl, rfl, rfl, by simp, fun k _ hn => World.putObj_heap_other (fun e => hn e)⟩
theorem Kept.putNew {bs : Nat → Prop} {A W : World} {m : Nat} (h : Kept bs A W) (hm : A.heap.size ≤ m) (o : Obj) : Kept bs A (W.putObj m o) := h.new (kept_put W m o) hm
/-- The blocks that the iterator asks. -/
def wtBs (c l s p g : Nat) (x : St) : Nat → Prop := fun i => i = c ∨ i = c + 1 ∨ i = l ∨ i = p ∨ i = g ∨ (x.on = true ∧ i = s)
structure WtB (c l s cc cap p g cp : Nat) (S : Words) (x : St) (bs : List Nat) (V : World) : Prop where
  d : CB V c 27 #[.pointer (some ⟨l, 0, none⟩)]
  m : CB V (c + 1) 25 #[.pointer (some ⟨p, 0, none⟩)]
  lp : LpH V l s cc cap S x
  mem : MemAt 96 V p g cp bs
theorem WtB.kept {c l s cc cap p g cp : Nat} {S : Words} {x : St} {bs : List Nat} {V V' : World} (h : WtB c l s cc cap p g cp S x bs V) (k : KpB (wtBs c l s p g x) V V') : WtB c l s cc cap p g cp S x bs V' :=
  ⟨(k.same _ (.inl rfl)).trans h.d, (k.same _ (.inr (.inl rfl))).trans h.m, ⟨(k.same _ (.inr (.inr (.inl rfl)))).trans h.lp.box, fun e => ⟨⟨(k.same _ (.inr (.inr (.inr (.inr (.inr ⟨e, rfl⟩)))))).trans (h.lp.set e).1.1, (h.lp.set e).1.2⟩, (h.lp.set e).2⟩⟩,
    ⟨(k.same _ (.inr (.inr (.inr (.inl rfl))))).trans h.mem.box, h.mem.bytes.of_block (k.same _ (.inr (.inr (.inr (.inr (.inl rfl)))))), h.mem.le, h.mem.cap, h.mem.len, h.mem.type⟩⟩
theorem WtB.later {c l s cc cap p g cp : Nat} {S : Words} {x : St} {bs : List Nat} {V V' : World} (h : WtB c l s cc cap p g cp S x bs V) (k : Below V.heap.size V V') : WtB c l s cc cap p g cp S x bs V' := ⟨h.d.below k, h.m.below k, h.lp.below k, h.mem.below k⟩
theorem WtB.lt {c l s cc cap p g cp : Nat} {S : Words} {x : St} {bs : List Nat} {V : World} (h : WtB c l s cc cap p g cp S x bs V) : ∀ i, wtBs c l s p g x i → i < V.heap.size := by
  rintro i (rfl | rfl | rfl | rfl | rfl | ⟨e, rfl⟩)
  · exact h.d.lt
  · exact h.m.lt
  · exact h.lp.box.lt
  · exact h.mem.plt
  · exact h.mem.bytes.lt
  · exact (h.lp.set e).1.lt
theorem waiting_lpi (l p : Nat) (w : World) : Calls Tryd.prog 25 #[.pointer (some ⟨l, 0, none⟩), .pointer (some ⟨p, 0, none⟩)] w fun e w' => e = .returned (.func (.func 66) #[] #[.pointer (some ⟨w.heap.size, 0, none⟩), .pointer (some ⟨w.heap.size + 1, 0, none⟩)]) ∧
    w' = (w.alloc (.cells #[.pointer (some ⟨l, 0, none⟩)] 27)).alloc (.cells #[.pointer (some ⟨p, 0, none⟩)] 25) := by
  go_enter Tryd.func25, Tryd.ntmps25
  go_wp2
  go_ret
  exact ⟨rfl, rfl⟩

set_option maxRecDepth 100000 in
set_option maxHeartbeats 4000000 in
theorem wait1_any (y c l s cc cap p g cp : Nat) (S : Words) (x : St) (bs : List Nat) (hx : x.Ok bs.length) (J Jx : List Nat → World → Prop) (W : World) (hJ : AbW W.heap.size 0 J)
    (hY : ∀ (pre : List Nat) (k : Nat) (W1 : World), J pre W1 → pre ++ [k] <+: waitL bs x → W.heap.size + 0 ≤ W1.heap.size → ∀ m, YieldAt Fence.wide m Tryd.prog y (encK k) W1 fun e W' =>
      (e = .returned (.bool true) ∧ J (pre ++ [k]) W' ∧ KpB (wtBs c l s p g x) W1 W') ∨ (e = .returned (.bool false) ∧ Jx (pre ++ [k]) W' ∧ KpB (wtBs c l s p g x) W1 W'))
    (hB : WtB c l s cc cap p g cp S x bs W) (h0 : J [] W) :
    Calls Tryd.prog 66 #[.func (.yield y) #[] #[], .pointer (some ⟨c, 0, none⟩), .pointer (some ⟨c + 1, 0, none⟩)] W fun e W' => (∃ v, e = .returned v) ∧
      ((∃ ys, ys = waitL bs x ∧ J ys W') ∨ (∃ pre, pre <+: waitL bs x ∧ Jx pre W')) := by
  have HYY := Hi.mk hY
  have HJ := Hi.mk hJ
  have HM := Hi.mk (fun V hV => many_any l s cc cap S x V hV)
  have HR := Hi.mk (fun (id : Int) (b : Bool) (hb : hasV bs x id = b) (V : World) (h1 : LpH V l s cc cap S x) (h2 : MemAt 96 V p g cp bs) => has_is2 l s cc cap p g cp S x bs hx id b hb V h1 h2)
  have H0 := Hi.mk (And.intro hB (show J (lst (hasK bs x) 0) W from h0))
  have hn5 := hx.n5
  have d0 := hB.d.cell 0
  clear hY hJ hB h0
  refine (callsIn_wide (n := 3)).1 ?_
  refine callsIn_of_wp Tryd.func66 rfl trivial ?_ rfl
  simp only [Tryd.ntmps66, List.size_toArray, List.length_cons, List.length_nil, Nat.reduceAdd, Nat.reduceSub, Array.replicate_succ, Array.replicate_zero, List.push_toArray, List.append_toArray, List.nil_append, List.cons_append]
  gi_wp2_with (first
    | (refine ⟨trivial, ?_⟩; gi_at_call 23; ((with_reducible refine (callsIn_wide.2 (HM.out _ H0.out.1.lp)).mono ?_); rintro e w1 ⟨rfl, rfl⟩))
    | gi_in)
  gi_loopw [8] (fun i wr => ∃ k : Nat, k ≤ x.n ∧ i = .int .i64 k ∧ Hi (W.heap.size ≤ wr.heap.size ∧ WtB c l s cc cap p g cp S x bs wr ∧ J (lst (hasK bs x) k) wr))
    (fun i _ => 16384 - (intOf i).toNat)
  case atStart => exact ⟨0, Nat.zero_le _, rfl, Hi.mk ⟨Nat.le_refl _, H0.out⟩⟩
  case round =>
    obtain ⟨k, hk, rfl, HP⟩ := hrel
    by_cases hlt : k < x.n
    · have x1 : (k : Int) < (x.n : Int) := by omega
      have m0 := HP.out.2.1.d.cell 0
      have m1 := HP.out.2.1.m.cell 0
      have hw : IntKind.i64.wrap (8192 + (k : Int)) = ((8192 + k : Nat) : Int) := by rw [IntKind.wrap_i64]; omega
      obtain ⟨b, hb⟩ : ∃ b, hasK bs x k = b := ⟨_, rfl⟩
      have hv : hasV bs x ((8192 + k : Nat) : Int) = b := by rw [hasV, ownB_at, kOf_at, hb, decide_eq_true hlt, Bool.true_and]
      have HR1 := Hi.mk (HR.out _ b hv wr HP.out.2.1.lp HP.out.2.1.mem)
      cases b
      · have HX := Hi.mk (lst_no hb)
        obtain ⟨z, hz⟩ : ∃ z : Int, ((8192 + k : Nat) : Int) = z := ⟨_, rfl⟩
        rw [hz] at HR1 hw
        clear hz hv hb
        gi_wp2_with (first
          | (refine ⟨trivial, ?_⟩; gi_at_call 17; ((with_reducible refine (callsIn_wide.2 HR1.out).mono ?_); rintro e w1 ⟨rfl, hb1⟩; have HB := Hi.mk hb1; clear hb1))
          | gi_in)
        refine ⟨noFn, ?_⟩
        gi_wp2
        go_roundw
        case rel => exact ⟨k + 1, by omega, by go_num, Hi.mk ⟨Nat.le_trans HP.out.1 HB.out.size, HP.out.2.1.later HB.out, by rw [HX.out]; exact HJ.out.grow HP.out.2.2 (Below.grew HB.out)⟩⟩
        case measure => simp only [intOf]; omega
      · have HX := Hi.mk (And.intro (lst_yes hb) (show lst (hasK bs x) k ++ [k] <+: waitL bs x by rw [← lst_yes hb]; exact lst_le _ hlt))
        have hzz : encK k = #[.int .i64 ((8192 + k : Nat) : Int)] := rfl
        have HYK := Hi.mk (fun pre W1 a b c m => HYY.out pre k W1 a b c m)
        rw [hzz] at HYK
        obtain ⟨z, hz⟩ : ∃ z : Int, ((8192 + k : Nat) : Int) = z := ⟨_, rfl⟩
        rw [hz] at HR1 hw HYK
        clear hz hv hb hzz
        gi_wp2_with (first
          | (refine ⟨trivial, ?_⟩; gi_at_call 17; ((with_reducible refine (callsIn_wide.2 HR1.out).mono ?_); rintro e w1 ⟨rfl, hb1⟩; have HB := Hi.mk hb1; clear hb1; obtain ⟨fn, tmps, assign, body, hy, hRd⟩ := HYK.out _ w1 (HJ.out.grow HP.out.2.2 (Below.grew HB.out)) HX.out.2 (Nat.le_trans HP.out.1 HB.out.size) (3 - 1)))
          | gi_in)
        refine hRd.mono ?_
        rintro e W3 (⟨rfl, hJ3, hk3⟩ | ⟨rfl, hJx3, _⟩)
        · gi_wp2
          go_roundw
          case rel => exact ⟨k + 1, by omega, by go_num, Hi.mk ⟨Nat.le_trans HP.out.1 (Nat.le_trans HB.out.size hk3.size), (HP.out.2.1.later HB.out).kept hk3, by rw [HX.out.1]; exact hJ3⟩⟩
          case measure => simp only [intOf]; omega
        · gi_wp2
          refine bodyPost_ret (results_none rfl _ _ _) rfl ?_
          exact ⟨⟨_, rfl⟩, .inr ⟨_, HX.out.2, hJx3⟩⟩
    · obtain rfl : k = x.n := by omega
      have x1 : ¬ (x.n : Int) < (x.n : Int) := by omega
      gi_wp2
      go_end0
      exact ⟨⟨_, rfl⟩, .inl HP.out.2.2⟩

theorem wait_stops (c l s cc cap p g cp : Nat) (S : Words) (x : St) (bs : List Nat) (hx : x.Ok bs.length) (w : World) (hB : WtB c l s cc cap p g cp S x bs w) :
    SeqW 0 Tryd.prog 66 #[.pointer (some ⟨c, 0, none⟩), .pointer (some ⟨c + 1, 0, none⟩)] encK (fun _ => KpB (wtBs c l s p g x)) (fun ys => ys = waitL bs x) (fun pre => pre <+: waitL bs x) (fun pre k => pre ++ [k] <+: waitL bs x) w := fun y J Jx W hW hJ hJx hY h0 =>
  wait1_any y c l s cc cap p g cp S x bs hx J Jx W hJ hY (hB.later hW) h0

end Go.Proofs.YtobhdjepfhbgaaaDoor
