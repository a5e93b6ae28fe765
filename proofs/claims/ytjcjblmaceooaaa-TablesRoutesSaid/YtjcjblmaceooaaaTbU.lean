/-
  Package tables: Routes and its iterator, for every loop body that leaves the memory as it is.
-/
import Derived.Test.YtjcjblmaceooaaaTbK
import Derived.Test.YtjcjblmaceooaaaWin
import Derived.Shelf.Abstract
import Derived.OwnWalkIn
import Derived.TacticsInMore
import Derived.LoopNIn
import Derived.LoopIn
import Derived.Maps.AppendAt
namespace Go.Proofs.Ytjcjblmaceooaaa
open Go.ChangeShapes Go.WideShapes Go.ChangeAt Go.RowKit Go.Shelf
set_option linter.unusedVariables false
set_option linter.unusedSimpArgs false
attribute [local go_sem] Oper.semAt_some

abbrev encR (x : Nat × Rt) : Array Value := #[.int .i64 x.1, .agg #[.int .i64 x.2.num, .int .i64 x.2.coll, .bool x.2.ok]]
/-- The routes of the events below k. -/
def rtsL (bs : List Nat) (d : Dv) : Nat → List (Nat × Rt)
  | 0 => []
  | k + 1 => if (routR bs d k).ok = true then rtsL bs d k ++ [(k, routR bs d k)] else rtsL bs d k
theorem rts_yes {bs : List Nat} {d : Dv} {k : Nat} (h : (routR bs d k).ok = true) : rtsL bs d (k + 1) = rtsL bs d k ++ [(k, routR bs d k)] := by rw [rtsL, if_pos h]
theorem rts_no {bs : List Nat} {d : Dv} {k : Nat} (h : ¬ (routR bs d k).ok = true) : rtsL bs d (k + 1) = rtsL bs d k := by rw [rtsL, if_neg h]
theorem rts_pre (bs : List Nat) (d : Dv) (j : Nat) : ∀ i, rtsL bs d j <+: rtsL bs d (j + i)
  | 0 => List.prefix_refl _
  | i + 1 => by
    refine (rts_pre bs d j i).trans ?_
    rw [← Nat.add_assoc, rtsL]
    split
    · exact List.prefix_append _ _
    · exact List.prefix_refl _
theorem rts_le (bs : List Nat) (d : Dv) {j k : Nat} (h : j ≤ k) : rtsL bs d j <+: rtsL bs d k := by
  have := rts_pre bs d j (k - j)
  rwa [show j + (k - j) = k by omega] at this
theorem noFn : ∀ (f : FuncId), none = some f → Fence.wide.fn f := fun _ h => by cases h

/-- What a round over the routes keeps. -/
structure KpT (c p g : Nat) (W W' : World) : Prop where
  size : W.heap.size ≤ W'.heap.size
  same : ∀ i, i = c ∨ i = c + 1 ∨ i = p ∨ i = g → W'.heap[i]? = W.heap[i]?
theorem KpT.trans {c p g : Nat} {X Y Z : World} (h : KpT c p g X Y) (k : KpT c p g Y Z) : KpT c p g X Z := ⟨Nat.le_trans h.size k.size, fun i hi => (k.same i hi).trans (h.same i hi)⟩
theorem KpT.refl (c p g : Nat) (W : World) : KpT c p g W W := ⟨Nat.le_refl _, fun _ _ => rfl⟩
theorem KpT.of_below {c p g : Nat} {W W' : World} (h : Below W.heap.size W W') (hc : c + 2 ≤ W.heap.size) (hp : p < W.heap.size) (hg : g < W.heap.size) : KpT c p g W W' := ⟨h.size, fun i hi => h.block i (by omega)⟩
/-- The iterator's boxes and its memory. -/
structure RtsB (c p g cap : Nat) (bs : List Nat) (d : Dv) (V : World) : Prop where
  d : CB V c 36 (Dv.cs d)
  m : CB V (c + 1) 25 #[.pointer (some ⟨p, 0, none⟩)]
  mem : MemAt 89 V p g cap bs
theorem RtsB.kept {c p g cap : Nat} {bs : List Nat} {d : Dv} {V V' : World} (h : RtsB c p g cap bs d V) (k : KpT c p g V V') : RtsB c p g cap bs d V' :=
  ⟨(k.same _ (by omega)).trans h.d, (k.same _ (by omega)).trans h.m, ⟨(k.same _ (by omega)).trans h.mem.box, h.mem.bytes.of_block (k.same _ (by omega)), h.mem.le, h.mem.cap, h.mem.len, h.mem.type⟩⟩
theorem RtsB.later {c p g cap : Nat} {bs : List Nat} {d : Dv} {V V' : World} (h : RtsB c p g cap bs d V) (k : Below V.heap.size V V') : RtsB c p g cap bs d V' := ⟨h.d.below k, h.m.below k, h.mem.below k⟩
theorem routes_any (d : Dv) (p : Nat) (w : World) : Calls Try.prog 17 #[d.v, .pointer (some ⟨p, 0, none⟩)] w fun e w' => e = .returned (.func (.func 40) #[] #[.pointer (some ⟨w.heap.size, 0, none⟩), .pointer (some ⟨w.heap.size + 1, 0, none⟩)]) ∧
    w' = (w.alloc (.cells (Dv.cs d) 36)).alloc (.cells #[.pointer (some ⟨p, 0, none⟩)] 25) := by
  obtain ⟨o, b, a⟩ := d
  go_enter Try.func17, Try.ntmps17
  go_wp2
  go_ret
  exact ⟨rfl, rfl⟩

set_option maxRecDepth 100000 in
set_option maxHeartbeats 4000000 in
theorem routes1_any (l c p g cap : Nat) (bs : List Nat) (d : Dv) (hF : d.Fair) (M : Nat) (hM : M < 16384) (hok : ∀ k : Nat, k < M → evE bs.length d k = 0) (hno : evE bs.length d M ≠ 0) (J Jx : List (Nat × Rt) → World → Prop) (W : World) (hc : c + 2 ≤ W.heap.size) (hJ : AbW W.heap.size 0 J)
    (hY : ∀ (pre : List (Nat × Rt)) (x : Nat × Rt) (W1 : World), J pre W1 → pre ++ [x] <+: rtsL bs d M → W.heap.size + 0 ≤ W1.heap.size → ∀ m, YieldAt Fence.wide m Try.prog l (encR x) W1 fun e W' =>
      (e = .returned (.bool true) ∧ J (pre ++ [x]) W' ∧ KpT c p g W1 W') ∨ (e = .returned (.bool false) ∧ Jx (pre ++ [x]) W' ∧ KpT c p g W1 W'))
    (hB : RtsB c p g cap bs d W) (h0 : J [] W) :
    Calls Try.prog 40 #[.func (.yield l) #[] #[], .pointer (some ⟨c, 0, none⟩), .pointer (some ⟨c + 1, 0, none⟩)] W fun e W' => (∃ v, e = .returned v) ∧
      ((∃ ys, ys = rtsL bs d M ∧ J ys W') ∨ (∃ pre, pre <+: rtsL bs d M ∧ Jx pre W')) := by
  have HYY := Hi.mk hY
  have HJ := Hi.mk hJ
  have HR := Hi.mk (fun (k : Nat) (V : World) (hV : MemAt 89 V p g cap bs) => route_any p g cap bs d hF k V hV)
  have HOK := Hi.mk (And.intro hok hno)
  have H0 := Hi.mk (And.intro hB (show J (rtsL bs d 0) W from h0))
  have hpl : p < W.heap.size := hB.mem.plt
  have hgl : g < W.heap.size := hB.mem.bytes.lt
  clear hY hJ hB h0 hok hno
  refine (callsIn_wide (n := 3)).1 ?_
  refine callsIn_of_wp Try.func40 rfl trivial ?_ rfl
  simp only [Try.ntmps40, List.size_toArray, List.length_cons, List.length_nil, Nat.reduceAdd, Nat.reduceSub, Array.replicate_succ, Array.replicate_zero, List.push_toArray, List.append_toArray, List.nil_append, List.cons_append]
  gi_wp2
  gi_loopw [7] (fun i wr => ∃ k : Nat, k ≤ M ∧ i = .int .i64 k ∧ Hi (W.heap.size ≤ wr.heap.size ∧ RtsB c p g cap bs d wr ∧ J (rtsL bs d k) wr))
    (fun i _ => 16384 - (intOf i).toNat)
  case atStart => exact ⟨0, Nat.zero_le _, rfl, Hi.mk ⟨Nat.le_refl _, H0.out⟩⟩
  case round =>
    obtain ⟨k, hk, rfl, HP⟩ := hrel
    have x1 : (k : Int) < 16384 := by omega
    obtain ⟨d0, d1, d2⟩ := CB.three HP.out.2.1.d
    have m0 := HP.out.2.1.m.cell 0
    have HR1 := Hi.mk (HR.out k)
    have HE := Hi.mk (And.intro (@rts_yes bs d k) (And.intro (@rts_no bs d k) (show k < M → rtsL bs d (k + 1) <+: rtsL bs d M from fun h => rts_le bs d h)))
    obtain ⟨r, hr⟩ : ∃ r, routR bs d k = r := ⟨_, rfl⟩
    rw [hr] at HR1 HE
    clear hr
    obtain ⟨rn, rc, ro⟩ := r
    dsimp only at HR1 HE
    by_cases hlt : k < M
    · have he := HOK.out.1 k hlt
      rw [he] at HR1
      clear he
      cases ro
      · gi_wp2_with (first
          | (refine ⟨trivial, ?_⟩; gi_at_call 18; ((with_reducible refine (callsIn_wide.2 (HR1.out _ HP.out.2.1.mem)).mono ?_); rintro e w1 ⟨rfl, hb1⟩; have qf := (CB.new w1 52 #[.int .i64 0, .int .i64 0, .bool false]).frozen; have HB := Hi.mk (hb1.alloc hb1.size (.cells #[.int .i64 rn, .int .i64 rc, .bool false] 52)); have HC := Hi.mk (CB.three (CB.new w1 52 #[.int .i64 rn, .int .i64 rc, .bool false])); obtain ⟨e0, e1, e2⟩ := HC.out))
          | gi_in)
        refine ⟨noFn, ?_⟩
        gi_wp2
        go_roundw
        case rel => exact ⟨k + 1, by omega, by go_num, Hi.mk ⟨Nat.le_trans HP.out.1 HB.out.size, HP.out.2.1.later HB.out, by rw [HE.out.2.1 (by simp)]; exact HJ.out.grow HP.out.2.2 (Below.grew HB.out)⟩⟩
        case measure => simp only [intOf]; omega
      · have HX := Hi.mk (show rtsL bs d k ++ [(k, ⟨rn, rc, true⟩)] <+: rtsL bs d M by rw [← HE.out.1 (by simp)]; exact HE.out.2.2 hlt)
        gi_wp2_with (first
          | (refine ⟨trivial, ?_⟩; gi_at_call 18; ((with_reducible refine (callsIn_wide.2 (HR1.out _ HP.out.2.1.mem)).mono ?_); rintro e w1 ⟨rfl, hb1⟩; have qf := (CB.new w1 52 #[.int .i64 0, .int .i64 0, .bool false]).frozen; have HB := Hi.mk (hb1.alloc hb1.size (.cells #[.int .i64 rn, .int .i64 rc, .bool true] 52)); have HC := Hi.mk (CB.three (CB.new w1 52 #[.int .i64 rn, .int .i64 rc, .bool true])); obtain ⟨e0, e1, e2⟩ := HC.out; obtain ⟨fn, tmps, assign, body, hy, hRd⟩ := HYY.out _ _ (w1.alloc (.cells #[.int .i64 rn, .int .i64 rc, .bool true] 52)) (HJ.out.grow HP.out.2.2 (Below.grew HB.out)) HX.out (Nat.le_trans HP.out.1 HB.out.size) (3 - 1)))
          | gi_in)
        refine hRd.mono ?_
        rintro e W3 (⟨rfl, hJ3, hk3⟩ | ⟨rfl, hJx3, _⟩)
        · gi_wp2
          go_roundw
          case rel => exact ⟨k + 1, by omega, by go_num, Hi.mk ⟨Nat.le_trans HP.out.1 (Nat.le_trans HB.out.size hk3.size), (HP.out.2.1.later HB.out).kept hk3, by rw [HE.out.1 (by simp)]; exact hJ3⟩⟩
          case measure => simp only [intOf]; omega
        · gi_wp2
          refine bodyPost_ret (results_none rfl _ _ _) rfl ?_
          exact ⟨⟨_, rfl⟩, .inr ⟨_, HX.out, hJx3⟩⟩
    · obtain rfl : k = M := by omega
      have hne : ((evE bs.length d k) != 0) = true := by simpa using HOK.out.2
      obtain ⟨E, hE⟩ : ∃ E, evE bs.length d k = E := ⟨_, rfl⟩
      rw [hE] at HR1 hne
      clear hE
      gi_wp2_with (first
        | (refine ⟨trivial, ?_⟩; gi_at_call 18; ((with_reducible refine (callsIn_wide.2 (HR1.out _ HP.out.2.1.mem)).mono ?_); rintro e w1 ⟨rfl, hb1⟩; have qf := (CB.new w1 52 #[.int .i64 0, .int .i64 0, .bool false]).frozen; have HB := Hi.mk (hb1.alloc hb1.size (.cells #[.int .i64 rn, .int .i64 rc, .bool ro] 52)); have HC := Hi.mk (CB.three (CB.new w1 52 #[.int .i64 rn, .int .i64 rc, .bool ro])); obtain ⟨e0, e1, e2⟩ := HC.out))
        | gi_in)
      all_goals try (exact absurd (show some undef = some (Value.bool _) from by assumption) (by unfold undef; simp))
      refine ⟨noFn, ?_⟩
      gi_wp2
      refine bodyPost_ret (results_none rfl _ _ _) rfl ?_
      exact ⟨⟨_, rfl⟩, .inl ⟨_, rfl, HJ.out.grow HP.out.2.2 (Below.grew HB.out)⟩⟩

theorem routes_stops (c p g cap : Nat) (bs : List Nat) (d : Dv) (hF : d.Fair) (M : Nat) (hM : M < 16384) (hok : ∀ k : Nat, k < M → evE bs.length d k = 0) (hno : evE bs.length d M ≠ 0) (w : World) (hc : c + 2 ≤ w.heap.size) (hB : RtsB c p g cap bs d w) :
    SeqW 0 Try.prog 40 #[.pointer (some ⟨c, 0, none⟩), .pointer (some ⟨c + 1, 0, none⟩)] encR (fun _ => KpT c p g) (fun ys => ys = rtsL bs d M) (fun pre => pre <+: rtsL bs d M) (fun pre x => pre ++ [x] <+: rtsL bs d M) w := fun l J Jx W hW hJ hJx hY h0 =>
  routes1_any l c p g cap bs d hF M hM hok hno J Jx W (Nat.le_trans hc hW.size) hJ hY (hB.later hW) h0

end Go.Proofs.Ytjcjblmaceooaaa
