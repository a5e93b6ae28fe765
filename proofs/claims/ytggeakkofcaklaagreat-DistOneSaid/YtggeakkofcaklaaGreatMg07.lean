import Derived.Test.YtggeakkofcaklaaGreatMg06
import Derived.Maps.AppendAt
import Derived.Laws.AppendOwn
import Derived.Shelf.Abstract
import Derived.Test.YtggeakkofcaklaaGreatMg04
namespace Go.Proofs.YtggeakkofcaklaaGreat
open Go.ChangeShapes Go.WideShapes Go.ChangeAt Go.RowKit Go.Shelf
set_option linter.unusedVariables false
attribute [local go_sem] Oper.semAt_some
def NewOk (f n : Int) : Prop := 0 ≤ f ∧ 0 ≤ n ∧ f + n ≤ 16384
def fresh (n : Nat) (s : Rt) : List En := List.replicate n ⟨Ln.zero, s⟩
def Made (w : World) (f : Int) (n : Nat) (s : Rt) (e : Ending) (w' : World) : Prop :=
  ∃ b g, e = .returned (.tuple #[.pointer (some ⟨b, 0, none⟩), .int .i64 0]) ∧ w.heap.size ≤ b ∧ w.heap.size ≤ g ∧ BkAt w' b g n f (fresh n s) ∧ Below w.heap.size w w'
set_option maxHeartbeats 2000000 in
theorem new_yes (f : Int) (n : Nat) (s : Rt) (w : World) (h : NewOk f n) :
    Calls Tryz.prog 63 #[.int .i64 f, .int .i64 n, s.v] w (Made w f n s) := by
  obtain ⟨f1, n1, hs⟩ := h
  have hd1 : decide (f < 0) = false := by simp; omega
  have hd2 : decide ((n : Int) < 0) = false := by simp
  have hw : IntKind.i64.wrap (16384 - f) = 16384 - f := by rw [IntKind.wrap_i64]; omega
  have h3 : decide (16384 - f < (n : Int)) = false := by simp; omega
  have HR := hi (repeat_any (w.heap.size + 1) 1 n ⟨Ln.zero, s⟩ ((w.alloc (.cells #[.int .i64 s.c, .bool s.y] 89)).alloc (.cells (En.ca ⟨Ln.zero, s⟩) 115)) (CB.ent cb_second) (by simp) (by omega))
  dsimp only [En.ca, Ln.zero, St.zero] at HR
  go_enter Tryz.func63, Tryz.ntmps63
  go_wp2_with (go_at_call 102; ((with_reducible refine HR.out.mono ?_); rintro e w1 ⟨g', rfl, hg, hr, hb⟩; have HG := hi hg; have HRR := hi hr; have HB := hi hb; clear hg hr hb))
  go_ret2
  have hB : Below w.heap.size w w1 := (bal_two w _ _).trans (HB.out.mono (bal_two w _ _).size)
  have hg := HG.out
  rw [World.size_alloc, World.size_alloc] at hg
  have hgl := HRR.out.lt
  refine ⟨w1.heap.size, g', rfl, hB.size, by omega, ⟨?_, HRR.out.below (bal _ _), by omega⟩, hB.alloc hB.size _⟩
  rw [show (fresh n s).length = n by simp [fresh]]
  exact CB.new _ _ _
end Go.Proofs.YtggeakkofcaklaaGreat
namespace Go.Proofs.YtggeakkofcaklaaGreat
open Go.ChangeShapes Go.WideShapes Go.ChangeAt Go.RowKit Go.Shelf
set_option linter.unusedVariables false
attribute [local go_sem] Oper.semAt_some
theorem own_slice {W : World} {base sz : Nat} {te : TypeId} {v : Value} {n : Nat} {cs : List Value} (h : W.ownsRow base te sz v n cs) : ∃ a c, v = .slice a n c := by
  rcases h.2 with ⟨rfl, h0⟩ | ⟨g, cap, cur, rfl, _⟩
  · exact ⟨_, _, by rw [h0]⟩
  · exact ⟨_, _, rfl⟩
theorem own_base {W : World} {base base' sz : Nat} {te : TypeId} {v : Value} {n : Nat} {cs : List Value} (h : W.ownsRow base te sz v n cs) (hb : base' ≤ base) : W.ownsRow base' te sz v n cs := by
  rcases h with ⟨h0, h1 | ⟨g, cap, cur, e, hg, rest⟩⟩
  · exact ⟨h0, .inl h1⟩
  · exact ⟨h0, .inr ⟨g, cap, cur, e, Nat.le_trans hb hg, rest⟩⟩
theorem below_put {n : Nat} {w W : World} (h : Below n w W) {l : Nat} (o : Obj) (hn : n ≤ W.heap.size) (hl : n ≤ l) : Below n w (W.putObj l o) :=
  h.trans ⟨rfl, rfl, rfl, by simp, fun i hi' => World.putObj_heap_other (by omega)⟩
theorem kpx_put {lo hi k B : Nat} {W : World} {l : Nat} {o' : Obj} (h1 : hi ≤ l) (h2 : l < B) : KpX lo hi k B W (W.putObj l o') := ⟨by simp, fun i q => World.putObj_heap_other (by omega)⟩
theorem kpx_set {lo hi k B : Nat} {W : World} {b o : Nat} {v : Value} (h1 : hi ≤ b ∨ b < lo) (h2 : b < B) : KpX lo hi k B W (W.setCell ⟨b, o, none⟩ v) := ⟨by simp, fun i q => Below.heap_setCell W ⟨b, o, none⟩ v i (show i ≠ b by omega)⟩
theorem results_cellb {fn : Func} {c : Tmp} (h : fn.results = #[.cell c 4]) (tmps : Array Value) (w : World) (b : Nat) (v : Bool) (hp : tmps.getD c undef = .pointer (some ⟨b, 0, none⟩)) (hb : CB w b 4 #[.bool v]) : (results fn tmps).run Tryz.prog w = .ok (.bool v) w := by
  have hp' : tmps[c]?.getD undef = .pointer (some ⟨b, 0, none⟩) := by simpa using hp
  have c0 := hb.cell 0
  simp at c0
  simp [results, h, go_sem, hp', c0]
theorem CB.keptB {W W' : World} {B : Nat} {t : TypeId} {cs : Array Value} {bs : Nat → Prop} (h : CB W B t cs) (k : Kept bs W W') (hn : ¬ bs B) : CB W' B t cs := h.heap (k.block B h.lt hn)
end Go.Proofs.YtggeakkofcaklaaGreat
namespace Go.Proofs.YtggeakkofcaklaaGreat
open Go.ChangeShapes Go.WideShapes Go.ChangeAt Go.RowKit Go.Shelf
set_option linter.unusedVariables false
attribute [local go_sem] Oper.semAt_some
structure PlOk (p : Pl) (c : Nat) : Prop where
  cnt : p.c = c
  few : c ≤ 64
  f0 : 0 ≤ p.f
  f1 : p.f + c ≤ 20000
structure KpS (ks : Nat → Prop) (k B : Nat) (W W' : World) : Prop where
  size : W.heap.size ≤ W'.heap.size
  same : ∀ i, ks i ∨ (B ≤ i ∧ i < B + k) → W'.heap[i]? = W.heap[i]?
theorem KpS.refl (ks : Nat → Prop) (k B : Nat) (W : World) : KpS ks k B W W := ⟨Nat.le_refl _, fun _ _ => rfl⟩
theorem KpS.trans {ks : Nat → Prop} {k B : Nat} {X Y Z : World} (h : KpS ks k B X Y) (j : KpS ks k B Y Z) : KpS ks k B X Z := ⟨Nat.le_trans h.size j.size, fun i q => (j.same i q).trans (h.same i q)⟩
theorem KpS.kept {ks : Nat → Prop} {k B : Nat} {bs : Nat → Prop} {W W' : World} (h : Kept bs W W') (h1 : ∀ i, ks i → i < W.heap.size) (h2 : B + k ≤ W.heap.size) (hn : ∀ i, bs i → ¬ (ks i ∨ (B ≤ i ∧ i < B + k))) : KpS ks k B W W' :=
  ⟨h.size, fun i q => h.block i (by rcases q with q | q; exact h1 i q; omega) (fun x => hn i x q)⟩
theorem KpS.of_below {ks : Nat → Prop} {k B : Nat} {W W' : World} (h : Below W.heap.size W W') (h1 : ∀ i, ks i → i < W.heap.size) (h2 : B + k ≤ W.heap.size) : KpS ks k B W W' :=
  ⟨h.size, fun i q => h.block i (by rcases q with q | q; exact h1 i q; omega)⟩
theorem kps_put {ks : Nat → Prop} {k B : Nat} {W : World} {l : Nat} {o' : Obj} (h1 : ¬ ks l) (h2 : ¬ (B ≤ l ∧ l < B + k)) : KpS ks k B W (W.putObj l o') :=
  ⟨by simp, fun i q => World.putObj_heap_other (fun e => by rcases q with q | q; exact h1 (e ▸ q); exact h2 (e ▸ q))⟩
theorem kps_set {ks : Nat → Prop} {k B : Nat} {W : World} {b o : Nat} {v : Value} (h1 : ¬ ks b) (h2 : ¬ (B ≤ b ∧ b < B + k)) : KpS ks k B W (W.setCell ⟨b, o, none⟩ v) :=
  ⟨by simp, fun i q => Below.heap_setCell W ⟨b, o, none⟩ v i (fun e => by obtain rfl : i = b := e; rcases q with q | q; exact h1 q; exact h2 q)⟩
theorem range_next {pre : List Nat} {x c : Nat} (h : pre ++ [x] <+: List.range c) : x = pre.length ∧ x < c := by
  have h1 := h.length_le
  rw [List.length_append, List.length_range] at h1
  simp only [List.length_cons, List.length_nil] at h1
  obtain ⟨t, ht⟩ := h
  have h2 : (List.range c)[pre.length]? = some x := by
    rw [← ht, List.append_assoc, List.getElem?_append_right (Nat.le_refl _)]
    simp
  rw [List.getElem?_range (by omega)] at h2
  simp only [Option.some.injEq] at h2
  exact ⟨h2.symm, by omega⟩
theorem range_take {k c : Nat} (h : k < c) : (List.range c).take (k + 1) = (List.range c).take k ++ [k] := by
  rw [List.take_add_one, List.getElem?_range h]; rfl
abbrev enc1 (f : Int) (k : Nat) : Array Value := #[.int .i64 (f + k)]
abbrev encP (f : Int) (k : Nat) : Array Value := #[.int .i64 k, .int .i64 (f + k)]
theorem ids_any (p : Pl) (w : World) : Calls Tryz.prog 123 #[p.v] w fun e w' => e = .returned (.func (.func 139) #[] #[.pointer (some ⟨w.heap.size, 0, none⟩)]) ∧ w' = w.alloc (.cells p.cs 70) := by
  obtain ⟨r, f, c⟩ := p
  dsimp only [Pl.v, Pl.cs]
  go_enter Tryz.func123, Tryz.ntmps123
  go_wp2
  go_ret
  exact ⟨rfl, rfl⟩
set_option maxRecDepth 100000 in
set_option maxHeartbeats 4000000 in
theorem ids1_any (l pp : Nat) (p : Pl) (c : Nat) (hp : PlOk p c) (J Jx : List Nat → World → Prop) (W : World) (hJ : AbW W.heap.size 0 J) (hA : CB W pp 70 p.cs)
    (hY : ∀ (pre : List Nat) (x : Nat) (W1 : World), J pre W1 → pre ++ [x] <+: List.range c → W.heap.size + 0 ≤ W1.heap.size → ∀ m, YieldAt Fence.wide m Tryz.prog l (enc1 p.f x) W1 fun e W' =>
      (e = .returned (.bool true) ∧ J (pre ++ [x]) W' ∧ KpS (· = pp) 0 W.heap.size W1 W') ∨ (e = .returned (.bool false) ∧ Jx (pre ++ [x]) W' ∧ KpS (· = pp) 0 W.heap.size W1 W'))
    (h0 : J [] W) :
    Calls Tryz.prog 139 #[.func (.yield l) #[] #[], .pointer (some ⟨pp, 0, none⟩)] W fun e W' => (∃ v, e = .returned v) ∧
      ((∃ ys, ys = List.range c ∧ J ys W') ∨ (∃ pre, pre <+: List.range c ∧ Jx pre W')) := by
  have HYY := hi hY
  obtain ⟨hc, hfew, hf0, hf1⟩ := hp
  have HTA := hi (show (List.range c).take c = List.range c by rw [List.take_of_length_le]; simp)
  have H0 := hi (show CB W pp 70 p.cs ∧ J ((List.range c).take 0) W from ⟨hA, by simpa using h0⟩)
  have b2 := hA.cell 2
  clear hY hJ hA h0
  obtain ⟨r, f, pc⟩ := p
  dsimp only at hc hf0 hf1 b2 HYY H0
  subst hc
  have b2' : W.cell? ⟨pp, 2, none⟩ = some (.int .i64 c) := b2
  clear b2
  refine (callsIn_wide (n := 3)).1 ?_
  refine callsIn_of_wp Tryz.func139 rfl trivial ?_ rfl
  simp only [Tryz.ntmps139, List.size_toArray, List.length_cons, List.length_nil, Nat.reduceAdd, Nat.reduceSub, Array.replicate_succ, Array.replicate_zero, List.push_toArray, List.append_toArray, List.nil_append, List.cons_append]
  have hmin : (c : Int) < 16384 := by omega
  gi_wp2
  gi_loopw [7] (fun i wr => ∃ k : Nat, k ≤ c ∧ i = .int .i64 k ∧ Hi (W.heap.size ≤ wr.heap.size ∧ CB wr pp 70 (Pl.cs ⟨r, f, c⟩) ∧ J ((List.range c).take k) wr))
    (fun i _ => c - (intOf i).toNat)
  case atStart => exact ⟨0, Nat.zero_le _, rfl, hi ⟨Nat.le_refl _, H0.out.1, H0.out.2⟩⟩
  case round =>
    obtain ⟨k, hk, rfl, HP⟩ := hrel
    clear b2' H0
    by_cases hlt : k < c
    · have HS := hi (range_take hlt)
      have HPRE := hi (show (List.range c).take k ++ [k] <+: List.range c by rw [← HS.out]; exact List.take_prefix _ _)
      have f1 := HP.out.2.1.cell 1
      have f1' : wr.cell? ⟨pp, 1, none⟩ = some (.int .i64 f) := f1
      have hw : IntKind.i64.wrap (f + k) = f + k := by rw [IntKind.wrap_i64]; omega
      obtain ⟨fn, tmps, assign, body, hy, hRd⟩ := HYY.out _ _ wr HP.out.2.2 HPRE.out (by have := HP.out.1; omega) (3 - 1)
      clear f1
      gi_wp2
      refine hRd.mono ?_
      rintro e' W3 (⟨rfl, hJ3, hk3⟩ | ⟨rfl, hJx3, _⟩)
      · gi_wp2
        go_roundw
        case rel => exact ⟨k + 1, by omega, by go_num, hi ⟨by have := HP.out.1; have := hk3.size; omega, HP.out.2.1.heap (hk3.same pp (.inl rfl)), by rw [HS.out]; exact hJ3⟩⟩
        case measure => simp only [intOf]; omega
      · gi_wp2
        refine bodyPost_ret (results_none rfl _ _ _) rfl ?_
        exact ⟨⟨_, rfl⟩, .inr ⟨_, HPRE.out, hJx3⟩⟩
    · obtain rfl : k = c := by omega
      gi_wp2
      go_end0
      exact ⟨⟨_, rfl⟩, .inl ⟨_, rfl, by have := HP.out.2.2; rwa [HTA.out] at this⟩⟩
theorem ids_stops (pp : Nat) (p : Pl) (c : Nat) (hp : PlOk p c) (w : World) (h : CB w pp 70 p.cs) :
    SeqW 0 Tryz.prog 139 #[.pointer (some ⟨pp, 0, none⟩)] (enc1 p.f) (KpS (· = pp) 0) (fun ys => ys = List.range c) (fun pre => pre <+: List.range c) (fun pre x => pre ++ [x] <+: List.range c) w := fun l J Jx W hW hJ hJx hY h0 =>
  ids1_any l pp p c hp J Jx W hJ (h.below hW) hY h0
end Go.Proofs.YtggeakkofcaklaaGreat
