/-
  MemParts: which part of a window a window is, and whether two share a byte: its walk.
  The document's Read and Write, at every access.
  The document's Put, Wipe and Bytes.
  The document's Bytes; the law's Model.
  The law's Same, where both memories hold the same bytes.
  For MemDoes: both memories and an act's box, along the calls of one round.
-/
import Derived.Test.YtobhdjepfhbgaaaDoorMjB
import Derived.Deep.RegionHeld3
import Derived.Deep.RegionLaw
namespace Go.Proofs.YtobhdjepfhbgaaaDoor
open Go.ChangeShapes Go.WideShapes Go.ChangeAt Go.RowKit
set_option linter.unusedVariables false

theorem partV_form (a s x n : Int) : ∃ u v e : Int, partV a s x n = .tuple #[.agg #[.int .i64 u, .int .i64 v], .int .i64 e] := by
  unfold partV
  split
  · exact ⟨_, _, _, rfl⟩
  · exact ⟨_, _, _, rfl⟩
theorem meetB_comm (a s b t : Int) : meetB b t a s = meetB a s b t := by
  simp only [meetB]
  rw [Bool.and_comm (fairB b t)]
  congr 1
  rw [decide_eq_decide]
  omega

/-- A box of two cells. -/
structure Box2 (W : World) (p : Nat) (x y : Value) : Prop where
  c0 : W.cell? ⟨p, 0, none⟩ = some x
  c1 : W.cell? ⟨p, 1, none⟩ = some y
  lt : p < W.heap.size
theorem Box2.below {A W : World} {p : Nat} {x y : Value} (h : Box2 A p x y) (k : Below A.heap.size A W) : Box2 W p x y :=
  ⟨(k.cell (p := ⟨p, 0, none⟩) h.lt).trans h.c0, (k.cell (p := ⟨p, 1, none⟩) h.lt).trans h.c1, Nat.lt_of_lt_of_le h.lt k.size⟩
theorem Box2.alloc {A : World} {p : Nat} {x y : Value} (h : Box2 A p x y) (o : Obj) : Box2 (A.alloc o) p x y := h.below (bal A o)
theorem Box2.kept {A W : World} {p : Nat} {x y : Value} (h : Box2 A p x y) {bs : Nat → Prop} (k : Kept bs A W) (hp : ¬ bs p) : Box2 W p x y :=
  ⟨(World.cell?_of_block (w := A) (a := ⟨p, 0, none⟩) (k.block p h.lt hp)).trans h.c0, (World.cell?_of_block (w := A) (a := ⟨p, 1, none⟩) (k.block p h.lt hp)).trans h.c1, Nat.lt_of_lt_of_le h.lt k.size⟩
theorem box2_new (A : World) (x y : Value) (T : TypeId) : Box2 (A.alloc (.cells #[x, y] T)) A.heap.size x y :=
  ⟨cell_of_box (heap_new A (.cells #[x, y] T)) 0, cell_of_box (heap_new A (.cells #[x, y] T)) 1, by simp⟩

structure StP (w : World) (p1 p2 p3 p4 : Nat) (W : World) : Prop where
  below : Below w.heap.size w W
  l1 : p1 < W.heap.size
  l2 : p2 < W.heap.size
  l3 : p3 < W.heap.size
  l4 : p4 < W.heap.size
theorem StP.drew {w : World} {p1 p2 p3 p4 : Nat} {W : World} (h : StP w p1 p2 p3 p4 W) : StP w p1 p2 p3 p4 W.drew := ⟨h.below.drew, h.l1, h.l2, h.l3, h.l4⟩
theorem keepP {w W W' : World} {p1 p2 p3 p4 : Nat} {a s b t u v : Int} (k : Below W.heap.size W W') (h : W.cell? ⟨p1, 0, none⟩ = some (.int .i64 a) ∧ W.cell? ⟨p1, 1, none⟩ = some (.int .i64 s) ∧ W.cell? ⟨p2, 0, none⟩ = some (.int .i64 b) ∧ W.cell? ⟨p2, 1, none⟩ = some (.int .i64 t) ∧ W.cell? ⟨p3, 0, none⟩ = some (.int .i64 u) ∧ W.cell? ⟨p3, 1, none⟩ = some (.int .i64 v) ∧ W.cell? ⟨p4, 0, none⟩ = some (.int .i64 u) ∧ W.cell? ⟨p4, 1, none⟩ = some (.int .i64 v) ∧ StP w p1 p2 p3 p4 W) :
    W'.cell? ⟨p1, 0, none⟩ = some (.int .i64 a) ∧ W'.cell? ⟨p1, 1, none⟩ = some (.int .i64 s) ∧ W'.cell? ⟨p2, 0, none⟩ = some (.int .i64 b) ∧ W'.cell? ⟨p2, 1, none⟩ = some (.int .i64 t) ∧ W'.cell? ⟨p3, 0, none⟩ = some (.int .i64 u) ∧ W'.cell? ⟨p3, 1, none⟩ = some (.int .i64 v) ∧ W'.cell? ⟨p4, 0, none⟩ = some (.int .i64 u) ∧ W'.cell? ⟨p4, 1, none⟩ = some (.int .i64 v) ∧ StP w p1 p2 p3 p4 W' := by
  obtain ⟨c1, c2, c3, c4, c5, c6, c7, c8, ⟨hb, l1, l2, l3, l4⟩⟩ := h
  have hz := k.size
  exact ⟨(k.cell (p := ⟨p1, 0, none⟩) l1).trans c1, (k.cell (p := ⟨p1, 1, none⟩) l1).trans c2, (k.cell (p := ⟨p2, 0, none⟩) l2).trans c3, (k.cell (p := ⟨p2, 1, none⟩) l2).trans c4, (k.cell (p := ⟨p3, 0, none⟩) l3).trans c5, (k.cell (p := ⟨p3, 1, none⟩) l3).trans c6, (k.cell (p := ⟨p4, 0, none⟩) l4).trans c7, (k.cell (p := ⟨p4, 1, none⟩) l4).trans c8, ⟨hb.trans (k.mono hb.size), by omega, by omega, by omega, by omega⟩⟩

end Go.Proofs.YtobhdjepfhbgaaaDoor

namespace Go.Proofs.YtobhdjepfhbgaaaDoor
open Go.ChangeShapes Go.WideShapes Go.ChangeAt Go.RowKit
set_option linter.unusedVariables false

theorem Kept.drew {bs : Nat → Prop} {A W : World} (h : Kept bs A W) : Kept bs A W.drew := ⟨h.os, h.tape, h.output, h.size, h.block⟩
theorem BytesAt.drew {W : World} {g : Nat} {bs : List Nat} (h : BytesAt W g bs) : BytesAt W.drew g bs := ⟨h.1, h.2⟩
theorem num_drop (cs : List Nat) (t : Nat) (h : t < cs.length) : num (cs.drop t) = (cs[t]?.getD 0) + 256 * num (cs.drop (t + 1)) := by
  rw [List.drop_eq_getElem_cons h, num, List.getElem?_eq_getElem h, Option.getD_some]

set_option maxHeartbeats 2000000 in
theorem rwrite_yes (p g cap : Nat) (bs : List Nat) (A S o k v : Nat) (w : World) (hM : MemAt 107 w p g cap bs)
    (hA : A + S ≤ bs.length) (ho : o + k ≤ S) (hm : mayE S o k = 0) (hk : k ≤ 8) (hv : v < 18446744073709551616) :
    Calls Tryd.prog 57 #[.pointer (some ⟨p, 0, none⟩), win A S, .int .i64 o, .int .i64 k, .int .u64 v] w fun e w' => e = .returned (.int .i64 0) ∧ MemAt 107 w' p g cap (splice bs (A + o) (le k v)) ∧ Kept (· = g) w w' := by
  have hh : holdsB bs.length A S = true := by simp only [holdsB, decide_eq_true_eq]; omega
  have hl := hM.len
  have HH := hi (rholds_any p g cap bs A S (w.alloc (.cells #[.int .i64 A, .int .i64 S] 49)) (hM.below (bal w _)) (by omega) (by omega) (by omega) (by omega))
  rw [hh] at HH
  have HY := hi (fun W => hm ▸ rmay_any S o k W)
  have HM := hi hM
  have HL := hi (show A + o + k ≤ bs.length by omega)
  have hAl : A + o ≤ 131072 := by omega
  clear hM hm hA ho hh hl
  unfold win at HH ⊢
  go_enter Tryd.func57, Tryd.ntmps57
  go_wp2_with (first
    | (go_at_call 65; ((with_reducible refine HH.out.mono ?_); rintro e w1 ⟨rfl, hb1⟩; have HB := hi ((bal w (.cells #[.int .i64 (A : Int), .int .i64 (S : Int)] 49)).trans (hb1.mono (by simp))); have HBX := hi ((box2_new w (.int .i64 (A : Int)) (.int .i64 (S : Int)) 49).below hb1); obtain ⟨c0, c1, _⟩ := HBX.out; clear hb1))
    | (go_at_call 86; ((with_reducible refine (HY.out _).mono ?_); rintro e w2 ⟨rfl, rfl⟩)))
  clear c0 c1
  have HM1 := hi (HM.out.below HB.out)
  have HG := hi (And.intro HM.out.bytes.lt HM.out.plt)
  obtain ⟨n, hn2⟩ : ∃ n, bs.length = n := ⟨_, rfl⟩
  have HN2 := hi hn2
  clear hn2
  go_loopw [4, 12] (fun u i wr => ∃ j : Nat, i = .int .i64 j ∧ u = .int .u64 ((v / 256 ^ j : Nat) : Int) ∧ Hi (j ≤ k ∧ BytesAt wr g (splice bs (A + o) (le j v)) ∧ Kept (· = g) w1 wr)) (fun _ i _ => k - (intOf i).toNat)
  case atStart => exact ⟨0, rfl, by simp, hi ⟨Nat.zero_le _, by rw [show le 0 v = [] from rfl, splice_nil]; exact HM1.out.bytes, Kept.refl _ _⟩⟩
  case round =>
    obtain ⟨j, rfl, rfl, HJ⟩ := hrel
    have hj := HJ.out.1
    by_cases hlt : j < k
    · have hsl := splice_len bs (le j v) (A + o) (by rw [le_len]; have := HL.out; omega)
      have hcell := HJ.out.2.1.cell (A + o + j) (by rw [hsl]; have := HL.out; omega)
      have hfr := HJ.out.2.1.frozen (A + o + j)
      obtain ⟨x, hx⟩ : ∃ x, (splice bs (A + o) (le j v))[A + o + j]?.getD 0 = x := ⟨_, rfl⟩
      rw [hx] at hcell
      have hcp : wr.cell? ⟨p, 0, none⟩ = some (.slice (some ⟨g, 0, none⟩) n cap) := by
        have := (HM1.out.set HJ.out.2.2 HJ.out.2.1 hsl).cell
        rw [hsl, HN2.out] at this
        exact this
      obtain ⟨c0, c1, _⟩ := HBX.out.kept HJ.out.2.2 (fun (e : w.heap.size = g) => by have := HG.out; omega)
      have hin : A + o + j < n := by have := HL.out; have := HN2.out; omega
      have hn : n ≤ 131072 := by rw [← HN2.out]; exact HM.out.len
      have hw4 : IntKind.i64.wrap ((A : Int) + (o : Int)) = (A : Int) + (o : Int) := by rw [IntKind.wrap_i64]; omega
      have hw5 : IntKind.i64.wrap ((A : Int) + (o : Int) + (j : Int)) = (A : Int) + (o : Int) + (j : Int) := by rw [IntKind.wrap_i64]; omega
      have HS := hi hsl
      obtain ⟨V, hV⟩ : ∃ V, v / 256 ^ j = V := ⟨_, rfl⟩
      rw [hV]
      have hV64 : V < 18446744073709551616 := by rw [← hV]; exact Nat.lt_of_le_of_lt (Nat.div_le_self _ _) hv
      have hw6 : IntKind.u64.wrap ((V : Int) / 256) = (V : Int) / 256 := by rw [IntKind.wrap_u64]; omega
      have HV := hi hV
      clear hsl hx hV
      go_wp2
      go_region
      go_wp2
      go_roundw
      case rel =>
        refine ⟨j + 1, by go_num, ?_, hi ⟨hlt, BytesAt.drew ?_, (HJ.out.2.2.trans (kept_setCell _ _ _ _)).drew⟩⟩
        · rw [← HV.out, Nat.pow_succ, ← Nat.div_div_eq_div_mul]
          simp
        · have h2 := splice_set bs (le j v) (A + o) (v / 256 ^ j % 256) (by rw [le_len]; have := HL.out; omega)
          rw [le_len] at h2
          rw [le_succ, ← h2]
          have h1 := HJ.out.2.1.set (A + o + j) (v / 256 ^ j % 256) (by rw [HS.out]; have := HL.out; omega) (Nat.mod_lt _ (by omega))
          rw [show ((v / 256 ^ j % 256 : Nat) : Int) = (V : Int) % 256 by rw [HV.out]; simp] at h1
          exact h1
      case measure => first | (simp [intOf]; done) | (simp [intOf]; omega)
    · have e : j = k := by omega
      subst e
      go_wp2
      go_ret
      exact ⟨rfl, HM.out.set ((Kept.of HB.out).trans HJ.out.2.2) HJ.out.2.1 (by rw [splice_len]; rw [le_len]; exact HL.out), (Kept.of HB.out).trans HJ.out.2.2⟩

set_option maxHeartbeats 2000000 in
theorem rwrite_no (p g cap : Nat) (bs : List Nat) (a s off width : Int) (v : Nat) (w : World) (hM : MemAt 107 w p g cap bs)
    (ha0 : -9223372036854775808 ≤ a) (ha1 : a ≤ 9223372036854775807) (hs0 : -9223372036854775808 ≤ s) (hs1 : s ≤ 9223372036854775807) (hn : accE bs.length a s off width ≠ 0) :
    Calls Tryd.prog 57 #[.pointer (some ⟨p, 0, none⟩), win a s, .int .i64 off, .int .i64 width, .int .u64 v] w fun e w' => e = .returned (.int .i64 (accE bs.length a s off width)) ∧ Below w.heap.size w w' := by
  have HH := hi (rholds_any p g cap bs a s (w.alloc (.cells #[.int .i64 a, .int .i64 s] 49)) (hM.below (bal w _)) ha0 ha1 hs0 hs1)
  clear hM ha0 ha1 hs0 hs1
  unfold win at HH ⊢
  cases hh : holdsB bs.length a s
  · rw [hh] at HH
    have e : accE bs.length a s off width = 42 := by simp [accE, hh]
    rw [e]
    clear e hn hh
    go_enter Tryd.func57, Tryd.ntmps57
    go_wp2_with (go_at_call 65; ((with_reducible refine HH.out.mono ?_); rintro e w1 ⟨rfl, hb1⟩))
    go_ret
    exact ⟨rfl, (bal w _).trans (hb1.mono (by simp))⟩
  · rw [hh] at HH
    have e : accE bs.length a s off width = mayE s off width := by simp [accE, hh]
    rw [e] at hn ⊢
    have hn' : (mayE s off width != 0) = true := by simpa using hn
    obtain ⟨m, hm⟩ : ∃ m, mayE s off width = m := ⟨_, rfl⟩
    have HY := hi (fun W => hm ▸ rmay_any s off width W)
    rw [hm] at hn' ⊢
    clear e hn hh hm
    go_enter Tryd.func57, Tryd.ntmps57
    go_wp2_with (first
      | (go_at_call 65; ((with_reducible refine HH.out.mono ?_); rintro e w1 ⟨rfl, hb1⟩; obtain ⟨hc1, hc2⟩ := bcell hb1))
      | (go_at_call 86; ((with_reducible refine (HY.out _).mono ?_); rintro e w2 ⟨rfl, rfl⟩)))
    go_ret
    exact ⟨rfl, (bal w _).trans (hb1.mono (by simp))⟩

/-- The document's writing at every access. -/
theorem rwrite_any (p g cap : Nat) (bs : List Nat) (a s off width : Int) (v : Nat) (w : World) (hM : MemAt 107 w p g cap bs)
    (ha0 : -9223372036854775808 ≤ a) (ha1 : a ≤ 9223372036854775807) (hs0 : -9223372036854775808 ≤ s) (hs1 : s ≤ 9223372036854775807) (hv : v < 18446744073709551616) :
    Calls Tryd.prog 57 #[.pointer (some ⟨p, 0, none⟩), win a s, .int .i64 off, .int .i64 width, .int .u64 v] w fun e w' => e = .returned (.int .i64 (accE bs.length a s off width)) ∧ MemAt 107 w' p g cap (wrB bs a s off width v) ∧ Kept (· = g) w w' := by
  by_cases h : accE bs.length a s off width = 0
  · obtain ⟨A, S, o, k, rfl, rfl, rfl, rfl, hA, ho, hm, hk⟩ := accE_out hM.len h
    have e : wrB bs A S o k v = splice bs (A + o) (le k v) := by simp [wrB, h]
    rw [h, e]
    exact rwrite_yes p g cap bs A S o k v w hM hA ho hm (by omega) hv
  · have e : wrB bs a s off width v = bs := by simp [wrB, h]
    rw [e]
    refine (rwrite_no p g cap bs a s off width v w hM ha0 ha1 hs0 hs1 h).mono ?_
    rintro e w' ⟨rfl, hb⟩
    exact ⟨rfl, hM.below hb, Kept.of hb⟩

end Go.Proofs.YtobhdjepfhbgaaaDoor

namespace Go.Proofs.YtobhdjepfhbgaaaDoor
open Go.ChangeShapes Go.WideShapes Go.ChangeAt Go.RowKit
set_option linter.unusedVariables false

set_option maxHeartbeats 2000000 in
theorem rput_yes (p g cap : Nat) (bs : List Nat) (A S : Nat) (sv : Value) (ys : List Nat) (w : World) (hM : MemAt 107 w p g cap bs) (hA : A + S ≤ bs.length) (hy : BytesIn w sv ys)
    (hap : ∀ b off cp, sv = .slice (some ⟨b, off, none⟩) ys.length cp → ys ≠ [] → ¬ b = g) (hyl : ys.length ≤ S) :
    Calls Tryd.prog 38 #[.pointer (some ⟨p, 0, none⟩), win A S, sv] w fun e w' => e = .returned (.int .i64 0) ∧ MemAt 107 w' p g cap (splice bs A ys) ∧ Kept (· = g) w w' := by
  have hh : holdsB bs.length A S = true := by simp only [holdsB, decide_eq_true_eq]; omega
  have hl := hM.len
  have HH := hi (rholds_any p g cap bs A S (w.alloc (.cells #[.int .i64 A, .int .i64 S] 49)) (hM.below (bal w _)) (by omega) (by omega) (by omega) (by omega))
  rw [hh] at HH
  have HM := hi hM
  have HL := hi hA
  have HY := hi hy
  obtain ⟨sa, sc, rfl, hsc, hmem, hrd⟩ := hy
  have HAP := hi (And.intro hap (And.intro hmem hrd))
  have hAl : A + S ≤ 131072 := by omega
  clear hM hA hh hl hap hmem hrd
  unfold win at HH ⊢
  go_enter Tryd.func38, Tryd.ntmps38
  go_wp2_with (go_at_call 65; ((with_reducible refine HH.out.mono ?_); rintro e w1 ⟨rfl, hb1⟩; have HB := hi ((bal w (.cells #[.int .i64 (A : Int), .int .i64 (S : Int)] 49)).trans (hb1.mono (by simp))); have HBX := hi ((box2_new w (.int .i64 (A : Int)) (.int .i64 (S : Int)) 49).below hb1); obtain ⟨c0, c1, _⟩ := HBX.out; clear hb1))
  clear c0 c1
  have HM1 := hi (HM.out.below HB.out)
  have HG := hi (And.intro HM.out.bytes.lt HM.out.plt)
  obtain ⟨n, hn2⟩ : ∃ n, bs.length = n := ⟨_, rfl⟩
  have HN2 := hi hn2
  clear hn2
  obtain ⟨m, hm2⟩ : ∃ m, ys.length = m := ⟨_, rfl⟩
  have HM2 := hi hm2
  rw [hm2] at hyl hsc ⊢
  clear hm2
  go_loopw [7] (fun i wr => ∃ j : Nat, i = .int .i64 j ∧ Hi (j ≤ m ∧ BytesAt wr g (splice bs A (ys.take j)) ∧ Kept (· = g) w1 wr)) (fun i _ => m - (intOf i).toNat)
  case atStart => exact ⟨0, rfl, hi ⟨Nat.zero_le _, by rw [List.take_zero, splice_nil]; exact HM1.out.bytes, Kept.refl _ _⟩⟩
  case round =>
    obtain ⟨j, rfl, HJ⟩ := hrel
    have hj := HJ.out.1
    have htl : (ys.take j).length = j := by rw [List.length_take, HM2.out]; omega
    have hsl := splice_len bs (ys.take j) A (by rw [htl]; have := HL.out; omega)
    obtain ⟨c0, c1, _⟩ := HBX.out.kept HJ.out.2.2 (fun (e : w.heap.size = g) => by have := HG.out; omega)
    by_cases hlt : j < m
    · have hne : ys ≠ [] := fun e => by have := HM2.out; rw [e] at this; simp at this; omega
      obtain ⟨b, so, rfl, hcs⟩ := HAP.out.2.2 hne
      have hbg : ¬ b = g := HAP.out.1 b so sc rfl hne
      have hc0 := hcs j (by rw [HM2.out]; exact hlt)
      have hblt := World.block_lt_of_cell? w _ hc0
      have hsrc := ((World.cell?_of_block (w := w1) (a := ⟨b, so + j, none⟩) (HJ.out.2.2.block b (Nat.lt_of_lt_of_le hblt HB.out.size) hbg)).trans (HB.out.cell (p := ⟨b, so + j, none⟩) hblt)).trans hc0
      obtain ⟨y, hyj⟩ : ∃ y, ys[j]?.getD 0 = y := ⟨_, rfl⟩
      rw [hyj] at hsrc
      have hcell := HJ.out.2.1.cell (A + j) (by rw [hsl]; have := HL.out; omega)
      have hfr := HJ.out.2.1.frozen (A + j)
      obtain ⟨x, hx⟩ : ∃ x, (splice bs A (ys.take j))[A + j]?.getD 0 = x := ⟨_, rfl⟩
      rw [hx] at hcell
      have hcp : wr.cell? ⟨p, 0, none⟩ = some (.slice (some ⟨g, 0, none⟩) n cap) := by
        have := (HM1.out.set HJ.out.2.2 HJ.out.2.1 hsl).cell
        rw [hsl, HN2.out] at this
        exact this
      have hin : A + j < n := by have := HL.out; have := HN2.out; omega
      have hn : n ≤ 131072 := by rw [← HN2.out]; exact HM.out.len
      have hw4 : IntKind.i64.wrap ((A : Int) + (j : Int)) = (A : Int) + (j : Int) := by rw [IntKind.wrap_i64]; omega
      have hY : ys[j]? = some y := by
        have hjl : j < ys.length := by rw [HM2.out]; exact hlt
        rw [List.getElem?_eq_getElem hjl] at hyj ⊢
        simpa using hyj
      have HS := hi (And.intro hsl (And.intro htl hY))
      clear hsl htl hY hx hcs hc0 hblt hne hbg hyj
      go_wp2
      go_region
      go_wp2
      go_roundw
      case rel =>
        refine ⟨j + 1, by go_num, hi ⟨hlt, BytesAt.drew ?_, (HJ.out.2.2.trans (kept_setCell _ _ _ _)).drew⟩⟩
        have h2 := splice_set bs (ys.take j) A y (by rw [HS.out.2.1]; have := HL.out; omega)
        rw [HS.out.2.1] at h2
        have h3 : ys.take (j + 1) = ys.take j ++ [y] := by rw [List.take_add_one, HS.out.2.2]; rfl
        rw [h3, ← h2]
        exact HJ.out.2.1.set (A + j) y (by rw [HS.out.1]; have := HL.out; omega) (HAP.out.2.1 y (List.mem_of_getElem? HS.out.2.2))
      case measure => first | (simp [intOf]; done) | (simp [intOf]; omega)
    · have e : j = m := by omega
      subst e
      have HS := hi (And.intro hsl htl)
      clear hsl htl
      go_wp2
      go_ret
      have h5 := HJ.out.2.1
      have h6 := HS.out.1
      rw [List.take_of_length_le (by rw [HM2.out]; exact Nat.le_refl _)] at h5 h6
      exact ⟨rfl, HM.out.set ((Kept.of HB.out).trans HJ.out.2.2) h5 h6, (Kept.of HB.out).trans HJ.out.2.2⟩

set_option maxHeartbeats 2000000 in
theorem rput_no (p g cap : Nat) (bs : List Nat) (a s : Int) (sv : Value) (ys : List Nat) (w : World) (hM : MemAt 107 w p g cap bs) (hy : BytesIn w sv ys) (hyl : ys.length ≤ 9223372036854775807)
    (ha0 : -9223372036854775808 ≤ a) (ha1 : a ≤ 9223372036854775807) (hs0 : -9223372036854775808 ≤ s) (hs1 : s ≤ 9223372036854775807) (hn : putOk bs.length a s ys.length = false) :
    Calls Tryd.prog 38 #[.pointer (some ⟨p, 0, none⟩), win a s, sv] w fun e w' => e = .returned (.int .i64 42) ∧ Below w.heap.size w w' := by
  have HH := hi (rholds_any p g cap bs a s (w.alloc (.cells #[.int .i64 a, .int .i64 s] 49)) (hM.below (bal w _)) ha0 ha1 hs0 hs1)
  obtain ⟨sa, sc, rfl, _, _, _⟩ := hy
  clear hM
  unfold win at HH ⊢
  cases hh : holdsB bs.length a s
  · rw [hh] at HH
    clear hh hn
    go_enter Tryd.func38, Tryd.ntmps38
    go_wp2_with (go_at_call 65; ((with_reducible refine HH.out.mono ?_); rintro e w1 ⟨rfl, hb1⟩; obtain ⟨hc1, hc2⟩ := bcell hb1))
    go_ret
    exact ⟨rfl, (bal w _).trans (hb1.mono (by simp))⟩
  · have hm' : s < (ys.length : Int) := by
      simp only [putOk, hh, Bool.true_and, decide_eq_false_iff_not] at hn
      omega
    rw [hh] at HH
    clear hh hn
    go_enter Tryd.func38, Tryd.ntmps38
    go_wp2_with (go_at_call 65; ((with_reducible refine HH.out.mono ?_); rintro e w1 ⟨rfl, hb1⟩; obtain ⟨hc1, hc2⟩ := bcell hb1))
    go_ret
    exact ⟨rfl, (bal w _).trans (hb1.mono (by simp))⟩

theorem rput_any (p g cap : Nat) (bs : List Nat) (a s : Int) (sv : Value) (ys : List Nat) (w : World) (hM : MemAt 107 w p g cap bs) (hy : BytesIn w sv ys) (hyl : ys.length ≤ 9223372036854775807)
    (hap : ∀ b off cp, sv = .slice (some ⟨b, off, none⟩) ys.length cp → ys ≠ [] → ¬ b = g)
    (ha0 : -9223372036854775808 ≤ a) (ha1 : a ≤ 9223372036854775807) (hs0 : -9223372036854775808 ≤ s) (hs1 : s ≤ 9223372036854775807) :
    Calls Tryd.prog 38 #[.pointer (some ⟨p, 0, none⟩), win a s, sv] w fun e w' => e = .returned (.int .i64 (putE bs.length a s ys.length)) ∧ MemAt 107 w' p g cap (putL bs a s ys) ∧ Kept (· = g) w w' := by
  cases hh : putOk bs.length a s ys.length
  · rw [show putE bs.length a s ys.length = 42 by simp [putE, hh], show putL bs a s ys = bs by simp [putL, hh]]
    refine (rput_no p g cap bs a s sv ys w hM hy hyl ha0 ha1 hs0 hs1 hh).mono ?_
    rintro e w' ⟨rfl, hb⟩
    exact ⟨rfl, hM.below hb, Kept.of hb⟩
  · rw [show putE bs.length a s ys.length = 0 by simp [putE, hh], show putL bs a s ys = splice bs a.toNat ys by simp [putL, hh]]
    simp only [putOk, Bool.and_eq_true, decide_eq_true_eq] at hh
    obtain ⟨A, S, rfl, rfl, hA⟩ := holdsB_out hh.1
    exact rput_yes p g cap bs A S sv ys w hM hA hy hap (by omega)

end Go.Proofs.YtobhdjepfhbgaaaDoor

namespace Go.Proofs.YtobhdjepfhbgaaaDoor
open Go.ChangeShapes Go.WideShapes Go.ChangeAt Go.RowKit
set_option linter.unusedVariables false

theorem step_append_bytes {ops : Array Oper} {o : Oper} {a : Act} {w : World} {K : Act → World → Prop} {Q : Exit → Act → World → Prop} {E : Prop} (hgd : o.guard = none) (s x : Operand)
    (ho : o.op = .call { callee := .builtin .append, args := #[s, x], argTypes := #[22, 22] })
    (hs : a.eval s = .slice none 0 0) (xv : Value) (ys : List Nat) (hx : a.eval x = xv) (hy : BytesIn w xv ys) (hl : ys.length ≤ 140737488355328)
    (h : ∀ v' w', OwnN w' w.heap.size v' ys → Below w.heap.size w w' → K (a.put o.dst v') w') :
    if Region.wanted o (yielded ops a.tmps) = true then Oper.wp Tryd.prog o a w K Q else E := by
  have hw : Region.wanted o (yielded ops a.tmps) = true := by simp [Region.wanted, hgd]
  rw [if_pos hw]
  obtain ⟨sa, sc, rfl, hsc, hm, hcell⟩ := hy
  cases sa with
  | none =>
    have h0 : ys = [] := by
      cases ys with
      | nil => rfl
      | cons y r => obtain ⟨b, off, e, _⟩ := hcell (by simp); cases e
    subst h0
    have hrun := run_append_nil8 w sc o.type
    unfold Oper.wp execOp
    simp only [List.length_nil] at hx
    simp only [ho, resolve, invoke, builtin, Sem.run_bind, Sem.run_pure, Result.andThen_ok, List.map_toArray, List.map_cons, List.map_nil, hs, hx, hrun]
    exact h _ w (.inl ⟨rfl, rfl⟩) (Below.refl _ _)
  | some ad =>
    obtain ⟨i0, hi', hz0, hz1, hz2⟩ := info_parts info_u8
    refine wp_append_own w s x 22 ho w.heap.size 5 i0 (.int .u8 0) 1 1 Tryd.underlying22 hi' hz0 hz1 hz2 rfl (by decide) (.slice none 0 0) 0 [] hs (World.ownsRow_nil _ _ _ _) ad ys.length sc (u8s ys) hx (by rw [u8s_len, Nat.mul_one]) ?_ (u8s_one ys) (by unfold maxLen; omega) (by omega) (Nat.le_refl _) ?_
    · intro j u hu
      have hj : j < ys.length := by
        have := (List.getElem?_eq_some_iff.1 hu).1
        rwa [u8s_len] at this
      obtain ⟨b, off, e, hc⟩ := hcell (fun e => by rw [e] at hj; simp at hj)
      cases e
      rw [add_mid_, hc j hj]
      rw [u8s_get ys j hj] at hu
      exact hu
    · intro v' w' h1 h2 h3
      have hb : Below w.heap.size w w' := (Below.refl _ _).grown h2 (Nat.le_refl _) (by intro k hk; simp [Value.ownBlock] at hk)
      refine h v' w' ?_ hb
      simp only [Nat.zero_add, List.nil_append] at h1
      by_cases hv : v' = .slice none 0 0
      · left
        refine ⟨hv, ?_⟩
        rcases h1.2 with ⟨_, e⟩ | ⟨g, cap, cur, e, _⟩
        · exact List.length_eq_zero_iff.1 e
        · rw [hv] at e; cases e
      · right
        exact OwnB.of_row h1 hm hv

theorem OwnN.base {W : World} {b b' : Nat} {v : Value} {ys : List Nat} (h : OwnN W b v ys) (hb : b' ≤ b) : OwnN W b' v ys := by
  rcases h with h | ⟨g, cap, e, h1, h2⟩
  · exact .inl h
  · exact .inr ⟨g, cap, e, Nat.le_trans hb h1, h2⟩
theorem slOf_cut {g A S cap : Nat} (h : A + S ≤ cap) : SlOf g A S (.slice (if cap = A then some ⟨g, 0, none⟩ else some ⟨g, A, none⟩) S (cap - A)) := by
  by_cases e : cap = A
  · rw [if_pos e]
    exact ⟨_, _, rfl, fun hS => by omega, by omega, _, rfl⟩
  · rw [if_neg e]
    exact ⟨_, _, rfl, fun _ => rfl, by omega, _, rfl⟩

end Go.Proofs.YtobhdjepfhbgaaaDoor

namespace Go.Proofs.YtobhdjepfhbgaaaDoor
open Go.ChangeShapes Go.WideShapes Go.ChangeAt Go.RowKit
set_option linter.unusedVariables false

theorem bytes_whole (p g cap : Nat) (bs : List Nat) (w : World) (hM : MemAt 96 w p g cap bs) :
    Calls Tryd.prog 76 #[.pointer (some ⟨p, 0, none⟩), .agg #[.int .i64 0, .int .i64 (bs.length : Int)]] w fun e w' => ∃ v, e = .returned (.tuple #[v, .int .i64 0]) ∧ BytesIn w' v bs ∧ Below w.heap.size w w' := by
  have hl := hM.len
  have h := bytes_any p g cap bs 0 bs.length w hM (by omega) (by omega) (by omega) (by omega)
  have hh : holdsB bs.length 0 bs.length = true := by simp [holdsB]
  have e1 : bytesE bs.length 0 bs.length = 0 := by simp [bytesE, hh]
  have e2 : bytesL bs 0 bs.length = bs := by simp [bytesL, hh, sub]
  rw [e1, e2] at h
  refine h.mono ?_
  rintro e w' ⟨v, rfl, hv, hb⟩
  refine ⟨v, rfl, ?_, hb⟩
  rcases hv with ⟨rfl, h0⟩ | ⟨k, ho⟩
  · rw [h0]; exact ⟨none, 0, rfl, Nat.le_refl _, (fun x hx => by simp at hx), fun h => absurd rfl h⟩
  · exact ho.bytesIn

theorem MemAt.bytesIn {T : TypeId} {W : World} {p g cap : Nat} {bs : List Nat} (h : MemAt T W p g cap bs) : BytesIn W (.slice (some ⟨g, 0, none⟩) bs.length cap) bs := by
  have := BytesIn.of (v := .slice (some ⟨g, 0, none⟩) bs.length cap) (o := 0) (n := bs.length) h.bytes ⟨_, _, rfl, fun _ => rfl, h.le, _, rfl⟩ (by omega)
  rwa [sub_all] at this
theorem BytesIn.drewN {W : World} {v : Value} {ys : List Nat} (h : BytesIn W v ys) (n : Nat) : BytesIn (W.drewN n) v ys := h

theorem MemAt.drewN {T : TypeId} {W : World} {p g cap : Nat} {bs : List Nat} (h : MemAt T W p g cap bs) (n : Nat) : MemAt T (W.drewN n) p g cap bs := ⟨h.box, ⟨h.bytes.1, h.bytes.2⟩, h.le, h.cap, h.len, h.type⟩
theorem size_q (p g cap : Nat) (bs : List Nat) (m : Nat) (w : World) (hM : MemAt 96 w p g cap bs) (hm : bs.length = m) (n : Nat) :
    Calls Tryd.prog 77 #[.pointer (some ⟨p, 0, none⟩)] (w.drewN n) fun e w' => e = .returned (.int .i64 (m : Int)) ∧ w' = w.drewN n := by
  subst hm
  exact (size_any p g cap bs _ (hM.drewN n)).mono fun e w' h => ⟨h.1, h.2.symm⟩

set_option maxHeartbeats 2000000 in
theorem same_eq (p g cap q h d : Nat) (bs : List Nat) (w : World) (hM : MemAt 96 w p g cap bs) (hR : MemAt 107 w q h d bs) :
    Calls Tryd.prog 43 #[.pointer (some ⟨p, 0, none⟩), .pointer (some ⟨q, 0, none⟩)] w fun e w' => e = .returned (.bool true) ∧ Below w.heap.size w w' := by
  have HM := hi hM
  have HR := hi hR
  have hcq := hR.cell
  have hcp := hM.cell
  have hpq : p < w.heap.size ∧ q < w.heap.size := ⟨hM.plt, hR.plt⟩
  have HB := hi (bytes_whole p g cap bs w hM)
  obtain ⟨Y, hY⟩ : ∃ Y, strB bs = Y := ⟨_, rfl⟩
  have HY := hi hY
  clear hM hR hY
  obtain ⟨n, hn⟩ : ∃ n, bs.length = n := ⟨_, rfl⟩
  have HN := hi hn
  rw [hn] at hcq hcp HB
  clear hn
  go_enter Tryd.func43, Tryd.ntmps43
  go_wp2_with (go_at_call 76; ((with_reducible refine HB.out.mono ?_); rintro e w1 ⟨v, rfl, hv, hb1⟩; have HV := hi hv; have HK := hi hb1; clear hv hb1))
  have hcq1 : w1.cell? ⟨q, 0, none⟩ = some (.slice (some ⟨h, 0, none⟩) n d) := (HK.out.cell (p := ⟨q, 0, none⟩) hpq.2).trans hcq
  have HM1 := hi (HM.out.below HK.out)
  have hs1 : ∀ k, (convert 22 9 v).run Tryd.prog (w1.drewN k) = .ok (.string Y) (w1.drewN k) := fun k => by
    have := conv_bytes (HV.out.drewN k)
    rwa [HY.out] at this
  have hs2 : ∀ k, (convert 22 9 (.slice (some ⟨h, 0, none⟩) n d)).run Tryd.prog (w1.drewN k) = .ok (.string Y) (w1.drewN k) := fun k => by
    have := conv_bytes (((HR.out.below HK.out).bytesIn).drewN k)
    rwa [HY.out, HN.out] at this
  clear hcq hcp
  go_quiet ((go_at_call 77; exact Calls.quiet_of_same (size_q p g cap bs n w1 HM1.out HN.out _)))
  go_wp2
  go_ret
  exact ⟨by simp, ⟨HK.out.os, HK.out.tape, HK.out.output, HK.out.size, HK.out.block⟩⟩

end Go.Proofs.YtobhdjepfhbgaaaDoor

namespace Go.Proofs.YtobhdjepfhbgaaaDoor
open Go.ChangeShapes Go.WideShapes Go.ChangeAt Go.RowKit
set_option linter.unusedVariables false

/-- Both memories, made since w. -/
structure Two (w : World) (p g c q h d : Nat) (bs bs2 : List Nat) (W : World) : Prop where
  mem : MemAt 96 W p g c bs
  ref : MemAt 107 W q h d bs2
  below : Below w.heap.size w W
  lp : w.heap.size ≤ p
  lg : w.heap.size ≤ g
  lq : w.heap.size ≤ q
  lh : w.heap.size ≤ h
  gh : g ≠ h
  pq : p ≠ q
theorem MemAt.neb {T T2 : TypeId} {W : World} {p g c q h d : Nat} {bs bs2 : List Nat} (a : MemAt T W p g c bs) (b : MemAt T2 W q h d bs2) : p ≠ h := by
  intro e
  obtain ⟨⟨r, h1⟩, _⟩ := b.bytes
  have h2 := a.box
  rw [e, h1] at h2
  simp only [Option.some.injEq, Obj.cells.injEq] at h2
  exact a.type h2.2.1.symm
theorem Two.sz {w : World} {p g c q h d : Nat} {bs bs2 : List Nat} {W : World} (t : Two w p g c q h d bs bs2 W) : w.heap.size ≤ W.heap.size := t.below.size
theorem Two.later {w : World} {p g c q h d : Nat} {bs bs2 : List Nat} {W W' : World} (t : Two w p g c q h d bs bs2 W) (k : Below W.heap.size W W') : Two w p g c q h d bs bs2 W' :=
  ⟨t.mem.below k, t.ref.below k, t.below.trans (k.mono t.sz), t.lp, t.lg, t.lq, t.lh, t.gh, t.pq⟩
theorem Two.mem_step {w : World} {p g c q h d : Nat} {bs bs2 bs' : List Nat} {W W' : World} (t : Two w p g c q h d bs bs2 W) (k : Kept (· = g) W W') (m : MemAt 96 W' p g c bs') : Two w p g c q h d bs' bs2 W' :=
  ⟨m, t.ref.kept k (fun (e : q = g) => t.ref.neb t.mem e) (fun (e : h = g) => t.gh e.symm), t.below.trans (k.toBelow t.sz (fun x (e : x = g) => by have := t.lg; omega)), t.lp, t.lg, t.lq, t.lh, t.gh, t.pq⟩
theorem Two.ref_step {w : World} {p g c q h d : Nat} {bs bs2 bs' : List Nat} {W W' : World} (t : Two w p g c q h d bs bs2 W) (k : Kept (· = h) W W') (m : MemAt 107 W' q h d bs') : Two w p g c q h d bs bs' W' :=
  ⟨t.mem.kept k (fun (e : p = h) => t.mem.neb t.ref e) (fun (e : g = h) => t.gh e), m, t.below.trans (k.toBelow t.sz (fun x (e : x = h) => by have := t.lh; omega)), t.lp, t.lg, t.lq, t.lh, t.gh, t.pq⟩
theorem Two.own_step {w : World} {p g c q h d ob : Nat} {bs bs2 : List Nat} {W0 W W' : World} (t : Two w p g c q h d bs bs2 W) (k : Kept (· = ob) W W') (t0 : Two w p g c q h d bs bs2 W0) (ho : W0.heap.size ≤ ob) : Two w p g c q h d bs bs2 W' := by
  have h1 := t0.mem.plt
  have h2 := t0.mem.bytes.lt
  have h3 := t0.ref.plt
  have h4 := t0.ref.bytes.lt
  exact ⟨t.mem.kept k (fun (e : p = ob) => by omega) (fun (e : g = ob) => by omega), t.ref.kept k (fun (e : q = ob) => by omega) (fun (e : h = ob) => by omega), t.below.trans (k.toBelow t.sz (fun x (e : x = ob) => by have := t0.sz; omega)), t.lp, t.lg, t.lq, t.lh, t.gh, t.pq⟩
theorem Two.of_both {w w1 : World} {p g c q h d : Nat} {bs : List Nat} {W : World} (b : Both w1 p g c q h d bs W) (k : Below w.heap.size w w1) : Two w p g c q h d bs bs W :=
  ⟨b.mem.mem, b.ref, k.trans (b.mem.below.mono k.size), Nat.le_trans k.size b.mem.p, Nat.le_trans k.size b.mem.g, Nat.le_trans k.size b.ql, Nat.le_trans k.size b.hl, b.apart, fun e => b.qp e.symm⟩

theorem Two.drew {w : World} {p g c q h d : Nat} {bs bs2 : List Nat} {W : World} (t : Two w p g c q h d bs bs2 W) : Two w p g c q h d bs bs2 W.drew :=
  ⟨t.mem.drewN 1, t.ref.drewN 1, t.below.drew, t.lp, t.lg, t.lq, t.lh, t.gh, t.pq⟩

theorem read_E (p g c : Nat) (bs : List Nat) (a s off wd : Int) (N : Nat) (E : Int) (hN : rdE bs a s off wd = N) (hE : accE bs.length a s off wd = E) (w : World) (hM : MemAt 96 w p g c bs)
    (ha0 : -9223372036854775808 ≤ a) (ha1 : a ≤ 9223372036854775807) (hs0 : -9223372036854775808 ≤ s) (hs1 : s ≤ 9223372036854775807) :
    Calls Tryd.prog 36 #[.pointer (some ⟨p, 0, none⟩), .agg #[.int .i64 a, .int .i64 s], .int .i64 off, .int .i64 wd] w fun e w' => e = .returned (.tuple #[.int .u64 (N : Int), .int .i64 E]) ∧ Below w.heap.size w w' := by
  subst hN; subst hE
  exact read_any p g c bs a s off wd w hM ha0 ha1 hs0 hs1
theorem bytes_E (p g c : Nat) (bs l : List Nat) (a s : Int) (E : Int) (hE : bytesE bs.length a s = E) (hl : bytesL bs a s = l) (w : World) (hM : MemAt 96 w p g c bs)
    (ha0 : -9223372036854775808 ≤ a) (ha1 : a ≤ 9223372036854775807) (hs0 : -9223372036854775808 ≤ s) (hs1 : s ≤ 9223372036854775807) :
    Calls Tryd.prog 76 #[.pointer (some ⟨p, 0, none⟩), .agg #[.int .i64 a, .int .i64 s]] w fun e w' => ∃ v, e = .returned (.tuple #[v, .int .i64 E]) ∧ OwnN w' w.heap.size v l ∧ Below w.heap.size w w' := by
  subst hE; subst hl
  exact bytes_any p g c bs a s w hM ha0 ha1 hs0 hs1
theorem holds_E (p g c : Nat) (bs : List Nat) (a s : Int) (B : Bool) (hB : holdsB bs.length a s = B) (w : World) (hM : MemAt 96 w p g c bs)
    (ha0 : -9223372036854775808 ≤ a) (ha1 : a ≤ 9223372036854775807) (hs0 : -9223372036854775808 ≤ s) (hs1 : s ≤ 9223372036854775807) :
    Calls Tryd.prog 72 #[.pointer (some ⟨p, 0, none⟩), .agg #[.int .i64 a, .int .i64 s]] w fun e w' => e = .returned (.bool B) ∧ Below w.heap.size w w' := by
  subst hB
  exact holds_any p g c bs a s w hM ha0 ha1 hs0 hs1
theorem rholds_E (p g c : Nat) (bs : List Nat) (a s : Int) (B : Bool) (hB : holdsB bs.length a s = B) (w : World) (hM : MemAt 107 w p g c bs)
    (ha0 : -9223372036854775808 ≤ a) (ha1 : a ≤ 9223372036854775807) (hs0 : -9223372036854775808 ≤ s) (hs1 : s ≤ 9223372036854775807) :
    Calls Tryd.prog 65 #[.pointer (some ⟨p, 0, none⟩), .agg #[.int .i64 a, .int .i64 s]] w fun e w' => e = .returned (.bool B) ∧ Below w.heap.size w w' := by
  subst hB
  exact rholds_any p g c bs a s w hM ha0 ha1 hs0 hs1

end Go.Proofs.YtobhdjepfhbgaaaDoor
