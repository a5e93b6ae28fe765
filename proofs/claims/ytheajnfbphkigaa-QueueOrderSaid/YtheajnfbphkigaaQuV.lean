/-
  QueueOrder: the row of what was put; what the loop keeps.
-/
import Derived.Test.YtheajnfbphkigaaQuS
import Derived.Deep.OwnRows
namespace Go.Proofs.Ytheajnfbphkigaa
open Go.ChangeShapes Go.WideShapes Go.ChangeAt Go.RowKit
set_option linter.unusedVariables false
set_option linter.unusedSimpArgs false

/-! ### Commands in a row -/
def flM : List Cm → List Value
  | [] => []
  | c :: l => c.cs.toList ++ flM l
theorem cs9 (c : Cm) : c.cs.toList.length = 9 := rfl
theorem flM_len : ∀ L : List Cm, (flM L).length = L.length * 9
  | [] => rfl
  | c :: l => by rw [flM, List.length_append, flM_len l, cs9, List.length_cons]; omega
theorem flM_snoc : ∀ (L : List Cm) (c : Cm), flM (L ++ [c]) = flM L ++ c.cs.toList
  | [], c => by simp [flM]
  | c0 :: l, c => by rw [List.cons_append, flM, flM, flM_snoc l c, List.append_assoc]
theorem flM_get : ∀ (L : List Cm) (i : Nat) (c : Cm), L[i]? = some c → ∀ j, j < 9 → (flM L)[i * 9 + j]? = c.cs.toList[j]?
  | [], i, c, h, j, hj => by simp at h
  | c0 :: l, 0, c, h, j, hj => by
    obtain rfl : c0 = c := by simpa using h
    rw [flM, List.getElem?_append_left (by rw [cs9]; omega)]
    congr 1; omega
  | c0 :: l, i + 1, c, h, j, hj => by
    have ih := flM_get l i c (by simpa using h) j hj
    rw [flM, List.getElem?_append_right (by rw [cs9]; omega), cs9, ← ih]
    congr 1; omega
theorem cm_info : (Try.prog.info? 36).map (fun i => (i.zero, i.size, i.bytes)) = some (some (.agg #[.int .i64 0, .int .i64 0, .int .i64 0, .int .i64 0, .int .i64 0, .int .i64 0, .int .i64 0, .int .i64 0, .bool false]), 9, 72) := by kernel_rfl
theorem cm_info_parts {P : Program} {t : TypeId} {z : Value} {s b : Nat} (h : (P.info? t).map (fun i => (i.zero, i.size, i.bytes)) = some (some z, s, b)) : ∃ i, P.info? t = some i ∧ i.zero = some z ∧ i.size = s ∧ i.bytes = b := by
  cases hi : P.info? t with
  | none => simp [hi] at h
  | some i => simp [hi] at h; exact ⟨i, rfl, h.1, h.2.1, h.2.2⟩
theorem cm_new {W : World} {k : Nat} (hk : k = W.heap.size) (c : Cm) (t : TypeId) : ∀ j u, c.cs.toList[j]? = some u → (W.alloc (.cells c.cs t)).cell? ((⟨k, 0, none⟩ : Addr).add j) = some u := by
  intro j u h
  subst hk
  have e : ((⟨W.heap.size, 0, none⟩ : Addr).add j) = ⟨W.heap.size, j, none⟩ := by
    unfold Addr.add
    split <;> simp_all
  rw [e, (CB.new W t _).cell]
  simpa using h
theorem cm_one (c : Cm) : ∀ u ∈ c.cs.toList, u.oneCell' = true := by
  obtain ⟨c1, c2, c3, c4, c5, c6, c7, c8, c9⟩ := c
  simp [Cm.cs, Value.oneCell']
theorem rowM_form {W : World} {base n : Nat} {v : Value} {xs : List Value} (h : W.ownsRow base 36 9 v n xs) : ∃ a cap, v = .slice a n cap := by
  rcases h.2 with ⟨rfl, rfl⟩ | ⟨g, cap, cur, rfl, _⟩
  · exact ⟨_, _, rfl⟩
  · exact ⟨_, _, rfl⟩
theorem rowM_get {W : World} {base n : Nat} {v : Value} {L : List Cm} (h : W.ownsRow base 36 9 v n (flM L)) {i : Nat} {c : Cm} (hi : L[i]? = some c) : ∃ g cap, v = .slice (some ⟨g, 0, none⟩) n cap ∧ base ≤ g ∧ g < W.heap.size ∧ i < n ∧ cmdC W g (i * 9) c := by
  have hl := h.1
  rw [flM_len] at hl
  have hil : i < L.length := (List.getElem?_eq_some_iff.1 hi).1
  have hlt := h.lt
  rcases h.2 with ⟨_, h0⟩ | ⟨g, cap, cur, rfl, hb, hg, hc, _⟩
  · omega
  · have key : ∀ j, j < 9 → W.cell? ⟨g, i * 9 + j, none⟩ = c.cs.toList[j]? := fun j hj => by
      rw [h.cellAt (i * 9 + j) (by omega)]
      exact flM_get L i c hi j hj
    exact ⟨g, cap, rfl, hb, (hlt g (by simp [Value.ownBlock])).2, by omega, key 0 (by omega), key 1 (by omega), key 2 (by omega), key 3 (by omega), key 4 (by omega), key 5 (by omega), key 6 (by omega), key 7 (by omega), key 8 (by omega)⟩

/-! ### The box of what was put -/
structure PuB (pb : Nat) (L : List Cm) (v : Value) (W : World) : Prop where
  b : CB W pb 50 #[v]
  row : W.ownsRow (pb + 1) 36 9 v L.length (flM L)
theorem PuB.kept {pb : Nat} {L : List Cm} {v : Value} {W W' : World} {S : Nat → Prop} (h : PuB pb L v W) (z : Kept S W W') (hS : ∀ i, S i → i < pb) : PuB pb L v W' := by
  refine ⟨h.b.keptB z (fun e => by have := hS _ e; omega), h.row.1, ?_⟩
  rcases h.row.2 with hn | ⟨g, cap, cur, rfl, hb, hg, rest⟩
  · exact .inl hn
  · exact .inr ⟨g, cap, cur, rfl, hb, (z.block g (Array.getElem?_eq_some_iff.1 hg).1 (fun e => by have := hS _ e; omega)).trans hg, rest⟩
theorem PuB.later {pb : Nat} {L : List Cm} {v : Value} {W W' : World} (h : PuB pb L v W) (k : Below W.heap.size W W') : PuB pb L v W' := h.kept (S := fun _ => False) (Kept.of k) (fun _ e => e.elim)
/-- One more. -/
theorem PuB.grow {pb m : Nat} {L : List Cm} {c : Cm} {v v' : Value} {W w1 : World} {tmp : Obj} (h : PuB pb L v W) (hown : w1.ownsRow (pb + 1) 36 9 v' m (flM L ++ c.cs.toList)) (hm : m = L.length + 1) (hg : (W.alloc tmp).grownBy w1 v.ownBlock) :
    CB w1 pb 50 #[v] ∧ PuB pb (L ++ [c]) v' (w1.setCell ⟨pb, 0, none⟩ v') ∧ Kept (fun i => pb ≤ i) W (w1.setCell ⟨pb, 0, none⟩ v') ∧ pb < w1.heap.size := by
  have hr : ∀ j, v.ownBlock = some j → pb + 1 ≤ j := fun j e => (h.row.lt j e).1
  have hr' : ∀ j, v'.ownBlock = some j → pb + 1 ≤ j := fun j e => (hown.lt j e).1
  have hpl := h.b.lt
  have hsz : W.heap.size + 1 ≤ w1.heap.size := by have := hg.size; simpa using this
  have K1 : ∀ i, i < W.heap.size → v.ownBlock ≠ some i → w1.heap[i]? = W.heap[i]? := fun i h1 h2 => (hg.block i (by simp; omega) h2.symm).trans (Below.heap_alloc W tmp i h1)
  have hb1 : CB w1 pb 50 #[v] := (K1 pb hpl (fun e => by have := hr _ e; omega)).trans h.b
  have hB : Below pb W (w1.setCell ⟨pb, 0, none⟩ v') := (((Below.refl pb W).alloc (by omega) tmp).grown hg (by simp; omega) (fun j e => by have := hr _ e; omega)).setCell (p := ⟨pb, 0, none⟩) (Nat.le_refl _) v'
  refine ⟨hb1, ⟨by have := hb1.set 0 v'; simpa using this, ?_⟩, ⟨hB.os, hB.tape, hB.output, by simp; omega, fun i h1 h2 => hB.block i (by omega)⟩, by omega⟩
  have := hown.kept (grownBy_setCell' w1 pb v') (.inr (fun e => by have := hr' _ e; omega))
  rw [hm] at this
  rw [List.length_append, flM_snoc]
  exact this

/-! ### The rest -/
structure BoolsAt (W : World) (a : Option Addr) (b off : Nat) (ts : List Bool) : Prop where
  len : ts.length ≤ 9223372036854775807
  lt : ts ≠ [] → b < W.heap.size
  at_ : ts ≠ [] → a = some ⟨b, off, none⟩
  cells : ∀ j t, ts[j]? = some t → W.cell? ⟨b, off + j, none⟩ = some (.bool t)
theorem BoolsAt.kept {W W' : World} {a : Option Addr} {b off : Nat} {ts : List Bool} {S : Nat → Prop} (h : BoolsAt W a b off ts) (k : Kept S W W') (hn : ts ≠ [] → ¬ S b) : BoolsAt W' a b off ts :=
  ⟨h.len, fun e => Nat.lt_of_lt_of_le (h.lt e) k.size, h.at_, fun j t ht => by
    have hne : ts ≠ [] := fun e => by rw [e] at ht; simp at ht
    exact (World.cell?_of_block (k.block b (h.lt hne) (hn hne))).trans (h.cells j t ht)⟩
structure OrA (w : World) (p g b : Nat) (a : Option Addr) (B off : Nat) (cs : List Cm) (ta : Option Addr) (tB toff : Nat) (ts : List Bool) (bs : List Nat) (q : Qu) (W : World) : Prop where
  f : FrI w p g b bs q W
  r : CB W w.heap.size 4 #[.bool false]
  c : CmdsAt W a B off cs
  t : BoolsAt W ta tB toff ts
  cl : cs ≠ [] → B < w.heap.size
  tl : ts ≠ [] → tB < w.heap.size
  bl : w.heap.size < b
theorem OrA.kept {w : World} {p g b : Nat} {a : Option Addr} {B off : Nat} {cs : List Cm} {ta : Option Addr} {tB toff : Nat} {ts : List Bool} {bs : List Nat} {q : Qu} {W W' : World} {S : Nat → Prop} (h : OrA w p g b a B off cs ta tB toff ts bs q W) (z : Kept S W W') (hS : ∀ i, S i → w.heap.size < i) (hp : ¬ S p) (hg : ¬ S g) (hb : ¬ S b) : OrA w p g b a B off cs ta tB toff ts bs q W' :=
  ⟨⟨⟨h.f.m.mem.kept z hp hg, h.f.m.p, h.f.m.g, h.f.m.below.trans (z.toBelow h.f.m.below.size (fun i e => by have := hS i e; omega))⟩, h.f.q.keptB z hb⟩, h.r.keptB z (fun e => by have := hS _ e; omega), h.c.kept z (fun hne e => by have := hS _ e; have := h.cl hne; omega), h.t.kept z (fun hne e => by have := hS _ e; have := h.tl hne; omega), h.cl, h.tl, h.bl⟩
theorem OrA.later {w : World} {p g b : Nat} {a : Option Addr} {B off : Nat} {cs : List Cm} {ta : Option Addr} {tB toff : Nat} {ts : List Bool} {bs : List Nat} {q : Qu} {W W' : World} (h : OrA w p g b a B off cs ta tB toff ts bs q W) (k : Below W.heap.size W W') : OrA w p g b a B off cs ta tB toff ts bs q W' :=
  h.kept (S := fun _ => False) (Kept.of k) (fun _ e => e.elim) (fun e => e) (fun e => e) (fun e => e)
theorem OrA.gl {w : World} {p g b : Nat} {a : Option Addr} {B off : Nat} {cs : List Cm} {ta : Option Addr} {tB toff : Nat} {ts : List Bool} {bs : List Nat} {q : Qu} {W : World} (h : OrA w p g b a B off cs ta tB toff ts bs q W) : w.heap.size < g := by
  have h1 := (mem_apart h.f.m.mem h.r (by decide) (by decide)).2
  have := h.f.m.g
  omega
theorem OrA.qm {w : World} {p g b : Nat} {a : Option Addr} {B off : Nat} {cs : List Cm} {ta : Option Addr} {tB toff : Nat} {ts : List Bool} {bs bs' : List Nat} {q q' : Qu} {W W' : World} (h : OrA w p g b a B off cs ta tB toff ts bs q W) (k : QM W p g 700 b bs' q' W') : OrA w p g b a B off cs ta tB toff ts bs' q' W' := by
  have hg := h.gl
  have hb := h.bl
  have hS : ∀ i, (i = g ∨ i = b) → w.heap.size < i := fun i e => by omega
  exact ⟨h.f.qm_ k (by omega), h.r.keptB k.kept (fun e => by have := hS _ e; omega), h.c.kept k.kept (fun hne e => by have := hS _ e; have := h.cl hne; omega), h.t.kept k.kept (fun hne e => by have := hS _ e; have := h.tl hne; omega), h.cl, h.tl, h.bl⟩
theorem OrA.qk {w : World} {p g b : Nat} {a : Option Addr} {B off : Nat} {cs : List Cm} {ta : Option Addr} {tB toff : Nat} {ts : List Bool} {bs : List Nat} {q q' : Qu} {W W' : World} (h : OrA w p g b a B off cs ta tB toff ts bs q W) (k : QK W b q' W') : OrA w p g b a B off cs ta tB toff ts bs q' W' := by
  have hb := h.bl
  exact ⟨h.f.qk k (by omega), h.r.keptB k.kept (fun e => by omega), h.c.kept k.kept (fun hne e => by have := h.cl hne; omega), h.t.kept k.kept (fun hne e => by have := h.tl hne; omega), h.cl, h.tl, h.bl⟩

structure SPut (pb : Nat) (v : Value) (B o : Nat) (c : Cm) (W : World) : Prop where
  b : W.cell? ⟨pb, 0, none⟩ = some v
  m : cmdC W B o c
theorem SPut.of {pb : Nat} {v : Value} {B o : Nat} {c : Cm} {W W' : World} (h : SPut pb v B o c W) (h1 : W'.heap[pb]? = W.heap[pb]?) (h2 : W'.heap[B]? = W.heap[B]?) : SPut pb v B o c W' := ⟨(World.cell?_of_block h1).trans h.b, h.m.kept h2⟩
structure SHd (pb : Nat) (v : Value) (D G o : Nat) (c : Cm) (W : World) : Prop where
  b : W.cell? ⟨pb, 0, none⟩ = some v
  d : cmdC W D 0 c
  r : cmdC W G o c
theorem SHd.of {pb : Nat} {v : Value} {D G o : Nat} {c : Cm} {W W' : World} (h : SHd pb v D G o c W) (h1 : W'.heap[pb]? = W.heap[pb]?) (h2 : W'.heap[D]? = W.heap[D]?) (h3 : W'.heap[G]? = W.heap[G]?) : SHd pb v D G o c W' := ⟨(World.cell?_of_block h1).trans h.b, h.d.kept h2, h.r.kept h3⟩
theorem cmdC_of {W : World} {b : Nat} {c : Cm} (h : CB W b 36 (Cm.cs c)) : cmdC W b 0 c := ⟨h.cell 0, h.cell 1, h.cell 2, h.cell 3, h.cell 4, h.cell 5, h.cell 6, h.cell 7, h.cell 8⟩
/-! ### What the loop knows -/
structure OrP (k g0 : Nat) (bs : List Nat) (q : Qu) (L : List Cm) : Prop where
  lies : Lies bs q
  fair : q.Fair
  each : eachL bs q = (L.drop g0).map fun c => (c, (0 : Int))
  gl : g0 ≤ L.length
  le : L.length ≤ k
theorem OrP.lef {k g0 : Nat} {bs : List Nat} {q : Qu} {L : List Cm} (h : OrP k g0 bs q L) : lefN q = ((L.length - g0 : Nat) : Int) := by
  have := each_len bs q
  rw [h.each] at this
  simp at this
  omega
theorem OrP.more {k g0 : Nat} {bs : List Nat} {q : Qu} {L : List Cm} (h : OrP k g0 bs q L) : OrP (k + 1) g0 bs q L := ⟨h.lies, h.fair, h.each, h.gl, by have := h.le; omega⟩
theorem OrP.put {k g0 : Nat} {bs : List Nat} {q : Qu} {L : List Cm} (h : OrP k g0 bs q L) {c : Cm} (hc : c.Fair) (e : quE bs.length q c = 0) : OrP (k + 1) g0 (quL bs q c) (quQ bs.length q c) (L ++ [c]) ∧ 1 ≤ rooN q := by
  obtain ⟨h1, h2, h3, h4, h5⟩ := h.lies.put e
  refine ⟨⟨h2, quQ_fair c h.fair, ?_, by rw [List.length_append]; have := h.gl; omega, by rw [List.length_append]; have := h.le; simp; omega⟩, h5⟩
  rw [h1, h.each, List.drop_append_of_le_length h.gl, List.map_append]; rfl
theorem OrP.putNo {k g0 : Nat} {bs : List Nat} {q : Qu} {L : List Cm} (h : OrP k g0 bs q L) {c : Cm} (e : quE bs.length q c ≠ 0) : quL bs q c = bs ∧ quQ bs.length q c = q ∧ ((quE bs.length q c = 2 ∧ rooN q < 1) ∨ (quE bs.length q c ≠ 2 ∧ 1 ≤ rooN q)) := by
  obtain ⟨h1, h2⟩ := h.lies.putNo e
  refine ⟨h1, h2, ?_⟩
  rw [h.lies.quE c]
  by_cases hr : rooN q < 1
  · exact .inl ⟨by rw [if_pos hr], hr⟩
  · refine .inr ⟨?_, by omega⟩
    rw [if_neg hr]
    split <;> decide
theorem OrP.pass {k g0 : Nat} {bs : List Nat} {q : Qu} {L : List Cm} (h : OrP k g0 bs q L) (hl : g0 < L.length) : L[g0]? = some (headV bs q) ∧ headE bs q = 0 ∧ passE q = 0 ∧ OrP k (g0 + 1) bs (passQ q) L := by
  have hlf : ¬ lefN q < 1 := by rw [h.lef]; omega
  obtain ⟨h1, h2, h3⟩ := h.lies.pass hlf
  rw [h.each, List.drop_eq_getElem_cons hl, List.map_cons] at h1
  simp only [List.cons.injEq, Prod.mk.injEq] at h1
  obtain ⟨⟨e1, e2⟩, e3⟩ := h1
  exact ⟨by rw [List.getElem?_eq_getElem hl, e1], e2.symm, h3, ⟨h2, passQ_fair h.fair, e3.symm, hl, h.le⟩⟩
theorem OrP.start (e : Nat) : OrP 0 0 (List.replicate 700 0) (frQ e) [] := ⟨(frQ_lies e).1, frQ_fair e, by rw [(frQ_lies e).2.1]; rfl, Nat.le_refl _, Nat.le_refl _⟩

/-! ### The loop behind -/
theorem PuB.keptH {pb B0 : Nat} {L : List Cm} {v : Value} {W W' : World} {S : Nat → Prop} (h : PuB pb L v W) (z : Kept S W W') (hS : ∀ i, S i → B0 ≤ i) (hpb : pb < B0) (hv : ∀ j, v.ownBlock = some j → j < B0) : PuB pb L v W' := by
  refine ⟨h.b.keptB z (fun e => by have := hS _ e; omega), h.row.1, ?_⟩
  rcases h.row.2 with hn | ⟨g, cap, cur, rfl, hb, hg, rest⟩
  · exact .inl hn
  · exact .inr ⟨g, cap, cur, rfl, hb, (z.block g (Array.getElem?_eq_some_iff.1 hg).1 (fun e => by have := hS _ e; have := hv g rfl; omega)).trans hg, rest⟩
structure OrL (w : World) (p g b : Nat) (a : Option Addr) (B off : Nat) (cs : List Cm) (ta : Option Addr) (tB toff : Nat) (ts : List Bool) (bs : List Nat) (q : Qu) (L : List Cm) (v : Value) (kb j : Nat) (W : World) : Prop where
  a : OrA w p g b a B off cs ta tB toff ts bs q W
  p : PuB (b + 1) L v W
  k : CB W kb 3 #[.int .i64 j]
theorem OrL.later {w : World} {p g b : Nat} {a : Option Addr} {B off : Nat} {cs : List Cm} {ta : Option Addr} {tB toff : Nat} {ts : List Bool} {bs : List Nat} {q : Qu} {L : List Cm} {v : Value} {kb j : Nat} {W W' : World} (h : OrL w p g b a B off cs ta tB toff ts bs q L v kb j W) (k : Below W.heap.size W W') : OrL w p g b a B off cs ta tB toff ts bs q L v kb j W' := ⟨h.a.later k, h.p.later k, h.k.below k⟩
theorem OrL.kept {w : World} {p g b : Nat} {a : Option Addr} {B off : Nat} {cs : List Cm} {ta : Option Addr} {tB toff : Nat} {ts : List Bool} {bs : List Nat} {q : Qu} {L : List Cm} {v : Value} {kb j B0 : Nat} {W W' : World} {S : Nat → Prop} (h : OrL w p g b a B off cs ta tB toff ts bs q L v kb j W) (z : Kept S W W') (hS : ∀ i, S i → B0 ≤ i) (hp : p < B0) (hg : g < B0) (hb : b + 1 < B0) (hk : kb < B0) (hv : ∀ j, v.ownBlock = some j → j < B0) : OrL w p g b a B off cs ta tB toff ts bs q L v kb j W' :=
  ⟨h.a.kept z (fun i e => by have := hS _ e; have := h.a.bl; omega) (fun e => by have := hS _ e; omega) (fun e => by have := hS _ e; omega) (fun e => by have := hS _ e; omega), h.p.keptH z hS hb hv, h.k.keptB z (fun e => by have := hS _ e; omega)⟩
theorem ol_abl {w : World} {p g b : Nat} {a : Option Addr} {B off : Nat} {cs : List Cm} {ta : Option Addr} {tB toff : Nat} {ts : List Bool} {bs : List Nat} {q : Qu} {L : List Cm} {v : Value} {kb g0 B0 k0 : Nat} (hp : p < B0) (hg : g < B0) (hb : b + 1 < B0) (hk : kb < B0) (hv : ∀ j, v.ownBlock = some j → j < B0) : AbL B0 k0 (fun (pre : List (Cm × Int)) V => OrL w p g b a B off cs ta tB toff ts bs q L v kb (g0 + pre.length) V) := fun s A A' row hs hgr hr =>
  hs.kept (kept_grown_ hgr) (fun i e => by rcases hr i e with ⟨h1, h2, _⟩ | ⟨h1, h2⟩ <;> omega) hp hg hb hk hv
theorem OrL.inc {w : World} {p g b : Nat} {a : Option Addr} {B off : Nat} {cs : List Cm} {ta : Option Addr} {tB toff : Nat} {ts : List Bool} {bs : List Nat} {q : Qu} {L : List Cm} {v : Value} {kb j : Nat} {W : World} (h : OrL w p g b a B off cs ta tB toff ts bs q L v kb j W) (hp : p < kb) (hg : g < kb) (hb : b + 1 < kb) (hv : ∀ j, v.ownBlock = some j → j < kb) : OrL w p g b a B off cs ta tB toff ts bs q L v kb (j + 1) (W.setCell ⟨kb, 0, none⟩ (.int .i64 ((j : Int) + 1))) := by
  have z := kept_setCell W kb 0 (.int .i64 ((j : Int) + 1))
  exact ⟨h.a.kept z (fun i (e : i = kb) => by have := h.a.bl; omega) (by omega) (by omega) (by omega), h.p.keptH z (fun i (e : i = kb) => by omega) hb hv, by have := h.k.set 0 (.int .i64 ((j : Int) + 1)); simpa using this⟩
structure SEn (kb pb b : Nat) (n : Nat) (v : Value) (q : Qu) (W : World) : Prop where
  k : W.cell? ⟨kb, 0, none⟩ = some (.int .i64 n)
  p : W.cell? ⟨pb, 0, none⟩ = some v
  q : W.cell? ⟨b, 0, none⟩ = some (.int .i64 q.at_) ∧ W.cell? ⟨b, 1, none⟩ = some (.int .i64 q.size) ∧ W.cell? ⟨b, 2, none⟩ = some (.int .i64 q.read) ∧ W.cell? ⟨b, 3, none⟩ = some (.int .i64 q.write)
theorem OrL.sen {w : World} {p g b : Nat} {a : Option Addr} {B off : Nat} {cs : List Cm} {ta : Option Addr} {tB toff : Nat} {ts : List Bool} {bs : List Nat} {q : Qu} {L : List Cm} {v : Value} {kb j : Nat} {W : World} (h : OrL w p g b a B off cs ta tB toff ts bs q L v kb j W) : SEn kb (b + 1) b j v q W := ⟨h.k.cell 0, h.p.b.cell 0, CB.four h.a.f.q⟩

end Go.Proofs.Ytheajnfbphkigaa
