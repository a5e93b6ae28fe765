/-
  The document's queues compared; what alike keeps.
  What alike's loop keeps.
  alike, whole.
-/
import Derived.Test.YtfnokpajendlmaaQjA
import Derived.Test.YtfnokpajendlmaaQjH
import Derived.Test.YtfnokpajendlmaaQuS
namespace Go.Proofs.Ytfnokpajendlmaa
open Go.ChangeShapes Go.WideShapes Go.ChangeAt Go.RowKit
set_option linter.unusedVariables false
set_option linter.unusedSimpArgs false

theorem equal_rq (d : Nat) (a b c e a' b' c' e' : Int) (w : World) : (Op.equalIn (d + 3) 32 (.agg #[.int .i64 a, .int .i64 b, .int .i64 c, .int .i64 e]) (.agg #[.int .i64 a', .int .i64 b', .int .i64 c', .int .i64 e'])).run Try.prog w = .ok (eqQu ⟨a, b, c, e⟩ ⟨a', b', c', e'⟩) w := by
  have hI := fun W => equal_wn d a b a' b' W
  have u4 := Try.underlying3
  have a4 := Try.isAgg3
  have z4 := Try.sizeOf3
  have a5 := Try.isAgg23
  have z5 := Try.sizeOf23
  have hS : Try.prog.underlying 32 = some (.struct (Try.prog.fieldsOf 32)) := by kernel_rfl
  have hp : Try.prog.stoodInHeld 32 = false := by kernel_rfl
  rw [show d + 3 = (d + 2) + 1 from rfl, run_equalIn_agg w (d + 2) _ _ _ hS hp]
  simp only [Program.fieldsOf, Try.underlying32]
  go_simp
  have e0 : eqQu ⟨a, b, c, e⟩ ⟨a', b', c', e'⟩ = (eqWn a b a' b' && (c == c' && e == e')) := rfl
  rw [e0]
  cases eqWn a b a' b' <;> by_cases h1 : c = c' <;> by_cases h2 : e = e' <;> simp [h1, h2]
theorem neq_rq (a b c e a' b' c' e' : Int) (w : World) : (binOp .neq 32 (.agg #[.int .i64 a, .int .i64 b, .int .i64 c, .int .i64 e]) (.agg #[.int .i64 a', .int .i64 b', .int .i64 c', .int .i64 e'])).run Try.prog w = .ok (.bool (!eqQu ⟨a, b, c, e⟩ ⟨a', b', c', e'⟩)) w := by
  rw [run_neq_struct, equal_rq 9997]; rfl
theorem guard_rq (op : BinOp) (x y : Operand) (xs ys : Array Value) (w : World) : (eqGuard op 32 x y (.agg xs) (.agg ys)).run Try.prog w = .ok () w := run_eqGuard_agg w op _ _ _ _ _ (by kernel_rfl)
attribute [local go_sem high] eql_cm neq_cm guard_cm neq_rq guard_rq
attribute [local go_sem] Oper.semAt_some

theorem intsAt_later {W W' : World} {v : Value} {xs : List Int} (h : IntsAt W v xs) (k : Below W.heap.size W W') : IntsAt W' v xs := by
  obtain ⟨a, cap, e, hcap, hc⟩ := h
  exact ⟨a, cap, e, hcap, fun hne => by
    obtain ⟨b, off, e1, h1⟩ := hc hne
    exact ⟨b, off, e1, fun j hj => (k.cell (p := ⟨b, off + j, none⟩) (World.block_lt_of_cell? W _ (h1 j hj))).trans (h1 j hj)⟩⟩
structure AlS (w : World) (p g cap rp h d : Nat) (bs : List Nat) (x : Qu) (W0 : World) (wb : Nat) (xs : List Int) (sa : Option Addr) (scap : Nat) (V : World) : Prop where
  t : Two w p g cap rp h d bs bs V
  q : CB V W0.heap.size 25 (Qu.cs x)
  r : CB V (W0.heap.size + 1) 32 (Qu.cs x)
  n : CB V (W0.heap.size + 2) 29 #[.pointer (some ⟨rp, 0, none⟩)]
  b : CB V (W0.heap.size + 3) 4 #[.bool false]
  s : CB V wb 64 #[.slice sa xs.length scap]
  i : IntsAt V (.slice sa xs.length scap) xs
  below : Below W0.heap.size W0 V
theorem AlS.later {w : World} {p g cap rp h d : Nat} {bs : List Nat} {x : Qu} {W0 : World} {wb : Nat} {xs : List Int} {sa : Option Addr} {scap : Nat} {V V' : World} (s : AlS w p g cap rp h d bs x W0 wb xs sa scap V) (k : Below V.heap.size V V') : AlS w p g cap rp h d bs x W0 wb xs sa scap V' :=
  ⟨s.t.later k, s.q.below k, s.r.below k, s.n.below k, s.b.below k, s.s.below k, intsAt_later s.i k, s.below.trans (k.mono s.below.size)⟩
structure SAl (A wb rp : Nat) (x : Qu) (sv : Value) (V : World) : Prop where
  q : V.cell? ⟨A, 0, none⟩ = some (.int .i64 x.at_) ∧ V.cell? ⟨A, 1, none⟩ = some (.int .i64 x.size) ∧ V.cell? ⟨A, 2, none⟩ = some (.int .i64 x.read) ∧ V.cell? ⟨A, 3, none⟩ = some (.int .i64 x.write)
  r : V.cell? ⟨A + 1, 0, none⟩ = some (.int .i64 x.at_) ∧ V.cell? ⟨A + 1, 1, none⟩ = some (.int .i64 x.size) ∧ V.cell? ⟨A + 1, 2, none⟩ = some (.int .i64 x.read) ∧ V.cell? ⟨A + 1, 3, none⟩ = some (.int .i64 x.write)
  n : V.cell? ⟨A + 2, 0, none⟩ = some (.pointer (some ⟨rp, 0, none⟩))
  s : V.cell? ⟨wb, 0, none⟩ = some sv
theorem AlS.sal {w : World} {p g cap rp h d : Nat} {bs : List Nat} {x : Qu} {W0 : World} {wb : Nat} {xs : List Int} {sa : Option Addr} {scap : Nat} {V : World} (s : AlS w p g cap rp h d bs x W0 wb xs sa scap V) : SAl W0.heap.size wb rp x (.slice sa xs.length scap) V := ⟨CB.four s.q, CB.four s.r, s.n.cell 0, s.s.cell 0⟩

end Go.Proofs.Ytfnokpajendlmaa

namespace Go.Proofs.Ytfnokpajendlmaa
open Go.ChangeShapes Go.WideShapes Go.ChangeAt Go.RowKit
set_option linter.unusedVariables false
set_option linter.unusedSimpArgs false

theorem intsAt_kept {W W' : World} {a : Option Addr} {cap : Nat} {xs : List Int} {P : Nat → Prop} (h : IntsAt W (.slice a xs.length cap) xs) (k : Kept P W W') (hn : xs ≠ [] → ∀ b off, a = some ⟨b, off, none⟩ → ¬ P b) : IntsAt W' (.slice a xs.length cap) xs := by
  obtain ⟨a', cap', e, hcap, hc⟩ := h
  cases e
  exact ⟨a, cap, rfl, hcap, fun hne => by
    obtain ⟨b, off, e1, h1⟩ := hc hne
    exact ⟨b, off, e1, fun j hj => (World.cell?_of_block (k.block b (World.block_lt_of_cell? W _ (h1 j hj)) (hn hne b off e1))).trans (h1 j hj)⟩⟩
theorem intsAt_get {W : World} {a : Option Addr} {cap : Nat} {xs : List Int} (h : IntsAt W (.slice a xs.length cap) xs) (hne : xs ≠ []) : ∃ b off : Nat, a = some ⟨b, off, none⟩ ∧ ∀ j, j < xs.length → W.cell? ⟨b, off + j, none⟩ = some (.int .i64 (xs[j]?.getD 0)) := by
  obtain ⟨a', cap', e, hcap, hc⟩ := h
  cases e
  exact hc hne
/-- What lies below the loop's boxes. -/
structure AlLo (p g rp h wb L : Nat) (W0 : World) (xs : List Int) (sa : Option Addr) : Prop where
  w : W0.heap.size + 3 < L
  wb : wb < L
  p : p < L
  g : g < L
  rp : rp < L
  h : h < L
  i : xs ≠ [] → ∀ b off, sa = some ⟨b, off, none⟩ → b < L
theorem AlS.lo {w : World} {p g cap rp h d : Nat} {bs : List Nat} {x : Qu} {W0 : World} {wb : Nat} {xs : List Int} {sa : Option Addr} {scap : Nat} {V : World} {L : Nat} (s : AlS w p g cap rp h d bs x W0 wb xs sa scap V) (hL : V.heap.size ≤ L) : AlLo p g rp h wb L W0 xs sa :=
  ⟨Nat.lt_of_lt_of_le s.b.lt hL, Nat.lt_of_lt_of_le s.s.lt hL, Nat.lt_of_lt_of_le s.t.mem.plt hL, Nat.lt_of_lt_of_le s.t.mem.bytes.lt hL, Nat.lt_of_lt_of_le s.t.ref.plt hL, Nat.lt_of_lt_of_le s.t.ref.bytes.lt hL, fun hne b off e => by
    obtain ⟨b', off', e1, h1⟩ := intsAt_get s.i hne
    rw [e1] at e
    cases e
    have h0 : 0 < xs.length := List.length_pos_iff.2 hne
    exact Nat.lt_of_lt_of_le (World.block_lt_of_cell? V _ (h1 0 h0)) hL⟩
theorem AlS.kept {w : World} {p g cap rp h d : Nat} {bs : List Nat} {x : Qu} {W0 : World} {wb : Nat} {xs : List Int} {sa : Option Addr} {scap : Nat} {V V' : World} {L : Nat} {P : Nat → Prop} (s : AlS w p g cap rp h d bs x W0 wb xs sa scap V) (lo : AlLo p g rp h wb L W0 xs sa) (k : Kept P V V') (hP : ∀ i, P i → L ≤ i) : AlS w p g cap rp h d bs x W0 wb xs sa scap V' := by
  have hn : ∀ i, i < L → ¬ P i := fun i hi hp => by have := hP i hp; omega
  have h0 := lo.w
  have h1 := lo.p
  have h2 := s.t.lp
  exact ⟨⟨s.t.mem.kept k (hn _ lo.p) (hn _ lo.g), s.t.ref.kept k (hn _ lo.rp) (hn _ lo.h), s.t.below.trans (k.toBelow s.t.sz (fun i e => by have := hP i e; omega)), s.t.lp, s.t.lg, s.t.lq, s.t.lh, s.t.gh, s.t.pq⟩,
    s.q.keptB k (hn _ (by omega)), s.r.keptB k (hn _ (by omega)), s.n.keptB k (hn _ (by omega)), s.b.keptB k (hn _ (by omega)), s.s.keptB k (hn _ lo.wb), intsAt_kept s.i k (fun hne b off e => hn _ (lo.i hne b off e)), s.below.trans (k.toBelow s.below.size (fun i e => by have := hP i e; omega))⟩
/-- In the loop: how many came, how many were wrong. -/
structure AlN (w : World) (p g cap rp h d : Nat) (bs : List Nat) (x : Qu) (W0 : World) (wb : Nat) (xs : List Int) (sa : Option Addr) (scap L n wn : Nat) (V : World) : Prop where
  s : AlS w p g cap rp h d bs x W0 wb xs sa scap V
  k : CB V L 3 #[.int .i64 n]
  n : CB V (L + 1) 3 #[.int .i64 wn]
theorem AlN.later {w : World} {p g cap rp h d : Nat} {bs : List Nat} {x : Qu} {W0 : World} {wb : Nat} {xs : List Int} {sa : Option Addr} {scap L n wn : Nat} {V V' : World} (s : AlN w p g cap rp h d bs x W0 wb xs sa scap L n wn V) (k : Below V.heap.size V V') : AlN w p g cap rp h d bs x W0 wb xs sa scap L n wn V' := ⟨s.s.later k, s.k.below k, s.n.below k⟩
theorem AlN.kept {w : World} {p g cap rp h d : Nat} {bs : List Nat} {x : Qu} {W0 : World} {wb : Nat} {xs : List Int} {sa : Option Addr} {scap L n wn B0 : Nat} {V V' : World} {P : Nat → Prop} (s : AlN w p g cap rp h d bs x W0 wb xs sa scap L n wn V) (lo : AlLo p g rp h wb L W0 xs sa) (k : Kept P V V') (hB : L + 1 < B0) (hP : ∀ i, P i → B0 ≤ i) : AlN w p g cap rp h d bs x W0 wb xs sa scap L n wn V' := by
  have hn : ∀ i, i < B0 → ¬ P i := fun i hi hp => by have := hP i hp; omega
  exact ⟨s.s.kept lo k (fun i e => by have := hP i e; omega), s.k.keptB k (hn _ (by omega)), s.n.keptB k (hn _ (by omega))⟩
theorem AlN.setK {w : World} {p g cap rp h d : Nat} {bs : List Nat} {x : Qu} {W0 : World} {wb : Nat} {xs : List Int} {sa : Option Addr} {scap L n wn : Nat} {V : World} (s : AlN w p g cap rp h d bs x W0 wb xs sa scap L n wn V) (lo : AlLo p g rp h wb L W0 xs sa) : AlN w p g cap rp h d bs x W0 wb xs sa scap L (n + 1) wn (V.setCell ⟨L, 0, none⟩ (.int .i64 ((n : Int) + 1))) := by
  have k := kept_setCell V L 0 (.int .i64 ((n : Int) + 1))
  exact ⟨s.s.kept lo k (fun i e => by omega), by have := s.k.set 0 (.int .i64 ((n : Int) + 1)); simpa using this, s.n.keptB k (by omega)⟩
theorem AlN.setN {w : World} {p g cap rp h d : Nat} {bs : List Nat} {x : Qu} {W0 : World} {wb : Nat} {xs : List Int} {sa : Option Addr} {scap L n wn : Nat} {V : World} (s : AlN w p g cap rp h d bs x W0 wb xs sa scap L n wn V) (lo : AlLo p g rp h wb L W0 xs sa) : AlN w p g cap rp h d bs x W0 wb xs sa scap L n (wn + 1) (V.setCell ⟨L + 1, 0, none⟩ (.int .i64 ((wn : Int) + 1))) := by
  have k := kept_setCell V (L + 1) 0 (.int .i64 ((wn : Int) + 1))
  exact ⟨s.s.kept lo k (fun i e => by omega), s.k.keptB k (by omega), by have := s.n.set 0 (.int .i64 ((wn : Int) + 1)); simpa using this⟩
theorem aln_abl {w : World} {p g cap rp h d : Nat} {bs : List Nat} {x : Qu} {W0 : World} {wb : Nat} {xs : List Int} {sa : Option Addr} {scap L B0 k0 : Nat} (lo : AlLo p g rp h wb L W0 xs sa) (hB : L + 1 < B0) : AbL B0 k0 (fun (pre : List (Cm × Int)) V => AlN w p g cap rp h d bs x W0 wb xs sa scap L pre.length (wrongN pre) V) := fun pre A A' row hs hgr hr =>
  hs.kept lo (kept_grown_ hgr) hB (fun i e => by rcases hr i e with ⟨h1, h2, _⟩ | ⟨h1, h2⟩ <;> omega)
/-- The cells that a round reads ahead of its call. -/
structure SRd (A wb rp L n : Nat) (x : Qu) (sv : Value) (ib io : Nat) (z : Int) (V : World) : Prop where
  r : V.cell? ⟨A + 1, 0, none⟩ = some (.int .i64 x.at_) ∧ V.cell? ⟨A + 1, 1, none⟩ = some (.int .i64 x.size)
  m : V.cell? ⟨A + 2, 0, none⟩ = some (.pointer (some ⟨rp, 0, none⟩))
  s : V.cell? ⟨wb, 0, none⟩ = some sv
  k : V.cell? ⟨L, 0, none⟩ = some (.int .i64 n)
  e : V.cell? ⟨ib, io + n, none⟩ = some (.int .i64 z)
theorem AlN.srd {w : World} {p g cap rp h d : Nat} {bs : List Nat} {x : Qu} {W0 : World} {wb : Nat} {xs : List Int} {ib io scap L n wn : Nat} {z : Int} {V : World} (s : AlN w p g cap rp h d bs x W0 wb xs (some ⟨ib, io, none⟩) scap L n wn V) (hz : xs[n]? = some z) : SRd W0.heap.size wb rp L n x (.slice (some ⟨ib, io, none⟩) xs.length scap) ib io z V :=
  have hl := (List.getElem?_eq_some_iff.1 hz).1
  ⟨⟨s.s.r.cell 0, s.s.r.cell 1⟩, s.s.n.cell 0, s.s.s.cell 0, s.k.cell 0, by
    obtain ⟨b, off, e, h1⟩ := intsAt_get s.s.i (fun e => by rw [e] at hl; simp at hl)
    cases e
    have := h1 n hl
    rwa [hz] at this⟩
/-- The cells that are read behind the loop. -/
structure SEd (A wb L n wn : Nat) (x : Qu) (sv : Value) (V : World) : Prop where
  q : V.cell? ⟨A, 0, none⟩ = some (.int .i64 x.at_) ∧ V.cell? ⟨A, 1, none⟩ = some (.int .i64 x.size) ∧ V.cell? ⟨A, 2, none⟩ = some (.int .i64 x.read) ∧ V.cell? ⟨A, 3, none⟩ = some (.int .i64 x.write)
  s : V.cell? ⟨wb, 0, none⟩ = some sv
  k : V.cell? ⟨L, 0, none⟩ = some (.int .i64 n)
  n : V.cell? ⟨L + 1, 0, none⟩ = some (.int .i64 wn)
theorem AlN.sed {w : World} {p g cap rp h d : Nat} {bs : List Nat} {x : Qu} {W0 : World} {wb : Nat} {xs : List Int} {sa : Option Addr} {scap L n wn : Nat} {V : World} (s : AlN w p g cap rp h d bs x W0 wb xs sa scap L n wn V) : SEd W0.heap.size wb L n wn x (.slice sa xs.length scap) V := ⟨CB.four s.s.q, s.s.s.cell 0, s.k.cell 0, s.n.cell 0⟩
theorem kept_set9 (W : World) (b : Nat) (v0 v1 v2 v3 v4 v5 v6 v7 v8 : Value) : Kept (· = b) W (set9 W b v0 v1 v2 v3 v4 v5 v6 v7 v8) :=
  ((((((((kept_setCell W b 0 v0).trans (kept_setCell _ b 1 v1)).trans (kept_setCell _ b 2 v2)).trans (kept_setCell _ b 3 v3)).trans (kept_setCell _ b 4 v4)).trans (kept_setCell _ b 5 v5)).trans (kept_setCell _ b 6 v6)).trans (kept_setCell _ b 7 v7)).trans (kept_setCell _ b 8 v8)
theorem each_get {bs : List Nat} {x : Qu} {xs : List Int} (hE : eachL bs x = xs.map (ldP2 bs x)) {pre : List (Cm × Int)} {y : Cm × Int} (h : pre ++ [y] <+: eachL bs x) : ∃ z, xs[pre.length]? = some z ∧ y = ldP2 bs x z := by
  obtain ⟨r, hr⟩ := h
  have h1 : (eachL bs x)[pre.length]? = some y := by rw [← hr]; simp
  rw [hE, List.getElem?_map] at h1
  cases hz : xs[pre.length]? with
  | none => rw [hz] at h1; simp at h1
  | some z => rw [hz] at h1; simp at h1; exact ⟨z, rfl, h1.symm⟩
theorem xs_i64 {q : Qu} (hF : q.Fair) : ∀ x ∈ xsR q.size 32 q.read q.write, i64B x := fun x hx => by
  have hss := hF.s.2
  cases hk : okQ q
  · rw [xsR_no hk] at hx; cases hx
  · obtain ⟨h1, h2⟩ := okQ_out hk
    obtain ⟨h3, _⟩ := xs_may h1 h2 hx
    obtain ⟨_, h4, h5, _⟩ := mayB_out h3
    exact ⟨by omega, by omega⟩
end Go.Proofs.Ytfnokpajendlmaa

namespace Go.Proofs.Ytfnokpajendlmaa
open Go.ChangeShapes Go.WideShapes Go.ChangeAt Go.RowKit
set_option linter.unusedVariables false
set_option linter.unusedSimpArgs false

attribute [local go_sem high] eql_cm neq_cm guard_cm neq_rq guard_rq
attribute [local go_sem] Oper.semAt_some

set_option maxRecDepth 100000 in
set_option maxHeartbeats 8000000 in
theorem alike_c : AlikeC := by
  intro w p g cap q h d bs x W hF ht
  have HWT := hi (fun W => rwaits_any x hF.s.2 W)
  have HTD := hi (fun W => told_any x W)
  have HLF := hi (fun W => left_q x hF.s.2 W)
  have HRM := hi (fun W => room_q x hF.s.2 W)
  have HRR := hi (fun W => rroom_any x hF.s.2 W)
  have HSM := hi (fun W hM hR => same_eq p g cap q h d bs W hM hR)
  have HHD := hi (fun W hM => head_any p g cap bs x W hM hF)
  have HRH := hi (fun W hM => rhead_any q h d bs x W hM hF)
  have HEQ := hi (fun V => eachq_any x p V)
  have hxl := xs_len x
  have hqq : eqQu ⟨x.at_, x.size, x.read, x.write⟩ ⟨x.at_, x.size, x.read, x.write⟩ = true := by rw [eqQu_iff]; simp
  obtain ⟨xs, hxs⟩ : ∃ xs, xsR x.size 32 x.read x.write = xs := ⟨_, rfl⟩
  obtain ⟨R, hR⟩ : ∃ R, rooN x = R := ⟨_, rfl⟩
  obtain ⟨hv, hhv⟩ : ∃ v, headV bs x = v := ⟨_, rfl⟩
  obtain ⟨he, hhe⟩ : ∃ v, headE bs x = v := ⟨_, rfl⟩
  rw [hxs] at HWT hxl
  rw [← hxl] at HLF
  clear hxl
  have HI64 := hi (show ∀ z ∈ xs, i64B z from hxs ▸ xs_i64 hF)
  have HEL := hi (show eachL bs x = xs.map (ldP2 bs x) from by rw [each_map, hxs])
  have HWG := hi (fun W hM => wrong_any p g cap bs x W hM hF)
  have HFF := hi hF
  rw [hR] at HRM HRR
  rw [hhv, hhe] at HHD HRH
  have HT := hi ht
  have H0 := hi (show (CB ((((W.alloc (.cells (Qu.cs x) 25)).alloc (.cells (Qu.cs x) 32)).alloc (.cells #[.pointer (some ⟨q, 0, none⟩)] 29)).alloc (.cells #[.bool false] 4)) W.heap.size 25 (Qu.cs x) ∧ CB ((((W.alloc (.cells (Qu.cs x) 25)).alloc (.cells (Qu.cs x) 32)).alloc (.cells #[.pointer (some ⟨q, 0, none⟩)] 29)).alloc (.cells #[.bool false] 4)) (W.heap.size + 1) 32 (Qu.cs x) ∧ CB ((((W.alloc (.cells (Qu.cs x) 25)).alloc (.cells (Qu.cs x) 32)).alloc (.cells #[.pointer (some ⟨q, 0, none⟩)] 29)).alloc (.cells #[.bool false] 4)) (W.heap.size + 2) 29 #[.pointer (some ⟨q, 0, none⟩)] ∧ CB ((((W.alloc (.cells (Qu.cs x) 25)).alloc (.cells (Qu.cs x) 32)).alloc (.cells #[.pointer (some ⟨q, 0, none⟩)] 29)).alloc (.cells #[.bool false] 4)) (W.heap.size + 3) 4 #[.bool false]) ∧ Below W.heap.size W ((((W.alloc (.cells (Qu.cs x) 25)).alloc (.cells (Qu.cs x) 32)).alloc (.cells #[.pointer (some ⟨q, 0, none⟩)] 29)).alloc (.cells #[.bool false] 4)) from
    ⟨⟨(((CB.new W _ _).alloc _).alloc _).alloc _, (cb_second.alloc _).alloc _, cb_third.alloc _, by have := CB.new (((W.alloc (.cells (Qu.cs x) 25)).alloc (.cells (Qu.cs x) 32)).alloc (.cells #[.pointer (some ⟨q, 0, none⟩)] 29)) 4 #[.bool false]; simp only [World.size_alloc] at this; exact this⟩, (bal_three W _ _ _).alloc (by simp <;> omega) _⟩)
  clear ht hR hhv hhe
  obtain ⟨q1, q2, q3, q4⟩ := x
  obtain ⟨v1, v2, v3, v4, v5, v6, v7, v8, v9⟩ := hv
  dsimp only [Qu.v, Cm.v] at HHD HRH HEQ HLF HRM HRR hqq
  (try dsimp only at HTD)
  have qv : eqCm ⟨v1, v2, v3, v4, v5, v6, v7, v8, v9⟩ ⟨v1, v2, v3, v4, v5, v6, v7, v8, v9⟩ = true := by rw [eqCm_iff]; simp
  obtain ⟨a0, a1, a2, a3⟩ := CB.four H0.out.1.2.1
  refine (callsIn_wide (n := 6)).1 ?_
  refine callsIn_of_wp_marks Try.func8 rfl trivial ?_ rfl
  simp only [Try.ntmps8, List.size_toArray, List.length_cons, List.length_nil, Nat.reduceAdd, Nat.reduceSub, Array.replicate_succ, Array.replicate_zero, List.push_toArray, List.append_toArray, List.nil_append, List.cons_append]
  refine wpIn_wide.2 ?_
  go_wp2_with (go_at_call 25; ((with_reducible refine (HWT.out _).mono ?_); rintro e' w1 ⟨sa, scap, rfl, hi1, hb1⟩; have hk1 := hb1.alloc hb1.size (.cells #[.slice sa xs.length scap] 64); have hk0 := H0.out.2.trans (hk1.mono H0.out.2.size); have H1 := hi (show AlS w p g cap q h d bs ⟨q1, q2, q3, q4⟩ W w1.heap.size xs sa scap (w1.alloc (.cells #[.slice sa xs.length scap] 64)) from ⟨HT.out.later hk0, H0.out.1.1.below hk1, H0.out.1.2.1.below hk1, H0.out.1.2.2.1.below hk1, H0.out.1.2.2.2.below hk1, CB.new w1 _ _, intsAt_later hi1 (bal w1 _), hk0⟩); have qf := (CB.new w1 64 #[.slice none 0 0]).frozen; clear hb1 hi1 hk1 hk0 a0 a1 a2 a3))
  refine wp_region_noPanic ?_
  refine wp_region_last_drew (S := (SAl W.heap.size w1.heap.size q ⟨q1, q2, q3, q4⟩ (.slice sa xs.length scap))) [] (by kernel_rfl) (H1.out.later (below_dr _)).sal (fun hHeld => ?_)
  (try simp only [Array.replicate_succ, Array.replicate_zero, List.push_toArray, List.nil_append, List.cons_append])
  refine wpAnyF_take (i := 0) (v := ?_) (by kernel_rfl) (by kernel_rfl) rfl (by kernel_rfl) (by kernel_rfl) (by kernel_rfl) (fun _ _ _ h => h) (Or.inl ⟨by rfl, ?_⟩) (by assumption) ?_
  rotate_left
  · intro w' hSw; (try dsimp only at hSw); have hsq := hSw.q; dsimp only at hsq; clear hSw; obtain ⟨m0, m1, m2, m3⟩ := hsq; go_simp; (try with_reducible rfl)
  (try simp only [Act.put, List.getElem_toArray, List.getElem_cons_zero, List.getElem_cons_succ, List.setIfInBounds_toArray, List.set_cons_zero, List.set_cons_succ])
  refine wpAnyF_take (i := 2) (v := ?_) (by kernel_rfl) (by kernel_rfl) rfl (by kernel_rfl) (by kernel_rfl) (by kernel_rfl) (fun _ _ _ h => h) (Or.inl ⟨by rfl, ?_⟩) (by assumption) ?_
  rotate_left
  · intro w' hSw; (try dsimp only at hSw); have hsq := hSw.r; dsimp only at hsq; clear hSw; obtain ⟨m0, m1, m2, m3⟩ := hsq; go_simp; (try with_reducible rfl)
  (try simp only [Act.put, List.getElem_toArray, List.getElem_cons_zero, List.getElem_cons_succ, List.setIfInBounds_toArray, List.set_cons_zero, List.set_cons_succ])
  refine wpAnyF_ready (rs := [1]) (by kernel_rfl) (by simp) ?_
  refine AllReadyF.cons rfl (fun KK hKK => ?_) AllReadyF.nil
  go_simp
  ((with_reducible refine (HTD.out _).mono ?_); rintro e' w2 ⟨rfl, hbb⟩; have H2 := hi ((H1.out.later (below_dr _)).later hbb); clear hbb)
  (try go_simp)
  refine hKK.out _ _ H2.out.sal (fun hHeld => ?_)
  clear hKK KK
  (try simp only [Act.put, List.getElem_toArray, List.getElem_cons_zero, List.getElem_cons_succ, List.setIfInBounds_toArray, List.set_cons_zero, List.set_cons_succ])
  refine wpAnyF_take (i := 3) (v := ?_) (by kernel_rfl) (by kernel_rfl) rfl (by kernel_rfl) (by kernel_rfl) (by kernel_rfl) (fun _ _ _ h => h) (Or.inl ⟨by rfl, ?_⟩) (by assumption) ?_
  rotate_left
  · intro w' hSw; (try dsimp only at hSw); clear hSw; go_simp; (try with_reducible rfl)
  (try simp only [Act.put, List.getElem_toArray, List.getElem_cons_zero, List.getElem_cons_succ, List.setIfInBounds_toArray, List.set_cons_zero, List.set_cons_succ])
  refine wpAnyF_take (i := 4) (v := ?_) (by kernel_rfl) (by kernel_rfl) rfl (by kernel_rfl) (by kernel_rfl) (by kernel_rfl) (fun _ _ _ h => h) (Or.inl ⟨by rfl, ?_⟩) (by assumption) ?_
  rotate_left
  · intro w' hSw; (try dsimp only at hSw); clear hSw; go_simp; (try with_reducible rfl)
  (try simp only [Act.put, List.getElem_toArray, List.getElem_cons_zero, List.getElem_cons_succ, List.setIfInBounds_toArray, List.set_cons_zero, List.set_cons_succ])
  refine wpAnyF_take (i := 5) (v := ?_) (by kernel_rfl) (by kernel_rfl) rfl (by kernel_rfl) (by kernel_rfl) (by kernel_rfl) (fun _ _ _ h => h) (Or.inl ⟨by rfl, ?_⟩) (by assumption) ?_
  rotate_left
  · intro w' hSw; (try dsimp only at hSw); have hsq := hSw.q; dsimp only at hsq; clear hSw; obtain ⟨m0, m1, m2, m3⟩ := hsq; go_simp; (try with_reducible rfl)
  (try simp only [Act.put, List.getElem_toArray, List.getElem_cons_zero, List.getElem_cons_succ, List.setIfInBounds_toArray, List.set_cons_zero, List.set_cons_succ])
  refine wpAnyF_take (i := 7) (v := ?_) (by kernel_rfl) (by kernel_rfl) rfl (by kernel_rfl) (by kernel_rfl) (by kernel_rfl) (fun _ _ _ h => h) (Or.inl ⟨by rfl, ?_⟩) (by assumption) ?_
  rotate_left
  · intro w' hSw; (try dsimp only at hSw); have hss := hSw.s; clear hSw; go_simp; (try with_reducible rfl)
  (try simp only [Act.put, List.getElem_toArray, List.getElem_cons_zero, List.getElem_cons_succ, List.setIfInBounds_toArray, List.set_cons_zero, List.set_cons_succ])
  refine wpAnyF_take (i := 8) (v := ?_) (by kernel_rfl) (by kernel_rfl) rfl (by kernel_rfl) (by kernel_rfl) (by kernel_rfl) (fun _ _ _ h => h) (Or.inl ⟨by rfl, ?_⟩) (by assumption) ?_
  rotate_left
  · intro w' hSw; (try dsimp only at hSw); clear hSw; go_simp; (try with_reducible rfl)
  (try simp only [Act.put, List.getElem_toArray, List.getElem_cons_zero, List.getElem_cons_succ, List.setIfInBounds_toArray, List.set_cons_zero, List.set_cons_succ])
  refine wpAnyF_ready (rs := [6]) (by kernel_rfl) (by simp) ?_
  refine AllReadyF.cons rfl (fun KK hKK => ?_) AllReadyF.nil
  go_simp
  ((with_reducible refine (HLF.out _).mono ?_); rintro e' w3 ⟨rfl, hbb⟩; have H3 := hi (H2.out.later hbb); clear hbb)
  (try go_simp)
  refine hKK.out _ _ H3.out.sal (fun hHeld => ?_)
  clear hKK KK
  (try simp only [Act.put, List.getElem_toArray, List.getElem_cons_zero, List.getElem_cons_succ, List.setIfInBounds_toArray, List.set_cons_zero, List.set_cons_succ])
  refine wpAnyF_take (i := 9) (v := ?_) (by kernel_rfl) (by kernel_rfl) rfl (by kernel_rfl) (by kernel_rfl) (by kernel_rfl) (fun _ _ _ h => h) (Or.inl ⟨by rfl, ?_⟩) (by assumption) ?_
  rotate_left
  · intro w' hSw; (try dsimp only at hSw); clear hSw; go_simp; (try with_reducible rfl)
  (try simp only [Act.put, List.getElem_toArray, List.getElem_cons_zero, List.getElem_cons_succ, List.setIfInBounds_toArray, List.set_cons_zero, List.set_cons_succ])
  refine wpAnyF_take (i := 10) (v := ?_) (by kernel_rfl) (by kernel_rfl) rfl (by kernel_rfl) (by kernel_rfl) (by kernel_rfl) (fun _ _ _ h => h) (Or.inl ⟨by rfl, ?_⟩) (by assumption) ?_
  rotate_left
  · intro w' hSw; (try dsimp only at hSw); clear hSw; go_simp; (try with_reducible rfl)
  (try simp only [Act.put, List.getElem_toArray, List.getElem_cons_zero, List.getElem_cons_succ, List.setIfInBounds_toArray, List.set_cons_zero, List.set_cons_succ])
  refine wpAnyF_take (i := 11) (v := ?_) (by kernel_rfl) (by kernel_rfl) rfl (by kernel_rfl) (by kernel_rfl) (by kernel_rfl) (fun _ _ _ h => h) (Or.inl ⟨by rfl, ?_⟩) (by assumption) ?_
  rotate_left
  · intro w' hSw; (try dsimp only at hSw); clear hSw; go_simp; (try with_reducible rfl)
  (try simp only [Act.put, List.getElem_toArray, List.getElem_cons_zero, List.getElem_cons_succ, List.setIfInBounds_toArray, List.set_cons_zero, List.set_cons_succ])
  refine wpAnyF_take (i := 12) (v := ?_) (by kernel_rfl) (by kernel_rfl) rfl (by kernel_rfl) (by kernel_rfl) (by kernel_rfl) (fun _ _ _ h => h) (Or.inl ⟨by rfl, ?_⟩) (by assumption) ?_
  rotate_left
  · intro w' hSw; (try dsimp only at hSw); have hsq := hSw.q; dsimp only at hsq; clear hSw; obtain ⟨m0, m1, m2, m3⟩ := hsq; go_simp; (try with_reducible rfl)
  (try simp only [Act.put, List.getElem_toArray, List.getElem_cons_zero, List.getElem_cons_succ, List.setIfInBounds_toArray, List.set_cons_zero, List.set_cons_succ])
  refine wpAnyF_take (i := 14) (v := ?_) (by kernel_rfl) (by kernel_rfl) rfl (by kernel_rfl) (by kernel_rfl) (by kernel_rfl) (fun _ _ _ h => h) (Or.inl ⟨by rfl, ?_⟩) (by assumption) ?_
  rotate_left
  · intro w' hSw; (try dsimp only at hSw); have hsq := hSw.r; dsimp only at hsq; clear hSw; obtain ⟨m0, m1, m2, m3⟩ := hsq; go_simp; (try with_reducible rfl)
  (try simp only [Act.put, List.getElem_toArray, List.getElem_cons_zero, List.getElem_cons_succ, List.setIfInBounds_toArray, List.set_cons_zero, List.set_cons_succ])
  refine wpAnyF_ready (rs := [13]) (by kernel_rfl) (by simp) ?_
  refine AllReadyF.cons rfl (fun KK hKK => ?_) AllReadyF.nil
  go_simp
  ((with_reducible refine (HRM.out _).mono ?_); rintro e' w4 ⟨rfl, hbb⟩; have H4 := hi (H3.out.later hbb); clear hbb)
  (try go_simp)
  refine hKK.out _ _ H4.out.sal (fun hHeld => ?_)
  clear hKK KK
  (try simp only [Act.put, List.getElem_toArray, List.getElem_cons_zero, List.getElem_cons_succ, List.setIfInBounds_toArray, List.set_cons_zero, List.set_cons_succ])
  refine wpAnyF_ready (rs := [15]) (by kernel_rfl) (by simp) ?_
  refine AllReadyF.cons rfl (fun KK hKK => ?_) AllReadyF.nil
  go_simp
  ((with_reducible refine (HRR.out _).mono ?_); rintro e' w5 ⟨rfl, hbb⟩; have H5 := hi (H4.out.later hbb); clear hbb)
  (try go_simp)
  refine hKK.out _ _ H5.out.sal (fun hHeld => ?_)
  clear hKK KK
  (try simp only [Act.put, List.getElem_toArray, List.getElem_cons_zero, List.getElem_cons_succ, List.setIfInBounds_toArray, List.set_cons_zero, List.set_cons_succ])
  refine wpAnyF_take (i := 16) (v := ?_) (by kernel_rfl) (by kernel_rfl) rfl (by kernel_rfl) (by kernel_rfl) (by kernel_rfl) (fun _ _ _ h => h) (Or.inl ⟨by rfl, ?_⟩) (by assumption) ?_
  rotate_left
  · intro w' hSw; (try dsimp only at hSw); clear hSw; go_simp; (try with_reducible rfl)
  (try simp only [Act.put, List.getElem_toArray, List.getElem_cons_zero, List.getElem_cons_succ, List.setIfInBounds_toArray, List.set_cons_zero, List.set_cons_succ])
  refine wpAnyF_take (i := 17) (v := ?_) (by kernel_rfl) (by kernel_rfl) rfl (by kernel_rfl) (by kernel_rfl) (by kernel_rfl) (fun _ _ _ h => h) (Or.inl ⟨by rfl, ?_⟩) (by assumption) ?_
  rotate_left
  · intro w' hSw; (try dsimp only at hSw); clear hSw; go_simp; (try with_reducible rfl)
  (try simp only [Act.put, List.getElem_toArray, List.getElem_cons_zero, List.getElem_cons_succ, List.setIfInBounds_toArray, List.set_cons_zero, List.set_cons_succ])
  refine wpAnyF_take (i := 18) (v := ?_) (by kernel_rfl) (by kernel_rfl) rfl (by kernel_rfl) (by kernel_rfl) (by kernel_rfl) (fun _ _ _ h => h) (Or.inl ⟨by rfl, ?_⟩) (by assumption) ?_
  rotate_left
  · intro w' hSw; (try dsimp only at hSw); clear hSw; go_simp; (try with_reducible rfl)
  (try simp only [Act.put, List.getElem_toArray, List.getElem_cons_zero, List.getElem_cons_succ, List.setIfInBounds_toArray, List.set_cons_zero, List.set_cons_succ])
  refine wpAnyF_take (i := 19) (v := ?_) (by kernel_rfl) (by kernel_rfl) rfl (by kernel_rfl) (by kernel_rfl) (by kernel_rfl) (fun _ _ _ h => h) (Or.inl ⟨by rfl, ?_⟩) (by assumption) ?_
  rotate_left
  · intro w' hSw; (try dsimp only at hSw); clear hSw; go_simp; (try with_reducible rfl)
  (try simp only [Act.put, List.getElem_toArray, List.getElem_cons_zero, List.getElem_cons_succ, List.setIfInBounds_toArray, List.set_cons_zero, List.set_cons_succ])
  refine wpAnyF_take (i := 20) (v := ?_) (by kernel_rfl) (by kernel_rfl) rfl (by kernel_rfl) (by kernel_rfl) (by kernel_rfl) (fun _ _ _ h => h) (Or.inl ⟨by rfl, ?_⟩) (by assumption) ?_
  rotate_left
  · intro w' hSw; (try dsimp only at hSw); have hsn := hSw.n; clear hSw; go_simp; (try with_reducible rfl)
  (try simp only [Act.put, List.getElem_toArray, List.getElem_cons_zero, List.getElem_cons_succ, List.setIfInBounds_toArray, List.set_cons_zero, List.set_cons_succ])
  refine wpAnyF_ready (rs := [21]) (by kernel_rfl) (by simp) ?_
  refine AllReadyF.cons rfl (fun KK hKK => ?_) AllReadyF.nil
  go_simp
  ((with_reducible refine (HSM.out _ H5.out.t.mem H5.out.t.ref).mono ?_); rintro e' w6 ⟨rfl, hbb⟩; have H6 := hi (H5.out.later hbb); clear hbb)
  (try go_simp)
  refine hKK.out _ _ H6.out.sal (fun hHeld => ?_)
  clear hKK KK
  (try simp only [Act.put, List.getElem_toArray, List.getElem_cons_zero, List.getElem_cons_succ, List.setIfInBounds_toArray, List.set_cons_zero, List.set_cons_succ])
  refine wpAnyF_take (i := 22) (v := ?_) (by kernel_rfl) (by kernel_rfl) rfl (by kernel_rfl) (by kernel_rfl) (by kernel_rfl) (fun _ _ _ h => h) (Or.inl ⟨by rfl, ?_⟩) (by assumption) ?_
  rotate_left
  · intro w' hSw; (try dsimp only at hSw); clear hSw; go_simp; (try with_reducible rfl)
  (try simp only [Act.put, List.getElem_toArray, List.getElem_cons_zero, List.getElem_cons_succ, List.setIfInBounds_toArray, List.set_cons_zero, List.set_cons_succ])
  refine wpAnyF_take (i := 23) (v := ?_) (by kernel_rfl) (by kernel_rfl) rfl (by kernel_rfl) (by kernel_rfl) (by kernel_rfl) (fun _ _ _ h => h) (Or.inl ⟨by rfl, ?_⟩) (by assumption) ?_
  rotate_left
  · intro w' hSw; (try dsimp only at hSw); clear hSw; go_simp; (try with_reducible rfl)
  (try simp only [Act.put, List.getElem_toArray, List.getElem_cons_zero, List.getElem_cons_succ, List.setIfInBounds_toArray, List.set_cons_zero, List.set_cons_succ])
  refine wpAnyF_done (by kernel_rfl) ?_ _
  refine NoPanic.normal ?_
  obtain ⟨a0, a1, a2, a3⟩ := CB.four H6.out.q
  go_wp2_with (first
    | (go_at_call 13; ((with_reducible refine (HHD.out _ H6.out.t.mem).mono ?_); rintro e' w7 ⟨rfl, hb7⟩; have hk7 := hb7.alloc hb7.size (.cells #[.int .i64 v1, .int .i64 v2, .int .i64 v3, .int .i64 v4, .int .i64 v5, .int .i64 v6, .int .i64 v7, .int .i64 v8, .bool v9] 36); have H7 := hi (And.intro (H6.out.later hk7) (CB.new w7 36 #[.int .i64 v1, .int .i64 v2, .int .i64 v3, .int .i64 v4, .int .i64 v5, .int .i64 v6, .int .i64 v7, .int .i64 v8, .bool v9])); have qf7 := (CB.new w7 36 #[.int .i64 0, .int .i64 0, .int .i64 0, .int .i64 0, .int .i64 0, .int .i64 0, .int .i64 0, .int .i64 0, .bool false]).frozen; clear hb7 hk7 a0 a1 a2 a3; obtain ⟨b0, b1, b2, b3⟩ := CB.four H7.out.1.r; have n0 := H7.out.1.n.cell 0))
    | (go_at_call 28; ((with_reducible refine (HRH.out _ H7.out.1.t.ref).mono ?_); rintro e' w8 ⟨rfl, hb8⟩; have hk8 := hb8.alloc hb8.size (.cells #[.int .i64 v1, .int .i64 v2, .int .i64 v3, .int .i64 v4, .int .i64 v5, .int .i64 v6, .int .i64 v7, .int .i64 v8, .bool v9] 36); have H8 := hi (And.intro (H7.out.1.later hk8) (And.intro (H7.out.2.below hk8) (CB.new w8 36 #[.int .i64 v1, .int .i64 v2, .int .i64 v3, .int .i64 v4, .int .i64 v5, .int .i64 v6, .int .i64 v7, .int .i64 v8, .bool v9]))); have qf8 := (CB.new w8 36 #[.int .i64 0, .int .i64 0, .int .i64 0, .int .i64 0, .int .i64 0, .int .i64 0, .int .i64 0, .int .i64 0, .bool false]).frozen; clear hb8 hk8 b0 b1 b2 b3 n0; obtain ⟨c0, c1, c2, c3, c4, c5, c6, c7, c8⟩ := CB.nine H8.out.2.1; obtain ⟨d0, d1, d2, d3, d4, d5, d6, d7, d8⟩ := CB.nine H8.out.2.2; have H9 := hi ((H8.out.1.later (bal (w8.alloc (.cells #[.int .i64 v1, .int .i64 v2, .int .i64 v3, .int .i64 v4, .int .i64 v5, .int .i64 v6, .int .i64 v7, .int .i64 v8, .bool v9] 36)) (.cells #[.int .i64 0] 3))).later (bal ((w8.alloc (.cells #[.int .i64 v1, .int .i64 v2, .int .i64 v3, .int .i64 v4, .int .i64 v5, .int .i64 v6, .int .i64 v7, .int .i64 v8, .bool v9] 36)).alloc (.cells #[.int .i64 0] 3)) (.cells #[.int .i64 0] 3))); obtain ⟨a0, a1, a2, a3⟩ := CB.four H9.out.q))
    | (go_at_call 29; ((with_reducible refine (HEQ.out _).mono ?_); rintro e' w9 ⟨rfl, rfl⟩)))
  have hlo := H8.out.1.lo (L := w8.heap.size + 1) (by simp)
  have HLO := hi hlo
  have zl := And.intro hlo.p (And.intro hlo.g (And.intro hlo.rp (And.intro hlo.h (And.intro hlo.w hlo.wb))))
  obtain ⟨V0, hV0⟩ : ∃ V0, (((((w8.alloc (.cells #[.int .i64 v1, .int .i64 v2, .int .i64 v3, .int .i64 v4, .int .i64 v5, .int .i64 v6, .int .i64 v7, .int .i64 v8, .bool v9] 36)).alloc (.cells #[.int .i64 0] 3)).alloc (.cells #[.int .i64 0] 3)).alloc (.cells (Qu.cs ⟨q1, q2, q3, q4⟩) 25)).alloc (.cells #[.pointer (some ⟨p, 0, none⟩)] 28)) = V0 := ⟨_, rfl⟩
  have hz0 : V0.heap.size = w8.heap.size + 6 - 1 := by rw [← hV0]; simp
  have H10 := hi (show AlN w p g cap q h d bs ⟨q1, q2, q3, q4⟩ W w1.heap.size xs sa scap (w8.heap.size + 1) 0 0 V0 by
    rw [← hV0]
    refine ⟨(H9.out.later (bal _ _)).later (bal _ _), ?_, ?_⟩
    · have := (((CB.new (w8.alloc (.cells #[.int .i64 v1, .int .i64 v2, .int .i64 v3, .int .i64 v4, .int .i64 v5, .int .i64 v6, .int .i64 v7, .int .i64 v8, .bool v9] 36)) 3 #[.int .i64 0]).alloc (.cells #[.int .i64 0] 3)).alloc (.cells (Qu.cs ⟨q1, q2, q3, q4⟩) 25)).alloc (.cells #[.pointer (some ⟨p, 0, none⟩)] 28)
      simp only [World.size_alloc] at this
      exact this
    · have := ((CB.new ((w8.alloc (.cells #[.int .i64 v1, .int .i64 v2, .int .i64 v3, .int .i64 v4, .int .i64 v5, .int .i64 v6, .int .i64 v7, .int .i64 v8, .bool v9] 36)).alloc (.cells #[.int .i64 0] 3)) 3 #[.int .i64 0]).alloc (.cells (Qu.cs ⟨q1, q2, q3, q4⟩) 25)).alloc (.cells #[.pointer (some ⟨p, 0, none⟩)] 28)
      simp only [World.size_alloc] at this
      exact this)
  have hst := eachq_stops (w8.heap.size + 3) p g cap bs ⟨q1, q2, q3, q4⟩ HFF.out V0 (by omega) (by rw [← hV0]; have := (CB.new (((w8.alloc (.cells #[.int .i64 v1, .int .i64 v2, .int .i64 v3, .int .i64 v4, .int .i64 v5, .int .i64 v6, .int .i64 v7, .int .i64 v8, .bool v9] 36)).alloc (.cells #[.int .i64 0] 3)).alloc (.cells #[.int .i64 0] 3)) 25 (Qu.cs ⟨q1, q2, q3, q4⟩)).alloc (.cells #[.pointer (some ⟨p, 0, none⟩)] 28); simp only [World.size_alloc] at this; exact this) (by rw [← hV0]; have := CB.new ((((w8.alloc (.cells #[.int .i64 v1, .int .i64 v2, .int .i64 v3, .int .i64 v4, .int .i64 v5, .int .i64 v6, .int .i64 v7, .int .i64 v8, .bool v9] 36)).alloc (.cells #[.int .i64 0] 3)).alloc (.cells #[.int .i64 0] 3)).alloc (.cells (Qu.cs ⟨q1, q2, q3, q4⟩) 25)) 28 #[.pointer (some ⟨p, 0, none⟩)]; simp only [World.size_alloc] at this; exact this) H10.out.s.t.mem
  have HV0 := hi hV0
  have hxm : xs.length ≤ 9223372036854775807 := by
    obtain ⟨a', cap', e, ⟨h1, h2⟩, _⟩ := H10.out.s.i
    unfold maxLen at h2
    omega
  clear hV0
  change Code.wp _ _ _ _ (((((w8.alloc (.cells #[.int .i64 v1, .int .i64 v2, .int .i64 v3, .int .i64 v4, .int .i64 v5, .int .i64 v6, .int .i64 v7, .int .i64 v8, .bool v9] 36)).alloc (.cells #[.int .i64 0] 3)).alloc (.cells #[.int .i64 0] 3)).alloc (.cells (Qu.cs ⟨q1, q2, q3, q4⟩) 25)).alloc (.cells #[.pointer (some ⟨p, 0, none⟩)] 28))
  rw [HV0.out]
  refine (wpIn_wide (n := 6)).1 ?_
  have hEl : (eachL bs ⟨q1, q2, q3, q4⟩).length = xs.length := by rw [HEL.out]; simp
  refine range_win (n := 6) (by omega) (gf := 47) (lb := #[.pointer (some ⟨w8.heap.size + 1 + 1 + 1, 0, none⟩), .pointer (some ⟨w8.heap.size + 1 + 1 + 1 + 1, 0, none⟩)]) rfl (enters_of Try.func47 (by kernel_rfl) rfl)
    hst (fun a b => KpQ.trans a b) (fun W l o o' h1 h2 h3 h4 => ⟨by simp, fun i hi => World.putObj_heap_other (by omega)⟩) (Below.refl _ _) (fun _ => rfl)
    (fun pre V => AlN w p g cap q h d bs ⟨q1, q2, q3, q4⟩ W w1.heap.size xs sa scap (w8.heap.size + 1) pre.length (wrongN pre) V)
    (fun cd pre V => False)
    (aln_abl HLO.out (by omega))
    (fun _ _ _ _ _ hs _ _ => hs)
    H10.out
    (fun x' a' V => (∃ cb, V0.heap.size + 2 + 8 ≤ cb ∧ CB V cb 36 (Cm.cs x'.1) ∧ ∃ (d1 d2 d3 d4 d5 d6 d7 d8 : Int) (d9 : Bool), a' = { tmps := #[(Qu.v ⟨q1, q2, q3, q4⟩), .pointer (some ⟨p, 0, none⟩), (Qu.v ⟨q1, q2, q3, q4⟩), .pointer (some ⟨q, 0, none⟩), .pointer (some ⟨W.heap.size, 0, none⟩), undef, .pointer (some ⟨W.heap.size + 1, 0, none⟩), .pointer (some ⟨W.heap.size + 1 + 1, 0, none⟩), .pointer (some ⟨W.heap.size + 1 + 1 + 1, 0, none⟩), .pointer (some ⟨w1.heap.size, 0, none⟩), .pointer (some ⟨w7.heap.size, 0, none⟩), .int .i64 he, .pointer (some ⟨w8.heap.size, 0, none⟩), .int .i64 he, .pointer (some ⟨w8.heap.size + 1, 0, none⟩), .pointer (some ⟨w8.heap.size + 1 + 1, 0, none⟩), .pointer (some ⟨cb, 0, none⟩), .int .i64 x'.2, undef, undef, .agg #[.int .i64 q1, .int .i64 q2, .int .i64 q3, .int .i64 q4], .slice sa xs.length scap, .agg #[.int .i64 q1, .int .i64 q2, .int .i64 q3, .int .i64 q4], (Qu.v ⟨q1, q2, q3, q4⟩), .agg #[.int .i64 q1, .int .i64 q2, .int .i64 q3, .int .i64 q4], .bool false, .bool false, .agg #[.int .i64 q1, .int .i64 q2, .int .i64 q3, .int .i64 q4], .int .i64 (xs.length : Int), .slice sa xs.length scap, .int .i64 (xs.length : Int), .bool false, .bool false, .bool false, .agg #[.int .i64 q1, .int .i64 q2, .int .i64 q3, .int .i64 q4], .int .i64 R, .agg #[.int .i64 q1, .int .i64 q2, .int .i64 q3, .int .i64 q4], .int .i64 R, .bool false, .bool false, .bool false, .pointer (some ⟨p, 0, none⟩), .pointer (some ⟨q, 0, none⟩), .bool true, .bool false, .bool false, .tuple #[.agg #[.int .i64 v1, .int .i64 v2, .int .i64 v3, .int .i64 v4, .int .i64 v5, .int .i64 v6, .int .i64 v7, .int .i64 v8, .bool v9], .int .i64 he], .agg #[.int .i64 q1, .int .i64 q2, .int .i64 q3, .int .i64 q4], .pointer (some ⟨p, 0, none⟩), .tuple #[.agg #[.int .i64 v1, .int .i64 v2, .int .i64 v3, .int .i64 v4, .int .i64 v5, .int .i64 v6, .int .i64 v7, .int .i64 v8, .bool v9], .int .i64 he], .agg #[.int .i64 v1, .int .i64 v2, .int .i64 v3, .int .i64 v4, .int .i64 v5, .int .i64 v6, .int .i64 v7, .int .i64 v8, .bool v9], .int .i64 he, .tuple #[.agg #[.int .i64 v1, .int .i64 v2, .int .i64 v3, .int .i64 v4, .int .i64 v5, .int .i64 v6, .int .i64 v7, .int .i64 v8, .bool v9], .int .i64 he], .agg #[.int .i64 q1, .int .i64 q2, .int .i64 q3, .int .i64 q4], .pointer (some ⟨q, 0, none⟩), .tuple #[.agg #[.int .i64 v1, .int .i64 v2, .int .i64 v3, .int .i64 v4, .int .i64 v5, .int .i64 v6, .int .i64 v7, .int .i64 v8, .bool v9], .int .i64 he], .agg #[.int .i64 v1, .int .i64 v2, .int .i64 v3, .int .i64 v4, .int .i64 v5, .int .i64 v6, .int .i64 v7, .int .i64 v8, .bool v9], .int .i64 he, .agg #[.int .i64 v1, .int .i64 v2, .int .i64 v3, .int .i64 v4, .int .i64 v5, .int .i64 v6, .int .i64 v7, .int .i64 v8, .bool v9], .agg #[.int .i64 v1, .int .i64 v2, .int .i64 v3, .int .i64 v4, .int .i64 v5, .int .i64 v6, .int .i64 v7, .int .i64 v8, .bool v9], .bool false, .bool false, .int .i64 he, .int .i64 he, .bool false, .bool false, .agg #[.int .i64 q1, .int .i64 q2, .int .i64 q3, .int .i64 q4], .pointer (some ⟨p, 0, none⟩), .func (.func 47) #[] #[.pointer (some ⟨w8.heap.size + 1 + 1 + 1, 0, none⟩), .pointer (some ⟨w8.heap.size + 1 + 1 + 1 + 1, 0, none⟩)], .agg #[.int .i64 d1, .int .i64 d2, .int .i64 d3, .int .i64 d4, .int .i64 d5, .int .i64 d6, .int .i64 d7, .int .i64 d8, .bool d9], .int .i64 x'.2, undef, undef, undef, undef, undef, undef, undef, undef, undef, undef, undef, undef, undef, undef, undef, undef, undef, undef, undef, undef, undef, undef, undef, undef, undef, undef, undef, undef, undef, undef, undef, undef, undef, undef, undef, undef, undef, undef, undef, undef], defers := [] }))
    (fun x' a' s A A' row hs hg hr => by
      obtain ⟨cb, hcb, hc, hd⟩ := hs
      exact ⟨cb, hcb, hc.kept hg (fun e => by rcases hr cb e.symm with ⟨h1, h2, _⟩ | ⟨h1, h2⟩ <;> omega), hd⟩)
    ?assign ?body ?done ?stop
  case assign =>
    rintro l' pre ⟨⟨d1, d2, d3, d4, d5, d6, d7, d8, d9⟩, le⟩ V K h hsz hK
    rw [zip_two]
    have qf := (CB.new V 36 #[.int .i64 0, .int .i64 0, .int .i64 0, .int .i64 0, .int .i64 0, .int .i64 0, .int .i64 0, .int .i64 0, .bool false]).frozen
    have HH := hi h
    clear h
    dsimp only [Cm.v]
    gi_wp2
    exact hK _ _ (KW.of_below (bal V _)) (KpQ.of_below (bal V _) (by omega) (by omega) (by omega) (by omega)) (HH.out.later (bal V _)) ⟨V.heap.size, by omega, CB.new V _ _, d1, d2, d3, d4, d5, d6, d7, d8, d9, rfl⟩
  case body =>
    rintro l' pre ⟨c, le⟩ a' V hsz hW ⟨cb, hcb, hcc, d1, d2, d3, d4, d5, d6, d7, d8, d9, rfl⟩ hpx
    obtain ⟨z, hz, hy⟩ := each_get HEL.out hpx
    have hlb := (List.getElem?_eq_some_iff.1 hz).1
    have hzi := HI64.out z (List.mem_of_getElem? hz)
    obtain ⟨hc1, hc2⟩ : c = ldV bs q1 q2 z ∧ le = ldE bs q1 q2 z := by simpa [ldP2] using hy
    have HLD := hi (fun V hV => rload_any q h d bs q1 q2 z V hV HFF.out.a HFF.out.s hzi)
    rw [← hc1, ← hc2] at HLD
    unfold win at HLD
    obtain ⟨ib, io, hsa, _⟩ := intsAt_get hW.s.i (fun e => by rw [e] at hlb; simp at hlb)
    subst hsa
    have hwl := wrongN_le pre
    have hkl : (pre ++ [(c, le)]).length = pre.length + 1 := by simp
    have hwn := wrongN_snoc pre (c, le)
    dsimp only at hwn hcc
    obtain ⟨n, hn⟩ : ∃ n, pre.length = n := ⟨_, rfl⟩
    obtain ⟨wn, hwne⟩ : ∃ n, wrongN pre = n := ⟨_, rfl⟩
    rw [hn, hwne] at hW hwl
    rw [hn] at hz hlb hkl
    rw [hwne] at hwn
    have HW := hi hW
    have HZ := hi hz
    have HCB := hi hcc
    obtain ⟨c1, c2, c3, c4, c5, c6, c7, c8, c9⟩ := c
    dsimp only [Cm.v] at HLD
    have qc : eqCm ⟨c1, c2, c3, c4, c5, c6, c7, c8, c9⟩ ⟨c1, c2, c3, c4, c5, c6, c7, c8, c9⟩ = true := by rw [eqCm_iff]; simp
    have hge : decide ((xs.length : Int) ≤ (n : Int)) = false := by simp; omega
    have hgn : decide (xs.length ≤ n) = false := by simp; omega
    have HKL := hi (And.intro hkl hwn)
    clear hW hpx hn hwne hcc hc1 hc2 hy hkl hwn hz
    have k0 := HW.out.k.cell 0
    have s0 := HW.out.s.s.cell 0
    gi_wp2
    clear k0 s0
    by_cases hle : le = 0
    · subst hle
      replace HKL := hi (And.intro HKL.out.1 (show wrongN (pre ++ [(⟨c1, c2, c3, c4, c5, c6, c7, c8, c9⟩, 0)]) = wn by simpa using HKL.out.2))
      refine region_last_r (S := (SRd W.heap.size w1.heap.size q (w8.heap.size + 1) n ⟨q1, q2, q3, q4⟩ (.slice (some ⟨ib, io, none⟩) xs.length scap) ib io z)) [13] (by kernel_rfl) (by rfl) ((HW.out.later (below_dr V)).srd HZ.out) (fun hHeld => ?_)
      (try simp only [Array.replicate_succ, Array.replicate_zero, List.push_toArray, List.nil_append, List.cons_append])
      refine wpAnyF_take (i := 0) (v := ?_) (by kernel_rfl) (by kernel_rfl) rfl (by kernel_rfl) (by kernel_rfl) (by kernel_rfl) (fun _ _ _ h => h) (Or.inl ⟨by rfl, ?_⟩) (by assumption) ?_
      rotate_left
      · intro w' hSw; (try dsimp only at hSw); have hss := hSw.m; clear hSw; go_simp; (try with_reducible rfl)
      (try simp only [Act.put, List.getElem_toArray, List.getElem_cons_zero, List.getElem_cons_succ, List.setIfInBounds_toArray, List.set_cons_zero, List.set_cons_succ])
      refine wpAnyF_take (i := 1) (v := ?_) (by kernel_rfl) (by kernel_rfl) rfl (by kernel_rfl) (by kernel_rfl) (by kernel_rfl) (fun _ _ _ h => h) (Or.inl ⟨by rfl, ?_⟩) (by assumption) ?_
      rotate_left
      · intro w' hSw; (try dsimp only at hSw); clear hSw; go_simp; (try with_reducible rfl)
      (try simp only [Act.put, List.getElem_toArray, List.getElem_cons_zero, List.getElem_cons_succ, List.setIfInBounds_toArray, List.set_cons_zero, List.set_cons_succ])
      refine wpAnyF_take (i := 2) (v := ?_) (by kernel_rfl) (by kernel_rfl) rfl (by kernel_rfl) (by kernel_rfl) (by kernel_rfl) (fun _ _ _ h => h) (Or.inl ⟨by rfl, ?_⟩) (by assumption) ?_
      rotate_left
      · intro w' hSw; (try dsimp only at hSw); obtain ⟨m0, m1⟩ := hSw.r; clear hSw; go_simp; (try with_reducible rfl)
      (try simp only [Act.put, List.getElem_toArray, List.getElem_cons_zero, List.getElem_cons_succ, List.setIfInBounds_toArray, List.set_cons_zero, List.set_cons_succ])
      refine wpAnyF_take (i := 3) (v := ?_) (by kernel_rfl) (by kernel_rfl) rfl (by kernel_rfl) (by kernel_rfl) (by kernel_rfl) (fun _ _ _ h => h) (Or.inl ⟨by rfl, ?_⟩) (by assumption) ?_
      rotate_left
      · intro w' hSw; (try dsimp only at hSw); have hss := hSw.s; clear hSw; go_simp; (try with_reducible rfl)
      (try simp only [Act.put, List.getElem_toArray, List.getElem_cons_zero, List.getElem_cons_succ, List.setIfInBounds_toArray, List.set_cons_zero, List.set_cons_succ])
      refine wpAnyF_take (i := 4) (v := ?_) (by kernel_rfl) (by kernel_rfl) rfl (by kernel_rfl) (by kernel_rfl) (by kernel_rfl) (fun _ _ _ h => h) (Or.inl ⟨by rfl, ?_⟩) (by assumption) ?_
      rotate_left
      · intro w' hSw; (try dsimp only at hSw); have hss := hSw.k; clear hSw; go_simp; (try with_reducible rfl)
      (try simp only [Act.put, List.getElem_toArray, List.getElem_cons_zero, List.getElem_cons_succ, List.setIfInBounds_toArray, List.set_cons_zero, List.set_cons_succ])
      refine wpAnyF_take (i := 5) (v := ?_) (by kernel_rfl) (by kernel_rfl) rfl (by kernel_rfl) (by kernel_rfl) (by kernel_rfl) (fun _ _ _ h => h) (Or.inl ⟨by rfl, ?_⟩) (by assumption) ?_
      rotate_left
      · intro w' hSw; (try dsimp only at hSw); clear hSw; go_simp; (try with_reducible rfl)
      (try simp only [Act.put, List.getElem_toArray, List.getElem_cons_zero, List.getElem_cons_succ, List.setIfInBounds_toArray, List.set_cons_zero, List.set_cons_succ])
      refine wpAnyF_take (i := 6) (v := ?_) (by kernel_rfl) (by kernel_rfl) rfl (by kernel_rfl) (by kernel_rfl) (by kernel_rfl) (fun _ _ _ h => h) (Or.inl ⟨by rfl, ?_⟩) (by assumption) ?_
      rotate_left
      · intro w' hSw; (try dsimp only at hSw); have hss := hSw.e; clear hSw; go_simp; (try with_reducible rfl)
      (try simp only [Act.put, List.getElem_toArray, List.getElem_cons_zero, List.getElem_cons_succ, List.setIfInBounds_toArray, List.set_cons_zero, List.set_cons_succ])
      refine wpAnyF_ready (rs := [7, 11]) (by kernel_rfl) (by simp) ?_
      refine (AllReadyF.cons rfl (fun KK hKK => ?_) (AllReadyF.cons rfl (fun KK hKK => ?_) AllReadyF.nil))
      · go_simp
        ((with_reducible refine (HLD.out _ (HW.out.later (below_dr V)).s.t.ref).mono ?_); rintro e' w3 ⟨rfl, hb3⟩; have H3 := hi (And.intro ((HW.out.later (below_dr V)).later hb3) ((below_dr V).trans (hb3.mono (Nat.le_refl _)))); clear hb3)
        (try go_simp)
        refine hKK.out _ _ (H3.out.1.srd HZ.out) (fun hHeld => ?_)
        clear hKK KK
        (try simp only [Act.put, List.getElem_toArray, List.getElem_cons_zero, List.getElem_cons_succ, List.setIfInBounds_toArray, List.set_cons_zero, List.set_cons_succ])
        refine wpAnyF_take (i := 8) (v := ?_) (by kernel_rfl) (by kernel_rfl) rfl (by kernel_rfl) (by kernel_rfl) (by kernel_rfl) (fun _ _ _ h => h) (Or.inl ⟨by rfl, ?_⟩) (by assumption) ?_
        rotate_left
        · intro w' hSw; (try dsimp only at hSw); clear hSw; go_simp; (try with_reducible rfl)
        (try simp only [Act.put, List.getElem_toArray, List.getElem_cons_zero, List.getElem_cons_succ, List.setIfInBounds_toArray, List.set_cons_zero, List.set_cons_succ])
        refine wpAnyF_take (i := 9) (v := ?_) (by kernel_rfl) (by kernel_rfl) rfl (by kernel_rfl) (by kernel_rfl) (by kernel_rfl) (fun _ _ _ h => h) (Or.inl ⟨by rfl, ?_⟩) (by assumption) ?_
        rotate_left
        · intro w' hSw; (try dsimp only at hSw); clear hSw; go_simp; (try with_reducible rfl)
        (try simp only [Act.put, List.getElem_toArray, List.getElem_cons_zero, List.getElem_cons_succ, List.setIfInBounds_toArray, List.set_cons_zero, List.set_cons_succ])
        refine wpAnyF_take (i := 10) (v := ?_) (by kernel_rfl) (by kernel_rfl) rfl (by kernel_rfl) (by kernel_rfl) (by kernel_rfl) (fun _ _ _ h => h) (Or.inl ⟨by rfl, ?_⟩) (by assumption) ?_
        rotate_left
        · intro w' hSw; (try dsimp only at hSw); clear hSw; go_simp; (try with_reducible rfl)
        (try simp only [Act.put, List.getElem_toArray, List.getElem_cons_zero, List.getElem_cons_succ, List.setIfInBounds_toArray, List.set_cons_zero, List.set_cons_succ])
        refine wpAnyF_ready (rs := [11]) (by kernel_rfl) (by simp) ?_
        refine AllReadyF.cons rfl (fun KK hKK => ?_) AllReadyF.nil
        go_simp
        have H4 := hi (And.intro (H3.out.1.later (bal _ (.cells #[.int .i64 0, .int .i64 0, .int .i64 0, .int .i64 0, .int .i64 0, .int .i64 0, .int .i64 0, .int .i64 0, .bool false] 36))) (CB.new w3 36 #[.int .i64 0, .int .i64 0, .int .i64 0, .int .i64 0, .int .i64 0, .int .i64 0, .int .i64 0, .int .i64 0, .bool false]))
        refine hKK.out _ _ (H4.out.1.srd HZ.out) (fun hHeld => ?_)
        clear hKK KK
        (try simp only [Act.put, List.getElem_toArray, List.getElem_cons_zero, List.getElem_cons_succ, List.setIfInBounds_toArray, List.set_cons_zero, List.set_cons_succ])
        refine wpAnyF_ready (rs := [12]) (by kernel_rfl) (by simp) ?_
        refine AllReadyF.cons rfl (fun KK hKK => ?_) AllReadyF.nil
        obtain ⟨y0, y1, y2, y3, y4, y5, y6, y7, y8⟩ := CB.nine H4.out.2
        have yf := H4.out.2.frozen
        have yz := H4.out.2.lt
        go_simp
        have H5 := hi (show AlN w p g cap q h d bs ⟨q1, q2, q3, q4⟩ W w1.heap.size xs (some ⟨ib, io, none⟩) scap (w8.heap.size + 1) n wn (w3.alloc (.cells #[.int .i64 c1, .int .i64 c2, .int .i64 c3, .int .i64 c4, .int .i64 c5, .int .i64 c6, .int .i64 c7, .int .i64 c8, .bool c9] 36)) ∧ CB (w3.alloc (.cells #[.int .i64 c1, .int .i64 c2, .int .i64 c3, .int .i64 c4, .int .i64 c5, .int .i64 c6, .int .i64 c7, .int .i64 c8, .bool c9] 36)) w3.heap.size 36 #[.int .i64 c1, .int .i64 c2, .int .i64 c3, .int .i64 c4, .int .i64 c5, .int .i64 c6, .int .i64 c7, .int .i64 c8, .bool c9] ∧ Below V.heap.size V (w3.alloc (.cells #[.int .i64 c1, .int .i64 c2, .int .i64 c3, .int .i64 c4, .int .i64 c5, .int .i64 c6, .int .i64 c7, .int .i64 c8, .bool c9] 36)) from ⟨H3.out.1.later (bal _ _), CB.new w3 _ _, H3.out.2.trans ((bal w3 _).mono H3.out.2.size)⟩)
        clear y0 y1 y2 y3 y4 y5 y6 y7 y8 yf yz
        refine hKK.out _ _ (H5.out.1.srd HZ.out) (fun hHeld => ?_)
        clear hKK KK
        (try simp only [Act.put, List.getElem_toArray, List.getElem_cons_zero, List.getElem_cons_succ, List.setIfInBounds_toArray, List.set_cons_zero, List.set_cons_succ])
        refine wpAnyF_ready (rs := [13]) (by kernel_rfl) (by simp) ?_
        refine AllReadyF.last (by kernel_rfl) rfl (fun KK hKK => ?_) AllReadyF.nil
        go_simp
        refine hKK.out _ _ ?_
        clear hKK KK
        (try simp only [Act.put, List.getElem_toArray, List.getElem_cons_zero, List.getElem_cons_succ, List.setIfInBounds_toArray, List.set_cons_zero, List.set_cons_succ])
        refine wpAnyF_done (by kernel_rfl) ?_ _
        refine normQ_in ?_
        have HCX := hi (HCB.out.below H5.out.2.2)
        obtain ⟨e0, e1, e2, e3, e4, e5, e6, e7, e8⟩ := CB.nine HCX.out
        obtain ⟨g0, g1, g2, g3, g4, g5, g6, g7, g8⟩ := CB.nine H5.out.2.1
        have k0 := H5.out.1.k.cell 0
        have k1 := H5.out.1.k.frozen
        have k2 := H5.out.1.k.lt
        have n0 := H5.out.1.n.cell 0
        have n1 := H5.out.1.n.frozen
        have n2 := H5.out.1.n.lt
        gi_wp2
        refine ⟨(KW.of_below H5.out.2.2).trans (KW.set _ _ _), (KpQ.of_below H5.out.2.2 (by omega) (by omega) (by omega) (by omega)).trans ⟨by simp, fun i hi => Below.heap_setCell _ ⟨w8.heap.size + 1, 0, none⟩ _ i (show i ≠ w8.heap.size + 1 by omega)⟩, ?_⟩
        dsimp only
        rw [HKL.out.1, HKL.out.2]
        exact H5.out.1.setK HLO.out
      · go_simp
        have H4 := hi (And.intro ((HW.out.later (bal V (.cells #[.int .i64 0, .int .i64 0, .int .i64 0, .int .i64 0, .int .i64 0, .int .i64 0, .int .i64 0, .int .i64 0, .bool false] 36))).later (below_dr _)) (And.intro ((CB.new V 36 #[.int .i64 0, .int .i64 0, .int .i64 0, .int .i64 0, .int .i64 0, .int .i64 0, .int .i64 0, .int .i64 0, .bool false]).below (below_dr _)) ((bal V (.cells #[.int .i64 0, .int .i64 0, .int .i64 0, .int .i64 0, .int .i64 0, .int .i64 0, .int .i64 0, .int .i64 0, .bool false] 36)).trans ((below_dr _).mono (bal V (.cells #[.int .i64 0, .int .i64 0, .int .i64 0, .int .i64 0, .int .i64 0, .int .i64 0, .int .i64 0, .int .i64 0, .bool false] 36)).size))))
        refine hKK.out _ _ (H4.out.1.srd HZ.out) (fun hHeld => ?_)
        clear hKK KK
        (try simp only [Act.put, List.getElem_toArray, List.getElem_cons_zero, List.getElem_cons_succ, List.setIfInBounds_toArray, List.set_cons_zero, List.set_cons_succ])
        refine wpAnyF_ready (rs := [7]) (by kernel_rfl) (by simp) ?_
        refine AllReadyF.cons rfl (fun KK hKK => ?_) AllReadyF.nil
        go_simp
        ((with_reducible refine (HLD.out _ H4.out.1.s.t.ref).mono ?_); rintro e' w3 ⟨rfl, hb3⟩; have H3 := hi (And.intro (H4.out.1.later hb3) (And.intro (H4.out.2.1.below hb3) (H4.out.2.2.trans (hb3.mono H4.out.2.2.size)))); clear hb3)
        (try go_simp)
        refine hKK.out _ _ (H3.out.1.srd HZ.out) (fun hHeld => ?_)
        clear hKK KK
        (try simp only [Act.put, List.getElem_toArray, List.getElem_cons_zero, List.getElem_cons_succ, List.setIfInBounds_toArray, List.set_cons_zero, List.set_cons_succ])
        refine wpAnyF_take (i := 8) (v := ?_) (by kernel_rfl) (by kernel_rfl) rfl (by kernel_rfl) (by kernel_rfl) (by kernel_rfl) (fun _ _ _ h => h) (Or.inl ⟨by rfl, ?_⟩) (by assumption) ?_
        rotate_left
        · intro w' hSw; (try dsimp only at hSw); clear hSw; go_simp; (try with_reducible rfl)
        (try simp only [Act.put, List.getElem_toArray, List.getElem_cons_zero, List.getElem_cons_succ, List.setIfInBounds_toArray, List.set_cons_zero, List.set_cons_succ])
        refine wpAnyF_take (i := 9) (v := ?_) (by kernel_rfl) (by kernel_rfl) rfl (by kernel_rfl) (by kernel_rfl) (by kernel_rfl) (fun _ _ _ h => h) (Or.inl ⟨by rfl, ?_⟩) (by assumption) ?_
        rotate_left
        · intro w' hSw; (try dsimp only at hSw); clear hSw; go_simp; (try with_reducible rfl)
        (try simp only [Act.put, List.getElem_toArray, List.getElem_cons_zero, List.getElem_cons_succ, List.setIfInBounds_toArray, List.set_cons_zero, List.set_cons_succ])
        refine wpAnyF_take (i := 10) (v := ?_) (by kernel_rfl) (by kernel_rfl) rfl (by kernel_rfl) (by kernel_rfl) (by kernel_rfl) (fun _ _ _ h => h) (Or.inl ⟨by rfl, ?_⟩) (by assumption) ?_
        rotate_left
        · intro w' hSw; (try dsimp only at hSw); clear hSw; go_simp; (try with_reducible rfl)
        (try simp only [Act.put, List.getElem_toArray, List.getElem_cons_zero, List.getElem_cons_succ, List.setIfInBounds_toArray, List.set_cons_zero, List.set_cons_succ])
        refine wpAnyF_ready (rs := [12]) (by kernel_rfl) (by simp) ?_
        refine AllReadyF.cons rfl (fun KK hKK => ?_) AllReadyF.nil
        obtain ⟨y0, y1, y2, y3, y4, y5, y6, y7, y8⟩ := CB.nine H3.out.2.1
        have yf := H3.out.2.1.frozen
        have yz := H3.out.2.1.lt
        go_simp
        have H5 := hi (show AlN w p g cap q h d bs ⟨q1, q2, q3, q4⟩ W w1.heap.size xs (some ⟨ib, io, none⟩) scap (w8.heap.size + 1) n wn (set9 w3 V.heap.size (.int .i64 c1) (.int .i64 c2) (.int .i64 c3) (.int .i64 c4) (.int .i64 c5) (.int .i64 c6) (.int .i64 c7) (.int .i64 c8) (.bool c9)) ∧ CB (set9 w3 V.heap.size (.int .i64 c1) (.int .i64 c2) (.int .i64 c3) (.int .i64 c4) (.int .i64 c5) (.int .i64 c6) (.int .i64 c7) (.int .i64 c8) (.bool c9)) V.heap.size 36 #[.int .i64 c1, .int .i64 c2, .int .i64 c3, .int .i64 c4, .int .i64 c5, .int .i64 c6, .int .i64 c7, .int .i64 c8, .bool c9] ∧ Below V.heap.size V (set9 w3 V.heap.size (.int .i64 c1) (.int .i64 c2) (.int .i64 c3) (.int .i64 c4) (.int .i64 c5) (.int .i64 c6) (.int .i64 c7) (.int .i64 c8) (.bool c9)) from ⟨H3.out.1.kept HLO.out (kept_set9 w3 V.heap.size _ _ _ _ _ _ _ _ _) (B0 := V.heap.size) (by omega) (fun i e => by omega), CB.set9 H3.out.2.1 _ _ _ _ _ _ _ _ _, below_set9 H3.out.2.2 (Nat.le_refl _) _ _ _ _ _ _ _ _ _⟩)
        clear y0 y1 y2 y3 y4 y5 y6 y7 y8 yf yz
        refine hKK.out _ _ (H5.out.1.srd HZ.out) (fun hHeld => ?_)
        clear hKK KK
        (try simp only [Act.put, List.getElem_toArray, List.getElem_cons_zero, List.getElem_cons_succ, List.setIfInBounds_toArray, List.set_cons_zero, List.set_cons_succ])
        refine wpAnyF_ready (rs := [13]) (by kernel_rfl) (by simp) ?_
        refine AllReadyF.last (by kernel_rfl) rfl (fun KK hKK => ?_) AllReadyF.nil
        go_simp
        refine hKK.out _ _ ?_
        clear hKK KK
        (try simp only [Act.put, List.getElem_toArray, List.getElem_cons_zero, List.getElem_cons_succ, List.setIfInBounds_toArray, List.set_cons_zero, List.set_cons_succ])
        refine wpAnyF_done (by kernel_rfl) ?_ _
        refine normQ_in ?_
        have HCX := hi (HCB.out.below H5.out.2.2)
        obtain ⟨e0, e1, e2, e3, e4, e5, e6, e7, e8⟩ := CB.nine HCX.out
        obtain ⟨g0, g1, g2, g3, g4, g5, g6, g7, g8⟩ := CB.nine H5.out.2.1
        have k0 := H5.out.1.k.cell 0
        have k1 := H5.out.1.k.frozen
        have k2 := H5.out.1.k.lt
        have n0 := H5.out.1.n.cell 0
        have n1 := H5.out.1.n.frozen
        have n2 := H5.out.1.n.lt
        gi_wp2
        refine ⟨(KW.of_below H5.out.2.2).trans (KW.set _ _ _), (KpQ.of_below H5.out.2.2 (by omega) (by omega) (by omega) (by omega)).trans ⟨by simp, fun i hi => Below.heap_setCell _ ⟨w8.heap.size + 1, 0, none⟩ _ i (show i ≠ w8.heap.size + 1 by omega)⟩, ?_⟩
        dsimp only
        rw [HKL.out.1, HKL.out.2]
        exact H5.out.1.setK HLO.out
    · have hne : (le != 0) = true := by simpa using hle
      replace HKL := hi (And.intro HKL.out.1 (show wrongN (pre ++ [(⟨c1, c2, c3, c4, c5, c6, c7, c8, c9⟩, le)]) = wn + 1 by rw [HKL.out.2, if_pos hne]))
      refine region_last_r (S := (SRd W.heap.size w1.heap.size q (w8.heap.size + 1) n ⟨q1, q2, q3, q4⟩ (.slice (some ⟨ib, io, none⟩) xs.length scap) ib io z)) [13] (by kernel_rfl) (by rfl) ((HW.out.later (below_dr V)).srd HZ.out) (fun hHeld => ?_)
      (try simp only [Array.replicate_succ, Array.replicate_zero, List.push_toArray, List.nil_append, List.cons_append])
      refine wpAnyF_take (i := 0) (v := ?_) (by kernel_rfl) (by kernel_rfl) rfl (by kernel_rfl) (by kernel_rfl) (by kernel_rfl) (fun _ _ _ h => h) (Or.inl ⟨by rfl, ?_⟩) (by assumption) ?_
      rotate_left
      · intro w' hSw; (try dsimp only at hSw); have hss := hSw.m; clear hSw; go_simp; (try with_reducible rfl)
      (try simp only [Act.put, List.getElem_toArray, List.getElem_cons_zero, List.getElem_cons_succ, List.setIfInBounds_toArray, List.set_cons_zero, List.set_cons_succ])
      refine wpAnyF_take (i := 1) (v := ?_) (by kernel_rfl) (by kernel_rfl) rfl (by kernel_rfl) (by kernel_rfl) (by kernel_rfl) (fun _ _ _ h => h) (Or.inl ⟨by rfl, ?_⟩) (by assumption) ?_
      rotate_left
      · intro w' hSw; (try dsimp only at hSw); clear hSw; go_simp; (try with_reducible rfl)
      (try simp only [Act.put, List.getElem_toArray, List.getElem_cons_zero, List.getElem_cons_succ, List.setIfInBounds_toArray, List.set_cons_zero, List.set_cons_succ])
      refine wpAnyF_take (i := 2) (v := ?_) (by kernel_rfl) (by kernel_rfl) rfl (by kernel_rfl) (by kernel_rfl) (by kernel_rfl) (fun _ _ _ h => h) (Or.inl ⟨by rfl, ?_⟩) (by assumption) ?_
      rotate_left
      · intro w' hSw; (try dsimp only at hSw); obtain ⟨m0, m1⟩ := hSw.r; clear hSw; go_simp; (try with_reducible rfl)
      (try simp only [Act.put, List.getElem_toArray, List.getElem_cons_zero, List.getElem_cons_succ, List.setIfInBounds_toArray, List.set_cons_zero, List.set_cons_succ])
      refine wpAnyF_take (i := 3) (v := ?_) (by kernel_rfl) (by kernel_rfl) rfl (by kernel_rfl) (by kernel_rfl) (by kernel_rfl) (fun _ _ _ h => h) (Or.inl ⟨by rfl, ?_⟩) (by assumption) ?_
      rotate_left
      · intro w' hSw; (try dsimp only at hSw); have hss := hSw.s; clear hSw; go_simp; (try with_reducible rfl)
      (try simp only [Act.put, List.getElem_toArray, List.getElem_cons_zero, List.getElem_cons_succ, List.setIfInBounds_toArray, List.set_cons_zero, List.set_cons_succ])
      refine wpAnyF_take (i := 4) (v := ?_) (by kernel_rfl) (by kernel_rfl) rfl (by kernel_rfl) (by kernel_rfl) (by kernel_rfl) (fun _ _ _ h => h) (Or.inl ⟨by rfl, ?_⟩) (by assumption) ?_
      rotate_left
      · intro w' hSw; (try dsimp only at hSw); have hss := hSw.k; clear hSw; go_simp; (try with_reducible rfl)
      (try simp only [Act.put, List.getElem_toArray, List.getElem_cons_zero, List.getElem_cons_succ, List.setIfInBounds_toArray, List.set_cons_zero, List.set_cons_succ])
      refine wpAnyF_take (i := 5) (v := ?_) (by kernel_rfl) (by kernel_rfl) rfl (by kernel_rfl) (by kernel_rfl) (by kernel_rfl) (fun _ _ _ h => h) (Or.inl ⟨by rfl, ?_⟩) (by assumption) ?_
      rotate_left
      · intro w' hSw; (try dsimp only at hSw); clear hSw; go_simp; (try with_reducible rfl)
      (try simp only [Act.put, List.getElem_toArray, List.getElem_cons_zero, List.getElem_cons_succ, List.setIfInBounds_toArray, List.set_cons_zero, List.set_cons_succ])
      refine wpAnyF_take (i := 6) (v := ?_) (by kernel_rfl) (by kernel_rfl) rfl (by kernel_rfl) (by kernel_rfl) (by kernel_rfl) (fun _ _ _ h => h) (Or.inl ⟨by rfl, ?_⟩) (by assumption) ?_
      rotate_left
      · intro w' hSw; (try dsimp only at hSw); have hss := hSw.e; clear hSw; go_simp; (try with_reducible rfl)
      (try simp only [Act.put, List.getElem_toArray, List.getElem_cons_zero, List.getElem_cons_succ, List.setIfInBounds_toArray, List.set_cons_zero, List.set_cons_succ])
      refine wpAnyF_ready (rs := [7, 11]) (by kernel_rfl) (by simp) ?_
      refine (AllReadyF.cons rfl (fun KK hKK => ?_) (AllReadyF.cons rfl (fun KK hKK => ?_) AllReadyF.nil))
      · go_simp
        ((with_reducible refine (HLD.out _ (HW.out.later (below_dr V)).s.t.ref).mono ?_); rintro e' w3 ⟨rfl, hb3⟩; have H3 := hi (And.intro ((HW.out.later (below_dr V)).later hb3) ((below_dr V).trans (hb3.mono (Nat.le_refl _)))); clear hb3)
        (try go_simp)
        refine hKK.out _ _ (H3.out.1.srd HZ.out) (fun hHeld => ?_)
        clear hKK KK
        (try simp only [Act.put, List.getElem_toArray, List.getElem_cons_zero, List.getElem_cons_succ, List.setIfInBounds_toArray, List.set_cons_zero, List.set_cons_succ])
        refine wpAnyF_take (i := 8) (v := ?_) (by kernel_rfl) (by kernel_rfl) rfl (by kernel_rfl) (by kernel_rfl) (by kernel_rfl) (fun _ _ _ h => h) (Or.inl ⟨by rfl, ?_⟩) (by assumption) ?_
        rotate_left
        · intro w' hSw; (try dsimp only at hSw); clear hSw; go_simp; (try with_reducible rfl)
        (try simp only [Act.put, List.getElem_toArray, List.getElem_cons_zero, List.getElem_cons_succ, List.setIfInBounds_toArray, List.set_cons_zero, List.set_cons_succ])
        refine wpAnyF_take (i := 9) (v := ?_) (by kernel_rfl) (by kernel_rfl) rfl (by kernel_rfl) (by kernel_rfl) (by kernel_rfl) (fun _ _ _ h => h) (Or.inl ⟨by rfl, ?_⟩) (by assumption) ?_
        rotate_left
        · intro w' hSw; (try dsimp only at hSw); clear hSw; go_simp; (try with_reducible rfl)
        (try simp only [Act.put, List.getElem_toArray, List.getElem_cons_zero, List.getElem_cons_succ, List.setIfInBounds_toArray, List.set_cons_zero, List.set_cons_succ])
        refine wpAnyF_take (i := 10) (v := ?_) (by kernel_rfl) (by kernel_rfl) rfl (by kernel_rfl) (by kernel_rfl) (by kernel_rfl) (fun _ _ _ h => h) (Or.inl ⟨by rfl, ?_⟩) (by assumption) ?_
        rotate_left
        · intro w' hSw; (try dsimp only at hSw); clear hSw; go_simp; (try with_reducible rfl)
        (try simp only [Act.put, List.getElem_toArray, List.getElem_cons_zero, List.getElem_cons_succ, List.setIfInBounds_toArray, List.set_cons_zero, List.set_cons_succ])
        refine wpAnyF_ready (rs := [11]) (by kernel_rfl) (by simp) ?_
        refine AllReadyF.cons rfl (fun KK hKK => ?_) AllReadyF.nil
        go_simp
        have H4 := hi (And.intro (H3.out.1.later (bal _ (.cells #[.int .i64 0, .int .i64 0, .int .i64 0, .int .i64 0, .int .i64 0, .int .i64 0, .int .i64 0, .int .i64 0, .bool false] 36))) (CB.new w3 36 #[.int .i64 0, .int .i64 0, .int .i64 0, .int .i64 0, .int .i64 0, .int .i64 0, .int .i64 0, .int .i64 0, .bool false]))
        refine hKK.out _ _ (H4.out.1.srd HZ.out) (fun hHeld => ?_)
        clear hKK KK
        (try simp only [Act.put, List.getElem_toArray, List.getElem_cons_zero, List.getElem_cons_succ, List.setIfInBounds_toArray, List.set_cons_zero, List.set_cons_succ])
        refine wpAnyF_ready (rs := [12]) (by kernel_rfl) (by simp) ?_
        refine AllReadyF.cons rfl (fun KK hKK => ?_) AllReadyF.nil
        obtain ⟨y0, y1, y2, y3, y4, y5, y6, y7, y8⟩ := CB.nine H4.out.2
        have yf := H4.out.2.frozen
        have yz := H4.out.2.lt
        go_simp
        have H5 := hi (show AlN w p g cap q h d bs ⟨q1, q2, q3, q4⟩ W w1.heap.size xs (some ⟨ib, io, none⟩) scap (w8.heap.size + 1) n wn (w3.alloc (.cells #[.int .i64 c1, .int .i64 c2, .int .i64 c3, .int .i64 c4, .int .i64 c5, .int .i64 c6, .int .i64 c7, .int .i64 c8, .bool c9] 36)) ∧ CB (w3.alloc (.cells #[.int .i64 c1, .int .i64 c2, .int .i64 c3, .int .i64 c4, .int .i64 c5, .int .i64 c6, .int .i64 c7, .int .i64 c8, .bool c9] 36)) w3.heap.size 36 #[.int .i64 c1, .int .i64 c2, .int .i64 c3, .int .i64 c4, .int .i64 c5, .int .i64 c6, .int .i64 c7, .int .i64 c8, .bool c9] ∧ Below V.heap.size V (w3.alloc (.cells #[.int .i64 c1, .int .i64 c2, .int .i64 c3, .int .i64 c4, .int .i64 c5, .int .i64 c6, .int .i64 c7, .int .i64 c8, .bool c9] 36)) from ⟨H3.out.1.later (bal _ _), CB.new w3 _ _, H3.out.2.trans ((bal w3 _).mono H3.out.2.size)⟩)
        clear y0 y1 y2 y3 y4 y5 y6 y7 y8 yf yz
        refine hKK.out _ _ (H5.out.1.srd HZ.out) (fun hHeld => ?_)
        clear hKK KK
        (try simp only [Act.put, List.getElem_toArray, List.getElem_cons_zero, List.getElem_cons_succ, List.setIfInBounds_toArray, List.set_cons_zero, List.set_cons_succ])
        refine wpAnyF_ready (rs := [13]) (by kernel_rfl) (by simp) ?_
        refine AllReadyF.last (by kernel_rfl) rfl (fun KK hKK => ?_) AllReadyF.nil
        go_simp
        refine hKK.out _ _ ?_
        clear hKK KK
        (try simp only [Act.put, List.getElem_toArray, List.getElem_cons_zero, List.getElem_cons_succ, List.setIfInBounds_toArray, List.set_cons_zero, List.set_cons_succ])
        refine wpAnyF_done (by kernel_rfl) ?_ _
        refine normQ_in ?_
        have HCX := hi (HCB.out.below H5.out.2.2)
        obtain ⟨e0, e1, e2, e3, e4, e5, e6, e7, e8⟩ := CB.nine HCX.out
        obtain ⟨g0, g1, g2, g3, g4, g5, g6, g7, g8⟩ := CB.nine H5.out.2.1
        have k0 := H5.out.1.k.cell 0
        have k1 := H5.out.1.k.frozen
        have k2 := H5.out.1.k.lt
        have n0 := H5.out.1.n.cell 0
        have n1 := H5.out.1.n.frozen
        have n2 := H5.out.1.n.lt
        gi_wp2
        refine ⟨(KW.of_below H5.out.2.2).trans ((KW.set _ _ _).trans (KW.set _ _ _)), (KpQ.of_below H5.out.2.2 (by omega) (by omega) (by omega) (by omega)).trans (KpQ.trans ⟨by simp, fun i hi => Below.heap_setCell _ ⟨w8.heap.size + 1 + 1, 0, none⟩ _ i (show i ≠ w8.heap.size + 1 + 1 by omega)⟩ ⟨by simp, fun i hi => Below.heap_setCell _ ⟨w8.heap.size + 1, 0, none⟩ _ i (show i ≠ w8.heap.size + 1 by omega)⟩), ?_⟩
        dsimp only
        rw [HKL.out.1, HKL.out.2]
        exact (H5.out.1.setN HLO.out).setK HLO.out
      · go_simp
        have H4 := hi (And.intro ((HW.out.later (bal V (.cells #[.int .i64 0, .int .i64 0, .int .i64 0, .int .i64 0, .int .i64 0, .int .i64 0, .int .i64 0, .int .i64 0, .bool false] 36))).later (below_dr _)) (And.intro ((CB.new V 36 #[.int .i64 0, .int .i64 0, .int .i64 0, .int .i64 0, .int .i64 0, .int .i64 0, .int .i64 0, .int .i64 0, .bool false]).below (below_dr _)) ((bal V (.cells #[.int .i64 0, .int .i64 0, .int .i64 0, .int .i64 0, .int .i64 0, .int .i64 0, .int .i64 0, .int .i64 0, .bool false] 36)).trans ((below_dr _).mono (bal V (.cells #[.int .i64 0, .int .i64 0, .int .i64 0, .int .i64 0, .int .i64 0, .int .i64 0, .int .i64 0, .int .i64 0, .bool false] 36)).size))))
        refine hKK.out _ _ (H4.out.1.srd HZ.out) (fun hHeld => ?_)
        clear hKK KK
        (try simp only [Act.put, List.getElem_toArray, List.getElem_cons_zero, List.getElem_cons_succ, List.setIfInBounds_toArray, List.set_cons_zero, List.set_cons_succ])
        refine wpAnyF_ready (rs := [7]) (by kernel_rfl) (by simp) ?_
        refine AllReadyF.cons rfl (fun KK hKK => ?_) AllReadyF.nil
        go_simp
        ((with_reducible refine (HLD.out _ H4.out.1.s.t.ref).mono ?_); rintro e' w3 ⟨rfl, hb3⟩; have H3 := hi (And.intro (H4.out.1.later hb3) (And.intro (H4.out.2.1.below hb3) (H4.out.2.2.trans (hb3.mono H4.out.2.2.size)))); clear hb3)
        (try go_simp)
        refine hKK.out _ _ (H3.out.1.srd HZ.out) (fun hHeld => ?_)
        clear hKK KK
        (try simp only [Act.put, List.getElem_toArray, List.getElem_cons_zero, List.getElem_cons_succ, List.setIfInBounds_toArray, List.set_cons_zero, List.set_cons_succ])
        refine wpAnyF_take (i := 8) (v := ?_) (by kernel_rfl) (by kernel_rfl) rfl (by kernel_rfl) (by kernel_rfl) (by kernel_rfl) (fun _ _ _ h => h) (Or.inl ⟨by rfl, ?_⟩) (by assumption) ?_
        rotate_left
        · intro w' hSw; (try dsimp only at hSw); clear hSw; go_simp; (try with_reducible rfl)
        (try simp only [Act.put, List.getElem_toArray, List.getElem_cons_zero, List.getElem_cons_succ, List.setIfInBounds_toArray, List.set_cons_zero, List.set_cons_succ])
        refine wpAnyF_take (i := 9) (v := ?_) (by kernel_rfl) (by kernel_rfl) rfl (by kernel_rfl) (by kernel_rfl) (by kernel_rfl) (fun _ _ _ h => h) (Or.inl ⟨by rfl, ?_⟩) (by assumption) ?_
        rotate_left
        · intro w' hSw; (try dsimp only at hSw); clear hSw; go_simp; (try with_reducible rfl)
        (try simp only [Act.put, List.getElem_toArray, List.getElem_cons_zero, List.getElem_cons_succ, List.setIfInBounds_toArray, List.set_cons_zero, List.set_cons_succ])
        refine wpAnyF_take (i := 10) (v := ?_) (by kernel_rfl) (by kernel_rfl) rfl (by kernel_rfl) (by kernel_rfl) (by kernel_rfl) (fun _ _ _ h => h) (Or.inl ⟨by rfl, ?_⟩) (by assumption) ?_
        rotate_left
        · intro w' hSw; (try dsimp only at hSw); clear hSw; go_simp; (try with_reducible rfl)
        (try simp only [Act.put, List.getElem_toArray, List.getElem_cons_zero, List.getElem_cons_succ, List.setIfInBounds_toArray, List.set_cons_zero, List.set_cons_succ])
        refine wpAnyF_ready (rs := [12]) (by kernel_rfl) (by simp) ?_
        refine AllReadyF.cons rfl (fun KK hKK => ?_) AllReadyF.nil
        obtain ⟨y0, y1, y2, y3, y4, y5, y6, y7, y8⟩ := CB.nine H3.out.2.1
        have yf := H3.out.2.1.frozen
        have yz := H3.out.2.1.lt
        go_simp
        have H5 := hi (show AlN w p g cap q h d bs ⟨q1, q2, q3, q4⟩ W w1.heap.size xs (some ⟨ib, io, none⟩) scap (w8.heap.size + 1) n wn (set9 w3 V.heap.size (.int .i64 c1) (.int .i64 c2) (.int .i64 c3) (.int .i64 c4) (.int .i64 c5) (.int .i64 c6) (.int .i64 c7) (.int .i64 c8) (.bool c9)) ∧ CB (set9 w3 V.heap.size (.int .i64 c1) (.int .i64 c2) (.int .i64 c3) (.int .i64 c4) (.int .i64 c5) (.int .i64 c6) (.int .i64 c7) (.int .i64 c8) (.bool c9)) V.heap.size 36 #[.int .i64 c1, .int .i64 c2, .int .i64 c3, .int .i64 c4, .int .i64 c5, .int .i64 c6, .int .i64 c7, .int .i64 c8, .bool c9] ∧ Below V.heap.size V (set9 w3 V.heap.size (.int .i64 c1) (.int .i64 c2) (.int .i64 c3) (.int .i64 c4) (.int .i64 c5) (.int .i64 c6) (.int .i64 c7) (.int .i64 c8) (.bool c9)) from ⟨H3.out.1.kept HLO.out (kept_set9 w3 V.heap.size _ _ _ _ _ _ _ _ _) (B0 := V.heap.size) (by omega) (fun i e => by omega), CB.set9 H3.out.2.1 _ _ _ _ _ _ _ _ _, below_set9 H3.out.2.2 (Nat.le_refl _) _ _ _ _ _ _ _ _ _⟩)
        clear y0 y1 y2 y3 y4 y5 y6 y7 y8 yf yz
        refine hKK.out _ _ (H5.out.1.srd HZ.out) (fun hHeld => ?_)
        clear hKK KK
        (try simp only [Act.put, List.getElem_toArray, List.getElem_cons_zero, List.getElem_cons_succ, List.setIfInBounds_toArray, List.set_cons_zero, List.set_cons_succ])
        refine wpAnyF_ready (rs := [13]) (by kernel_rfl) (by simp) ?_
        refine AllReadyF.last (by kernel_rfl) rfl (fun KK hKK => ?_) AllReadyF.nil
        go_simp
        refine hKK.out _ _ ?_
        clear hKK KK
        (try simp only [Act.put, List.getElem_toArray, List.getElem_cons_zero, List.getElem_cons_succ, List.setIfInBounds_toArray, List.set_cons_zero, List.set_cons_succ])
        refine wpAnyF_done (by kernel_rfl) ?_ _
        refine normQ_in ?_
        have HCX := hi (HCB.out.below H5.out.2.2)
        obtain ⟨e0, e1, e2, e3, e4, e5, e6, e7, e8⟩ := CB.nine HCX.out
        obtain ⟨g0, g1, g2, g3, g4, g5, g6, g7, g8⟩ := CB.nine H5.out.2.1
        have k0 := H5.out.1.k.cell 0
        have k1 := H5.out.1.k.frozen
        have k2 := H5.out.1.k.lt
        have n0 := H5.out.1.n.cell 0
        have n1 := H5.out.1.n.frozen
        have n2 := H5.out.1.n.lt
        gi_wp2
        refine ⟨(KW.of_below H5.out.2.2).trans ((KW.set _ _ _).trans (KW.set _ _ _)), (KpQ.of_below H5.out.2.2 (by omega) (by omega) (by omega) (by omega)).trans (KpQ.trans ⟨by simp, fun i hi => Below.heap_setCell _ ⟨w8.heap.size + 1 + 1, 0, none⟩ _ i (show i ≠ w8.heap.size + 1 + 1 by omega)⟩ ⟨by simp, fun i hi => Below.heap_setCell _ ⟨w8.heap.size + 1, 0, none⟩ _ i (show i ≠ w8.heap.size + 1 by omega)⟩), ?_⟩
        dsimp only
        rw [HKL.out.1, HKL.out.2]
        exact (H5.out.1.setN HLO.out).setK HLO.out
  case done =>
    rintro ys V rfl hW hK hs2
    rw [hEl] at hW
    obtain ⟨wq, hwq⟩ : ∃ n, wrongN (eachL bs ⟨q1, q2, q3, q4⟩) = n := ⟨_, rfl⟩
    rw [hwq] at hW HWG
    rw [show V0.heap.size = w8.heap.size + 5 by omega] at hK hs2
    have HW := hi hW
    have HK := hi hK
    clear hW hK hwq hEl
    go_wp2
    refine wp_region_noPanic ?_
    refine wp_region_last_drew (S := (SEd W.heap.size w1.heap.size (w8.heap.size + 1) xs.length wq ⟨q1, q2, q3, q4⟩ (.slice sa xs.length scap))) [11] (by kernel_rfl) (HW.out.later (below_dr V)).sed (fun hHeld => ?_)
    (try simp only [Array.replicate_succ, Array.replicate_zero, List.push_toArray, List.nil_append, List.cons_append])
    have HD := hi (HW.out.later (below_dr V))
    have HKD := hi (show V.drew.heap[w8.heap.size + 5]? = some (.deferred (some [])) from HK.out)
    have hzd : w8.heap.size + 5 < V.drew.heap.size := by show w8.heap.size + 5 < V.heap.size; omega
    refine wpAnyF_take (i := 0) (v := ?_) (by kernel_rfl) (by kernel_rfl) rfl (by kernel_rfl) (by kernel_rfl) (by kernel_rfl) (fun _ _ _ h => h) (Or.inl ⟨by rfl, ?_⟩) (by assumption) ?_
    rotate_left
    · intro w' hSw; (try dsimp only at hSw); have hss := hSw.k; clear hSw; go_simp; (try with_reducible rfl)
    (try simp only [Act.put, List.getElem_toArray, List.getElem_cons_zero, List.getElem_cons_succ, List.setIfInBounds_toArray, List.set_cons_zero, List.set_cons_succ])
    refine wpAnyF_take (i := 1) (v := ?_) (by kernel_rfl) (by kernel_rfl) rfl (by kernel_rfl) (by kernel_rfl) (by kernel_rfl) (fun _ _ _ h => h) (Or.inl ⟨by rfl, ?_⟩) (by assumption) ?_
    rotate_left
    · intro w' hSw; (try dsimp only at hSw); have hss := hSw.s; clear hSw; go_simp; (try with_reducible rfl)
    (try simp only [Act.put, List.getElem_toArray, List.getElem_cons_zero, List.getElem_cons_succ, List.setIfInBounds_toArray, List.set_cons_zero, List.set_cons_succ])
    refine wpAnyF_take (i := 2) (v := ?_) (by kernel_rfl) (by kernel_rfl) rfl (by kernel_rfl) (by kernel_rfl) (by kernel_rfl) (fun _ _ _ h => h) (Or.inl ⟨by rfl, ?_⟩) (by assumption) ?_
    rotate_left
    · intro w' hSw; (try dsimp only at hSw); clear hSw; go_simp; (try with_reducible rfl)
    (try simp only [Act.put, List.getElem_toArray, List.getElem_cons_zero, List.getElem_cons_succ, List.setIfInBounds_toArray, List.set_cons_zero, List.set_cons_succ])
    refine wpAnyF_take (i := 3) (v := ?_) (by kernel_rfl) (by kernel_rfl) rfl (by kernel_rfl) (by kernel_rfl) (by kernel_rfl) (fun _ _ _ h => h) (Or.inl ⟨by rfl, ?_⟩) (by assumption) ?_
    rotate_left
    · intro w' hSw; (try dsimp only at hSw); clear hSw; go_simp; (try with_reducible rfl)
    (try simp only [Act.put, List.getElem_toArray, List.getElem_cons_zero, List.getElem_cons_succ, List.setIfInBounds_toArray, List.set_cons_zero, List.set_cons_succ])
    refine wpAnyF_take (i := 4) (v := ?_) (by kernel_rfl) (by kernel_rfl) rfl (by kernel_rfl) (by kernel_rfl) (by kernel_rfl) (fun _ _ _ h => h) (Or.inl ⟨by rfl, ?_⟩) (by assumption) ?_
    rotate_left
    · intro w' hSw; (try dsimp only at hSw); clear hSw; go_simp; (try with_reducible rfl)
    (try simp only [Act.put, List.getElem_toArray, List.getElem_cons_zero, List.getElem_cons_succ, List.setIfInBounds_toArray, List.set_cons_zero, List.set_cons_succ])
    refine wpAnyF_take (i := 5) (v := ?_) (by kernel_rfl) (by kernel_rfl) rfl (by kernel_rfl) (by kernel_rfl) (by kernel_rfl) (fun _ _ _ h => h) (Or.inl ⟨by rfl, ?_⟩) (by assumption) ?_
    rotate_left
    · intro w' hSw; (try dsimp only at hSw); have hsq := hSw.q; dsimp only at hsq; clear hSw; obtain ⟨m0, m1, m2, m3⟩ := hsq; go_simp; (try with_reducible rfl)
    (try simp only [Act.put, List.getElem_toArray, List.getElem_cons_zero, List.getElem_cons_succ, List.setIfInBounds_toArray, List.set_cons_zero, List.set_cons_succ])
    refine wpAnyF_take (i := 6) (v := ?_) (by kernel_rfl) (by kernel_rfl) rfl (by kernel_rfl) (by kernel_rfl) (by kernel_rfl) (fun _ _ _ h => h) (Or.inl ⟨by rfl, ?_⟩) (by assumption) ?_
    rotate_left
    · intro w' hSw; (try dsimp only at hSw); clear hSw; go_simp; (try with_reducible rfl)
    (try simp only [Act.put, List.getElem_toArray, List.getElem_cons_zero, List.getElem_cons_succ, List.setIfInBounds_toArray, List.set_cons_zero, List.set_cons_succ])
    refine wpAnyF_take (i := 8) (v := ?_) (by kernel_rfl) (by kernel_rfl) rfl (by kernel_rfl) (by kernel_rfl) (by kernel_rfl) (fun _ _ _ h => h) (Or.inl ⟨by rfl, ?_⟩) (by assumption) ?_
    rotate_left
    · intro w' hSw; (try dsimp only at hSw); have hss := hSw.n; clear hSw; go_simp; (try with_reducible rfl)
    (try simp only [Act.put, List.getElem_toArray, List.getElem_cons_zero, List.getElem_cons_succ, List.setIfInBounds_toArray, List.set_cons_zero, List.set_cons_succ])
    refine wpAnyF_ready (rs := [7]) (by kernel_rfl) (by simp) ?_
    refine AllReadyF.cons rfl (fun KK hKK => ?_) AllReadyF.nil
    go_simp
    ((with_reducible refine (HWG.out _ HD.out.s.t.mem).mono ?_); rintro e' w4 ⟨rfl, hb4⟩; have H4 := hi (HD.out.later hb4); have HK4 := hi ((hb4.block (w8.heap.size + 5) (by omega)).trans HKD.out); clear hb4)
    (try go_simp)
    refine hKK.out _ _ H4.out.sed (fun hHeld => ?_)
    clear hKK KK
    (try simp only [Act.put, List.getElem_toArray, List.getElem_cons_zero, List.getElem_cons_succ, List.setIfInBounds_toArray, List.set_cons_zero, List.set_cons_succ])
    refine wpAnyF_take (i := 9) (v := ?_) (by kernel_rfl) (by kernel_rfl) rfl (by kernel_rfl) (by kernel_rfl) (by kernel_rfl) (fun _ _ _ h => h) (Or.inl ⟨by rfl, ?_⟩) (by assumption) ?_
    rotate_left
    · intro w' hSw; (try dsimp only at hSw); clear hSw; go_simp; (try with_reducible rfl)
    (try simp only [Act.put, List.getElem_toArray, List.getElem_cons_zero, List.getElem_cons_succ, List.setIfInBounds_toArray, List.set_cons_zero, List.set_cons_succ])
    refine wpAnyF_take (i := 10) (v := ?_) (by kernel_rfl) (by kernel_rfl) rfl (by kernel_rfl) (by kernel_rfl) (by kernel_rfl) (fun _ _ _ h => h) (Or.inl ⟨by rfl, ?_⟩) (by assumption) ?_
    rotate_left
    · intro w' hSw; (try dsimp only at hSw); clear hSw; go_simp; (try with_reducible rfl)
    (try simp only [Act.put, List.getElem_toArray, List.getElem_cons_zero, List.getElem_cons_succ, List.setIfInBounds_toArray, List.set_cons_zero, List.set_cons_succ])
    refine wpAnyF_ready (rs := [11]) (by kernel_rfl) (by simp) ?_
    refine AllReadyF.last (by kernel_rfl) rfl (fun KK hKK => ?_) AllReadyF.nil
    have g2 : w4.cell? ⟨W.heap.size + 1 + 1 + 1, 0, none⟩ = some (.bool false) := H4.out.s.b.cell 0
    have rf := H4.out.s.b.frozen
    have rz := H4.out.s.b.lt
    go_simp
    refine hKK.out _ _ ?_
    clear hKK KK
    (try simp only [Act.put, List.getElem_toArray, List.getElem_cons_zero, List.getElem_cons_succ, List.setIfInBounds_toArray, List.set_cons_zero, List.set_cons_succ])
    refine wpAnyF_done (by kernel_rfl) ?_ _
    refine NoPanic.normal ?_
    have hc9 : CB (w4.setCell ⟨W.heap.size + 3, 0, none⟩ (.bool true)) (W.heap.size + 3) 4 #[.bool true] := by have := H4.out.s.b.set 0 (.bool true); simpa using this
    have hb9 : Below W.heap.size W (w4.setCell ⟨W.heap.size + 3, 0, none⟩ (.bool true)) := below_set H4.out.s.below (by show W.heap.size ≤ W.heap.size + 3; omega) _
    have hkk : (w4.setCell ⟨W.heap.size + 3, 0, none⟩ (.bool true)).heap[w8.heap.size + 5]? = some (.deferred (some [])) := (Below.heap_setCell w4 ⟨W.heap.size + 3, 0, none⟩ (.bool true) (w8.heap.size + 5) (by show w8.heap.size + 5 ≠ W.heap.size + 3; omega)).trans HK4.out
    go_wp2
    refine ⟨by simp, .inl ⟨_, _, rfl, run_takeDeferred hkk, ?_⟩⟩
    exact ⟨_, results_b rfl _ _ (W.heap.size + 3) (.bool true) rfl ((World.putObj_heap_other (by omega)).trans hc9), rfl, below_put hb9 _ (by have := H4.out.s.below.size; simpa using this) (by omega)⟩
  case stop =>
    rintro cd pre V hpre hf
    exact hf.elim

end Go.Proofs.Ytfnokpajendlmaa
