/-
  What each call does to both sides.
-/
import Derived.Test.YtobhdjepfhbgaaaDoorLrA
namespace Go.Proofs.YtobhdjepfhbgaaaDoor
open Go.ChangeShapes Go.WideShapes Go.ChangeAt Go.RowKit Go.Shelf
set_option linter.unusedVariables false
set_option linter.unusedSimpArgs false

theorem enable_pr {w0 : World} {N : Nat → Prop} {p q l0 l1 d0 d1 : Nat} {t td : Tw} {W : World} (h : PrX w0 N p q l0 l1 d0 d1 t td W) (ok : t.x.Ok t.bs.length) : Calls Tryd.prog 35 #[.pointer (some ⟨l0, 0, none⟩), .pointer (some ⟨p, 0, none⟩)] W fun e W' => (∃ v, e = .returned v) ∧ PrX w0 N p q l0 l1 d0 d1 ⟨(enS t.bs t.x).1, (enS t.bs t.x).2, t.y⟩ td W' ∧ NK N W W' := by
  obtain ⟨s, c, cap, S, g, cp, hL, hM, hgc, hg0, fin⟩ := h.openA
  refine (enable_lpi l0 s c cap p g cp S t.x t.bs ok W hL hM hgc).mono ?_
  rintro e W' ⟨he, ⟨S', h1⟩, h2, h3⟩
  exact ⟨he, fin W' s S' _ _ h1 h2 (.inl rfl) h3⟩
theorem disable_pr {w0 : World} {N : Nat → Prop} {p q l0 l1 d0 d1 : Nat} {t td : Tw} {W : World} (h : PrX w0 N p q l0 l1 d0 d1 t td W) (ok : t.x.Ok t.bs.length) : Calls Tryd.prog 14 #[.pointer (some ⟨l0, 0, none⟩), .pointer (some ⟨p, 0, none⟩)] W fun e W' => (∃ v, e = .returned v) ∧ PrX w0 N p q l0 l1 d0 d1 ⟨(disS t.bs t.x).1, (disS t.bs t.x).2, t.y⟩ td W' ∧ NK N W W' := by
  obtain ⟨s, c, cap, S, g, cp, hL, hM, hgc, hg0, fin⟩ := h.openA
  cases hon : t.x.on
  · refine (disable_off l0 s c cap p g cp S t.x t.bs hon W hL hM).mono ?_
    rintro e W' ⟨he, h1, h2, h3⟩
    exact ⟨he, fin W' s S _ _ h1 h2 (.inl rfl) (Kept.of h3)⟩
  · refine (disable_on l0 s c cap p g cp S t.x t.bs ok hon W h.tab hL hM hgc hg0).mono ?_
    rintro e W' ⟨he, ⟨s', hs, h1⟩, h2, h3⟩
    exact ⟨he, fin W' s' S0 _ _ h1 h2 (.inr hs) (h3.mono (fun b e => e.elim .inl (fun e => .inr (.inr (.inr e)))))⟩
theorem set_pr {w0 : World} {N : Nat → Prop} {p q l0 l1 d0 d1 : Nat} {t td : Tw} {W : World} (h : PrX w0 N p q l0 l1 d0 d1 t td W) (ok : t.x.Ok t.bs.length) (id : Int) (is : Bool) : Calls Tryd.prog 13 #[.pointer (some ⟨l0, 0, none⟩), .pointer (some ⟨p, 0, none⟩), .int .i64 id, .bool is] W fun e W' => e = .returned (.tuple #[.bool (hasV t.bs t.x id), .int .i64 (errL t.x id)]) ∧ PrX w0 N p q l0 l1 d0 d1 ⟨(setV t.bs t.x id is).1, (setV t.bs t.x id is).2, t.y⟩ td W' ∧ NK N W W' := by
  obtain ⟨s, c, cap, S, g, cp, hL, hM, hgc, hg0, fin⟩ := h.openA
  refine (set_lpi l0 s c cap p g cp S t.x t.bs ok id is W hL hM hgc).mono ?_
  rintro e W' ⟨he, ⟨⟨S', h1⟩, h2, h3⟩⟩
  exact ⟨he, fin W' s S' _ _ h1 h2 (.inl rfl) (h3.mono (fun b e => e.elim (fun e => .inr (.inl e)) (fun e => .inr (.inr (.inr e)))))⟩
theorem inv_pr {w0 : World} {N : Nat → Prop} {p q l0 l1 d0 d1 : Nat} {t td : Tw} {W : World} (h : PrX w0 N p q l0 l1 d0 d1 t td W) (ok : t.x.Ok t.bs.length) (id : Int) : Calls Tryd.prog 33 #[.pointer (some ⟨l0, 0, none⟩), .pointer (some ⟨p, 0, none⟩), .int .i64 id] W fun e W' => e = .returned (.int .i64 (errL t.x id)) ∧ PrX w0 N p q l0 l1 d0 d1 ⟨t.bs, invV t.bs t.x id, t.y⟩ td W' ∧ NK N W W' := by
  obtain ⟨s, c, cap, S, g, cp, hL, hM, hgc, hg0, fin⟩ := h.openA
  have ha := (hL.apart hM).2.2.2.1
  refine (inv_lpi l0 s c cap p g cp S t.x t.bs ok id W hL hM).mono ?_
  rintro e W' ⟨he, h1, h3⟩
  exact ⟨he, fin W' s S _ _ h1 (hM.kept h3 ha hgc) (.inl rfl) (h3.mono (fun b e => .inr (.inr (.inl e))))⟩
theorem invAll_pr {w0 : World} {N : Nat → Prop} {p q l0 l1 d0 d1 : Nat} {t td : Tw} {W : World} (h : PrX w0 N p q l0 l1 d0 d1 t td W) (ok : t.x.Ok t.bs.length) : Calls Tryd.prog 15 #[.pointer (some ⟨l0, 0, none⟩), .pointer (some ⟨p, 0, none⟩)] W fun e W' => (∃ v, e = .returned v) ∧ PrX w0 N p q l0 l1 d0 d1 ⟨t.bs, invTo t.bs t.x t.x.n, t.y⟩ td W' ∧ NK N W W' := by
  obtain ⟨s, c, cap, S, g, cp, hL, hM, hgc, hg0, fin⟩ := h.openA
  have ha := (hL.apart hM).2.2.2.1
  refine (invAll_lpi l0 s c cap p g cp S t.x t.bs ok W hL hM hgc).mono ?_
  rintro e W' ⟨he, h1, h3⟩
  exact ⟨he, fin W' s S _ _ h1 (hM.kept h3 ha hgc) (.inl rfl) (h3.mono (fun b e => .inr (.inr (.inl e))))⟩
theorem write_pr {w0 : World} {N : Nat → Prop} {p q l0 l1 d0 d1 : Nat} {t td : Tw} {W : World} (h : PrX w0 N p q l0 l1 d0 d1 t td W) (off : Int) (v : Nat) (hv : v < 18446744073709551616) : Calls Tryd.prog 32 #[.pointer (some ⟨p, 0, none⟩), .agg #[.int .i64 0, .int .i64 200], .int .i64 off, .int .i64 1, .int .u64 v] W fun e W' => e = .returned (.int .i64 (accE t.bs.length 0 200 off 1)) ∧ PrX w0 N p q l0 l1 d0 d1 ⟨wrB t.bs 0 200 off 1 v, t.x, t.y⟩ td W' ∧ NK N W W' := by
  obtain ⟨s, c, cap, S, g, cp, hL, hM, hgc, hg0, fin⟩ := h.openA
  obtain ⟨a1, a2, a3, a4, a5⟩ := hL.apart hM
  refine (write_any p g cp t.bs 0 200 off 1 v W hM (by decide) (by decide) (by decide) (by decide) hv).mono ?_
  rintro e W' ⟨he, h2, h3⟩
  exact ⟨he, fin W' s S _ _ (hL.kept h3 a1 a2 (fun e => hgc e.symm)) h2 (.inl rfl) (h3.mono (fun b e => .inr (.inr (.inr e))))⟩
theorem move_pr {w0 : World} {N : Nat → Prop} {p q l0 l1 d0 d1 : Nat} {t td : Tw} {W : World} (h : PrX w0 N p q l0 l1 d0 d1 t td W) {L : Nat} (ok : t.Ok L) (id : Int) : Calls Tryd.prog 29 #[.pointer (some ⟨p, 0, none⟩), .int .i64 id, .pointer (some ⟨l0, 0, none⟩), .pointer (some ⟨l1, 0, none⟩)] W fun e W' => e = .returned (.bool (mvB t.bs t.x t.y id)) ∧ PrX w0 N p q l0 l1 d0 d1 (mvS t id) td W' ∧ NK N W W' := by
  obtain ⟨s, c, cap, s', c', cap', g, cp, hT, hN, fin⟩ := h.openW
  refine (move_lpi l0 s c cap l1 s' c' cap' p g cp t L ok hN id _ rfl W hT).mono ?_
  rintro e W' ⟨he, h1, h2⟩
  exact ⟨he, fin W' _ h1 h2⟩
theorem moveAll_pr {w0 : World} {N : Nat → Prop} {p q l0 l1 d0 d1 : Nat} {t td : Tw} {W : World} (h : PrX w0 N p q l0 l1 d0 d1 t td W) {L : Nat} (ok : t.Ok L) : Calls Tryd.prog 28 #[.pointer (some ⟨p, 0, none⟩), .pointer (some ⟨l0, 0, none⟩), .pointer (some ⟨l1, 0, none⟩)] W fun e W' => e = .returned (.int .i64 (mvAll t).2) ∧ PrX w0 N p q l0 l1 d0 d1 (mvAll t).1 td W' ∧ NK N W W' := by
  obtain ⟨s, c, cap, s', c', cap', g, cp, hT, hN, fin⟩ := h.openW
  refine (moveAll_lpi l0 s c cap l1 s' c' cap' p g cp t L ok hN W hT).mono ?_
  rintro e W' ⟨he, h1, h2⟩
  exact ⟨he, fin W' _ h1 h2⟩
theorem moveAll_self_pr {w0 : World} {N : Nat → Prop} {p q l0 l1 d0 d1 : Nat} {t td : Tw} {W : World} (h : PrX w0 N p q l0 l1 d0 d1 t td W) (ok : t.x.Ok t.bs.length) : Calls Tryd.prog 28 #[.pointer (some ⟨p, 0, none⟩), .pointer (some ⟨l0, 0, none⟩), .pointer (some ⟨l0, 0, none⟩)] W fun e W' => e = .returned (.int .i64 0) ∧ Below W.heap.size W W' := by
  obtain ⟨s, c, cap, S, g, cp, hL, hM, hgc, hg0, fin⟩ := h.openA
  exact moveAll_self l0 s c cap p g cp S t.x t.bs ok W hL hM
theorem has_pr {w0 : World} {N : Nat → Prop} {p q l0 l1 d0 d1 : Nat} {t td : Tw} {W : World} (h : PrX w0 N p q l0 l1 d0 d1 t td W) (ok : t.x.Ok t.bs.length) (id : Int) : Calls Tryd.prog 17 #[.pointer (some ⟨l0, 0, none⟩), .pointer (some ⟨p, 0, none⟩), .int .i64 id] W fun e W' => e = .returned (.bool (hasV t.bs t.x id)) ∧ Below W.heap.size W W' := by
  obtain ⟨s, c, cap, S, g, cp, hL, hM, hgc, hg0, fin⟩ := h.openA
  exact has_lpi l0 s c cap p g cp S t.x t.bs ok id W hL.hd hM
theorem setup_pr {w0 : World} {N : Nat → Prop} {p q l0 l1 d0 d1 : Nat} {t td : Tw} {W : World} (h : PrX w0 N p q l0 l1 d0 d1 t td W) (ok : t.x.Ok t.bs.length) (id : Int) : Calls Tryd.prog 31 #[.pointer (some ⟨l0, 0, none⟩), .int .i64 id] W fun e W' => e = .returned (.tuple #[.bool (inV t.x id), .int .i64 (prV t.x id)]) ∧ Below W.heap.size W W' := by
  obtain ⟨s, c, cap, S, g, cp, hL, hM, hgc, hg0, fin⟩ := h.openA
  refine (setup_lpi l0 s c cap S t.x ok.n5 ok.cm id W hL).mono ?_
  rintro e W' ⟨rfl, rfl⟩
  exact ⟨rfl, Below.refl _ _⟩
theorem best_pr {w0 : World} {N : Nat → Prop} {p q l0 l1 d0 d1 : Nat} {t td : Tw} {W : World} (h : PrX w0 N p q l0 l1 d0 d1 t td W) (ok : t.x.Ok t.bs.length) : Calls Tryd.prog 26 #[.pointer (some ⟨l0, 0, none⟩)] W fun e W' => e = .returned ((bestV t.x).v) ∧ Below W.heap.size W W' := by
  obtain ⟨s, c, cap, S, g, cp, hL, hM, hgc, hg0, fin⟩ := h.openA
  exact best_lpi l0 s c cap S t.x ok.n5 ok.cm W h.tab hL
theorem on_pr {w0 : World} {N : Nat → Prop} {p q l0 l1 d0 d1 : Nat} {t td : Tw} {W : World} (h : PrX w0 N p q l0 l1 d0 d1 t td W)  : Calls Tryd.prog 22 #[.pointer (some ⟨l0, 0, none⟩)] W fun e W' => e = .returned (.bool t.x.on) ∧ Below W.heap.size W W' := by
  obtain ⟨s, c, cap, S, g, cp, hL, hM, hgc, hg0, fin⟩ := h.openA
  refine (on_any l0 s c cap S t.x W hL.hd).mono ?_
  rintro e W' ⟨rfl, rfl⟩
  exact ⟨rfl, Below.refl _ _⟩
theorem many_pr {w0 : World} {N : Nat → Prop} {p q l0 l1 d0 d1 : Nat} {t td : Tw} {W : World} (h : PrX w0 N p q l0 l1 d0 d1 t td W)  : Calls Tryd.prog 23 #[.pointer (some ⟨l0, 0, none⟩)] W fun e W' => e = .returned (.int .i64 t.x.n) ∧ Below W.heap.size W W' := by
  obtain ⟨s, c, cap, S, g, cp, hL, hM, hgc, hg0, fin⟩ := h.openA
  refine (many_any l0 s c cap S t.x W hL.hd).mono ?_
  rintro e W' ⟨rfl, rfl⟩
  exact ⟨rfl, Below.refl _ _⟩
theorem renable_pr {w0 : World} {N : Nat → Prop} {p q l0 l1 d0 d1 : Nat} {t td : Tw} {W : World} (h : PrX w0 N p q l0 l1 d0 d1 t td W) (ok : td.x.Ok td.bs.length) : Calls Tryd.prog 52 #[.pointer (some ⟨d0, 0, none⟩), .pointer (some ⟨q, 0, none⟩)] W fun e W' => (∃ v, e = .returned v) ∧ PrX w0 N p q l0 l1 d0 d1 t ⟨(enS td.bs td.x).1, (enS td.bs td.x).2, td.y⟩ W' ∧ NK N W W' := by
  obtain ⟨f, capf, yv, hh, cq, hL, hM, hN, hyf, fin⟩ := h.openD
  refine (renable_lpi d0 f capf q hh cq yv td.x td.bs ok W hL hM hN hyf).mono ?_
  rintro e W' ⟨he, ⟨yv', h1, hy⟩, h2, h3⟩
  exact ⟨he, fin W' yv' _ _ h1 h2 hy (h3.mono (fun b e => e.elim .inl (fun e => .inr (e.elim .inr .inl))))⟩
theorem rdisable_pr {w0 : World} {N : Nat → Prop} {p q l0 l1 d0 d1 : Nat} {t td : Tw} {W : World} (h : PrX w0 N p q l0 l1 d0 d1 t td W) (ok : td.x.Ok td.bs.length) : Calls Tryd.prog 53 #[.pointer (some ⟨d0, 0, none⟩), .pointer (some ⟨q, 0, none⟩)] W fun e W' => (∃ v, e = .returned v) ∧ PrX w0 N p q l0 l1 d0 d1 t ⟨(disS td.bs td.x).1, (disS td.bs td.x).2, td.y⟩ W' ∧ NK N W W' := by
  obtain ⟨f, capf, yv, hh, cq, hL, hM, hN, hyf, fin⟩ := h.openD
  refine (rdisable_lpi d0 f capf q hh cq yv td.x td.bs ok W hL hM hN).mono ?_
  rintro e W' ⟨he, ⟨yv', h1, hy⟩, h2, h3⟩
  exact ⟨he, fin W' yv' _ _ h1 h2 hy (h3.mono (fun b e => e.elim .inl (fun e => .inr (.inr e))))⟩
theorem rset_pr {w0 : World} {N : Nat → Prop} {p q l0 l1 d0 d1 : Nat} {t td : Tw} {W : World} (h : PrX w0 N p q l0 l1 d0 d1 t td W) (ok : td.x.Ok td.bs.length) (id : Int) (is : Bool) : Calls Tryd.prog 54 #[.pointer (some ⟨d0, 0, none⟩), .pointer (some ⟨q, 0, none⟩), .int .i64 id, .bool is] W fun e W' => e = .returned (.tuple #[.bool (hasV td.bs td.x id), .int .i64 (errL td.x id)]) ∧ PrX w0 N p q l0 l1 d0 d1 t ⟨(setV td.bs td.x id is).1, (setV td.bs td.x id is).2, td.y⟩ W' ∧ NK N W W' := by
  obtain ⟨f, capf, yv, hh, cq, hL, hM, hN, hyf, fin⟩ := h.openD
  refine (rset_lpi d0 f capf q hh cq yv td.x td.bs ok id is W hL hM hN).mono ?_
  rintro e W' ⟨he, ⟨⟨yv', h1, hy⟩, h2, h3⟩⟩
  exact ⟨he, fin W' yv' _ _ h1 h2 hy (h3.mono (fun b e => e.elim .inl (fun e => .inr (.inr e))))⟩
theorem rinv_pr {w0 : World} {N : Nat → Prop} {p q l0 l1 d0 d1 : Nat} {t td : Tw} {W : World} (h : PrX w0 N p q l0 l1 d0 d1 t td W) (ok : td.x.Ok td.bs.length) (id : Int) : Calls Tryd.prog 55 #[.pointer (some ⟨d0, 0, none⟩), .pointer (some ⟨q, 0, none⟩), .int .i64 id] W fun e W' => e = .returned (.int .i64 (errL td.x id)) ∧ PrX w0 N p q l0 l1 d0 d1 t ⟨td.bs, invV td.bs td.x id, td.y⟩ W' ∧ NK N W W' := by
  obtain ⟨f, capf, yv, hh, cq, hL, hM, hN, hyf, fin⟩ := h.openD
  have ha := (hL.apart hM).2.2
  refine (rinv_lpi d0 f capf q hh cq yv td.x td.bs ok id W hL hM hN hyf).mono ?_
  rintro e W' ⟨he, h1, h3⟩
  exact ⟨he, fin W' yv _ _ h1 (hM.kept h3 ha (fun e => hN.fh e.symm)) (fun b hb => .inl hb) (h3.mono (fun b e => .inr (.inl e)))⟩
theorem rinvAll_pr {w0 : World} {N : Nat → Prop} {p q l0 l1 d0 d1 : Nat} {t td : Tw} {W : World} (h : PrX w0 N p q l0 l1 d0 d1 t td W) (ok : td.x.Ok td.bs.length) : Calls Tryd.prog 56 #[.pointer (some ⟨d0, 0, none⟩), .pointer (some ⟨q, 0, none⟩)] W fun e W' => (∃ v, e = .returned v) ∧ PrX w0 N p q l0 l1 d0 d1 t ⟨td.bs, invTo td.bs td.x td.x.n, td.y⟩ W' ∧ NK N W W' := by
  obtain ⟨f, capf, yv, hh, cq, hL, hM, hN, hyf, fin⟩ := h.openD
  have ha := (hL.apart hM).2.2
  refine (rinvAll_lpi d0 f capf q hh cq yv td.x td.bs ok W hL hM hN hyf).mono ?_
  rintro e W' ⟨he, h1, h3⟩
  exact ⟨he, fin W' yv _ _ h1 (hM.kept h3 ha (fun e => hN.fh e.symm)) (fun b hb => .inl hb) (h3.mono (fun b e => .inr (.inl e)))⟩
theorem rwrite_pr {w0 : World} {N : Nat → Prop} {p q l0 l1 d0 d1 : Nat} {t td : Tw} {W : World} (h : PrX w0 N p q l0 l1 d0 d1 t td W) (off : Int) (v : Nat) (hv : v < 18446744073709551616) : Calls Tryd.prog 57 #[.pointer (some ⟨q, 0, none⟩), .agg #[.int .i64 0, .int .i64 200], .int .i64 off, .int .i64 1, .int .u64 v] W fun e W' => e = .returned (.int .i64 (accE td.bs.length 0 200 off 1)) ∧ PrX w0 N p q l0 l1 d0 d1 t ⟨wrB td.bs 0 200 off 1 v, td.x, td.y⟩ W' ∧ NK N W W' := by
  obtain ⟨f, capf, yv, hh, cq, hL, hM, hN, hyf, fin⟩ := h.openD
  obtain ⟨a1, a2, a3⟩ := hL.apart hM
  refine (rwrite_any q hh cq td.bs 0 200 off 1 v W hM (by decide) (by decide) (by decide) (by decide) hv).mono ?_
  rintro e W' ⟨he, h2, h3⟩
  exact ⟨he, fin W' yv _ _ (hL.kept h3 a1 hN.fh (fun b hb => hN.yh b hb)) h2 (fun b hb => .inl hb) (h3.mono (fun b e => .inr (.inr e)))⟩
theorem rhas_pr {w0 : World} {N : Nat → Prop} {p q l0 l1 d0 d1 : Nat} {t td : Tw} {W : World} (h : PrX w0 N p q l0 l1 d0 d1 t td W) (ok : td.x.Ok td.bs.length) (id : Int) : Calls Tryd.prog 18 #[.pointer (some ⟨d0, 0, none⟩), .pointer (some ⟨q, 0, none⟩), .int .i64 id] W fun e W' => e = .returned (.bool (hasV td.bs td.x id)) ∧ Below W.heap.size W W' := by
  obtain ⟨f, capf, yv, hh, cq, hL, hM, hN, hyf, fin⟩ := h.openD
  exact rhas_lpi d0 f capf q hh cq yv td.x td.bs ok id W hL hM
theorem rof_pr {w0 : World} {N : Nat → Prop} {p q l0 l1 d0 d1 : Nat} {t td : Tw} {W : World} (h : PrX w0 N p q l0 l1 d0 d1 t td W) (ok : td.x.Ok td.bs.length) (id : Int) : Calls Tryd.prog 62 #[.pointer (some ⟨d0, 0, none⟩), .int .i64 id] W fun e W' => e = .returned (.bool (ownB td.x id)) ∧ Below W.heap.size W W' := by
  obtain ⟨f, capf, yv, hh, cq, hL, hM, hN, hyf, fin⟩ := h.openD
  refine (rof_any d0 f capf yv td.x td.x.on ok.n5 id W hL.box).mono ?_
  rintro e W' ⟨rfl, rfl⟩
  exact ⟨rfl, Below.refl _ _⟩
theorem rsetup_pr {w0 : World} {N : Nat → Prop} {p q l0 l1 d0 d1 : Nat} {t td : Tw} {W : World} (h : PrX w0 N p q l0 l1 d0 d1 t td W) (ok : td.x.Ok td.bs.length) (id : Int) : Calls Tryd.prog 42 #[.pointer (some ⟨d0, 0, none⟩), .int .i64 id] W fun e W' => e = .returned (.tuple #[.bool (inV td.x id), .int .i64 (prV td.x id)]) ∧ Below W.heap.size W W' := by
  obtain ⟨f, capf, yv, hh, cq, hL, hM, hN, hyf, fin⟩ := h.openD
  refine (rsetup_lpi d0 f capf yv td.x ok.n5 ok.cm id W hL).mono ?_
  rintro e W' ⟨rfl, rfl⟩
  exact ⟨rfl, Below.refl _ _⟩
theorem rbest_pr {w0 : World} {N : Nat → Prop} {p q l0 l1 d0 d1 : Nat} {t td : Tw} {W : World} (h : PrX w0 N p q l0 l1 d0 d1 t td W) (ok : td.x.Ok td.bs.length) : Calls Tryd.prog 39 #[.pointer (some ⟨d0, 0, none⟩)] W fun e W' => e = .returned ((bestV td.x).v) ∧ Below W.heap.size W W' := by
  obtain ⟨f, capf, yv, hh, cq, hL, hM, hN, hyf, fin⟩ := h.openD
  exact rbest_lpi d0 f capf yv td.x _ ok W hL
theorem rwaiting_pr {w0 : World} {N : Nat → Prop} {p q l0 l1 d0 d1 : Nat} {t td : Tw} {W : World} (h : PrX w0 N p q l0 l1 d0 d1 t td W) (ok : td.x.Ok td.bs.length) : Calls Tryd.prog 41 #[.pointer (some ⟨d0, 0, none⟩), .pointer (some ⟨q, 0, none⟩)] W (GivesCol W (ids (waitL td.bs td.x))) := by
  obtain ⟨f, capf, yv, hh, cq, hL, hM, hN, hyf, fin⟩ := h.openD
  exact rwaiting_lpi d0 f capf q hh cq yv td.x td.bs ok W hL hM
/-- The law's list of those that wait. -/
theorem wait_pr {w0 : World} {N : Nat → Prop} {p q l0 l1 d0 d1 : Nat} {t td : Tw} {W : World} (h : PrX w0 N p q l0 l1 d0 d1 t td W) : Calls Tryd.prog 25 #[.pointer (some ⟨l0, 0, none⟩), .pointer (some ⟨p, 0, none⟩)] W fun e W' => e = .returned (.func (.func 66) #[] #[.pointer (some ⟨W.heap.size, 0, none⟩), .pointer (some ⟨W.heap.size + 1, 0, none⟩)]) ∧ Below W.heap.size W W' ∧ ∀ W2, Below W'.heap.size W' W2 → t.x.Ok t.bs.length → Calls Tryd.prog 24 #[.func (.func 66) #[] #[.pointer (some ⟨W.heap.size, 0, none⟩), .pointer (some ⟨W.heap.size + 1, 0, none⟩)]] W2 (SomeInts W2 (ids (waitL t.bs t.x))) := by
  obtain ⟨s, c, cap, S, g, cp, hL, hM, hgc, hg0, fin⟩ := h.openA
  have hd := CB.new W 27 #[.pointer (some ⟨l0, 0, none⟩)]
  have hm := CB.new (W.alloc (.cells #[.pointer (some ⟨l0, 0, none⟩)] 27)) 25 #[.pointer (some ⟨p, 0, none⟩)]
  rw [World.size_alloc] at hm
  refine (waiting_lpi l0 p W).mono ?_
  rintro e W' ⟨he, hw⟩
  have hb : Below W.heap.size W W' := by rw [hw]; exact bal2' W _ _
  have hB : WtB W.heap.size l0 s c cap p g cp S t.x t.bs W' := ⟨by rw [hw]; exact hd.alloc _, by rw [hw]; exact hm, (hL.below hb).hd, hM.below hb⟩
  exact ⟨he, hb, fun W2 h2 ok => list_wait W.heap.size l0 s c cap p g cp S t.x t.bs ok W2 (hB.later h2)⟩

end Go.Proofs.YtobhdjepfhbgaaaDoor
