/-
  played: two parts behind some acts.
-/
import Derived.Test.YtobhdjepfhbgaaaDoorLrK
namespace Go.Proofs.YtobhdjepfhbgaaaDoor
open Go.ChangeShapes Go.WideShapes Go.ChangeAt Go.RowKit Go.Shelf
set_option linter.unusedVariables false
set_option linter.unusedSimpArgs false

/-- A row of elements of sz cells each. -/
structure RowC (W : World) (a : Option Addr) (b off sz : Nat) (cs : List (List Value)) : Prop where
  len : cs.length ≤ 9223372036854775807
  lt : cs ≠ [] → b < W.heap.size
  at_ : cs ≠ [] → a = some ⟨b, off, none⟩
  cells : ∀ (j : Nat) c, cs[j]? = some c → ∀ (o : Nat) v, c[o]? = some v → W.cell? ⟨b, off + j * sz + o, none⟩ = some v
theorem RowC.below {W W' : World} {a : Option Addr} {b off sz : Nat} {cs : List (List Value)} (h : RowC W a b off sz cs) (k : Below W.heap.size W W') : RowC W' a b off sz cs :=
  ⟨h.len, fun x => Nat.lt_of_lt_of_le (h.lt x) k.size, h.at_, fun j c hc o v hv => by
    have hne : cs ≠ [] := fun e => by rw [e] at hc; simp at hc
    exact (k.cell (p := ⟨b, off + j * sz + o, none⟩) (h.lt hne)).trans (h.cells j c hc o v hv)⟩
def acC (x : Ac) : List Value := [.int .i64 x.d, .int .i64 x.id, .bool x.is, .bool x.two, .int .u8 x.v]
theorem RowC.act {W : World} {a : Option Addr} {b off : Nat} {xs : List Ac} (h : RowC W a b off 5 (xs.map acC)) {j : Nat} {x : Ac} (hj : xs[j]? = some x) :
    a = some ⟨b, off, none⟩ ∧ W.cell? ⟨b, off + j * 5, none⟩ = some (.int .i64 x.d) ∧ W.cell? ⟨b, off + j * 5 + 1, none⟩ = some (.int .i64 x.id) ∧ W.cell? ⟨b, off + j * 5 + 2, none⟩ = some (.bool x.is) ∧ W.cell? ⟨b, off + j * 5 + 3, none⟩ = some (.bool x.two) ∧ W.cell? ⟨b, off + j * 5 + 4, none⟩ = some (.int .u8 x.v) := by
  have hj2 : (xs.map acC)[j]? = some (acC x) := by simp [hj]
  have hne : xs.map acC ≠ [] := fun e => by rw [e] at hj2; simp at hj2
  exact ⟨h.at_ hne, h.cells j _ hj2 0 _ rfl, h.cells j _ hj2 1 _ rfl, h.cells j _ hj2 2 _ rfl, h.cells j _ hj2 3 _ rfl, h.cells j _ hj2 4 _ rfl⟩

/-- What lies under the law's own world, one box of which is turned. -/
theorem PrX.out {w w0 : World} {N : Nat → Prop} {p q l0 l1 d0 d1 R : Nat} {t td : Tw} {W W' : World} (h : PrX w0 N p q l0 l1 d0 d1 t td W) (k : Kept (· = R) W W') (hR : R < w0.heap.size) (hw : w.heap.size ≤ R) (hb : Below w.heap.size w w0) (hp0 : 0 < w.heap.size) : PrX w (fun _ => False) p q l0 l1 d0 d1 t td W' := by
  obtain ⟨⟨κ, ⟨m, r⟩, ⟨a, b⟩, ⟨c, d⟩, hl, hn⟩, ht, hbl, hp⟩ := h
  have X : ∀ j, j ≠ 0 → ∀ b, κ b = j → ¬ (b = R) := fun j hj b h1 h2 => hj (by rw [← h1, h2, hl R hR])
  have S : ∀ b, b < W.heap.size → κ b = κ b := fun _ _ => rfl
  exact ⟨⟨κ, ⟨m.keep k (X 1 (by decide)) S, r.keep k (X 2 (by decide)) S⟩, ⟨a.keep k (X 3 (by decide)) S, b.keep k (X 4 (by decide)) S⟩, ⟨c.keep k (X 5 (by decide)) S, d.keep k (X 6 (by decide)) S⟩, fun b hb' => hl b (Nat.lt_of_lt_of_le hb' hb.size), fun b hb' => absurd hb' id⟩, ht.kept k (by show ¬ (0 = R); omega), (hb.more hbl).trans (k.toBelow (Nat.le_trans hb.size hbl.size) (fun b e => by have e' : b = R := e; omega)), hp0⟩
theorem results_pl {fn : Func} {c t : Tmp} (h : fn.results = #[.cell c 32, .tmp t]) (tmps : Array Value) (w : World) (b : Nat) (v0 v1 v2 v3 v4 v5 v6 v : Value) (hp : tmps.getD c undef = .pointer (some ⟨b, 0, none⟩)) (ht : tmps.getD t undef = v) (hb : CB w b 32 #[v0, v1, v2, v3, v4, v5, v6]) :
    (results fn tmps).run Tryd.prog w = .ok (.tuple #[.agg #[v0, v1, v2, v3, v4, v5, v6], v]) w := by
  have hp' : tmps[c]?.getD undef = .pointer (some ⟨b, 0, none⟩) := by simpa using hp
  have ht' : tmps[t]?.getD undef = v := by simpa using ht
  obtain ⟨c0, c1, c2, c3, c4, c5, c6⟩ := hb.seven
  simp [results, h, go_sem, hp', ht', c0, c1, c2, c3, c4, c5, c6]
/-- How the two were made. -/
def Made (t : Tw) : Prop := ∃ n0 n1, (1 ≤ n0 ∧ n0 ≤ 70) ∧ (1 ≤ n1 ∧ n1 ≤ 70) ∧ St.Alike (newX n0 0 70 160 9) t.x ∧ St.Alike (newX n1 80 70 180 9) t.y
theorem Made.step {t : Tw} (h : Made t) (x : Ac) : Made (stepT t x) := by
  obtain ⟨n0, n1, h0, h1, a, b⟩ := h
  exact ⟨n0, n1, h0, h1, a.trans (stepT_alike t x).1, b.trans (stepT_alike t x).2⟩
theorem made_first (a b : Nat) (bs : List Nat) (hl : bs.length = 200) (hm : ∀ x ∈ bs, x < 256) : Made ⟨bs, newX (1 + a % 70) 0 70 160 9, newX (1 + b % 70) 80 70 180 9⟩ ∧ Tw.Ok 200 ⟨bs, newX (1 + a % 70) 0 70 160 9, newX (1 + b % 70) 80 70 180 9⟩ :=
  ⟨⟨1 + a % 70, 1 + b % 70, by omega, by omega, St.Alike.refl _, St.Alike.refl _⟩, hl, hm, newX_ok (by omega) (by omega) (by omega) (by omega) (by omega) (by omega) (by omega), newX_ok (by omega) (by omega) (by omega) (by omega) (by omega) (by omega) (by omega), .inl (show 160 + 9 ≤ 180 by omega)⟩
/-- What stands behind the acts. -/
structure Pld (w0 : World) (N : Nat → Prop) (p q l0 l1 d0 d1 : Nat) (t : Tw) (W : World) : Prop where
  h : PrX w0 N p q l0 l1 d0 d1 t t W
  ok : t.Ok 200
  made : Made t

set_option maxRecDepth 100000 in
set_option maxHeartbeats 8000000 in
theorem played_any (a b : Nat) (ha : a < 256) (hb : b < 256) (sv : Value) (ys : List Nat) (hyl : ys.length ≤ 9223372036854775807) (sa : Option Addr) (sb off cap : Nat) (xs : List Ac) (hF : ∀ x ∈ xs, x.Fair) (w : World) (hT : TabW w) (hy : BytesIn w sv ys) (hX : RowC w sa sb off 5 (xs.map acC)) :
    Calls Tryd.prog 27 #[.int .u8 a, .int .u8 b, sv, .slice sa xs.length cap] w fun e w' => ∃ p q l0 l1 d0 d1 t, e = .returned (.tuple #[.agg (prC (pt p) (pt q) (pt l0) (pt l1) (pt d0) (pt d1) true), .bool true]) ∧ Pld w (fun _ => False) p q l0 l1 d0 d1 t w' := by
  have hxl : xs.length ≤ 9223372036854775807 := by simpa using hX.len
  have hk0 := bal w (.cells (prC no no no no no no false) 32)
  have HR0 := hi (CB.new w 32 (prC no no no no no no false))
  have HK0 := hi hk0
  have HX0 := hi (hX.below hk0)
  have HBG := hi (begun_any a b ha hb sv ys hyl _ (hT.below hk0) (hy.below hk0))
  have hp0 := hT.lt
  have HFx := hi hF
  clear hX hk0 hT hy hyl hF
  go_enter Tryd.func27, Tryd.ntmps27
  go_wp2_with (go_at_call 9; ((with_reducible refine HBG.out.mono ?_); rintro e w1 ⟨p, q, l0, l1, d0, d1, bs, rfl, hl, hm, hp1⟩; have H1 := hi (And.intro hp1 (made_first a b bs hl hm)); clear hl hm hp1))
  obtain ⟨w0, hw0⟩ : ∃ W, w.alloc (.cells (prC no no no no no no false) 32) = W := ⟨_, rfl⟩
  have hR := HR0.out.lt
  rw [hw0] at HR0 HK0 HX0 H1 hR
  have hPb := H1.out.1.box (.cells (prC (pt p) (pt q) (pt l0) (pt l1) (pt d0) (pt d1) true) 32)
  obtain ⟨P, hP⟩ : ∃ P, w1.heap.size = P := ⟨_, rfl⟩
  have hcb := CB.new w1 32 (prC (pt p) (pt q) (pt l0) (pt l1) (pt d0) (pt d1) true)
  have hPz : w0.heap.size ≤ P := by rw [← hP]; exact H1.out.1.below.size
  rw [hP] at hPb hcb
  try rw [hP]
  have H2 := hi (And.intro (show Pld w0 (fun b => False ∨ b = P) p q l0 l1 d0 d1 _ _ from ⟨hPb, H1.out.2.2, H1.out.2.1⟩) hcb)
  obtain ⟨t0, ht0⟩ : ∃ t, (⟨bs, newX (1 + a % 70) 0 70 160 9, newX (1 + b % 70) 80 70 180 9⟩ : Tw) = t := ⟨_, rfl⟩
  rw [ht0] at H2
  clear ht0 hPb hcb H1 HBG hw0 hP
  go_loopw [11] (fun i wr => ∃ (j : Nat) (t : Tw), i = .int .i64 j ∧ j ≤ xs.length ∧ Hi (Pld w0 (fun b => False ∨ b = P) p q l0 l1 d0 d1 t wr ∧ CB wr P 32 (prC (pt p) (pt q) (pt l0) (pt l1) (pt d0) (pt d1) true))) (fun i _ => xs.length - (intOf i).toNat)
  case atStart => exact ⟨0, t0, rfl, Nat.zero_le _, H2⟩
  case round =>
    obtain ⟨j, t, rfl, hj, HJ⟩ := hrel
    obtain ⟨v, rfl⟩ : ∃ v : World, v = wr := ⟨_, rfl⟩
    obtain ⟨r0, r1, r2, r3, r4, r5, r6⟩ := CB.seven HJ.out.2
    by_cases hlt : j < xs.length
    · obtain ⟨x, hx⟩ : ∃ x, xs[j]? = some x := ⟨_, List.getElem?_eq_getElem hlt⟩
      obtain ⟨rfl, q0, q1, q2, q3, q4⟩ := (HX0.out.below HJ.out.1.h.below).act hx
      have hjl : (j : Int) < (xs.length : Int) := by omega
      have HD := hi (does_any w0 (fun b => False ∨ b = P) p q l0 l1 d0 d1 t v P x (HFx.out x (List.mem_of_getElem? hx)) HJ.out.1.h HJ.out.1.ok HJ.out.2 (.inr rfl))
      have hj0 : (0 : Int) ≤ (j : Int) := by omega
      clear hx
      go_wp2_with (go_at_call 16; ((with_reducible refine HD.out.mono ?_); rintro e w3 ⟨rfl, hp3, hk3⟩; have H3 := hi (And.intro (show Pld w0 (fun b => False ∨ b = P) p q l0 l1 d0 d1 (stepT t x) w3 from ⟨hp3, stepT_ok HJ.out.1.ok x, HJ.out.1.made.step x⟩) (hk3.cb HJ.out.2 (.inr rfl))); clear hp3 hk3 r0 r1 r2 r3 r4 r5 r6))
      go_roundw
      case rel => exact ⟨j + 1, _, by go_num, by omega, H3⟩
      case measure => simp [intOf]; omega
    · have hje : j = xs.length := by omega
      subst hje
      have hjl : ¬ (xs.length : Int) < (xs.length : Int) := by omega
      go_wp2
      refine wp_region_noPanic ?_
      refine wp_region_last_drew (S := (fun V => CB V P 32 (prC (pt p) (pt q) (pt l0) (pt l1) (pt d0) (pt d1) true))) [] (by kernel_rfl) (HJ.out.2.below (below_dr v)) (fun hHeld => ?_)
      (try simp only [Array.replicate_succ, Array.replicate_zero, List.push_toArray, List.nil_append, List.cons_append])
      refine wpAnyF_take (i := 0) (v := ?_) (by kernel_rfl) (by kernel_rfl) rfl (by kernel_rfl) (by kernel_rfl) (by kernel_rfl) (fun _ _ _ h => h) (Or.inl ⟨by rfl, ?_⟩) (by assumption) ?_
      rotate_left
      · intro w' hSw; (try dsimp only at hSw); obtain ⟨q0, q1, q2, q3, q4, q5, q6⟩ := CB.seven hSw; clear hSw; go_simp; (try with_reducible rfl)
      (try simp only [Act.put, List.getElem_toArray, List.getElem_cons_zero, List.getElem_cons_succ, List.setIfInBounds_toArray, List.set_cons_zero, List.set_cons_succ])
      refine wpAnyF_take (i := 1) (v := ?_) (by kernel_rfl) (by kernel_rfl) rfl (by kernel_rfl) (by kernel_rfl) (by kernel_rfl) (fun _ _ _ h => h) (Or.inl ⟨by rfl, ?_⟩) (by assumption) ?_
      rotate_left
      · intro w' hSw; (try dsimp only at hSw); clear hSw; go_simp; (try with_reducible rfl)
      (try simp only [Act.put, List.getElem_toArray, List.getElem_cons_zero, List.getElem_cons_succ, List.setIfInBounds_toArray, List.set_cons_zero, List.set_cons_succ])
      refine wpAnyF_take (i := 2) (v := ?_) (by kernel_rfl) (by kernel_rfl) rfl (by kernel_rfl) (by kernel_rfl) (by kernel_rfl) (fun _ _ _ h => h) (Or.inl ⟨by rfl, ?_⟩) (by assumption) ?_
      rotate_left
      · intro w' hSw; (try dsimp only at hSw); obtain ⟨q0, q1, q2, q3, q4, q5, q6⟩ := CB.seven hSw; clear hSw; go_simp; (try with_reducible rfl)
      (try simp only [Act.put, List.getElem_toArray, List.getElem_cons_zero, List.getElem_cons_succ, List.setIfInBounds_toArray, List.set_cons_zero, List.set_cons_succ])
      refine wpAnyF_ready (rs := [3]) (by kernel_rfl) (by simp) ?_
      refine AllReadyF.cons rfl (fun KK hKK => ?_) AllReadyF.nil
      obtain ⟨u0, u1, u2, u3, u4, u5, u6⟩ := CB.seven (HR0.out.below HJ.out.1.h.below)
      have uf := (HR0.out.below HJ.out.1.h.below).frozen
      have uz := (HR0.out.below HJ.out.1.h.below).lt
      go_simp
      refine hKK.out _ _ ((HJ.out.2.keptB (kept_s7 v w.heap.size (pt p) (pt q) (pt l0) (pt l1) (pt d0) (pt d1) (.bool true)) (by show ¬ (P = w.heap.size); omega)).below (below_dr _)) (fun hHeld => ?_)
      clear hKK KK
      (try simp only [Act.put, List.getElem_toArray, List.getElem_cons_zero, List.getElem_cons_succ, List.setIfInBounds_toArray, List.set_cons_zero, List.set_cons_succ])
      refine wpAnyF_take (i := 4) (v := ?_) (by kernel_rfl) (by kernel_rfl) rfl (by kernel_rfl) (by kernel_rfl) (by kernel_rfl) (fun _ _ _ h => h) (Or.inl ⟨by rfl, ?_⟩) (by assumption) ?_
      rotate_left
      · intro w' hSw; (try dsimp only at hSw); clear hSw; go_simp; (try with_reducible rfl)
      (try simp only [Act.put, List.getElem_toArray, List.getElem_cons_zero, List.getElem_cons_succ, List.setIfInBounds_toArray, List.set_cons_zero, List.set_cons_succ])
      refine wpAnyF_done (by kernel_rfl) ?_ _
      refine NoPanic.normal ?_
      have hk1 := kept_s7 v w.heap.size (pt p) (pt q) (pt l0) (pt l1) (pt d0) (pt d1) (.bool true)
      have hRd := HR0.out.below HJ.out.1.h.below
      go_wp2
      refine bodyPost_ret (results_pl rfl _ _ w.heap.size _ _ _ _ _ _ _ _ rfl rfl ((hRd.set7 _ _ _ _ _ _ _).below (below_dr _))) rfl ⟨p, q, l0, l1, d0, d1, t, rfl, (HJ.out.1.h.out hk1 hR (Nat.le_refl _) HK0.out hp0).later (below_dr _), HJ.out.1.ok, HJ.out.1.made⟩

end Go.Proofs.YtobhdjepfhbgaaaDoor
