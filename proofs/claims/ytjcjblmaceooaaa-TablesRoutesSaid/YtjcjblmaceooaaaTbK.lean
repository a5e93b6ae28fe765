/-
  Rows of any elements in memory; TablesTargets.
-/
import Derived.Test.YtjcjblmaceooaaaTbJ
namespace Go.Proofs.Ytjcjblmaceooaaa
open Go.ChangeShapes Go.WideShapes Go.ChangeAt Go.RowKit
set_option linter.unusedVariables false
set_option linter.unusedSimpArgs false

/-- A slice that came in: its elements' cells. -/
structure RowAt (W : World) (a : Option Addr) (b off sz : Nat) (cs : List (List Value)) : Prop where
  len : cs.length ≤ 9223372036854775807
  lt : cs ≠ [] → b < W.heap.size
  at_ : cs ≠ [] → a = some ⟨b, off, none⟩
  cells : ∀ (j : Nat) c, cs[j]? = some c → ∀ (o : Nat) v, c[o]? = some v → W.cell? ⟨b, off + j * sz + o, none⟩ = some v
theorem RowAt.below {W W' : World} {a : Option Addr} {b off sz : Nat} {cs : List (List Value)} (h : RowAt W a b off sz cs) (k : Below W.heap.size W W') : RowAt W' a b off sz cs :=
  ⟨h.len, fun x => Nat.lt_of_lt_of_le (h.lt x) k.size, h.at_, fun j c hc o v hv => by
    have hne : cs ≠ [] := fun e => by rw [e] at hc; simp at hc
    exact (k.cell (p := ⟨b, off + j * sz + o, none⟩) (h.lt hne)).trans (h.cells j c hc o v hv)⟩
theorem RowAt.one {W : World} {a : Option Addr} {b off : Nat} {cs : List (List Value)} (h : RowAt W a b off 1 cs) {j : Nat} {v : Value} (hj : cs[j]? = some [v]) : W.cell? ⟨b, off + j, none⟩ = some v := by
  have := h.cells j [v] hj 0 v rfl
  rwa [Nat.mul_one, Nat.add_zero] at this
theorem RowAt.three {W : World} {a : Option Addr} {b off : Nat} {cs : List (List Value)} (h : RowAt W a b off 3 cs) {j : Nat} {v0 v1 v2 : Value} (hj : cs[j]? = some [v0, v1, v2]) :
    W.cell? ⟨b, off + j * 3, none⟩ = some v0 ∧ W.cell? ⟨b, off + j * 3 + 1, none⟩ = some v1 ∧ W.cell? ⟨b, off + j * 3 + 2, none⟩ = some v2 :=
  ⟨h.cells j _ hj 0 _ rfl, h.cells j _ hj 1 _ rfl, h.cells j _ hj 2 _ rfl⟩
theorem RowAt.some {W : World} {a : Option Addr} {b off sz : Nat} {cs : List (List Value)} (h : RowAt W a b off sz cs) {j : Nat} (hj : j < cs.length) : a = .some ⟨b, off, none⟩ := h.at_ (fun e => by rw [e] at hj; simp at hj)
def u8C (x : Nat) : List Value := [.int .u8 (x : Int)]
def u16C (x : Nat) : List Value := [.int .u16 (x : Int)]
def boolC (x : Bool) : List Value := [.bool x]
def dvC (d : Dv) : List Value := [.bool d.ok, .int .i64 d.bits, .int .i64 d.at_]
def rtC (r : Rt) : List Value := [.int .i64 r.num, .int .i64 r.coll, .bool r.ok]
theorem map_at {α β : Type} {f : α → β} {xs : List α} {j : Nat} (hj : j < xs.length) : (xs.map f)[j]? = some (f xs[j]) := by simp [hj]

/-- What SetTarget leaves. -/
theorem tg_set {bs : List Nat} {a s c o t : Int} {b : Bool} (h : stgE bs.length a s c t = 0) :
    (tgIs (stgB bs a s c t b) a s c = b ∧ tgN (stgB bs a s c t b) a s c = (if b = true then t.toNat else 0)) ∧
    (o ≠ c → tgE bs.length a s o = 0 → tgIs (stgB bs a s c t b) a s o = tgIs bs a s o ∧ tgN (stgB bs a s c t b) a s o = tgN bs a s o) := by
  obtain ⟨h1, h2, h3⟩ := stgE_zero h
  obtain ⟨h4, h5, h6⟩ := tgE_zero h1
  have hl : (stgB bs a s c t b).length = bs.length := stgB_len
  have e : stgB bs a s c t b = s8 bs (tgP a c) (stgW t b) := by rw [stgB, if_pos h]
  have hw : w8 (stgB bs a s c t b) (tgP a c) = stgW t b := by rw [e]; exact w8_same h6 (stgW_lt h2 h3)
  refine ⟨?_, fun hne ho => ?_⟩
  · have hi : tgIs (stgB bs a s c t b) a s c = b := by
      rw [tgIs, hl, hw]
      cases b
      · simp [stgW]
      · simp [stgW, h1]
    refine ⟨hi, ?_⟩
    rw [tgN, hi, hw]
    cases b
    · rfl
    · simp only [if_true, stgW]; omega
  · obtain ⟨h7, h8, h9⟩ := tgE_zero ho
    have hw2 : w8 (stgB bs a s c t b) (tgP a o) = w8 bs (tgP a o) := by
      rw [e]
      exact w8_other h6 (by omega)
    have hi : tgIs (stgB bs a s c t b) a s o = tgIs bs a s o := by rw [tgIs, tgIs, hl, hw2]
    exact ⟨hi, by rw [tgN, tgN, hi, hw2]⟩
theorem tgE_in {c : Int} (h0 : 0 ≤ c) (h1 : c < 100) : tgE 1000 8 800 c = 0 := by
  have : nthB 1000 8 800 c = true := by
    simp only [nthB, holdsB, Bool.and_eq_true, decide_eq_true_eq]; omega
  rw [tgE, if_pos this]
theorem stgE_in {c t : Int} (h0 : 0 ≤ c) (h1 : c < 100) (h2 : 0 ≤ t) (h3 : t ≤ 65535) : stgE 1000 8 800 c t = 0 := by
  rw [stgE, if_pos (by omega), if_pos ⟨h2, h3⟩, tgE_in h0 h1]

/-- What the loop keeps. -/
structure TgI (w : World) (p g M : Nat) (bs : List Nat) (W : World) : Prop where
  m : Since w p g 1000 bs W
  x : CB W M 30 #[.int .i64 8, .int .i64 800]
  ne : g < M
  len : bs.length = 1000
theorem TgI.later {w : World} {p g M : Nat} {bs : List Nat} {W W' : World} (h : TgI w p g M bs W) (k : Below W.heap.size W W') : TgI w p g M bs W' := ⟨h.m.later k, h.x.below k, h.ne, h.len⟩
theorem TgI.wrote {w : World} {p g M : Nat} {bs cs : List Nat} {W W' : World} (h : TgI w p g M bs W) (k : Kept (· = g) W W') (m : MemAt 89 W' p g 1000 cs) (hl : cs.length = 1000) : TgI w p g M cs W' :=
  ⟨h.m.wrote k m, h.x.keptB k (fun e => by have := h.ne; omega), h.ne, hl⟩

set_option maxRecDepth 100000 in
set_option maxHeartbeats 8000000 in
theorem targets_law (a0 a1 a2 : Option Addr) (b0 b1 b2 f0 f1 f2 k0 k1 k2 : Nat) (xs ts : List Nat) (is : List Bool) (y : Nat) (w : World) (hx : RowAt w a0 b0 f0 1 (xs.map u8C)) (ht : RowAt w a1 b1 f1 1 (ts.map u16C)) (hi : RowAt w a2 b2 f2 1 (is.map boolC))
    (hx1 : ∀ x ∈ xs, x < 256) (ht1 : ∀ x ∈ ts, x < 65536) (hy : y < 256) :
    Calls Try.prog 4 #[.slice a0 xs.length k0, .slice a1 ts.length k1, .slice a2 is.length k2, .int .u8 y] w fun e w' => e = .returned (.bool true) ∧ Below w.heap.size w w' := by
  have HA := Hi.mk (fun W => awake_any W)
  have HN := Hi.mk (show ∀ W, Calls Try.prog 8 #[.int .i64 1000] W fun e w' => ∃ p g q h, e = .returned (.tuple #[.pointer (some ⟨p, 0, none⟩), .pointer (some ⟨q, 0, none⟩)]) ∧ Since W p g 1000 (List.replicate 1000 0) w' from fun W => (lawNew_any 1000 W).mono fun e w' ⟨p, g, q, h, h1, h2⟩ => ⟨p, g, q, h, h1, h2.mem⟩)
  have HT := Hi.mk (fun p g bs c W hM => target_any p g 1000 bs 8 800 c W hM ⟨by decide, by decide⟩ ⟨by decide, by decide⟩)
  have HS := Hi.mk (fun p g bs c t b W hM => setT_any p g 1000 bs 8 800 c t b W hM ⟨by decide, by decide⟩ ⟨by decide, by decide⟩)
  have hl0 := hx.len
  have hl1 := ht.len
  have hl2 := hi.len
  rw [List.length_map] at hl0 hl1 hl2
  have HX := Hi.mk (And.intro hx (And.intro ht hi))
  have HB := Hi.mk (And.intro hx1 ht1)
  have hob : (y : Int) % 100 < 100 := by omega
  have hob0 : 0 ≤ (y : Int) % 100 := by omega
  clear hx ht hi hx1 ht1
  go_enter Try.func4, Try.ntmps4
  go_wp2_with (first
    | (go_at_call 7; ((with_reducible refine (HA.out _).mono ?_); rintro e w1 ⟨rfl, hb1⟩; have HB1 := Hi.mk hb1; clear hb1))
    | (go_at_call 8; ((with_reducible refine (HN.out _).mono ?_); rintro e w2 ⟨p, g, q, h, rfl, hs2⟩; have H2 := Hi.mk (show TgI w p g w2.heap.size (List.replicate 1000 0) (w2.alloc (.cells #[.int .i64 8, .int .i64 800] 30)) from ⟨(hs2.base HB1.out).later (bal _ _), CB.new w2 _ _, hs2.mem.bytes.lt, List.length_replicate⟩); clear hs2)))
  go_loopw [13] (fun i wr => ∃ j : Nat, i = .int .i64 j ∧ Hi (j ≤ xs.length ∧ ∃ bs, TgI w p g w2.heap.size bs wr)) (fun i _ => xs.length - (intOf i).toNat)
  case atStart => exact ⟨0, rfl, Hi.mk ⟨Nat.zero_le _, _, H2.out⟩⟩
  case round =>
    obtain ⟨j, rfl, HJ⟩ := hrel
    have hj := HJ.out.1
    obtain ⟨bs, hti⟩ := HJ.out.2
    have HI := Hi.mk hti
    clear hti
    by_cases hlt : j < xs.length
    · by_cases hlt1 : j < ts.length
      · by_cases hlt2 : j < is.length
        · have hc0 := (HX.out.1.below HI.out.m.below).one (map_at (f := u8C) hlt)
          have hc1 := (HX.out.2.1.below HI.out.m.below).one (map_at (f := u16C) hlt1)
          have hc2 := (HX.out.2.2.below HI.out.m.below).one (map_at (f := boolC) hlt2)
          obtain rfl := HX.out.1.some (j := j) (by simpa using hlt)
          obtain rfl := HX.out.2.1.some (j := j) (by simpa using hlt1)
          obtain rfl := HX.out.2.2.some (j := j) (by simpa using hlt2)
          have hxb := HB.out.1 _ (List.getElem_mem hlt)
          have htb := HB.out.2 _ (List.getElem_mem hlt1)
          obtain ⟨x, hxe⟩ : ∃ x, xs[j] = x := ⟨_, rfl⟩
          obtain ⟨t, hte⟩ : ∃ t, ts[j] = t := ⟨_, rfl⟩
          obtain ⟨bb, hbe⟩ : ∃ b, is[j] = b := ⟨_, rfl⟩
          rw [hxe] at hc0 hxb
          rw [hte] at hc1 htb
          rw [hbe] at hc2
          obtain ⟨c, hc⟩ : ∃ c : Int, (x : Int) % 100 = c := ⟨_, rfl⟩
          obtain ⟨o, ho⟩ : ∃ o : Int, (y : Int) % 100 = o := ⟨_, rfl⟩
          have hcb : 0 ≤ c ∧ c < 100 := by omega
          have hobb : 0 ≤ o ∧ o < 100 := by omega
          have HSE := stgE_in (t := (t : Int)) hcb.1 hcb.2 (by omega) (by omega)
          have hlen := HI.out.len
          have HST := Hi.mk (fun W hM => HS.out p g bs c t bb W hM)
          have HT1 := Hi.mk (fun W hM => HT.out p g bs o W hM)
          obtain ⟨⟨e1, e2⟩, e3⟩ := tg_set (bs := bs) (a := 8) (s := 800) (c := c) (o := o) (t := t) (b := bb) (by rw [hlen]; exact HSE)
          have hl' : (stgB bs 8 800 c t bb).length = 1000 := stgB_len.trans hlen
          obtain ⟨bs', hbs'⟩ : ∃ l, stgB bs 8 800 c t bb = l := ⟨_, rfl⟩
          rw [hbs'] at e1 e2 e3 hl'
          rw [hlen, HSE] at HST
          have HT2 := Hi.mk (fun W hM => HT.out p g bs' o W hM)
          have HT3 := Hi.mk (fun W hM => HT.out p g bs' c W hM)
          rw [hl', tgE_in hobb.1 hobb.2] at HT2
          rw [hl', tgE_in hcb.1 hcb.2, e1, e2] at HT3
          rw [hlen, tgE_in hobb.1 hobb.2] at HT1
          rw [hlen, tgE_in hobb.1 hobb.2] at e3
          simp only [Int.toNat_natCast] at HT3
          have HLB := Hi.mk hl'
          by_cases hoc : o = c
          · subst hoc
            rw [e1, e2] at HT2
            simp only [Int.toNat_natCast] at HT2
            obtain ⟨A, hA⟩ : ∃ A, tgN bs 8 800 o = A := ⟨_, rfl⟩
            obtain ⟨hs, hhs⟩ : ∃ h, tgIs bs 8 800 o = h := ⟨_, rfl⟩
            rw [hA, hhs] at HT1
            (try rw [hA, hhs] at HT2)
            have HZ := Hi.mk (And.intro hbs' (And.intro hxe (And.intro hte hbe)))
            cases bb
            · simp only [Bool.false_eq_true, if_false] at HT2 HT3
              have HWR := Hi.mk (show ∀ W, MemAt 89 W p g 1000 bs → Calls Try.prog 13 #[.pointer (some ⟨p, 0, none⟩), .agg #[.int .i64 8, .int .i64 800], .int .i64 o, .int .i64 t, .bool false] W fun e w' => e = .returned (.int .i64 0) ∧ MemAt 89 w' p g 1000 bs' ∧ Kept (· = g) W w' from by rw [← hbs']; exact HST.out)
              have HTB := Hi.mk htb
              clear HST e1 e2 e3 hl' hlen HSE hA hhs hbs' hcb hobb hxb htb hob hob0 hxe hte hbe
              obtain ⟨m0, m1⟩ := CB.two HI.out.x
              go_wp2_with (go_at_call 12; ((with_reducible refine (HT1.out _ HI.out.m.mem).mono ?_); rintro e w3 ⟨rfl, hb3⟩; have H3 := Hi.mk (HI.out.later hb3); have hk0 := And.intro hc0 (And.intro hc1 hc2); have HC3 := Hi.mk (And.intro ((HX.out.2.1.below H3.out.m.below).one (map_at (f := u16C) hlt1)) ((HX.out.2.2.below H3.out.m.below).one (map_at (f := boolC) hlt2))); clear hb3 hk0 hc0 hc1 hc2 m0 m1))
              have hc3 := HC3.out
              rw [HZ.out.2.2.1, HZ.out.2.2.2] at hc3
              have HC4 := Hi.mk hc3
              clear hc3 HC3
              have hwt : IntKind.i64.wrap (t : Int) = t := by rw [IntKind.wrap_i64]; have := HTB.out; omega
              refine wp_region_noPanic ?_
              refine wp_region_last_drew (S := (fun V => (V.cell? ⟨w2.heap.size, 0, none⟩ = some (.int .i64 8) ∧ V.cell? ⟨w2.heap.size, 1, none⟩ = some (.int .i64 800)) ∧ V.cell? ⟨b1, f1 + j, none⟩ = some (.int .u16 (t : Int)) ∧ V.cell? ⟨b2, f2 + j, none⟩ = some (.bool false))) [] (by kernel_rfl) ⟨CB.two H3.out.x.drew, HC4.out⟩ (fun hHeld => ?_)
              (try simp only [Array.replicate_succ, Array.replicate_zero, List.push_toArray, List.nil_append, List.cons_append])
              refine wpAnyF_take (i := 0) (v := ?_) (by kernel_rfl) (by kernel_rfl) rfl (by kernel_rfl) (by kernel_rfl) (by kernel_rfl) (fun _ _ _ h => h) (Or.inl ⟨by rfl, ?_⟩) (by assumption) ?_
              rotate_left
              · intro w' hSw; (try dsimp only at hSw); clear hSw; go_simp; (try with_reducible rfl)
              (try simp only [Act.put, List.getElem_toArray, List.getElem_cons_zero, List.getElem_cons_succ, List.setIfInBounds_toArray, List.set_cons_zero, List.set_cons_succ])
              refine wpAnyF_take (i := 1) (v := ?_) (by kernel_rfl) (by kernel_rfl) rfl (by kernel_rfl) (by kernel_rfl) (by kernel_rfl) (fun _ _ _ h => h) (Or.inl ⟨by rfl, ?_⟩) (by assumption) ?_
              rotate_left
              · intro w' hSw; (try dsimp only at hSw); have hq := hSw.1; clear hSw; obtain ⟨m0, m1⟩ := hq; go_simp; (try with_reducible rfl)
              (try simp only [Act.put, List.getElem_toArray, List.getElem_cons_zero, List.getElem_cons_succ, List.setIfInBounds_toArray, List.set_cons_zero, List.set_cons_succ])
              refine wpAnyF_take (i := 2) (v := ?_) (by kernel_rfl) (by kernel_rfl) rfl (by kernel_rfl) (by kernel_rfl) (by kernel_rfl) (fun _ _ _ h => h) (Or.inl ⟨by rfl, ?_⟩) (by assumption) ?_
              rotate_left
              · intro w' hSw; (try dsimp only at hSw); clear hSw; go_simp; (try with_reducible rfl)
              (try simp only [Act.put, List.getElem_toArray, List.getElem_cons_zero, List.getElem_cons_succ, List.setIfInBounds_toArray, List.set_cons_zero, List.set_cons_succ])
              refine wpAnyF_take (i := 3) (v := ?_) (by kernel_rfl) (by kernel_rfl) rfl (by kernel_rfl) (by kernel_rfl) (by kernel_rfl) (fun _ _ _ h => h) (Or.inl ⟨by rfl, ?_⟩) (by assumption) ?_
              rotate_left
              · intro w' hSw; (try dsimp only at hSw); clear hSw; go_simp; (try with_reducible rfl)
              (try simp only [Act.put, List.getElem_toArray, List.getElem_cons_zero, List.getElem_cons_succ, List.setIfInBounds_toArray, List.set_cons_zero, List.set_cons_succ])
              refine wpAnyF_take (i := 4) (v := ?_) (by kernel_rfl) (by kernel_rfl) rfl (by kernel_rfl) (by kernel_rfl) (by kernel_rfl) (fun _ _ _ h => h) (Or.inl ⟨by rfl, ?_⟩) (by assumption) ?_
              rotate_left
              · intro w' hSw; (try dsimp only at hSw); clear hSw; go_simp; (try with_reducible rfl)
              (try simp only [Act.put, List.getElem_toArray, List.getElem_cons_zero, List.getElem_cons_succ, List.setIfInBounds_toArray, List.set_cons_zero, List.set_cons_succ])
              refine wpAnyF_take (i := 5) (v := ?_) (by kernel_rfl) (by kernel_rfl) rfl (by kernel_rfl) (by kernel_rfl) (by kernel_rfl) (fun _ _ _ h => h) (Or.inl ⟨by rfl, ?_⟩) (by assumption) ?_
              rotate_left
              · intro w' hSw; (try dsimp only at hSw); clear hSw; go_simp; (try with_reducible rfl)
              (try simp only [Act.put, List.getElem_toArray, List.getElem_cons_zero, List.getElem_cons_succ, List.setIfInBounds_toArray, List.set_cons_zero, List.set_cons_succ])
              refine wpAnyF_take (i := 6) (v := ?_) (by kernel_rfl) (by kernel_rfl) rfl (by kernel_rfl) (by kernel_rfl) (by kernel_rfl) (fun _ _ _ h => h) (Or.inl ⟨by rfl, ?_⟩) (by assumption) ?_
              rotate_left
              · intro w' hSw; (try dsimp only at hSw); have hq := hSw.2.1; clear hSw; go_simp; (try with_reducible rfl)
              (try simp only [Act.put, List.getElem_toArray, List.getElem_cons_zero, List.getElem_cons_succ, List.setIfInBounds_toArray, List.set_cons_zero, List.set_cons_succ])
              refine wpAnyF_take (i := 7) (v := ?_) (by kernel_rfl) (by kernel_rfl) rfl (by kernel_rfl) (by kernel_rfl) (by kernel_rfl) (fun _ _ _ h => h) (Or.inl ⟨by rfl, ?_⟩) (by assumption) ?_
              rotate_left
              · intro w' hSw; (try dsimp only at hSw); clear hSw; go_simp; (try with_reducible rfl)
              (try simp only [Act.put, List.getElem_toArray, List.getElem_cons_zero, List.getElem_cons_succ, List.setIfInBounds_toArray, List.set_cons_zero, List.set_cons_succ])
              refine wpAnyF_take (i := 8) (v := ?_) (by kernel_rfl) (by kernel_rfl) rfl (by kernel_rfl) (by kernel_rfl) (by kernel_rfl) (fun _ _ _ h => h) (Or.inl ⟨by rfl, ?_⟩) (by assumption) ?_
              rotate_left
              · intro w' hSw; (try dsimp only at hSw); clear hSw; go_simp; (try with_reducible rfl)
              (try simp only [Act.put, List.getElem_toArray, List.getElem_cons_zero, List.getElem_cons_succ, List.setIfInBounds_toArray, List.set_cons_zero, List.set_cons_succ])
              refine wpAnyF_take (i := 9) (v := ?_) (by kernel_rfl) (by kernel_rfl) rfl (by kernel_rfl) (by kernel_rfl) (by kernel_rfl) (fun _ _ _ h => h) (Or.inl ⟨by rfl, ?_⟩) (by assumption) ?_
              rotate_left
              · intro w' hSw; (try dsimp only at hSw); clear hSw; go_simp; (try with_reducible rfl)
              (try simp only [Act.put, List.getElem_toArray, List.getElem_cons_zero, List.getElem_cons_succ, List.setIfInBounds_toArray, List.set_cons_zero, List.set_cons_succ])
              refine wpAnyF_take (i := 10) (v := ?_) (by kernel_rfl) (by kernel_rfl) rfl (by kernel_rfl) (by kernel_rfl) (by kernel_rfl) (fun _ _ _ h => h) (Or.inl ⟨by rfl, ?_⟩) (by assumption) ?_
              rotate_left
              · intro w' hSw; (try dsimp only at hSw); clear hSw; go_simp; (try with_reducible rfl)
              (try simp only [Act.put, List.getElem_toArray, List.getElem_cons_zero, List.getElem_cons_succ, List.setIfInBounds_toArray, List.set_cons_zero, List.set_cons_succ])
              refine wpAnyF_take (i := 11) (v := ?_) (by kernel_rfl) (by kernel_rfl) rfl (by kernel_rfl) (by kernel_rfl) (by kernel_rfl) (fun _ _ _ h => h) (Or.inl ⟨by rfl, ?_⟩) (by assumption) ?_
              rotate_left
              · intro w' hSw; (try dsimp only at hSw); have hq := hSw.2.2; clear hSw; go_simp; (try with_reducible rfl)
              (try simp only [Act.put, List.getElem_toArray, List.getElem_cons_zero, List.getElem_cons_succ, List.setIfInBounds_toArray, List.set_cons_zero, List.set_cons_succ])
              refine wpAnyF_ready (rs := [12]) (by kernel_rfl) (by simp) ?_
              refine AllReadyF.cons rfl (fun KK hKK => ?_) AllReadyF.nil
              go_simp
              ((with_reducible refine (HWR.out _ (H3.out.later (below_dr _)).m.mem).mono ?_); rintro e' w4 ⟨rfl, hm4, hk4⟩; have H4 := Hi.mk ((H3.out.later (below_dr _)).wrote hk4 hm4 HLB.out); have hcc := And.intro ((HX.out.2.1.below H4.out.m.below).one (map_at (f := u16C) hlt1)) ((HX.out.2.2.below H4.out.m.below).one (map_at (f := boolC) hlt2)); rw [HZ.out.2.2.1, HZ.out.2.2.2] at hcc; clear hm4 hk4)
              (try go_simp)
              refine hKK.out _ _ ⟨CB.two H4.out.x, hcc⟩ (fun hHeld => ?_)
              clear hKK KK
              (try simp only [Act.put, List.getElem_toArray, List.getElem_cons_zero, List.getElem_cons_succ, List.setIfInBounds_toArray, List.set_cons_zero, List.set_cons_succ])
              refine wpAnyF_take (i := 13) (v := ?_) (by kernel_rfl) (by kernel_rfl) rfl (by kernel_rfl) (by kernel_rfl) (by kernel_rfl) (fun _ _ _ h => h) (Or.inl ⟨by rfl, ?_⟩) (by assumption) ?_
              rotate_left
              · intro w' hSw; (try dsimp only at hSw); clear hSw; go_simp; (try with_reducible rfl)
              (try simp only [Act.put, List.getElem_toArray, List.getElem_cons_zero, List.getElem_cons_succ, List.setIfInBounds_toArray, List.set_cons_zero, List.set_cons_succ])
              refine wpAnyF_done (by kernel_rfl) ?_ _
              refine NoPanic.normal ?_
              clear hwt
              (try clear hc ho)
              have htb := HTB.out
              have hc5 := And.intro ((HX.out.2.1.below H4.out.m.below).one (map_at (f := u16C) hlt1)) ((HX.out.2.2.below H4.out.m.below).one (map_at (f := boolC) hlt2))
              rw [HZ.out.2.2.1, HZ.out.2.2.2] at hc5
              have HC5 := Hi.mk hc5
              clear hc5
              obtain ⟨m0, m1⟩ := CB.two H4.out.x
              go_wp2_with (first
                | (go_at_call 12; ((with_reducible refine (HT2.out _ H4.out.m.mem).mono ?_); rintro e w5 ⟨rfl, hb5⟩; have H5 := Hi.mk (H4.out.later hb5); clear hb5 m0 m1; obtain ⟨m0, m1⟩ := CB.two H5.out.x))
                | (go_at_call 12; ((with_reducible refine (HT3.out _ H5.out.m.mem).mono ?_); rintro e w6 ⟨rfl, hb6⟩; have H6 := Hi.mk (H5.out.later hb6); clear hb6 m0 m1; have hc6 := And.intro ((HX.out.2.1.below H6.out.m.below).one (map_at (f := u16C) hlt1)) ((HX.out.2.2.below H6.out.m.below).one (map_at (f := boolC) hlt2)); rw [HZ.out.2.2.1, HZ.out.2.2.2] at hc6; obtain ⟨c1, c2⟩ := hc6)))
              go_roundw
              case rel => exact ⟨j + 1, by go_num, Hi.mk ⟨hlt, _, H6.out⟩⟩
              case measure => simp [intOf]; omega
            · simp only [if_true] at HT2 HT3
              have HWR := Hi.mk (show ∀ W, MemAt 89 W p g 1000 bs → Calls Try.prog 13 #[.pointer (some ⟨p, 0, none⟩), .agg #[.int .i64 8, .int .i64 800], .int .i64 o, .int .i64 t, .bool true] W fun e w' => e = .returned (.int .i64 0) ∧ MemAt 89 w' p g 1000 bs' ∧ Kept (· = g) W w' from by rw [← hbs']; exact HST.out)
              have HTB := Hi.mk htb
              clear HST e1 e2 e3 hl' hlen HSE hA hhs hbs' hcb hobb hxb htb hob hob0 hxe hte hbe
              obtain ⟨m0, m1⟩ := CB.two HI.out.x
              go_wp2_with (go_at_call 12; ((with_reducible refine (HT1.out _ HI.out.m.mem).mono ?_); rintro e w3 ⟨rfl, hb3⟩; have H3 := Hi.mk (HI.out.later hb3); have hk0 := And.intro hc0 (And.intro hc1 hc2); have HC3 := Hi.mk (And.intro ((HX.out.2.1.below H3.out.m.below).one (map_at (f := u16C) hlt1)) ((HX.out.2.2.below H3.out.m.below).one (map_at (f := boolC) hlt2))); clear hb3 hk0 hc0 hc1 hc2 m0 m1))
              have hc3 := HC3.out
              rw [HZ.out.2.2.1, HZ.out.2.2.2] at hc3
              have HC4 := Hi.mk hc3
              clear hc3 HC3
              have hwt : IntKind.i64.wrap (t : Int) = t := by rw [IntKind.wrap_i64]; have := HTB.out; omega
              refine wp_region_noPanic ?_
              refine wp_region_last_drew (S := (fun V => (V.cell? ⟨w2.heap.size, 0, none⟩ = some (.int .i64 8) ∧ V.cell? ⟨w2.heap.size, 1, none⟩ = some (.int .i64 800)) ∧ V.cell? ⟨b1, f1 + j, none⟩ = some (.int .u16 (t : Int)) ∧ V.cell? ⟨b2, f2 + j, none⟩ = some (.bool true))) [] (by kernel_rfl) ⟨CB.two H3.out.x.drew, HC4.out⟩ (fun hHeld => ?_)
              (try simp only [Array.replicate_succ, Array.replicate_zero, List.push_toArray, List.nil_append, List.cons_append])
              refine wpAnyF_take (i := 0) (v := ?_) (by kernel_rfl) (by kernel_rfl) rfl (by kernel_rfl) (by kernel_rfl) (by kernel_rfl) (fun _ _ _ h => h) (Or.inl ⟨by rfl, ?_⟩) (by assumption) ?_
              rotate_left
              · intro w' hSw; (try dsimp only at hSw); clear hSw; go_simp; (try with_reducible rfl)
              (try simp only [Act.put, List.getElem_toArray, List.getElem_cons_zero, List.getElem_cons_succ, List.setIfInBounds_toArray, List.set_cons_zero, List.set_cons_succ])
              refine wpAnyF_take (i := 1) (v := ?_) (by kernel_rfl) (by kernel_rfl) rfl (by kernel_rfl) (by kernel_rfl) (by kernel_rfl) (fun _ _ _ h => h) (Or.inl ⟨by rfl, ?_⟩) (by assumption) ?_
              rotate_left
              · intro w' hSw; (try dsimp only at hSw); have hq := hSw.1; clear hSw; obtain ⟨m0, m1⟩ := hq; go_simp; (try with_reducible rfl)
              (try simp only [Act.put, List.getElem_toArray, List.getElem_cons_zero, List.getElem_cons_succ, List.setIfInBounds_toArray, List.set_cons_zero, List.set_cons_succ])
              refine wpAnyF_take (i := 2) (v := ?_) (by kernel_rfl) (by kernel_rfl) rfl (by kernel_rfl) (by kernel_rfl) (by kernel_rfl) (fun _ _ _ h => h) (Or.inl ⟨by rfl, ?_⟩) (by assumption) ?_
              rotate_left
              · intro w' hSw; (try dsimp only at hSw); clear hSw; go_simp; (try with_reducible rfl)
              (try simp only [Act.put, List.getElem_toArray, List.getElem_cons_zero, List.getElem_cons_succ, List.setIfInBounds_toArray, List.set_cons_zero, List.set_cons_succ])
              refine wpAnyF_take (i := 3) (v := ?_) (by kernel_rfl) (by kernel_rfl) rfl (by kernel_rfl) (by kernel_rfl) (by kernel_rfl) (fun _ _ _ h => h) (Or.inl ⟨by rfl, ?_⟩) (by assumption) ?_
              rotate_left
              · intro w' hSw; (try dsimp only at hSw); clear hSw; go_simp; (try with_reducible rfl)
              (try simp only [Act.put, List.getElem_toArray, List.getElem_cons_zero, List.getElem_cons_succ, List.setIfInBounds_toArray, List.set_cons_zero, List.set_cons_succ])
              refine wpAnyF_take (i := 4) (v := ?_) (by kernel_rfl) (by kernel_rfl) rfl (by kernel_rfl) (by kernel_rfl) (by kernel_rfl) (fun _ _ _ h => h) (Or.inl ⟨by rfl, ?_⟩) (by assumption) ?_
              rotate_left
              · intro w' hSw; (try dsimp only at hSw); clear hSw; go_simp; (try with_reducible rfl)
              (try simp only [Act.put, List.getElem_toArray, List.getElem_cons_zero, List.getElem_cons_succ, List.setIfInBounds_toArray, List.set_cons_zero, List.set_cons_succ])
              refine wpAnyF_take (i := 5) (v := ?_) (by kernel_rfl) (by kernel_rfl) rfl (by kernel_rfl) (by kernel_rfl) (by kernel_rfl) (fun _ _ _ h => h) (Or.inl ⟨by rfl, ?_⟩) (by assumption) ?_
              rotate_left
              · intro w' hSw; (try dsimp only at hSw); clear hSw; go_simp; (try with_reducible rfl)
              (try simp only [Act.put, List.getElem_toArray, List.getElem_cons_zero, List.getElem_cons_succ, List.setIfInBounds_toArray, List.set_cons_zero, List.set_cons_succ])
              refine wpAnyF_take (i := 6) (v := ?_) (by kernel_rfl) (by kernel_rfl) rfl (by kernel_rfl) (by kernel_rfl) (by kernel_rfl) (fun _ _ _ h => h) (Or.inl ⟨by rfl, ?_⟩) (by assumption) ?_
              rotate_left
              · intro w' hSw; (try dsimp only at hSw); have hq := hSw.2.1; clear hSw; go_simp; (try with_reducible rfl)
              (try simp only [Act.put, List.getElem_toArray, List.getElem_cons_zero, List.getElem_cons_succ, List.setIfInBounds_toArray, List.set_cons_zero, List.set_cons_succ])
              refine wpAnyF_take (i := 7) (v := ?_) (by kernel_rfl) (by kernel_rfl) rfl (by kernel_rfl) (by kernel_rfl) (by kernel_rfl) (fun _ _ _ h => h) (Or.inl ⟨by rfl, ?_⟩) (by assumption) ?_
              rotate_left
              · intro w' hSw; (try dsimp only at hSw); clear hSw; go_simp; (try with_reducible rfl)
              (try simp only [Act.put, List.getElem_toArray, List.getElem_cons_zero, List.getElem_cons_succ, List.setIfInBounds_toArray, List.set_cons_zero, List.set_cons_succ])
              refine wpAnyF_take (i := 8) (v := ?_) (by kernel_rfl) (by kernel_rfl) rfl (by kernel_rfl) (by kernel_rfl) (by kernel_rfl) (fun _ _ _ h => h) (Or.inl ⟨by rfl, ?_⟩) (by assumption) ?_
              rotate_left
              · intro w' hSw; (try dsimp only at hSw); clear hSw; go_simp; (try with_reducible rfl)
              (try simp only [Act.put, List.getElem_toArray, List.getElem_cons_zero, List.getElem_cons_succ, List.setIfInBounds_toArray, List.set_cons_zero, List.set_cons_succ])
              refine wpAnyF_take (i := 9) (v := ?_) (by kernel_rfl) (by kernel_rfl) rfl (by kernel_rfl) (by kernel_rfl) (by kernel_rfl) (fun _ _ _ h => h) (Or.inl ⟨by rfl, ?_⟩) (by assumption) ?_
              rotate_left
              · intro w' hSw; (try dsimp only at hSw); clear hSw; go_simp; (try with_reducible rfl)
              (try simp only [Act.put, List.getElem_toArray, List.getElem_cons_zero, List.getElem_cons_succ, List.setIfInBounds_toArray, List.set_cons_zero, List.set_cons_succ])
              refine wpAnyF_take (i := 10) (v := ?_) (by kernel_rfl) (by kernel_rfl) rfl (by kernel_rfl) (by kernel_rfl) (by kernel_rfl) (fun _ _ _ h => h) (Or.inl ⟨by rfl, ?_⟩) (by assumption) ?_
              rotate_left
              · intro w' hSw; (try dsimp only at hSw); clear hSw; go_simp; (try with_reducible rfl)
              (try simp only [Act.put, List.getElem_toArray, List.getElem_cons_zero, List.getElem_cons_succ, List.setIfInBounds_toArray, List.set_cons_zero, List.set_cons_succ])
              refine wpAnyF_take (i := 11) (v := ?_) (by kernel_rfl) (by kernel_rfl) rfl (by kernel_rfl) (by kernel_rfl) (by kernel_rfl) (fun _ _ _ h => h) (Or.inl ⟨by rfl, ?_⟩) (by assumption) ?_
              rotate_left
              · intro w' hSw; (try dsimp only at hSw); have hq := hSw.2.2; clear hSw; go_simp; (try with_reducible rfl)
              (try simp only [Act.put, List.getElem_toArray, List.getElem_cons_zero, List.getElem_cons_succ, List.setIfInBounds_toArray, List.set_cons_zero, List.set_cons_succ])
              refine wpAnyF_ready (rs := [12]) (by kernel_rfl) (by simp) ?_
              refine AllReadyF.cons rfl (fun KK hKK => ?_) AllReadyF.nil
              go_simp
              ((with_reducible refine (HWR.out _ (H3.out.later (below_dr _)).m.mem).mono ?_); rintro e' w4 ⟨rfl, hm4, hk4⟩; have H4 := Hi.mk ((H3.out.later (below_dr _)).wrote hk4 hm4 HLB.out); have hcc := And.intro ((HX.out.2.1.below H4.out.m.below).one (map_at (f := u16C) hlt1)) ((HX.out.2.2.below H4.out.m.below).one (map_at (f := boolC) hlt2)); rw [HZ.out.2.2.1, HZ.out.2.2.2] at hcc; clear hm4 hk4)
              (try go_simp)
              refine hKK.out _ _ ⟨CB.two H4.out.x, hcc⟩ (fun hHeld => ?_)
              clear hKK KK
              (try simp only [Act.put, List.getElem_toArray, List.getElem_cons_zero, List.getElem_cons_succ, List.setIfInBounds_toArray, List.set_cons_zero, List.set_cons_succ])
              refine wpAnyF_take (i := 13) (v := ?_) (by kernel_rfl) (by kernel_rfl) rfl (by kernel_rfl) (by kernel_rfl) (by kernel_rfl) (fun _ _ _ h => h) (Or.inl ⟨by rfl, ?_⟩) (by assumption) ?_
              rotate_left
              · intro w' hSw; (try dsimp only at hSw); clear hSw; go_simp; (try with_reducible rfl)
              (try simp only [Act.put, List.getElem_toArray, List.getElem_cons_zero, List.getElem_cons_succ, List.setIfInBounds_toArray, List.set_cons_zero, List.set_cons_succ])
              refine wpAnyF_done (by kernel_rfl) ?_ _
              refine NoPanic.normal ?_
              clear hwt
              (try clear hc ho)
              have htb := HTB.out
              have hc5 := And.intro ((HX.out.2.1.below H4.out.m.below).one (map_at (f := u16C) hlt1)) ((HX.out.2.2.below H4.out.m.below).one (map_at (f := boolC) hlt2))
              rw [HZ.out.2.2.1, HZ.out.2.2.2] at hc5
              have HC5 := Hi.mk hc5
              clear hc5
              obtain ⟨m0, m1⟩ := CB.two H4.out.x
              go_wp2_with (first
                | (go_at_call 12; ((with_reducible refine (HT2.out _ H4.out.m.mem).mono ?_); rintro e w5 ⟨rfl, hb5⟩; have H5 := Hi.mk (H4.out.later hb5); clear hb5 m0 m1; obtain ⟨m0, m1⟩ := CB.two H5.out.x))
                | (go_at_call 12; ((with_reducible refine (HT3.out _ H5.out.m.mem).mono ?_); rintro e w6 ⟨rfl, hb6⟩; have H6 := Hi.mk (H5.out.later hb6); clear hb6 m0 m1; have hc6 := And.intro ((HX.out.2.1.below H6.out.m.below).one (map_at (f := u16C) hlt1)) ((HX.out.2.2.below H6.out.m.below).one (map_at (f := boolC) hlt2)); rw [HZ.out.2.2.1, HZ.out.2.2.2] at hc6; obtain ⟨c1, c2⟩ := hc6)))
              go_roundw
              case rel => exact ⟨j + 1, by go_num, Hi.mk ⟨hlt, _, H6.out⟩⟩
              case measure => simp [intOf]; omega
          · obtain ⟨e4, e5⟩ := e3 hoc rfl
            rw [e4, e5] at HT2
            have hne : (o != c) = true := by simpa using hoc
            obtain ⟨A, hA⟩ : ∃ A, tgN bs 8 800 o = A := ⟨_, rfl⟩
            obtain ⟨hs, hhs⟩ : ∃ h, tgIs bs 8 800 o = h := ⟨_, rfl⟩
            rw [hA, hhs] at HT1
            (try rw [hA, hhs] at HT2)
            have HZ := Hi.mk (And.intro hbs' (And.intro hxe (And.intro hte hbe)))
            cases bb
            · simp only [Bool.false_eq_true, if_false] at HT2 HT3
              have HWR := Hi.mk (show ∀ W, MemAt 89 W p g 1000 bs → Calls Try.prog 13 #[.pointer (some ⟨p, 0, none⟩), .agg #[.int .i64 8, .int .i64 800], .int .i64 c, .int .i64 t, .bool false] W fun e w' => e = .returned (.int .i64 0) ∧ MemAt 89 w' p g 1000 bs' ∧ Kept (· = g) W w' from by rw [← hbs']; exact HST.out)
              have HTB := Hi.mk htb
              clear HST e1 e2 e3 hl' hlen HSE hA hhs hbs' hcb hobb hxb htb hob hob0 hxe hte hbe e4 e5 hoc
              obtain ⟨m0, m1⟩ := CB.two HI.out.x
              go_wp2_with (go_at_call 12; ((with_reducible refine (HT1.out _ HI.out.m.mem).mono ?_); rintro e w3 ⟨rfl, hb3⟩; have H3 := Hi.mk (HI.out.later hb3); have hk0 := And.intro hc0 (And.intro hc1 hc2); have HC3 := Hi.mk (And.intro ((HX.out.2.1.below H3.out.m.below).one (map_at (f := u16C) hlt1)) ((HX.out.2.2.below H3.out.m.below).one (map_at (f := boolC) hlt2))); clear hb3 hk0 hc0 hc1 hc2 m0 m1))
              have hc3 := HC3.out
              rw [HZ.out.2.2.1, HZ.out.2.2.2] at hc3
              have HC4 := Hi.mk hc3
              clear hc3 HC3
              have hwt : IntKind.i64.wrap (t : Int) = t := by rw [IntKind.wrap_i64]; have := HTB.out; omega
              refine wp_region_noPanic ?_
              refine wp_region_last_drew (S := (fun V => (V.cell? ⟨w2.heap.size, 0, none⟩ = some (.int .i64 8) ∧ V.cell? ⟨w2.heap.size, 1, none⟩ = some (.int .i64 800)) ∧ V.cell? ⟨b1, f1 + j, none⟩ = some (.int .u16 (t : Int)) ∧ V.cell? ⟨b2, f2 + j, none⟩ = some (.bool false))) [] (by kernel_rfl) ⟨CB.two H3.out.x.drew, HC4.out⟩ (fun hHeld => ?_)
              (try simp only [Array.replicate_succ, Array.replicate_zero, List.push_toArray, List.nil_append, List.cons_append])
              refine wpAnyF_take (i := 0) (v := ?_) (by kernel_rfl) (by kernel_rfl) rfl (by kernel_rfl) (by kernel_rfl) (by kernel_rfl) (fun _ _ _ h => h) (Or.inl ⟨by rfl, ?_⟩) (by assumption) ?_
              rotate_left
              · intro w' hSw; (try dsimp only at hSw); clear hSw; go_simp; (try with_reducible rfl)
              (try simp only [Act.put, List.getElem_toArray, List.getElem_cons_zero, List.getElem_cons_succ, List.setIfInBounds_toArray, List.set_cons_zero, List.set_cons_succ])
              refine wpAnyF_take (i := 1) (v := ?_) (by kernel_rfl) (by kernel_rfl) rfl (by kernel_rfl) (by kernel_rfl) (by kernel_rfl) (fun _ _ _ h => h) (Or.inl ⟨by rfl, ?_⟩) (by assumption) ?_
              rotate_left
              · intro w' hSw; (try dsimp only at hSw); have hq := hSw.1; clear hSw; obtain ⟨m0, m1⟩ := hq; go_simp; (try with_reducible rfl)
              (try simp only [Act.put, List.getElem_toArray, List.getElem_cons_zero, List.getElem_cons_succ, List.setIfInBounds_toArray, List.set_cons_zero, List.set_cons_succ])
              refine wpAnyF_take (i := 2) (v := ?_) (by kernel_rfl) (by kernel_rfl) rfl (by kernel_rfl) (by kernel_rfl) (by kernel_rfl) (fun _ _ _ h => h) (Or.inl ⟨by rfl, ?_⟩) (by assumption) ?_
              rotate_left
              · intro w' hSw; (try dsimp only at hSw); clear hSw; go_simp; (try with_reducible rfl)
              (try simp only [Act.put, List.getElem_toArray, List.getElem_cons_zero, List.getElem_cons_succ, List.setIfInBounds_toArray, List.set_cons_zero, List.set_cons_succ])
              refine wpAnyF_take (i := 3) (v := ?_) (by kernel_rfl) (by kernel_rfl) rfl (by kernel_rfl) (by kernel_rfl) (by kernel_rfl) (fun _ _ _ h => h) (Or.inl ⟨by rfl, ?_⟩) (by assumption) ?_
              rotate_left
              · intro w' hSw; (try dsimp only at hSw); clear hSw; go_simp; (try with_reducible rfl)
              (try simp only [Act.put, List.getElem_toArray, List.getElem_cons_zero, List.getElem_cons_succ, List.setIfInBounds_toArray, List.set_cons_zero, List.set_cons_succ])
              refine wpAnyF_take (i := 4) (v := ?_) (by kernel_rfl) (by kernel_rfl) rfl (by kernel_rfl) (by kernel_rfl) (by kernel_rfl) (fun _ _ _ h => h) (Or.inl ⟨by rfl, ?_⟩) (by assumption) ?_
              rotate_left
              · intro w' hSw; (try dsimp only at hSw); clear hSw; go_simp; (try with_reducible rfl)
              (try simp only [Act.put, List.getElem_toArray, List.getElem_cons_zero, List.getElem_cons_succ, List.setIfInBounds_toArray, List.set_cons_zero, List.set_cons_succ])
              refine wpAnyF_take (i := 5) (v := ?_) (by kernel_rfl) (by kernel_rfl) rfl (by kernel_rfl) (by kernel_rfl) (by kernel_rfl) (fun _ _ _ h => h) (Or.inl ⟨by rfl, ?_⟩) (by assumption) ?_
              rotate_left
              · intro w' hSw; (try dsimp only at hSw); clear hSw; go_simp; (try with_reducible rfl)
              (try simp only [Act.put, List.getElem_toArray, List.getElem_cons_zero, List.getElem_cons_succ, List.setIfInBounds_toArray, List.set_cons_zero, List.set_cons_succ])
              refine wpAnyF_take (i := 6) (v := ?_) (by kernel_rfl) (by kernel_rfl) rfl (by kernel_rfl) (by kernel_rfl) (by kernel_rfl) (fun _ _ _ h => h) (Or.inl ⟨by rfl, ?_⟩) (by assumption) ?_
              rotate_left
              · intro w' hSw; (try dsimp only at hSw); have hq := hSw.2.1; clear hSw; go_simp; (try with_reducible rfl)
              (try simp only [Act.put, List.getElem_toArray, List.getElem_cons_zero, List.getElem_cons_succ, List.setIfInBounds_toArray, List.set_cons_zero, List.set_cons_succ])
              refine wpAnyF_take (i := 7) (v := ?_) (by kernel_rfl) (by kernel_rfl) rfl (by kernel_rfl) (by kernel_rfl) (by kernel_rfl) (fun _ _ _ h => h) (Or.inl ⟨by rfl, ?_⟩) (by assumption) ?_
              rotate_left
              · intro w' hSw; (try dsimp only at hSw); clear hSw; go_simp; (try with_reducible rfl)
              (try simp only [Act.put, List.getElem_toArray, List.getElem_cons_zero, List.getElem_cons_succ, List.setIfInBounds_toArray, List.set_cons_zero, List.set_cons_succ])
              refine wpAnyF_take (i := 8) (v := ?_) (by kernel_rfl) (by kernel_rfl) rfl (by kernel_rfl) (by kernel_rfl) (by kernel_rfl) (fun _ _ _ h => h) (Or.inl ⟨by rfl, ?_⟩) (by assumption) ?_
              rotate_left
              · intro w' hSw; (try dsimp only at hSw); clear hSw; go_simp; (try with_reducible rfl)
              (try simp only [Act.put, List.getElem_toArray, List.getElem_cons_zero, List.getElem_cons_succ, List.setIfInBounds_toArray, List.set_cons_zero, List.set_cons_succ])
              refine wpAnyF_take (i := 9) (v := ?_) (by kernel_rfl) (by kernel_rfl) rfl (by kernel_rfl) (by kernel_rfl) (by kernel_rfl) (fun _ _ _ h => h) (Or.inl ⟨by rfl, ?_⟩) (by assumption) ?_
              rotate_left
              · intro w' hSw; (try dsimp only at hSw); clear hSw; go_simp; (try with_reducible rfl)
              (try simp only [Act.put, List.getElem_toArray, List.getElem_cons_zero, List.getElem_cons_succ, List.setIfInBounds_toArray, List.set_cons_zero, List.set_cons_succ])
              refine wpAnyF_take (i := 10) (v := ?_) (by kernel_rfl) (by kernel_rfl) rfl (by kernel_rfl) (by kernel_rfl) (by kernel_rfl) (fun _ _ _ h => h) (Or.inl ⟨by rfl, ?_⟩) (by assumption) ?_
              rotate_left
              · intro w' hSw; (try dsimp only at hSw); clear hSw; go_simp; (try with_reducible rfl)
              (try simp only [Act.put, List.getElem_toArray, List.getElem_cons_zero, List.getElem_cons_succ, List.setIfInBounds_toArray, List.set_cons_zero, List.set_cons_succ])
              refine wpAnyF_take (i := 11) (v := ?_) (by kernel_rfl) (by kernel_rfl) rfl (by kernel_rfl) (by kernel_rfl) (by kernel_rfl) (fun _ _ _ h => h) (Or.inl ⟨by rfl, ?_⟩) (by assumption) ?_
              rotate_left
              · intro w' hSw; (try dsimp only at hSw); have hq := hSw.2.2; clear hSw; go_simp; (try with_reducible rfl)
              (try simp only [Act.put, List.getElem_toArray, List.getElem_cons_zero, List.getElem_cons_succ, List.setIfInBounds_toArray, List.set_cons_zero, List.set_cons_succ])
              refine wpAnyF_ready (rs := [12]) (by kernel_rfl) (by simp) ?_
              refine AllReadyF.cons rfl (fun KK hKK => ?_) AllReadyF.nil
              go_simp
              ((with_reducible refine (HWR.out _ (H3.out.later (below_dr _)).m.mem).mono ?_); rintro e' w4 ⟨rfl, hm4, hk4⟩; have H4 := Hi.mk ((H3.out.later (below_dr _)).wrote hk4 hm4 HLB.out); have hcc := And.intro ((HX.out.2.1.below H4.out.m.below).one (map_at (f := u16C) hlt1)) ((HX.out.2.2.below H4.out.m.below).one (map_at (f := boolC) hlt2)); rw [HZ.out.2.2.1, HZ.out.2.2.2] at hcc; clear hm4 hk4)
              (try go_simp)
              refine hKK.out _ _ ⟨CB.two H4.out.x, hcc⟩ (fun hHeld => ?_)
              clear hKK KK
              (try simp only [Act.put, List.getElem_toArray, List.getElem_cons_zero, List.getElem_cons_succ, List.setIfInBounds_toArray, List.set_cons_zero, List.set_cons_succ])
              refine wpAnyF_take (i := 13) (v := ?_) (by kernel_rfl) (by kernel_rfl) rfl (by kernel_rfl) (by kernel_rfl) (by kernel_rfl) (fun _ _ _ h => h) (Or.inl ⟨by rfl, ?_⟩) (by assumption) ?_
              rotate_left
              · intro w' hSw; (try dsimp only at hSw); clear hSw; go_simp; (try with_reducible rfl)
              (try simp only [Act.put, List.getElem_toArray, List.getElem_cons_zero, List.getElem_cons_succ, List.setIfInBounds_toArray, List.set_cons_zero, List.set_cons_succ])
              refine wpAnyF_done (by kernel_rfl) ?_ _
              refine NoPanic.normal ?_
              clear hwt
              (try clear hc ho)
              have htb := HTB.out
              have hc5 := And.intro ((HX.out.2.1.below H4.out.m.below).one (map_at (f := u16C) hlt1)) ((HX.out.2.2.below H4.out.m.below).one (map_at (f := boolC) hlt2))
              rw [HZ.out.2.2.1, HZ.out.2.2.2] at hc5
              have HC5 := Hi.mk hc5
              clear hc5
              obtain ⟨m0, m1⟩ := CB.two H4.out.x
              go_wp2_with (first
                | (go_at_call 12; ((with_reducible refine (HT2.out _ H4.out.m.mem).mono ?_); rintro e w5 ⟨rfl, hb5⟩; have H5 := Hi.mk (H4.out.later hb5); clear hb5 m0 m1; obtain ⟨m0, m1⟩ := CB.two H5.out.x))
                | (go_at_call 12; ((with_reducible refine (HT3.out _ H5.out.m.mem).mono ?_); rintro e w6 ⟨rfl, hb6⟩; have H6 := Hi.mk (H5.out.later hb6); clear hb6 m0 m1; have hc6 := And.intro ((HX.out.2.1.below H6.out.m.below).one (map_at (f := u16C) hlt1)) ((HX.out.2.2.below H6.out.m.below).one (map_at (f := boolC) hlt2)); rw [HZ.out.2.2.1, HZ.out.2.2.2] at hc6; obtain ⟨c1, c2⟩ := hc6)))
              go_roundw
              case rel => exact ⟨j + 1, by go_num, Hi.mk ⟨hlt, _, H6.out⟩⟩
              case measure => simp [intOf]; omega
            · simp only [if_true] at HT2 HT3
              have HWR := Hi.mk (show ∀ W, MemAt 89 W p g 1000 bs → Calls Try.prog 13 #[.pointer (some ⟨p, 0, none⟩), .agg #[.int .i64 8, .int .i64 800], .int .i64 c, .int .i64 t, .bool true] W fun e w' => e = .returned (.int .i64 0) ∧ MemAt 89 w' p g 1000 bs' ∧ Kept (· = g) W w' from by rw [← hbs']; exact HST.out)
              have HTB := Hi.mk htb
              clear HST e1 e2 e3 hl' hlen HSE hA hhs hbs' hcb hobb hxb htb hob hob0 hxe hte hbe e4 e5 hoc
              obtain ⟨m0, m1⟩ := CB.two HI.out.x
              go_wp2_with (go_at_call 12; ((with_reducible refine (HT1.out _ HI.out.m.mem).mono ?_); rintro e w3 ⟨rfl, hb3⟩; have H3 := Hi.mk (HI.out.later hb3); have hk0 := And.intro hc0 (And.intro hc1 hc2); have HC3 := Hi.mk (And.intro ((HX.out.2.1.below H3.out.m.below).one (map_at (f := u16C) hlt1)) ((HX.out.2.2.below H3.out.m.below).one (map_at (f := boolC) hlt2))); clear hb3 hk0 hc0 hc1 hc2 m0 m1))
              have hc3 := HC3.out
              rw [HZ.out.2.2.1, HZ.out.2.2.2] at hc3
              have HC4 := Hi.mk hc3
              clear hc3 HC3
              have hwt : IntKind.i64.wrap (t : Int) = t := by rw [IntKind.wrap_i64]; have := HTB.out; omega
              refine wp_region_noPanic ?_
              refine wp_region_last_drew (S := (fun V => (V.cell? ⟨w2.heap.size, 0, none⟩ = some (.int .i64 8) ∧ V.cell? ⟨w2.heap.size, 1, none⟩ = some (.int .i64 800)) ∧ V.cell? ⟨b1, f1 + j, none⟩ = some (.int .u16 (t : Int)) ∧ V.cell? ⟨b2, f2 + j, none⟩ = some (.bool true))) [] (by kernel_rfl) ⟨CB.two H3.out.x.drew, HC4.out⟩ (fun hHeld => ?_)
              (try simp only [Array.replicate_succ, Array.replicate_zero, List.push_toArray, List.nil_append, List.cons_append])
              refine wpAnyF_take (i := 0) (v := ?_) (by kernel_rfl) (by kernel_rfl) rfl (by kernel_rfl) (by kernel_rfl) (by kernel_rfl) (fun _ _ _ h => h) (Or.inl ⟨by rfl, ?_⟩) (by assumption) ?_
              rotate_left
              · intro w' hSw; (try dsimp only at hSw); clear hSw; go_simp; (try with_reducible rfl)
              (try simp only [Act.put, List.getElem_toArray, List.getElem_cons_zero, List.getElem_cons_succ, List.setIfInBounds_toArray, List.set_cons_zero, List.set_cons_succ])
              refine wpAnyF_take (i := 1) (v := ?_) (by kernel_rfl) (by kernel_rfl) rfl (by kernel_rfl) (by kernel_rfl) (by kernel_rfl) (fun _ _ _ h => h) (Or.inl ⟨by rfl, ?_⟩) (by assumption) ?_
              rotate_left
              · intro w' hSw; (try dsimp only at hSw); have hq := hSw.1; clear hSw; obtain ⟨m0, m1⟩ := hq; go_simp; (try with_reducible rfl)
              (try simp only [Act.put, List.getElem_toArray, List.getElem_cons_zero, List.getElem_cons_succ, List.setIfInBounds_toArray, List.set_cons_zero, List.set_cons_succ])
              refine wpAnyF_take (i := 2) (v := ?_) (by kernel_rfl) (by kernel_rfl) rfl (by kernel_rfl) (by kernel_rfl) (by kernel_rfl) (fun _ _ _ h => h) (Or.inl ⟨by rfl, ?_⟩) (by assumption) ?_
              rotate_left
              · intro w' hSw; (try dsimp only at hSw); clear hSw; go_simp; (try with_reducible rfl)
              (try simp only [Act.put, List.getElem_toArray, List.getElem_cons_zero, List.getElem_cons_succ, List.setIfInBounds_toArray, List.set_cons_zero, List.set_cons_succ])
              refine wpAnyF_take (i := 3) (v := ?_) (by kernel_rfl) (by kernel_rfl) rfl (by kernel_rfl) (by kernel_rfl) (by kernel_rfl) (fun _ _ _ h => h) (Or.inl ⟨by rfl, ?_⟩) (by assumption) ?_
              rotate_left
              · intro w' hSw; (try dsimp only at hSw); clear hSw; go_simp; (try with_reducible rfl)
              (try simp only [Act.put, List.getElem_toArray, List.getElem_cons_zero, List.getElem_cons_succ, List.setIfInBounds_toArray, List.set_cons_zero, List.set_cons_succ])
              refine wpAnyF_take (i := 4) (v := ?_) (by kernel_rfl) (by kernel_rfl) rfl (by kernel_rfl) (by kernel_rfl) (by kernel_rfl) (fun _ _ _ h => h) (Or.inl ⟨by rfl, ?_⟩) (by assumption) ?_
              rotate_left
              · intro w' hSw; (try dsimp only at hSw); clear hSw; go_simp; (try with_reducible rfl)
              (try simp only [Act.put, List.getElem_toArray, List.getElem_cons_zero, List.getElem_cons_succ, List.setIfInBounds_toArray, List.set_cons_zero, List.set_cons_succ])
              refine wpAnyF_take (i := 5) (v := ?_) (by kernel_rfl) (by kernel_rfl) rfl (by kernel_rfl) (by kernel_rfl) (by kernel_rfl) (fun _ _ _ h => h) (Or.inl ⟨by rfl, ?_⟩) (by assumption) ?_
              rotate_left
              · intro w' hSw; (try dsimp only at hSw); clear hSw; go_simp; (try with_reducible rfl)
              (try simp only [Act.put, List.getElem_toArray, List.getElem_cons_zero, List.getElem_cons_succ, List.setIfInBounds_toArray, List.set_cons_zero, List.set_cons_succ])
              refine wpAnyF_take (i := 6) (v := ?_) (by kernel_rfl) (by kernel_rfl) rfl (by kernel_rfl) (by kernel_rfl) (by kernel_rfl) (fun _ _ _ h => h) (Or.inl ⟨by rfl, ?_⟩) (by assumption) ?_
              rotate_left
              · intro w' hSw; (try dsimp only at hSw); have hq := hSw.2.1; clear hSw; go_simp; (try with_reducible rfl)
              (try simp only [Act.put, List.getElem_toArray, List.getElem_cons_zero, List.getElem_cons_succ, List.setIfInBounds_toArray, List.set_cons_zero, List.set_cons_succ])
              refine wpAnyF_take (i := 7) (v := ?_) (by kernel_rfl) (by kernel_rfl) rfl (by kernel_rfl) (by kernel_rfl) (by kernel_rfl) (fun _ _ _ h => h) (Or.inl ⟨by rfl, ?_⟩) (by assumption) ?_
              rotate_left
              · intro w' hSw; (try dsimp only at hSw); clear hSw; go_simp; (try with_reducible rfl)
              (try simp only [Act.put, List.getElem_toArray, List.getElem_cons_zero, List.getElem_cons_succ, List.setIfInBounds_toArray, List.set_cons_zero, List.set_cons_succ])
              refine wpAnyF_take (i := 8) (v := ?_) (by kernel_rfl) (by kernel_rfl) rfl (by kernel_rfl) (by kernel_rfl) (by kernel_rfl) (fun _ _ _ h => h) (Or.inl ⟨by rfl, ?_⟩) (by assumption) ?_
              rotate_left
              · intro w' hSw; (try dsimp only at hSw); clear hSw; go_simp; (try with_reducible rfl)
              (try simp only [Act.put, List.getElem_toArray, List.getElem_cons_zero, List.getElem_cons_succ, List.setIfInBounds_toArray, List.set_cons_zero, List.set_cons_succ])
              refine wpAnyF_take (i := 9) (v := ?_) (by kernel_rfl) (by kernel_rfl) rfl (by kernel_rfl) (by kernel_rfl) (by kernel_rfl) (fun _ _ _ h => h) (Or.inl ⟨by rfl, ?_⟩) (by assumption) ?_
              rotate_left
              · intro w' hSw; (try dsimp only at hSw); clear hSw; go_simp; (try with_reducible rfl)
              (try simp only [Act.put, List.getElem_toArray, List.getElem_cons_zero, List.getElem_cons_succ, List.setIfInBounds_toArray, List.set_cons_zero, List.set_cons_succ])
              refine wpAnyF_take (i := 10) (v := ?_) (by kernel_rfl) (by kernel_rfl) rfl (by kernel_rfl) (by kernel_rfl) (by kernel_rfl) (fun _ _ _ h => h) (Or.inl ⟨by rfl, ?_⟩) (by assumption) ?_
              rotate_left
              · intro w' hSw; (try dsimp only at hSw); clear hSw; go_simp; (try with_reducible rfl)
              (try simp only [Act.put, List.getElem_toArray, List.getElem_cons_zero, List.getElem_cons_succ, List.setIfInBounds_toArray, List.set_cons_zero, List.set_cons_succ])
              refine wpAnyF_take (i := 11) (v := ?_) (by kernel_rfl) (by kernel_rfl) rfl (by kernel_rfl) (by kernel_rfl) (by kernel_rfl) (fun _ _ _ h => h) (Or.inl ⟨by rfl, ?_⟩) (by assumption) ?_
              rotate_left
              · intro w' hSw; (try dsimp only at hSw); have hq := hSw.2.2; clear hSw; go_simp; (try with_reducible rfl)
              (try simp only [Act.put, List.getElem_toArray, List.getElem_cons_zero, List.getElem_cons_succ, List.setIfInBounds_toArray, List.set_cons_zero, List.set_cons_succ])
              refine wpAnyF_ready (rs := [12]) (by kernel_rfl) (by simp) ?_
              refine AllReadyF.cons rfl (fun KK hKK => ?_) AllReadyF.nil
              go_simp
              ((with_reducible refine (HWR.out _ (H3.out.later (below_dr _)).m.mem).mono ?_); rintro e' w4 ⟨rfl, hm4, hk4⟩; have H4 := Hi.mk ((H3.out.later (below_dr _)).wrote hk4 hm4 HLB.out); have hcc := And.intro ((HX.out.2.1.below H4.out.m.below).one (map_at (f := u16C) hlt1)) ((HX.out.2.2.below H4.out.m.below).one (map_at (f := boolC) hlt2)); rw [HZ.out.2.2.1, HZ.out.2.2.2] at hcc; clear hm4 hk4)
              (try go_simp)
              refine hKK.out _ _ ⟨CB.two H4.out.x, hcc⟩ (fun hHeld => ?_)
              clear hKK KK
              (try simp only [Act.put, List.getElem_toArray, List.getElem_cons_zero, List.getElem_cons_succ, List.setIfInBounds_toArray, List.set_cons_zero, List.set_cons_succ])
              refine wpAnyF_take (i := 13) (v := ?_) (by kernel_rfl) (by kernel_rfl) rfl (by kernel_rfl) (by kernel_rfl) (by kernel_rfl) (fun _ _ _ h => h) (Or.inl ⟨by rfl, ?_⟩) (by assumption) ?_
              rotate_left
              · intro w' hSw; (try dsimp only at hSw); clear hSw; go_simp; (try with_reducible rfl)
              (try simp only [Act.put, List.getElem_toArray, List.getElem_cons_zero, List.getElem_cons_succ, List.setIfInBounds_toArray, List.set_cons_zero, List.set_cons_succ])
              refine wpAnyF_done (by kernel_rfl) ?_ _
              refine NoPanic.normal ?_
              clear hwt
              (try clear hc ho)
              have htb := HTB.out
              have hc5 := And.intro ((HX.out.2.1.below H4.out.m.below).one (map_at (f := u16C) hlt1)) ((HX.out.2.2.below H4.out.m.below).one (map_at (f := boolC) hlt2))
              rw [HZ.out.2.2.1, HZ.out.2.2.2] at hc5
              have HC5 := Hi.mk hc5
              clear hc5
              obtain ⟨m0, m1⟩ := CB.two H4.out.x
              go_wp2_with (first
                | (go_at_call 12; ((with_reducible refine (HT2.out _ H4.out.m.mem).mono ?_); rintro e w5 ⟨rfl, hb5⟩; have H5 := Hi.mk (H4.out.later hb5); clear hb5 m0 m1; obtain ⟨m0, m1⟩ := CB.two H5.out.x))
                | (go_at_call 12; ((with_reducible refine (HT3.out _ H5.out.m.mem).mono ?_); rintro e w6 ⟨rfl, hb6⟩; have H6 := Hi.mk (H5.out.later hb6); clear hb6 m0 m1; have hc6 := And.intro ((HX.out.2.1.below H6.out.m.below).one (map_at (f := u16C) hlt1)) ((HX.out.2.2.below H6.out.m.below).one (map_at (f := boolC) hlt2)); rw [HZ.out.2.2.1, HZ.out.2.2.2] at hc6; obtain ⟨c1, c2⟩ := hc6)))
              go_roundw
              case rel => exact ⟨j + 1, by go_num, Hi.mk ⟨hlt, _, H6.out⟩⟩
              case measure => simp [intOf]; omega
        · have HTE := Hi.mk (fun W hM => HT.out p g bs 100 W hM)
          rw [HI.out.len, show tgE 1000 8 800 100 = 183 by decide] at HTE
          obtain ⟨m0, m1⟩ := CB.two HI.out.x
          obtain ⟨A, hA⟩ : ∃ A, tgN bs 8 800 100 = A := ⟨_, rfl⟩
          obtain ⟨hs, hhs⟩ : ∃ h, tgIs bs 8 800 100 = h := ⟨_, rfl⟩
          rw [hA, hhs] at HTE
          clear hA hhs
          go_wp2_with (go_at_call 12; ((with_reducible refine (HTE.out _ HI.out.m.mem).mono ?_); rintro e w3 ⟨rfl, hb3⟩; have H3 := Hi.mk (HI.out.later hb3); clear hb3))
          go_ret
          exact ⟨rfl, H3.out.m.below⟩
      · have HTE := Hi.mk (fun W hM => HT.out p g bs 100 W hM)
        rw [HI.out.len, show tgE 1000 8 800 100 = 183 by decide] at HTE
        obtain ⟨m0, m1⟩ := CB.two HI.out.x
        obtain ⟨A, hA⟩ : ∃ A, tgN bs 8 800 100 = A := ⟨_, rfl⟩
        obtain ⟨hs, hhs⟩ : ∃ h, tgIs bs 8 800 100 = h := ⟨_, rfl⟩
        rw [hA, hhs] at HTE
        clear hA hhs
        go_wp2_with (go_at_call 12; ((with_reducible refine (HTE.out _ HI.out.m.mem).mono ?_); rintro e w3 ⟨rfl, hb3⟩; have H3 := Hi.mk (HI.out.later hb3); clear hb3))
        go_ret
        exact ⟨rfl, H3.out.m.below⟩
    · have HTE := Hi.mk (fun W hM => HT.out p g bs 100 W hM)
      rw [HI.out.len, show tgE 1000 8 800 100 = 183 by decide] at HTE
      obtain ⟨m0, m1⟩ := CB.two HI.out.x
      obtain ⟨A, hA⟩ : ∃ A, tgN bs 8 800 100 = A := ⟨_, rfl⟩
      obtain ⟨hs, hhs⟩ : ∃ h, tgIs bs 8 800 100 = h := ⟨_, rfl⟩
      rw [hA, hhs] at HTE
      clear hA hhs
      go_wp2_with (go_at_call 12; ((with_reducible refine (HTE.out _ HI.out.m.mem).mono ?_); rintro e w3 ⟨rfl, hb3⟩; have H3 := Hi.mk (HI.out.later hb3); clear hb3))
      go_ret
      exact ⟨rfl, H3.out.m.below⟩

end Go.Proofs.Ytjcjblmaceooaaa
