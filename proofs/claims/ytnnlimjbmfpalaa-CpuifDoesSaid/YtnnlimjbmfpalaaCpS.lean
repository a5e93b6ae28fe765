/-
  The law: along any acts, from any interface on, both do the same (CpuifDoes).
-/
import Derived.Test.YtnnlimjbmfpalaaCpR
import Derived.Test.YtnnlimjbmfpalaaCpD
namespace Go.Proofs.Ytnnlimjbmfpalaa
open Go.ChangeShapes Go.WideShapes Go.ChangeAt Go.RowKit Go.Shelf
set_option linter.unusedVariables false
attribute [local go_sem] Oper.semAt_some
attribute [local go_sem high] eqlIf guardIf

instance : Inhabited Ac14 := ⟨⟨0, 0, Cd.zero, 0, 0⟩⟩
structure AcC (W : World) (b o : Nat) (x : Ac14) : Prop where
  c0 : W.cell? ⟨b, o, none⟩ = some (.int .i64 x.d)
  c1 : W.cell? ⟨b, o + 1, none⟩ = some (.int .i64 x.g)
  c2 : W.cell? ⟨b, o + 2, none⟩ = some (.int .i64 x.c.id)
  c3 : W.cell? ⟨b, o + 3, none⟩ = some (.int .i64 x.c.p)
  c4 : W.cell? ⟨b, o + 4, none⟩ = some (.int .i64 x.c.g)
  c5 : W.cell? ⟨b, o + 5, none⟩ = some (.bool x.c.is)
  c6 : W.cell? ⟨b, o + 6, none⟩ = some (.int .i64 x.r)
  c7 : W.cell? ⟨b, o + 7, none⟩ = some (.int .u64 x.v)
theorem AcC.below {w W : World} {b o : Nat} {x : Ac14} (h : AcC w b o x) (k : Below w.heap.size w W) (hb : b < w.heap.size) : AcC W b o x :=
  have K : ∀ j v, w.cell? ⟨b, j, none⟩ = some v → W.cell? ⟨b, j, none⟩ = some v := fun j v e => (k.cell (p := ⟨b, j, none⟩) hb).trans e
  ⟨K _ _ h.c0, K _ _ h.c1, K _ _ h.c2, K _ _ h.c3, K _ _ h.c4, K _ _ h.c5, K _ _ h.c6, K _ _ h.c7⟩
def nthX (xs : List Ac14) (k : Nat) : Ac14 := xs[k]?.getD default
/-- The slice value v holds these acts. -/
def ActsAt (W : World) (v : Value) (xs : List Ac14) : Prop :=
  ∃ (a : Option Addr) (cap : Nat), v = .slice a xs.length cap ∧ (xs ≠ [] → ∃ b off : Nat, a = some ⟨b, off, none⟩ ∧ b < W.heap.size ∧ ∀ j, j < xs.length → (nthX xs j).v < 18446744073709551616 ∧ AcC W b (off + j * 8) (nthX xs j))
theorem ActsAt.slice {W : World} {v : Value} {xs : List Ac14} (h : ActsAt W v xs) : ∃ a cap, v = .slice a xs.length cap := by obtain ⟨a, cap, e, _⟩ := h; exact ⟨a, cap, e⟩
theorem ActsAt.below {w W : World} {v : Value} {xs : List Ac14} (h : ActsAt w v xs) (k : Below w.heap.size w W) : ActsAt W v xs := by
  obtain ⟨a, cap, e, hc⟩ := h
  exact ⟨a, cap, e, fun hne => by
    obtain ⟨b, o, ha, hb, hcs⟩ := hc hne
    exact ⟨b, o, ha, Nat.lt_of_lt_of_le hb k.size, fun j hj => ⟨(hcs j hj).1, (hcs j hj).2.below k hb⟩⟩⟩
theorem ActsAt.read {w : World} {a : Option Addr} {n cap : Nat} {xs : List Ac14} (h : ActsAt w (.slice a n cap) xs) {k : Nat} (hk : k < n) :
    ∃ b o : Nat, a = some ⟨b, o, none⟩ ∧ (nthX xs k).v < 18446744073709551616 ∧ ∀ W, Below w.heap.size w W → AcC W b (o + k * 8) (nthX xs k) := by
  obtain ⟨a', cap', e, hc⟩ := h
  injection e with e1 e2 e3
  subst e1; subst e2
  obtain ⟨b, o, ha, hb, hcs⟩ := hc (fun e => by simp [e] at hk)
  obtain ⟨h0, h1⟩ := hcs k hk
  exact ⟨b, o, ha, h0, fun W hW => h1.below hW hb⟩
def xAt (x : Fc) (xs : List Ac14) (k : Nat) : Fc := (xs.take k).foldl stepC x
theorem xAt_succ (x : Fc) (xs : List Ac14) {k : Nat} (hk : k < xs.length) : xAt x xs (k + 1) = stepC (xAt x xs k) (nthX xs k) := by
  unfold xAt nthX
  rw [List.take_add_one, List.foldl_append, List.getElem?_eq_getElem hk]
  rfl
/-- Where the law's loop stands: the interface's box, the document's. -/
structure DoI (w : World) (rb : Nat) (x : Fc) (W : World) : Prop where
  f : CB W w.heap.size 29 x.cs
  r : CB W rb 36 (rifA x)
  below : Below w.heap.size w W
  lt : w.heap.size < rb
theorem DoI.later {w : World} {rb : Nat} {x : Fc} {W W' : World} (h : DoI w rb x W) (k : Below W.heap.size W W') : DoI w rb x W' := ⟨h.f.below k, h.r.below k, h.below.trans (k.mono h.below.size), h.lt⟩
set_option maxRecDepth 100000 in
set_option maxHeartbeats 16000000 in
theorem does_law (x : Fc) (xs : List Ac14) (v : Value) (w : World) (h : ActsAt w v xs) (hl : xs.length ≤ 9223372036854775806) :
    Calls Try.prog 3 #[x.v, v] w fun e w' => e = .returned (.bool true) ∧ Below w.heap.size w w' := by
  obtain ⟨a0, cap, rfl⟩ := h.slice
  have HACT := hi h
  obtain ⟨n, hn⟩ : ∃ n, xs.length = n := ⟨_, rfl⟩
  have HN := hi hn
  rw [hn] at HACT hl ⊢
  clear h hn
  have HB0 := hi (bal w (.cells x.cs 29))
  have HF0 := hi (CB.new w 29 x.cs)
  have HTO := hi (fun W => show Calls Try.prog 10 #[.agg x.cs] W fun e w' => e = .returned (rfv x) ∧ Below W.heap.size W w' from told_any x W)
  have HZx := hi (size_rif x)
  have HZAx := hi (size_rifA x)
  have H1x := hi (rifA_one x)
  go_enter Try.func3, Try.ntmps3
  go_wp2_with (first
    | (go_at_call 9; ((with_reducible refine (awake_if _).mono ?_); rintro e w1 ⟨rfl, hb⟩; have F1 := hi (HF0.out.below hb); have B1 := hi (HB0.out.trans (hb.mono HB0.out.size)); have f0 := F1.out.cell 0; have f1 := F1.out.cell 1; have f2 := F1.out.cell 2; have f3 := F1.out.cell 3; have f4 := F1.out.cell 4; have f5 := F1.out.cell 5; have f6 := F1.out.cell 6; have f7 := F1.out.cell 7; clear hb))
    | (go_at_call 10; ((with_reducible refine (HTO.out _).mono ?_); rintro e w2 ⟨rfl, hb⟩; have F2 := F1.out.below hb; have B2 := B1.out.trans (hb.mono B1.out.size); have hal := bal w2 (.cells (rifA Fc.zero) 36); have N2 := CB.new w2 36 (rifA Fc.zero); have hlt := F2.lt; have HT2 := hi (show World.there (w2.alloc (.cells (rifA Fc.zero) 36)) w2.heap.size 0 (rifA x).size by rw [rifA_size]; exact N2.thereR (rifA_size _)); obtain ⟨W3, h3, D3⟩ : ∃ W, (w2.alloc (.cells (rifA Fc.zero) 36)).setCells w2.heap.size 0 (rifL x) = W ∧ DoI w w2.heap.size x W := ⟨_, rfl, CB.otherCells (by omega) (rifL x) 0 _ (F2.below hal), N2.wholeR (rifA_size _) x, below_cells (by omega) (rifL x) 0 _ (B2.trans (hal.mono B2.size)), hlt⟩; have HW3 := hi h3; have D3 := hi D3; clear hb F2 B2 hal N2 hlt h3))
    | (refine wpList_alloc_rif rfl rfl ?_)
    | (refine wpList_store_mid rfl 36 (.tmp 6) (.tmp 19) rfl w2.heap.size 0 (rifA x) rfl rfl HT2.out HZAx.out H1x.out ?_; rw [show (rifA x).toList = rifL x from rfl, HW3.out]))
  obtain ⟨rb, hrb⟩ : ∃ rb, w2.heap.size = rb := ⟨_, rfl⟩
  rw [hrb] at D3 ⊢
  have HRB := hi D3.out.lt
  clear HW3 HT2 hrb HTO HZx HZAx H1x F1 B1 HB0 HF0
  go_loopw [7] (fun i wr => ∃ k : Nat, k ≤ n ∧ i = .int .i64 k ∧ DoI w rb (xAt x xs k) wr) (fun i _ => n - (intOf i).toNat)
  case atStart => exact ⟨0, Nat.zero_le _, rfl, D3.out⟩
  case round =>
    obtain ⟨k, hk, rfl, hD⟩ := hrel
    have HD := hi hD
    clear hD
    by_cases hkn : k < n
    · obtain ⟨bb, off, rfl, hv, hcs⟩ := HACT.out.read hkn
      have hkl : k < xs.length := by rw [HN.out]; exact hkn
      obtain ⟨⟨d, g, ⟨ci, cp, cg, cis⟩, rg, vv⟩, hA⟩ : ∃ A, nthX xs k = A := ⟨_, rfl⟩
      have HXE := hi hA
      rw [hA] at hcs hv
      obtain ⟨x0, hx0⟩ : ∃ x0, xAt x xs k = x0 := ⟨_, rfl⟩
      have HXX := hi hx0
      rw [hx0] at HD
      obtain ⟨y, hy⟩ : ∃ y, stepC x0 ⟨d, g, ⟨ci, cp, cg, cis⟩, rg, vv⟩ = y := ⟨_, rfl⟩
      have HYE := hi (show stepC (xAt x xs k) ⟨d, g, ⟨ci, cp, cg, cis⟩, rg, vv⟩ = y from by rw [hx0]; exact hy)
      have hc := hcs wr HD.out.below
      have l0 := hc.c0
      have l1 := hc.c1
      have l2 := hc.c2
      have l3 := hc.c3
      have l4 := hc.c4
      have l5 := hc.c5
      have l6 := hc.c6
      have l7 := hc.c7
      dsimp only at l0 l1 l2 l3 l4 l5 l6 l7
      have hDO := fun W (z : CB W w.heap.size 29 x0.cs) => does_if w.heap.size x0 ⟨d, g, ⟨ci, cp, cg, cis⟩, rg, vv⟩ hv W z
      rw [hy] at hDO
      have DO := hi (fun W (z : CB W w.heap.size 29 x0.cs) => show Calls Try.prog 11 #[.pointer (some ⟨w.heap.size, 0, none⟩), .agg (rifL x0).toArray, .agg #[.int .i64 d, .int .i64 g, .int .i64 ci, .int .i64 cp, .int .i64 cg, .bool cis, .int .i64 rg, .int .u64 vv]] W fun e w' => e = .returned (.tuple #[rfv y, .bool true]) ∧ FcAf W w.heap.size y w' from hDO W z)
      obtain ⟨⟨n9, is9⟩, hrc⟩ : ∃ q, readC y rg = q := ⟨_, rfl⟩
      have hRF := fun W => read_any y rg W
      have hRR := fun W => rread_if y rg W
      rw [hrc] at hRF hRR
      obtain ⟨mv, hmv⟩ : ∃ q, mayV y ⟨ci, cp, cg, cis⟩ = q := ⟨_, rfl⟩
      have hMA := fun W => may_any y ⟨ci, cp, cg, cis⟩ W
      have hRMA := fun W => rmay_if y ⟨ci, cp, cg, cis⟩ W
      rw [hmv] at hMA hRMA
      obtain ⟨sv, hsv⟩ : ∃ q, showsV y ⟨ci, cp, cg, cis⟩ g = q := ⟨_, rfl⟩
      have hSH := fun W => shows_any y ⟨ci, cp, cg, cis⟩ g W
      have hRSH := fun W => rshows_if y ⟨ci, cp, cg, cis⟩ g W
      rw [hsv] at hSH hRSH
      obtain ⟨rl, hrl⟩ : ∃ q, realIdV ci = q := ⟨_, rfl⟩
      have RE := hi (fun W => real_id ci W)
      have RRE := hi (fun W => rreal_id ci W)
      rw [hrl] at RE RRE
      obtain ⟨ln, hln⟩ : ∃ q, (rungs y.r).length = q := ⟨_, rfl⟩
      have hDE := fun W => depth_any y W
      have hLE := fun W => len_any y.r W
      rw [hln] at hDE hLE
      have hAL := fun W => alike_if y W
      have HRF := hi hRF
      have HRR := hi (fun W => show Calls Try.prog 13 #[.agg (rifL y).toArray, .int .i64 rg] W fun e w' => e = .returned (.tuple #[.int .u64 n9, .bool is9]) ∧ Below W.heap.size W w' from hRR W)
      have AL := hi (fun W => show Calls Try.prog 14 #[.agg y.cs, .agg (rifL y).toArray] W fun e w' => e = .returned (.bool true) ∧ Below W.heap.size W w' from hAL W)
      have MA := hi (fun W => show Calls Try.prog 15 #[.agg y.cs, .agg #[.int .i64 ci, .int .i64 cp, .int .i64 cg, .bool cis]] W fun e w' => e = .returned (.bool mv) ∧ Below W.heap.size W w' from hMA W)
      have RMA := hi (fun W => show Calls Try.prog 16 #[.agg (rifL y).toArray, .agg #[.int .i64 ci, .int .i64 cp, .int .i64 cg, .bool cis]] W fun e w' => e = .returned (.bool mv) ∧ Below W.heap.size W w' from hRMA W)
      have SH := hi (fun W => show Calls Try.prog 17 #[.agg y.cs, .agg #[.int .i64 ci, .int .i64 cp, .int .i64 cg, .bool cis], .int .i64 g] W fun e w' => e = .returned (.int .i64 sv) ∧ Below W.heap.size W w' from hSH W)
      have RSH := hi (fun W => show Calls Try.prog 18 #[.agg (rifL y).toArray, .agg #[.int .i64 ci, .int .i64 cp, .int .i64 cg, .bool cis], .int .i64 g] W fun e w' => e = .returned (.int .i64 sv) ∧ Below W.heap.size W w' from hRSH W)
      have DE := hi (fun W => show Calls Try.prog 21 #[.agg y.cs] W fun e w' => e = .returned (.int .i64 ln) ∧ Below W.heap.size W w' from hDE W)
      have LE := hi (fun W => show Calls Try.prog 22 #[.agg #[.int .u32 (wd y.r 0), .int .u32 (wd y.r 1)]] W fun e w' => e = .returned (.int .i64 ln) ∧ Below W.heap.size W w' from hLE W)
      clear hRF hRR hAL hMA hRMA hSH hRSH hDE hLE
      have HZ0 := hi (size_rif x0)
      have HZy := hi (size_rif y)
      have HZAy := hi (size_rifA y)
      have H1y := hi (rifA_one y)
      obtain ⟨ycs, hycs⟩ : ∃ q, y.cs = q := ⟨_, rfl⟩
      have HYC := hi hycs
      clear hx0 hy hA hc hcs hrc hmv hsv hrl hln hDO hycs hv
      have hw : IntKind.i64.wrap ((k : Int) + 1) = ((k + 1 : Nat) : Int) := by rw [IntKind.wrap_i64]; omega
      have t1 : decide ((k : Int) < n) = true := by simp; omega
      have t2 : (k : Int) < n := by omega
      have HA1 := hi (CB.new wr 43 #[.int .i64 d, .int .i64 g, .int .i64 ci, .int .i64 cp, .int .i64 cg, .bool cis, .int .i64 rg, .int .u64 vv])
      have ha1 := bal wr (.cells #[.int .i64 d, .int .i64 g, .int .i64 ci, .int .i64 cp, .int .i64 cg, .bool cis, .int .i64 rg, .int .u64 vv] 43)
      have HD1 := hi (HD.out.later ha1)
      have HL1 := hi (show World.rangeAt (wr.alloc (.cells #[.int .i64 d, .int .i64 g, .int .i64 ci, .int .i64 cp, .int .i64 cg, .bool cis, .int .i64 rg, .int .u64 vv] 43)) rb 0 (rifL x0) from HD1.out.r.rif)
      have HRW := hi (show rb < wr.heap.size from HD.out.r.lt)
      have q0 := HA1.out.cell 0
      have q1 := HA1.out.cell 1
      have q2 := HA1.out.cell 2
      have q3 := HA1.out.cell 3
      have q4 := HA1.out.cell 4
      have q5 := HA1.out.cell 5
      have q6 := HA1.out.cell 6
      have q7 := HA1.out.cell 7
      clear ha1
      go_wp2_with (first
        | (refine wpList_load_mid rfl 36 (.tmp 6) rfl rb 0 rfl (rifL x0) _ HL1.out Try.underlying36 rfl HZ0.out ?_)
        | (go_at_call 11; ((with_reducible refine (DO.out _ HD1.out.f).mono ?_); rintro e w2 ⟨rfl, hf⟩; have hn1 : rb ≠ w.heap.size := (by have := HRB.out; omega); have hn2 : wr.heap.size ≠ w.heap.size := (by have := HRB.out; have := HRW.out; omega); have R2 := HD1.out.r.keptB hf.kept hn1; have A2 := HA1.out.keptB hf.kept hn2; have F2 := hf.bx; have B2 := HD1.out.below.trans (hf.kept.toBelow HD1.out.below.size (fun i e => by subst e; exact Nat.le_refl _)); have hal := bal w2 (.cells (rifA Fc.zero) 36); have N2 := CB.new w2 36 (rifA Fc.zero); have hz1 := R2.lt; have hz2 := F2.lt; have hz3 := A2.lt; have HT2 := hi (show World.there (w2.alloc (.cells (rifA Fc.zero) 36)) w2.heap.size 0 (rifA y).size by rw [rifA_size]; exact N2.thereR (rifA_size _)); obtain ⟨W3, h3, N3, R3, A3, F3, B3⟩ : ∃ W, (w2.alloc (.cells (rifA Fc.zero) 36)).setCells w2.heap.size 0 (rifL y) = W ∧ CB W w2.heap.size 36 (rifA y) ∧ CB W rb 36 (rifA x0) ∧ CB W wr.heap.size 43 #[.int .i64 d, .int .i64 g, .int .i64 ci, .int .i64 cp, .int .i64 cg, .bool cis, .int .i64 rg, .int .u64 vv] ∧ CB W w.heap.size 29 y.cs ∧ Below w.heap.size w W := ⟨_, rfl, N2.wholeR (rifA_size _) y, CB.otherCells (by omega) (rifL y) 0 _ (R2.below hal), CB.otherCells (by omega) (rifL y) 0 _ (A2.below hal), CB.otherCells (by omega) (rifL y) 0 _ (F2.below hal), below_cells (by omega) (rifL y) 0 _ (B2.trans (hal.mono B2.size))⟩; have HW3 := hi h3; have HL3 := hi N3.rif; have HT3 := hi (show World.there W3 rb 0 (rifA y).size by rw [rifA_size]; exact R3.thereR (rifA_size _)); obtain ⟨W4, h4, R4, A4, F4, B4⟩ : ∃ W, W3.setCells rb 0 (rifL y) = W ∧ CB W rb 36 (rifA y) ∧ CB W wr.heap.size 43 #[.int .i64 d, .int .i64 g, .int .i64 ci, .int .i64 cp, .int .i64 cg, .bool cis, .int .i64 rg, .int .u64 vv] ∧ CB W w.heap.size 29 y.cs ∧ Below w.heap.size w W := ⟨_, rfl, R3.wholeR (rifA_size _) y, CB.otherCells (by have := HRW.out; omega) (rifL y) 0 _ A3, CB.otherCells (by omega) (rifL y) 0 _ F3, below_cells (by have := HRB.out; omega) (rifL y) 0 _ B3⟩; have HW4 := hi h4; have R4 := hi R4; have A4 := hi A4; have F4 := hi F4; have B4 := hi B4; have p0 := F4.out.cell 0; have p1 := F4.out.cell 1; have p2 := F4.out.cell 2; have p3 := F4.out.cell 3; have p4 := F4.out.cell 4; have p5 := F4.out.cell 5; have p6 := F4.out.cell 6; have p7 := F4.out.cell 7; have s0 := A4.out.cell 0; have s1 := A4.out.cell 1; have s2 := A4.out.cell 2; have s3 := A4.out.cell 3; have s4 := A4.out.cell 4; have s5 := A4.out.cell 5; have s6 := A4.out.cell 6; have s7 := A4.out.cell 7; clear hf hn1 hn2 R2 A2 F2 B2 hal N2 hz1 hz2 hz3 h3 h4 N3 R3 A3 F3 B3))
        | (refine wpList_alloc_rif rfl rfl ?_)
        | (refine wpList_store_mid rfl 36 (.tmp 9) (.tmp 34) rfl w2.heap.size 0 (rifA y) rfl rfl HT2.out HZAy.out H1y.out ?_; rw [show (rifA y).toList = rifL y from rfl, HW3.out])
        | (refine wpList_load_mid rfl 36 (.tmp 9) rfl w2.heap.size 0 rfl (rifL y) _ HL3.out Try.underlying36 rfl HZy.out ?_)
        | (refine wpList_store_mid rfl 36 (.tmp 6) (.tmp 36) rfl rb 0 (rifA y) rfl rfl HT3.out HZAy.out H1y.out ?_; rw [show (rifA y).toList = rifL y from rfl, HW4.out])
        | (go_at_call 12; ((with_reducible refine (HRF.out _).mono ?_); rintro e w5 ⟨rfl, hb⟩; have R5 := hi (R4.out.below hb); have A5 := hi (A4.out.below hb); have F5 := hi (F4.out.below hb); have B5 := hi (B4.out.trans (hb.mono B4.out.size)); have HL5 := hi R5.out.rif; have u0 := A5.out.cell 0; have u1 := A5.out.cell 1; have u2 := A5.out.cell 2; have u3 := A5.out.cell 3; have u4 := A5.out.cell 4; have u5 := A5.out.cell 5; have u6 := A5.out.cell 6; have u7 := A5.out.cell 7; clear hb))
        | (refine wpList_load_mid rfl 36 (.tmp 6) rfl rb 0 rfl (rifL y) _ HL5.out Try.underlying36 rfl HZy.out ?_)
        | (go_at_call 13; ((with_reducible refine (HRR.out _).mono ?_); rintro e w6 ⟨rfl, hb⟩; have HR6 := hi (show CB w6 w.heap.size 29 y.cs ∧ CB w6 rb 36 (rifA y) ∧ CB w6 wr.heap.size 43 #[.int .i64 d, .int .i64 g, .int .i64 ci, .int .i64 cp, .int .i64 cg, .bool cis, .int .i64 rg, .int .u64 vv] ∧ Below w.heap.size w w6 from ⟨F5.out.below hb, R5.out.below hb, A5.out.below hb, B5.out.trans (hb.mono B5.out.size)⟩); clear hb)))
      refine wp_region_noPanic ?_
      refine wp_region_last_drew (S := (fun W' => CB W' w.heap.size 29 y.cs ∧ CB W' rb 36 (rifA y) ∧ CB W' wr.heap.size 43 #[.int .i64 d, .int .i64 g, .int .i64 ci, .int .i64 cp, .int .i64 cg, .bool cis, .int .i64 rg, .int .u64 vv] ∧ Below w.heap.size w W')) [] (by kernel_rfl) ⟨HR6.out.1.drew, HR6.out.2.1.drew, HR6.out.2.2.1.drew, Below.drewN (m := 1) HR6.out.2.2.2⟩ (fun hHeld => ?_)
      (try simp only [Array.replicate_succ, Array.replicate_zero, List.push_toArray, List.nil_append, List.cons_append])
      refine wpAnyF_take (i := 0) (v := ?_) (by kernel_rfl) (by kernel_rfl) rfl (by kernel_rfl) (by kernel_rfl) (by kernel_rfl) (fun _ _ _ h => h) (Or.inl ⟨by rfl, ?_⟩) (by assumption) ?_
      rotate_left
      · intro w' hSw; (try dsimp only at hSw); have c0 := hSw.1.cell 0; have c1 := hSw.1.cell 1; have c2 := hSw.1.cell 2; have c3 := hSw.1.cell 3; have c4 := hSw.1.cell 4; have c5 := hSw.1.cell 5; have c6 := hSw.1.cell 6; have c7 := hSw.1.cell 7; have d0 := hSw.2.2.1.cell 0; have d1 := hSw.2.2.1.cell 1; have d2 := hSw.2.2.1.cell 2; have d3 := hSw.2.2.1.cell 3; have d4 := hSw.2.2.1.cell 4; have d5 := hSw.2.2.1.cell 5; have d6 := hSw.2.2.1.cell 6; have d7 := hSw.2.2.1.cell 7; go_simp; (try with_reducible rfl)
      (try simp only [Act.put, List.getElem_toArray, List.getElem_cons_zero, List.setIfInBounds_toArray, List.set_cons_zero, List.set_cons_succ])
      refine wpAnyF_take (i := 1) (v := ?_) (by kernel_rfl) (by kernel_rfl) rfl (by kernel_rfl) (by kernel_rfl) (by kernel_rfl) (fun _ _ _ h => h) (Or.inl ⟨by rfl, ?_⟩) (by assumption) ?_
      rotate_left
      · intro w' hSw; (try dsimp only at hSw); have c0 := hSw.1.cell 0; have c1 := hSw.1.cell 1; have c2 := hSw.1.cell 2; have c3 := hSw.1.cell 3; have c4 := hSw.1.cell 4; have c5 := hSw.1.cell 5; have c6 := hSw.1.cell 6; have c7 := hSw.1.cell 7; have d0 := hSw.2.2.1.cell 0; have d1 := hSw.2.2.1.cell 1; have d2 := hSw.2.2.1.cell 2; have d3 := hSw.2.2.1.cell 3; have d4 := hSw.2.2.1.cell 4; have d5 := hSw.2.2.1.cell 5; have d6 := hSw.2.2.1.cell 6; have d7 := hSw.2.2.1.cell 7; go_simp; (try with_reducible rfl)
      (try simp only [Act.put, List.getElem_toArray, List.getElem_cons_zero, List.getElem_cons_succ, List.setIfInBounds_toArray, List.set_cons_zero, List.set_cons_succ])
      refine wpAnyF_take (i := 2) (v := ?_) (by kernel_rfl) (by kernel_rfl) rfl (by kernel_rfl) (by kernel_rfl) (by kernel_rfl) (fun _ _ _ h => h) (Or.inl ⟨by rfl, ?_⟩) (by assumption) ?_
      rotate_left
      · intro w' hSw; (try dsimp only at hSw); have c0 := hSw.1.cell 0; have c1 := hSw.1.cell 1; have c2 := hSw.1.cell 2; have c3 := hSw.1.cell 3; have c4 := hSw.1.cell 4; have c5 := hSw.1.cell 5; have c6 := hSw.1.cell 6; have c7 := hSw.1.cell 7; have d0 := hSw.2.2.1.cell 0; have d1 := hSw.2.2.1.cell 1; have d2 := hSw.2.2.1.cell 2; have d3 := hSw.2.2.1.cell 3; have d4 := hSw.2.2.1.cell 4; have d5 := hSw.2.2.1.cell 5; have d6 := hSw.2.2.1.cell 6; have d7 := hSw.2.2.1.cell 7; go_simp; (try with_reducible rfl)
      (try simp only [Act.put, List.getElem_toArray, List.getElem_cons_zero, List.getElem_cons_succ, List.setIfInBounds_toArray, List.set_cons_zero, List.set_cons_succ])
      refine wpAnyF_take (i := 3) (v := ?_) (by kernel_rfl) (by kernel_rfl) rfl (by kernel_rfl) (by kernel_rfl) (by kernel_rfl) (fun _ _ _ h => h) (Or.inl ⟨by rfl, ?_⟩) (by assumption) ?_
      rotate_left
      · intro w' hSw; (try dsimp only at hSw); have c0 := hSw.1.cell 0; have c1 := hSw.1.cell 1; have c2 := hSw.1.cell 2; have c3 := hSw.1.cell 3; have c4 := hSw.1.cell 4; have c5 := hSw.1.cell 5; have c6 := hSw.1.cell 6; have c7 := hSw.1.cell 7; have d0 := hSw.2.2.1.cell 0; have d1 := hSw.2.2.1.cell 1; have d2 := hSw.2.2.1.cell 2; have d3 := hSw.2.2.1.cell 3; have d4 := hSw.2.2.1.cell 4; have d5 := hSw.2.2.1.cell 5; have d6 := hSw.2.2.1.cell 6; have d7 := hSw.2.2.1.cell 7; go_simp; (try with_reducible rfl)
      (try simp only [Act.put, List.getElem_toArray, List.getElem_cons_zero, List.getElem_cons_succ, List.setIfInBounds_toArray, List.set_cons_zero, List.set_cons_succ])
      refine wpAnyF_take (i := 4) (v := _) (by kernel_rfl) (by kernel_rfl) rfl (by kernel_rfl) (by kernel_rfl) (by kernel_rfl) (fun _ _ _ h => h) (yieldsIf_load_mid (by rfl) 36 (.tmp 6) rfl rb 0 rfl (rifL y) _ (fun w' h => h.2.1.rif) Try.underlying36 rfl HZy.out) (by assumption) ?_
      (try simp only [Act.put, List.getElem_toArray, List.getElem_cons_zero, List.getElem_cons_succ, List.setIfInBounds_toArray, List.set_cons_zero, List.set_cons_succ])
      refine wpAnyF_ready (rs := [5]) (by kernel_rfl) (by simp) ?_
      refine AllReadyF.cons rfl (fun KK hKK => ?_) AllReadyF.nil
      go_simp
      ((with_reducible refine (AL.out _).mono ?_); rintro e' w105 ⟨rfl, hb⟩; have hSS := And.intro (hHeld.1.below hb) (And.intro (hHeld.2.1.below hb) (And.intro (hHeld.2.2.1.below hb) (hHeld.2.2.2.trans (hb.mono hHeld.2.2.2.size)))); clear hb)
      (try go_simp)
      refine hKK.out _ _ hSS (fun hHeld => ?_)
      clear hKK KK
      (try simp only [Act.put, List.getElem_toArray, List.getElem_cons_zero, List.getElem_cons_succ, List.setIfInBounds_toArray, List.set_cons_zero, List.set_cons_succ])
      refine wpAnyF_take (i := 6) (v := ?_) (by kernel_rfl) (by kernel_rfl) rfl (by kernel_rfl) (by kernel_rfl) (by kernel_rfl) (fun _ _ _ h => h) (Or.inl ⟨by rfl, ?_⟩) (by assumption) ?_
      rotate_left
      · intro w' hSw; (try dsimp only at hSw); have c0 := hSw.1.cell 0; have c1 := hSw.1.cell 1; have c2 := hSw.1.cell 2; have c3 := hSw.1.cell 3; have c4 := hSw.1.cell 4; have c5 := hSw.1.cell 5; have c6 := hSw.1.cell 6; have c7 := hSw.1.cell 7; have d0 := hSw.2.2.1.cell 0; have d1 := hSw.2.2.1.cell 1; have d2 := hSw.2.2.1.cell 2; have d3 := hSw.2.2.1.cell 3; have d4 := hSw.2.2.1.cell 4; have d5 := hSw.2.2.1.cell 5; have d6 := hSw.2.2.1.cell 6; have d7 := hSw.2.2.1.cell 7; go_simp; (try with_reducible rfl)
      (try simp only [Act.put, List.getElem_toArray, List.getElem_cons_zero, List.getElem_cons_succ, List.setIfInBounds_toArray, List.set_cons_zero, List.set_cons_succ])
      refine wpAnyF_take (i := 7) (v := ?_) (by kernel_rfl) (by kernel_rfl) rfl (by kernel_rfl) (by kernel_rfl) (by kernel_rfl) (fun _ _ _ h => h) (Or.inl ⟨by rfl, ?_⟩) (by assumption) ?_
      rotate_left
      · intro w' hSw; (try dsimp only at hSw); have c0 := hSw.1.cell 0; have c1 := hSw.1.cell 1; have c2 := hSw.1.cell 2; have c3 := hSw.1.cell 3; have c4 := hSw.1.cell 4; have c5 := hSw.1.cell 5; have c6 := hSw.1.cell 6; have c7 := hSw.1.cell 7; have d0 := hSw.2.2.1.cell 0; have d1 := hSw.2.2.1.cell 1; have d2 := hSw.2.2.1.cell 2; have d3 := hSw.2.2.1.cell 3; have d4 := hSw.2.2.1.cell 4; have d5 := hSw.2.2.1.cell 5; have d6 := hSw.2.2.1.cell 6; have d7 := hSw.2.2.1.cell 7; go_simp; (try with_reducible rfl)
      (try simp only [Act.put, List.getElem_toArray, List.getElem_cons_zero, List.getElem_cons_succ, List.setIfInBounds_toArray, List.set_cons_zero, List.set_cons_succ])
      refine wpAnyF_take (i := 8) (v := ?_) (by kernel_rfl) (by kernel_rfl) rfl (by kernel_rfl) (by kernel_rfl) (by kernel_rfl) (fun _ _ _ h => h) (Or.inl ⟨by rfl, ?_⟩) (by assumption) ?_
      rotate_left
      · intro w' hSw; (try dsimp only at hSw); have c0 := hSw.1.cell 0; have c1 := hSw.1.cell 1; have c2 := hSw.1.cell 2; have c3 := hSw.1.cell 3; have c4 := hSw.1.cell 4; have c5 := hSw.1.cell 5; have c6 := hSw.1.cell 6; have c7 := hSw.1.cell 7; have d0 := hSw.2.2.1.cell 0; have d1 := hSw.2.2.1.cell 1; have d2 := hSw.2.2.1.cell 2; have d3 := hSw.2.2.1.cell 3; have d4 := hSw.2.2.1.cell 4; have d5 := hSw.2.2.1.cell 5; have d6 := hSw.2.2.1.cell 6; have d7 := hSw.2.2.1.cell 7; go_simp; (try with_reducible rfl)
      (try simp only [Act.put, List.getElem_toArray, List.getElem_cons_zero, List.getElem_cons_succ, List.setIfInBounds_toArray, List.set_cons_zero, List.set_cons_succ])
      refine wpAnyF_take (i := 9) (v := ?_) (by kernel_rfl) (by kernel_rfl) rfl (by kernel_rfl) (by kernel_rfl) (by kernel_rfl) (fun _ _ _ h => h) (Or.inl ⟨by rfl, ?_⟩) (by assumption) ?_
      rotate_left
      · intro w' hSw; (try dsimp only at hSw); have c0 := hSw.1.cell 0; have c1 := hSw.1.cell 1; have c2 := hSw.1.cell 2; have c3 := hSw.1.cell 3; have c4 := hSw.1.cell 4; have c5 := hSw.1.cell 5; have c6 := hSw.1.cell 6; have c7 := hSw.1.cell 7; have d0 := hSw.2.2.1.cell 0; have d1 := hSw.2.2.1.cell 1; have d2 := hSw.2.2.1.cell 2; have d3 := hSw.2.2.1.cell 3; have d4 := hSw.2.2.1.cell 4; have d5 := hSw.2.2.1.cell 5; have d6 := hSw.2.2.1.cell 6; have d7 := hSw.2.2.1.cell 7; go_simp; (try with_reducible rfl)
      (try simp only [Act.put, List.getElem_toArray, List.getElem_cons_zero, List.getElem_cons_succ, List.setIfInBounds_toArray, List.set_cons_zero, List.set_cons_succ])
      refine wpAnyF_take (i := 10) (v := ?_) (by kernel_rfl) (by kernel_rfl) rfl (by kernel_rfl) (by kernel_rfl) (by kernel_rfl) (fun _ _ _ h => h) (Or.inl ⟨by rfl, ?_⟩) (by assumption) ?_
      rotate_left
      · intro w' hSw; (try dsimp only at hSw); have c0 := hSw.1.cell 0; have c1 := hSw.1.cell 1; have c2 := hSw.1.cell 2; have c3 := hSw.1.cell 3; have c4 := hSw.1.cell 4; have c5 := hSw.1.cell 5; have c6 := hSw.1.cell 6; have c7 := hSw.1.cell 7; have d0 := hSw.2.2.1.cell 0; have d1 := hSw.2.2.1.cell 1; have d2 := hSw.2.2.1.cell 2; have d3 := hSw.2.2.1.cell 3; have d4 := hSw.2.2.1.cell 4; have d5 := hSw.2.2.1.cell 5; have d6 := hSw.2.2.1.cell 6; have d7 := hSw.2.2.1.cell 7; go_simp; (try with_reducible rfl)
      (try simp only [Act.put, List.getElem_toArray, List.getElem_cons_zero, List.getElem_cons_succ, List.setIfInBounds_toArray, List.set_cons_zero, List.set_cons_succ])
      refine wpAnyF_take (i := 11) (v := ?_) (by kernel_rfl) (by kernel_rfl) rfl (by kernel_rfl) (by kernel_rfl) (by kernel_rfl) (fun _ _ _ h => h) (Or.inl ⟨by rfl, ?_⟩) (by assumption) ?_
      rotate_left
      · intro w' hSw; (try dsimp only at hSw); have c0 := hSw.1.cell 0; have c1 := hSw.1.cell 1; have c2 := hSw.1.cell 2; have c3 := hSw.1.cell 3; have c4 := hSw.1.cell 4; have c5 := hSw.1.cell 5; have c6 := hSw.1.cell 6; have c7 := hSw.1.cell 7; have d0 := hSw.2.2.1.cell 0; have d1 := hSw.2.2.1.cell 1; have d2 := hSw.2.2.1.cell 2; have d3 := hSw.2.2.1.cell 3; have d4 := hSw.2.2.1.cell 4; have d5 := hSw.2.2.1.cell 5; have d6 := hSw.2.2.1.cell 6; have d7 := hSw.2.2.1.cell 7; go_simp; (try with_reducible rfl)
      (try simp only [Act.put, List.getElem_toArray, List.getElem_cons_zero, List.getElem_cons_succ, List.setIfInBounds_toArray, List.set_cons_zero, List.set_cons_succ])
      refine wpAnyF_take (i := 12) (v := ?_) (by kernel_rfl) (by kernel_rfl) rfl (by kernel_rfl) (by kernel_rfl) (by kernel_rfl) (fun _ _ _ h => h) (Or.inl ⟨by rfl, ?_⟩) (by assumption) ?_
      rotate_left
      · intro w' hSw; (try dsimp only at hSw); have c0 := hSw.1.cell 0; have c1 := hSw.1.cell 1; have c2 := hSw.1.cell 2; have c3 := hSw.1.cell 3; have c4 := hSw.1.cell 4; have c5 := hSw.1.cell 5; have c6 := hSw.1.cell 6; have c7 := hSw.1.cell 7; have d0 := hSw.2.2.1.cell 0; have d1 := hSw.2.2.1.cell 1; have d2 := hSw.2.2.1.cell 2; have d3 := hSw.2.2.1.cell 3; have d4 := hSw.2.2.1.cell 4; have d5 := hSw.2.2.1.cell 5; have d6 := hSw.2.2.1.cell 6; have d7 := hSw.2.2.1.cell 7; go_simp; (try with_reducible rfl)
      (try simp only [Act.put, List.getElem_toArray, List.getElem_cons_zero, List.getElem_cons_succ, List.setIfInBounds_toArray, List.set_cons_zero, List.set_cons_succ])
      refine wpAnyF_take (i := 13) (v := ?_) (by kernel_rfl) (by kernel_rfl) rfl (by kernel_rfl) (by kernel_rfl) (by kernel_rfl) (fun _ _ _ h => h) (Or.inl ⟨by rfl, ?_⟩) (by assumption) ?_
      rotate_left
      · intro w' hSw; (try dsimp only at hSw); have c0 := hSw.1.cell 0; have c1 := hSw.1.cell 1; have c2 := hSw.1.cell 2; have c3 := hSw.1.cell 3; have c4 := hSw.1.cell 4; have c5 := hSw.1.cell 5; have c6 := hSw.1.cell 6; have c7 := hSw.1.cell 7; have d0 := hSw.2.2.1.cell 0; have d1 := hSw.2.2.1.cell 1; have d2 := hSw.2.2.1.cell 2; have d3 := hSw.2.2.1.cell 3; have d4 := hSw.2.2.1.cell 4; have d5 := hSw.2.2.1.cell 5; have d6 := hSw.2.2.1.cell 6; have d7 := hSw.2.2.1.cell 7; go_simp; (try with_reducible rfl)
      (try simp only [Act.put, List.getElem_toArray, List.getElem_cons_zero, List.getElem_cons_succ, List.setIfInBounds_toArray, List.set_cons_zero, List.set_cons_succ])
      refine wpAnyF_take (i := 14) (v := ?_) (by kernel_rfl) (by kernel_rfl) rfl (by kernel_rfl) (by kernel_rfl) (by kernel_rfl) (fun _ _ _ h => h) (Or.inl ⟨by rfl, ?_⟩) (by assumption) ?_
      rotate_left
      · intro w' hSw; (try dsimp only at hSw); have c0 := hSw.1.cell 0; have c1 := hSw.1.cell 1; have c2 := hSw.1.cell 2; have c3 := hSw.1.cell 3; have c4 := hSw.1.cell 4; have c5 := hSw.1.cell 5; have c6 := hSw.1.cell 6; have c7 := hSw.1.cell 7; have d0 := hSw.2.2.1.cell 0; have d1 := hSw.2.2.1.cell 1; have d2 := hSw.2.2.1.cell 2; have d3 := hSw.2.2.1.cell 3; have d4 := hSw.2.2.1.cell 4; have d5 := hSw.2.2.1.cell 5; have d6 := hSw.2.2.1.cell 6; have d7 := hSw.2.2.1.cell 7; go_simp; (try with_reducible rfl)
      (try simp only [Act.put, List.getElem_toArray, List.getElem_cons_zero, List.getElem_cons_succ, List.setIfInBounds_toArray, List.set_cons_zero, List.set_cons_succ])
      refine wpAnyF_take (i := 15) (v := ?_) (by kernel_rfl) (by kernel_rfl) rfl (by kernel_rfl) (by kernel_rfl) (by kernel_rfl) (fun _ _ _ h => h) (Or.inl ⟨by rfl, ?_⟩) (by assumption) ?_
      rotate_left
      · intro w' hSw; (try dsimp only at hSw); have c0 := hSw.1.cell 0; have c1 := hSw.1.cell 1; have c2 := hSw.1.cell 2; have c3 := hSw.1.cell 3; have c4 := hSw.1.cell 4; have c5 := hSw.1.cell 5; have c6 := hSw.1.cell 6; have c7 := hSw.1.cell 7; have d0 := hSw.2.2.1.cell 0; have d1 := hSw.2.2.1.cell 1; have d2 := hSw.2.2.1.cell 2; have d3 := hSw.2.2.1.cell 3; have d4 := hSw.2.2.1.cell 4; have d5 := hSw.2.2.1.cell 5; have d6 := hSw.2.2.1.cell 6; have d7 := hSw.2.2.1.cell 7; go_simp; (try with_reducible rfl)
      (try simp only [Act.put, List.getElem_toArray, List.getElem_cons_zero, List.getElem_cons_succ, List.setIfInBounds_toArray, List.set_cons_zero, List.set_cons_succ])
      refine wpAnyF_take (i := 16) (v := ?_) (by kernel_rfl) (by kernel_rfl) rfl (by kernel_rfl) (by kernel_rfl) (by kernel_rfl) (fun _ _ _ h => h) (Or.inl ⟨by rfl, ?_⟩) (by assumption) ?_
      rotate_left
      · intro w' hSw; (try dsimp only at hSw); have c0 := hSw.1.cell 0; have c1 := hSw.1.cell 1; have c2 := hSw.1.cell 2; have c3 := hSw.1.cell 3; have c4 := hSw.1.cell 4; have c5 := hSw.1.cell 5; have c6 := hSw.1.cell 6; have c7 := hSw.1.cell 7; have d0 := hSw.2.2.1.cell 0; have d1 := hSw.2.2.1.cell 1; have d2 := hSw.2.2.1.cell 2; have d3 := hSw.2.2.1.cell 3; have d4 := hSw.2.2.1.cell 4; have d5 := hSw.2.2.1.cell 5; have d6 := hSw.2.2.1.cell 6; have d7 := hSw.2.2.1.cell 7; go_simp; (try with_reducible rfl)
      (try simp only [Act.put, List.getElem_toArray, List.getElem_cons_zero, List.getElem_cons_succ, List.setIfInBounds_toArray, List.set_cons_zero, List.set_cons_succ])
      refine wpAnyF_take (i := 17) (v := ?_) (by kernel_rfl) (by kernel_rfl) rfl (by kernel_rfl) (by kernel_rfl) (by kernel_rfl) (fun _ _ _ h => h) (Or.inl ⟨by rfl, ?_⟩) (by assumption) ?_
      rotate_left
      · intro w' hSw; (try dsimp only at hSw); have c0 := hSw.1.cell 0; have c1 := hSw.1.cell 1; have c2 := hSw.1.cell 2; have c3 := hSw.1.cell 3; have c4 := hSw.1.cell 4; have c5 := hSw.1.cell 5; have c6 := hSw.1.cell 6; have c7 := hSw.1.cell 7; have d0 := hSw.2.2.1.cell 0; have d1 := hSw.2.2.1.cell 1; have d2 := hSw.2.2.1.cell 2; have d3 := hSw.2.2.1.cell 3; have d4 := hSw.2.2.1.cell 4; have d5 := hSw.2.2.1.cell 5; have d6 := hSw.2.2.1.cell 6; have d7 := hSw.2.2.1.cell 7; go_simp; (try with_reducible rfl)
      (try simp only [Act.put, List.getElem_toArray, List.getElem_cons_zero, List.getElem_cons_succ, List.setIfInBounds_toArray, List.set_cons_zero, List.set_cons_succ])
      refine wpAnyF_take (i := 18) (v := ?_) (by kernel_rfl) (by kernel_rfl) rfl (by kernel_rfl) (by kernel_rfl) (by kernel_rfl) (fun _ _ _ h => h) (Or.inl ⟨by rfl, ?_⟩) (by assumption) ?_
      rotate_left
      · intro w' hSw; (try dsimp only at hSw); have c0 := hSw.1.cell 0; have c1 := hSw.1.cell 1; have c2 := hSw.1.cell 2; have c3 := hSw.1.cell 3; have c4 := hSw.1.cell 4; have c5 := hSw.1.cell 5; have c6 := hSw.1.cell 6; have c7 := hSw.1.cell 7; have d0 := hSw.2.2.1.cell 0; have d1 := hSw.2.2.1.cell 1; have d2 := hSw.2.2.1.cell 2; have d3 := hSw.2.2.1.cell 3; have d4 := hSw.2.2.1.cell 4; have d5 := hSw.2.2.1.cell 5; have d6 := hSw.2.2.1.cell 6; have d7 := hSw.2.2.1.cell 7; go_simp; (try with_reducible rfl)
      (try simp only [Act.put, List.getElem_toArray, List.getElem_cons_zero, List.getElem_cons_succ, List.setIfInBounds_toArray, List.set_cons_zero, List.set_cons_succ])
      refine wpAnyF_take (i := 19) (v := ?_) (by kernel_rfl) (by kernel_rfl) rfl (by kernel_rfl) (by kernel_rfl) (by kernel_rfl) (fun _ _ _ h => h) (Or.inl ⟨by rfl, ?_⟩) (by assumption) ?_
      rotate_left
      · intro w' hSw; (try dsimp only at hSw); have c0 := hSw.1.cell 0; have c1 := hSw.1.cell 1; have c2 := hSw.1.cell 2; have c3 := hSw.1.cell 3; have c4 := hSw.1.cell 4; have c5 := hSw.1.cell 5; have c6 := hSw.1.cell 6; have c7 := hSw.1.cell 7; have d0 := hSw.2.2.1.cell 0; have d1 := hSw.2.2.1.cell 1; have d2 := hSw.2.2.1.cell 2; have d3 := hSw.2.2.1.cell 3; have d4 := hSw.2.2.1.cell 4; have d5 := hSw.2.2.1.cell 5; have d6 := hSw.2.2.1.cell 6; have d7 := hSw.2.2.1.cell 7; go_simp; (try with_reducible rfl)
      (try simp only [Act.put, List.getElem_toArray, List.getElem_cons_zero, List.getElem_cons_succ, List.setIfInBounds_toArray, List.set_cons_zero, List.set_cons_succ])
      refine wpAnyF_take (i := 20) (v := ?_) (by kernel_rfl) (by kernel_rfl) rfl (by kernel_rfl) (by kernel_rfl) (by kernel_rfl) (fun _ _ _ h => h) (Or.inl ⟨by rfl, ?_⟩) (by assumption) ?_
      rotate_left
      · intro w' hSw; (try dsimp only at hSw); have c0 := hSw.1.cell 0; have c1 := hSw.1.cell 1; have c2 := hSw.1.cell 2; have c3 := hSw.1.cell 3; have c4 := hSw.1.cell 4; have c5 := hSw.1.cell 5; have c6 := hSw.1.cell 6; have c7 := hSw.1.cell 7; have d0 := hSw.2.2.1.cell 0; have d1 := hSw.2.2.1.cell 1; have d2 := hSw.2.2.1.cell 2; have d3 := hSw.2.2.1.cell 3; have d4 := hSw.2.2.1.cell 4; have d5 := hSw.2.2.1.cell 5; have d6 := hSw.2.2.1.cell 6; have d7 := hSw.2.2.1.cell 7; go_simp; (try with_reducible rfl)
      (try simp only [Act.put, List.getElem_toArray, List.getElem_cons_zero, List.getElem_cons_succ, List.setIfInBounds_toArray, List.set_cons_zero, List.set_cons_succ])
      refine wpAnyF_take (i := 21) (v := ?_) (by kernel_rfl) (by kernel_rfl) rfl (by kernel_rfl) (by kernel_rfl) (by kernel_rfl) (fun _ _ _ h => h) (Or.inl ⟨by rfl, ?_⟩) (by assumption) ?_
      rotate_left
      · intro w' hSw; (try dsimp only at hSw); have c0 := hSw.1.cell 0; have c1 := hSw.1.cell 1; have c2 := hSw.1.cell 2; have c3 := hSw.1.cell 3; have c4 := hSw.1.cell 4; have c5 := hSw.1.cell 5; have c6 := hSw.1.cell 6; have c7 := hSw.1.cell 7; have d0 := hSw.2.2.1.cell 0; have d1 := hSw.2.2.1.cell 1; have d2 := hSw.2.2.1.cell 2; have d3 := hSw.2.2.1.cell 3; have d4 := hSw.2.2.1.cell 4; have d5 := hSw.2.2.1.cell 5; have d6 := hSw.2.2.1.cell 6; have d7 := hSw.2.2.1.cell 7; go_simp; (try with_reducible rfl)
      (try simp only [Act.put, List.getElem_toArray, List.getElem_cons_zero, List.getElem_cons_succ, List.setIfInBounds_toArray, List.set_cons_zero, List.set_cons_succ])
      refine wpAnyF_take (i := 23) (v := _) (by kernel_rfl) (by kernel_rfl) rfl (by kernel_rfl) (by kernel_rfl) (by kernel_rfl) (fun _ _ _ h => h) (yieldsIf_load_mid (by rfl) 36 (.tmp 6) rfl rb 0 rfl (rifL y) _ (fun w' h => h.2.1.rif) Try.underlying36 rfl HZy.out) (by assumption) ?_
      (try simp only [Act.put, List.getElem_toArray, List.getElem_cons_zero, List.getElem_cons_succ, List.setIfInBounds_toArray, List.set_cons_zero, List.set_cons_succ])
      refine wpAnyF_take (i := 24) (v := ?_) (by kernel_rfl) (by kernel_rfl) rfl (by kernel_rfl) (by kernel_rfl) (by kernel_rfl) (fun _ _ _ h => h) (Or.inl ⟨by rfl, ?_⟩) (by assumption) ?_
      rotate_left
      · intro w' hSw; (try dsimp only at hSw); have c0 := hSw.1.cell 0; have c1 := hSw.1.cell 1; have c2 := hSw.1.cell 2; have c3 := hSw.1.cell 3; have c4 := hSw.1.cell 4; have c5 := hSw.1.cell 5; have c6 := hSw.1.cell 6; have c7 := hSw.1.cell 7; have d0 := hSw.2.2.1.cell 0; have d1 := hSw.2.2.1.cell 1; have d2 := hSw.2.2.1.cell 2; have d3 := hSw.2.2.1.cell 3; have d4 := hSw.2.2.1.cell 4; have d5 := hSw.2.2.1.cell 5; have d6 := hSw.2.2.1.cell 6; have d7 := hSw.2.2.1.cell 7; go_simp; (try with_reducible rfl)
      (try simp only [Act.put, List.getElem_toArray, List.getElem_cons_zero, List.getElem_cons_succ, List.setIfInBounds_toArray, List.set_cons_zero, List.set_cons_succ])
      refine wpAnyF_take (i := 25) (v := ?_) (by kernel_rfl) (by kernel_rfl) rfl (by kernel_rfl) (by kernel_rfl) (by kernel_rfl) (fun _ _ _ h => h) (Or.inl ⟨by rfl, ?_⟩) (by assumption) ?_
      rotate_left
      · intro w' hSw; (try dsimp only at hSw); have c0 := hSw.1.cell 0; have c1 := hSw.1.cell 1; have c2 := hSw.1.cell 2; have c3 := hSw.1.cell 3; have c4 := hSw.1.cell 4; have c5 := hSw.1.cell 5; have c6 := hSw.1.cell 6; have c7 := hSw.1.cell 7; have d0 := hSw.2.2.1.cell 0; have d1 := hSw.2.2.1.cell 1; have d2 := hSw.2.2.1.cell 2; have d3 := hSw.2.2.1.cell 3; have d4 := hSw.2.2.1.cell 4; have d5 := hSw.2.2.1.cell 5; have d6 := hSw.2.2.1.cell 6; have d7 := hSw.2.2.1.cell 7; go_simp; (try with_reducible rfl)
      (try simp only [Act.put, List.getElem_toArray, List.getElem_cons_zero, List.getElem_cons_succ, List.setIfInBounds_toArray, List.set_cons_zero, List.set_cons_succ])
      refine wpAnyF_ready (rs := [22]) (by kernel_rfl) (by simp) ?_
      refine AllReadyF.cons rfl (fun KK hKK => ?_) AllReadyF.nil
      go_simp
      ((with_reducible refine (MA.out _).mono ?_); rintro e' w122 ⟨rfl, hb⟩; have hSS := And.intro (hHeld.1.below hb) (And.intro (hHeld.2.1.below hb) (And.intro (hHeld.2.2.1.below hb) (hHeld.2.2.2.trans (hb.mono hHeld.2.2.2.size)))); clear hb)
      (try go_simp)
      refine hKK.out _ _ hSS (fun hHeld => ?_)
      clear hKK KK
      (try simp only [Act.put, List.getElem_toArray, List.getElem_cons_zero, List.getElem_cons_succ, List.setIfInBounds_toArray, List.set_cons_zero, List.set_cons_succ])
      refine wpAnyF_ready (rs := [26]) (by kernel_rfl) (by simp) ?_
      refine AllReadyF.cons rfl (fun KK hKK => ?_) AllReadyF.nil
      go_simp
      ((with_reducible refine (RMA.out _).mono ?_); rintro e' w126 ⟨rfl, hb⟩; have hSS := And.intro (hHeld.1.below hb) (And.intro (hHeld.2.1.below hb) (And.intro (hHeld.2.2.1.below hb) (hHeld.2.2.2.trans (hb.mono hHeld.2.2.2.size)))); clear hb)
      (try go_simp)
      refine hKK.out _ _ hSS (fun hHeld => ?_)
      clear hKK KK
      (try simp only [Act.put, List.getElem_toArray, List.getElem_cons_zero, List.getElem_cons_succ, List.setIfInBounds_toArray, List.set_cons_zero, List.set_cons_succ])
      refine wpAnyF_take (i := 27) (v := ?_) (by kernel_rfl) (by kernel_rfl) rfl (by kernel_rfl) (by kernel_rfl) (by kernel_rfl) (fun _ _ _ h => h) (Or.inl ⟨by rfl, ?_⟩) (by assumption) ?_
      rotate_left
      · intro w' hSw; (try dsimp only at hSw); have c0 := hSw.1.cell 0; have c1 := hSw.1.cell 1; have c2 := hSw.1.cell 2; have c3 := hSw.1.cell 3; have c4 := hSw.1.cell 4; have c5 := hSw.1.cell 5; have c6 := hSw.1.cell 6; have c7 := hSw.1.cell 7; have d0 := hSw.2.2.1.cell 0; have d1 := hSw.2.2.1.cell 1; have d2 := hSw.2.2.1.cell 2; have d3 := hSw.2.2.1.cell 3; have d4 := hSw.2.2.1.cell 4; have d5 := hSw.2.2.1.cell 5; have d6 := hSw.2.2.1.cell 6; have d7 := hSw.2.2.1.cell 7; go_simp; (try with_reducible rfl)
      (try simp only [Act.put, List.getElem_toArray, List.getElem_cons_zero, List.getElem_cons_succ, List.setIfInBounds_toArray, List.set_cons_zero, List.set_cons_succ])
      refine wpAnyF_take (i := 28) (v := ?_) (by kernel_rfl) (by kernel_rfl) rfl (by kernel_rfl) (by kernel_rfl) (by kernel_rfl) (fun _ _ _ h => h) (Or.inl ⟨by rfl, ?_⟩) (by assumption) ?_
      rotate_left
      · intro w' hSw; (try dsimp only at hSw); have c0 := hSw.1.cell 0; have c1 := hSw.1.cell 1; have c2 := hSw.1.cell 2; have c3 := hSw.1.cell 3; have c4 := hSw.1.cell 4; have c5 := hSw.1.cell 5; have c6 := hSw.1.cell 6; have c7 := hSw.1.cell 7; have d0 := hSw.2.2.1.cell 0; have d1 := hSw.2.2.1.cell 1; have d2 := hSw.2.2.1.cell 2; have d3 := hSw.2.2.1.cell 3; have d4 := hSw.2.2.1.cell 4; have d5 := hSw.2.2.1.cell 5; have d6 := hSw.2.2.1.cell 6; have d7 := hSw.2.2.1.cell 7; go_simp; (try with_reducible rfl)
      (try simp only [Act.put, List.getElem_toArray, List.getElem_cons_zero, List.getElem_cons_succ, List.setIfInBounds_toArray, List.set_cons_zero, List.set_cons_succ])
      refine wpAnyF_take (i := 29) (v := ?_) (by kernel_rfl) (by kernel_rfl) rfl (by kernel_rfl) (by kernel_rfl) (by kernel_rfl) (fun _ _ _ h => h) (Or.inl ⟨by rfl, ?_⟩) (by assumption) ?_
      rotate_left
      · intro w' hSw; (try dsimp only at hSw); have c0 := hSw.1.cell 0; have c1 := hSw.1.cell 1; have c2 := hSw.1.cell 2; have c3 := hSw.1.cell 3; have c4 := hSw.1.cell 4; have c5 := hSw.1.cell 5; have c6 := hSw.1.cell 6; have c7 := hSw.1.cell 7; have d0 := hSw.2.2.1.cell 0; have d1 := hSw.2.2.1.cell 1; have d2 := hSw.2.2.1.cell 2; have d3 := hSw.2.2.1.cell 3; have d4 := hSw.2.2.1.cell 4; have d5 := hSw.2.2.1.cell 5; have d6 := hSw.2.2.1.cell 6; have d7 := hSw.2.2.1.cell 7; go_simp; (try with_reducible rfl)
      (try simp only [Act.put, List.getElem_toArray, List.getElem_cons_zero, List.getElem_cons_succ, List.setIfInBounds_toArray, List.set_cons_zero, List.set_cons_succ])
      refine wpAnyF_take (i := 30) (v := ?_) (by kernel_rfl) (by kernel_rfl) rfl (by kernel_rfl) (by kernel_rfl) (by kernel_rfl) (fun _ _ _ h => h) (Or.inl ⟨by rfl, ?_⟩) (by assumption) ?_
      rotate_left
      · intro w' hSw; (try dsimp only at hSw); have c0 := hSw.1.cell 0; have c1 := hSw.1.cell 1; have c2 := hSw.1.cell 2; have c3 := hSw.1.cell 3; have c4 := hSw.1.cell 4; have c5 := hSw.1.cell 5; have c6 := hSw.1.cell 6; have c7 := hSw.1.cell 7; have d0 := hSw.2.2.1.cell 0; have d1 := hSw.2.2.1.cell 1; have d2 := hSw.2.2.1.cell 2; have d3 := hSw.2.2.1.cell 3; have d4 := hSw.2.2.1.cell 4; have d5 := hSw.2.2.1.cell 5; have d6 := hSw.2.2.1.cell 6; have d7 := hSw.2.2.1.cell 7; go_simp; (try with_reducible rfl)
      (try simp only [Act.put, List.getElem_toArray, List.getElem_cons_zero, List.getElem_cons_succ, List.setIfInBounds_toArray, List.set_cons_zero, List.set_cons_succ])
      refine wpAnyF_take (i := 31) (v := ?_) (by kernel_rfl) (by kernel_rfl) rfl (by kernel_rfl) (by kernel_rfl) (by kernel_rfl) (fun _ _ _ h => h) (Or.inl ⟨by rfl, ?_⟩) (by assumption) ?_
      rotate_left
      · intro w' hSw; (try dsimp only at hSw); have c0 := hSw.1.cell 0; have c1 := hSw.1.cell 1; have c2 := hSw.1.cell 2; have c3 := hSw.1.cell 3; have c4 := hSw.1.cell 4; have c5 := hSw.1.cell 5; have c6 := hSw.1.cell 6; have c7 := hSw.1.cell 7; have d0 := hSw.2.2.1.cell 0; have d1 := hSw.2.2.1.cell 1; have d2 := hSw.2.2.1.cell 2; have d3 := hSw.2.2.1.cell 3; have d4 := hSw.2.2.1.cell 4; have d5 := hSw.2.2.1.cell 5; have d6 := hSw.2.2.1.cell 6; have d7 := hSw.2.2.1.cell 7; go_simp; (try with_reducible rfl)
      (try simp only [Act.put, List.getElem_toArray, List.getElem_cons_zero, List.getElem_cons_succ, List.setIfInBounds_toArray, List.set_cons_zero, List.set_cons_succ])
      refine wpAnyF_take (i := 32) (v := ?_) (by kernel_rfl) (by kernel_rfl) rfl (by kernel_rfl) (by kernel_rfl) (by kernel_rfl) (fun _ _ _ h => h) (Or.inl ⟨by rfl, ?_⟩) (by assumption) ?_
      rotate_left
      · intro w' hSw; (try dsimp only at hSw); have c0 := hSw.1.cell 0; have c1 := hSw.1.cell 1; have c2 := hSw.1.cell 2; have c3 := hSw.1.cell 3; have c4 := hSw.1.cell 4; have c5 := hSw.1.cell 5; have c6 := hSw.1.cell 6; have c7 := hSw.1.cell 7; have d0 := hSw.2.2.1.cell 0; have d1 := hSw.2.2.1.cell 1; have d2 := hSw.2.2.1.cell 2; have d3 := hSw.2.2.1.cell 3; have d4 := hSw.2.2.1.cell 4; have d5 := hSw.2.2.1.cell 5; have d6 := hSw.2.2.1.cell 6; have d7 := hSw.2.2.1.cell 7; go_simp; (try with_reducible rfl)
      (try simp only [Act.put, List.getElem_toArray, List.getElem_cons_zero, List.getElem_cons_succ, List.setIfInBounds_toArray, List.set_cons_zero, List.set_cons_succ])
      refine wpAnyF_take (i := 33) (v := ?_) (by kernel_rfl) (by kernel_rfl) rfl (by kernel_rfl) (by kernel_rfl) (by kernel_rfl) (fun _ _ _ h => h) (Or.inl ⟨by rfl, ?_⟩) (by assumption) ?_
      rotate_left
      · intro w' hSw; (try dsimp only at hSw); have c0 := hSw.1.cell 0; have c1 := hSw.1.cell 1; have c2 := hSw.1.cell 2; have c3 := hSw.1.cell 3; have c4 := hSw.1.cell 4; have c5 := hSw.1.cell 5; have c6 := hSw.1.cell 6; have c7 := hSw.1.cell 7; have d0 := hSw.2.2.1.cell 0; have d1 := hSw.2.2.1.cell 1; have d2 := hSw.2.2.1.cell 2; have d3 := hSw.2.2.1.cell 3; have d4 := hSw.2.2.1.cell 4; have d5 := hSw.2.2.1.cell 5; have d6 := hSw.2.2.1.cell 6; have d7 := hSw.2.2.1.cell 7; go_simp; (try with_reducible rfl)
      (try simp only [Act.put, List.getElem_toArray, List.getElem_cons_zero, List.getElem_cons_succ, List.setIfInBounds_toArray, List.set_cons_zero, List.set_cons_succ])
      refine wpAnyF_take (i := 34) (v := ?_) (by kernel_rfl) (by kernel_rfl) rfl (by kernel_rfl) (by kernel_rfl) (by kernel_rfl) (fun _ _ _ h => h) (Or.inl ⟨by rfl, ?_⟩) (by assumption) ?_
      rotate_left
      · intro w' hSw; (try dsimp only at hSw); have c0 := hSw.1.cell 0; have c1 := hSw.1.cell 1; have c2 := hSw.1.cell 2; have c3 := hSw.1.cell 3; have c4 := hSw.1.cell 4; have c5 := hSw.1.cell 5; have c6 := hSw.1.cell 6; have c7 := hSw.1.cell 7; have d0 := hSw.2.2.1.cell 0; have d1 := hSw.2.2.1.cell 1; have d2 := hSw.2.2.1.cell 2; have d3 := hSw.2.2.1.cell 3; have d4 := hSw.2.2.1.cell 4; have d5 := hSw.2.2.1.cell 5; have d6 := hSw.2.2.1.cell 6; have d7 := hSw.2.2.1.cell 7; go_simp; (try with_reducible rfl)
      (try simp only [Act.put, List.getElem_toArray, List.getElem_cons_zero, List.getElem_cons_succ, List.setIfInBounds_toArray, List.set_cons_zero, List.set_cons_succ])
      refine wpAnyF_take (i := 36) (v := _) (by kernel_rfl) (by kernel_rfl) rfl (by kernel_rfl) (by kernel_rfl) (by kernel_rfl) (fun _ _ _ h => h) (yieldsIf_load_mid (by rfl) 36 (.tmp 6) rfl rb 0 rfl (rifL y) _ (fun w' h => h.2.1.rif) Try.underlying36 rfl HZy.out) (by assumption) ?_
      (try simp only [Act.put, List.getElem_toArray, List.getElem_cons_zero, List.getElem_cons_succ, List.setIfInBounds_toArray, List.set_cons_zero, List.set_cons_succ])
      refine wpAnyF_take (i := 37) (v := ?_) (by kernel_rfl) (by kernel_rfl) rfl (by kernel_rfl) (by kernel_rfl) (by kernel_rfl) (fun _ _ _ h => h) (Or.inl ⟨by rfl, ?_⟩) (by assumption) ?_
      rotate_left
      · intro w' hSw; (try dsimp only at hSw); have c0 := hSw.1.cell 0; have c1 := hSw.1.cell 1; have c2 := hSw.1.cell 2; have c3 := hSw.1.cell 3; have c4 := hSw.1.cell 4; have c5 := hSw.1.cell 5; have c6 := hSw.1.cell 6; have c7 := hSw.1.cell 7; have d0 := hSw.2.2.1.cell 0; have d1 := hSw.2.2.1.cell 1; have d2 := hSw.2.2.1.cell 2; have d3 := hSw.2.2.1.cell 3; have d4 := hSw.2.2.1.cell 4; have d5 := hSw.2.2.1.cell 5; have d6 := hSw.2.2.1.cell 6; have d7 := hSw.2.2.1.cell 7; go_simp; (try with_reducible rfl)
      (try simp only [Act.put, List.getElem_toArray, List.getElem_cons_zero, List.getElem_cons_succ, List.setIfInBounds_toArray, List.set_cons_zero, List.set_cons_succ])
      refine wpAnyF_take (i := 38) (v := ?_) (by kernel_rfl) (by kernel_rfl) rfl (by kernel_rfl) (by kernel_rfl) (by kernel_rfl) (fun _ _ _ h => h) (Or.inl ⟨by rfl, ?_⟩) (by assumption) ?_
      rotate_left
      · intro w' hSw; (try dsimp only at hSw); have c0 := hSw.1.cell 0; have c1 := hSw.1.cell 1; have c2 := hSw.1.cell 2; have c3 := hSw.1.cell 3; have c4 := hSw.1.cell 4; have c5 := hSw.1.cell 5; have c6 := hSw.1.cell 6; have c7 := hSw.1.cell 7; have d0 := hSw.2.2.1.cell 0; have d1 := hSw.2.2.1.cell 1; have d2 := hSw.2.2.1.cell 2; have d3 := hSw.2.2.1.cell 3; have d4 := hSw.2.2.1.cell 4; have d5 := hSw.2.2.1.cell 5; have d6 := hSw.2.2.1.cell 6; have d7 := hSw.2.2.1.cell 7; go_simp; (try with_reducible rfl)
      (try simp only [Act.put, List.getElem_toArray, List.getElem_cons_zero, List.getElem_cons_succ, List.setIfInBounds_toArray, List.set_cons_zero, List.set_cons_succ])
      refine wpAnyF_take (i := 39) (v := ?_) (by kernel_rfl) (by kernel_rfl) rfl (by kernel_rfl) (by kernel_rfl) (by kernel_rfl) (fun _ _ _ h => h) (Or.inl ⟨by rfl, ?_⟩) (by assumption) ?_
      rotate_left
      · intro w' hSw; (try dsimp only at hSw); have c0 := hSw.1.cell 0; have c1 := hSw.1.cell 1; have c2 := hSw.1.cell 2; have c3 := hSw.1.cell 3; have c4 := hSw.1.cell 4; have c5 := hSw.1.cell 5; have c6 := hSw.1.cell 6; have c7 := hSw.1.cell 7; have d0 := hSw.2.2.1.cell 0; have d1 := hSw.2.2.1.cell 1; have d2 := hSw.2.2.1.cell 2; have d3 := hSw.2.2.1.cell 3; have d4 := hSw.2.2.1.cell 4; have d5 := hSw.2.2.1.cell 5; have d6 := hSw.2.2.1.cell 6; have d7 := hSw.2.2.1.cell 7; go_simp; (try with_reducible rfl)
      (try simp only [Act.put, List.getElem_toArray, List.getElem_cons_zero, List.getElem_cons_succ, List.setIfInBounds_toArray, List.set_cons_zero, List.set_cons_succ])
      refine wpAnyF_take (i := 40) (v := ?_) (by kernel_rfl) (by kernel_rfl) rfl (by kernel_rfl) (by kernel_rfl) (by kernel_rfl) (fun _ _ _ h => h) (Or.inl ⟨by rfl, ?_⟩) (by assumption) ?_
      rotate_left
      · intro w' hSw; (try dsimp only at hSw); have c0 := hSw.1.cell 0; have c1 := hSw.1.cell 1; have c2 := hSw.1.cell 2; have c3 := hSw.1.cell 3; have c4 := hSw.1.cell 4; have c5 := hSw.1.cell 5; have c6 := hSw.1.cell 6; have c7 := hSw.1.cell 7; have d0 := hSw.2.2.1.cell 0; have d1 := hSw.2.2.1.cell 1; have d2 := hSw.2.2.1.cell 2; have d3 := hSw.2.2.1.cell 3; have d4 := hSw.2.2.1.cell 4; have d5 := hSw.2.2.1.cell 5; have d6 := hSw.2.2.1.cell 6; have d7 := hSw.2.2.1.cell 7; go_simp; (try with_reducible rfl)
      (try simp only [Act.put, List.getElem_toArray, List.getElem_cons_zero, List.getElem_cons_succ, List.setIfInBounds_toArray, List.set_cons_zero, List.set_cons_succ])
      refine wpAnyF_ready (rs := [35]) (by kernel_rfl) (by simp) ?_
      refine AllReadyF.cons rfl (fun KK hKK => ?_) AllReadyF.nil
      go_simp
      ((with_reducible refine (SH.out _).mono ?_); rintro e' w135 ⟨rfl, hb⟩; have hSS := And.intro (hHeld.1.below hb) (And.intro (hHeld.2.1.below hb) (And.intro (hHeld.2.2.1.below hb) (hHeld.2.2.2.trans (hb.mono hHeld.2.2.2.size)))); clear hb)
      (try go_simp)
      refine hKK.out _ _ hSS (fun hHeld => ?_)
      clear hKK KK
      (try simp only [Act.put, List.getElem_toArray, List.getElem_cons_zero, List.getElem_cons_succ, List.setIfInBounds_toArray, List.set_cons_zero, List.set_cons_succ])
      refine wpAnyF_ready (rs := [41]) (by kernel_rfl) (by simp) ?_
      refine AllReadyF.cons rfl (fun KK hKK => ?_) AllReadyF.nil
      go_simp
      ((with_reducible refine (RSH.out _).mono ?_); rintro e' w141 ⟨rfl, hb⟩; have hSS := And.intro (hHeld.1.below hb) (And.intro (hHeld.2.1.below hb) (And.intro (hHeld.2.2.1.below hb) (hHeld.2.2.2.trans (hb.mono hHeld.2.2.2.size)))); clear hb)
      (try go_simp)
      refine hKK.out _ _ hSS (fun hHeld => ?_)
      clear hKK KK
      (try simp only [Act.put, List.getElem_toArray, List.getElem_cons_zero, List.getElem_cons_succ, List.setIfInBounds_toArray, List.set_cons_zero, List.set_cons_succ])
      refine wpAnyF_take (i := 42) (v := ?_) (by kernel_rfl) (by kernel_rfl) rfl (by kernel_rfl) (by kernel_rfl) (by kernel_rfl) (fun _ _ _ h => h) (Or.inl ⟨by rfl, ?_⟩) (by assumption) ?_
      rotate_left
      · intro w' hSw; (try dsimp only at hSw); have c0 := hSw.1.cell 0; have c1 := hSw.1.cell 1; have c2 := hSw.1.cell 2; have c3 := hSw.1.cell 3; have c4 := hSw.1.cell 4; have c5 := hSw.1.cell 5; have c6 := hSw.1.cell 6; have c7 := hSw.1.cell 7; have d0 := hSw.2.2.1.cell 0; have d1 := hSw.2.2.1.cell 1; have d2 := hSw.2.2.1.cell 2; have d3 := hSw.2.2.1.cell 3; have d4 := hSw.2.2.1.cell 4; have d5 := hSw.2.2.1.cell 5; have d6 := hSw.2.2.1.cell 6; have d7 := hSw.2.2.1.cell 7; go_simp; (try with_reducible rfl)
      (try simp only [Act.put, List.getElem_toArray, List.getElem_cons_zero, List.getElem_cons_succ, List.setIfInBounds_toArray, List.set_cons_zero, List.set_cons_succ])
      refine wpAnyF_take (i := 43) (v := ?_) (by kernel_rfl) (by kernel_rfl) rfl (by kernel_rfl) (by kernel_rfl) (by kernel_rfl) (fun _ _ _ h => h) (Or.inl ⟨by rfl, ?_⟩) (by assumption) ?_
      rotate_left
      · intro w' hSw; (try dsimp only at hSw); have c0 := hSw.1.cell 0; have c1 := hSw.1.cell 1; have c2 := hSw.1.cell 2; have c3 := hSw.1.cell 3; have c4 := hSw.1.cell 4; have c5 := hSw.1.cell 5; have c6 := hSw.1.cell 6; have c7 := hSw.1.cell 7; have d0 := hSw.2.2.1.cell 0; have d1 := hSw.2.2.1.cell 1; have d2 := hSw.2.2.1.cell 2; have d3 := hSw.2.2.1.cell 3; have d4 := hSw.2.2.1.cell 4; have d5 := hSw.2.2.1.cell 5; have d6 := hSw.2.2.1.cell 6; have d7 := hSw.2.2.1.cell 7; go_simp; (try with_reducible rfl)
      (try simp only [Act.put, List.getElem_toArray, List.getElem_cons_zero, List.getElem_cons_succ, List.setIfInBounds_toArray, List.set_cons_zero, List.set_cons_succ])
      refine wpAnyF_take (i := 44) (v := ?_) (by kernel_rfl) (by kernel_rfl) rfl (by kernel_rfl) (by kernel_rfl) (by kernel_rfl) (fun _ _ _ h => h) (Or.inl ⟨by rfl, ?_⟩) (by assumption) ?_
      rotate_left
      · intro w' hSw; (try dsimp only at hSw); have c0 := hSw.1.cell 0; have c1 := hSw.1.cell 1; have c2 := hSw.1.cell 2; have c3 := hSw.1.cell 3; have c4 := hSw.1.cell 4; have c5 := hSw.1.cell 5; have c6 := hSw.1.cell 6; have c7 := hSw.1.cell 7; have d0 := hSw.2.2.1.cell 0; have d1 := hSw.2.2.1.cell 1; have d2 := hSw.2.2.1.cell 2; have d3 := hSw.2.2.1.cell 3; have d4 := hSw.2.2.1.cell 4; have d5 := hSw.2.2.1.cell 5; have d6 := hSw.2.2.1.cell 6; have d7 := hSw.2.2.1.cell 7; go_simp; (try with_reducible rfl)
      (try simp only [Act.put, List.getElem_toArray, List.getElem_cons_zero, List.getElem_cons_succ, List.setIfInBounds_toArray, List.set_cons_zero, List.set_cons_succ])
      refine wpAnyF_take (i := 45) (v := ?_) (by kernel_rfl) (by kernel_rfl) rfl (by kernel_rfl) (by kernel_rfl) (by kernel_rfl) (fun _ _ _ h => h) (Or.inl ⟨by rfl, ?_⟩) (by assumption) ?_
      rotate_left
      · intro w' hSw; (try dsimp only at hSw); have c0 := hSw.1.cell 0; have c1 := hSw.1.cell 1; have c2 := hSw.1.cell 2; have c3 := hSw.1.cell 3; have c4 := hSw.1.cell 4; have c5 := hSw.1.cell 5; have c6 := hSw.1.cell 6; have c7 := hSw.1.cell 7; have d0 := hSw.2.2.1.cell 0; have d1 := hSw.2.2.1.cell 1; have d2 := hSw.2.2.1.cell 2; have d3 := hSw.2.2.1.cell 3; have d4 := hSw.2.2.1.cell 4; have d5 := hSw.2.2.1.cell 5; have d6 := hSw.2.2.1.cell 6; have d7 := hSw.2.2.1.cell 7; go_simp; (try with_reducible rfl)
      (try simp only [Act.put, List.getElem_toArray, List.getElem_cons_zero, List.getElem_cons_succ, List.setIfInBounds_toArray, List.set_cons_zero, List.set_cons_succ])
      refine wpAnyF_take (i := 46) (v := ?_) (by kernel_rfl) (by kernel_rfl) rfl (by kernel_rfl) (by kernel_rfl) (by kernel_rfl) (fun _ _ _ h => h) (Or.inl ⟨by rfl, ?_⟩) (by assumption) ?_
      rotate_left
      · intro w' hSw; (try dsimp only at hSw); have c0 := hSw.1.cell 0; have c1 := hSw.1.cell 1; have c2 := hSw.1.cell 2; have c3 := hSw.1.cell 3; have c4 := hSw.1.cell 4; have c5 := hSw.1.cell 5; have c6 := hSw.1.cell 6; have c7 := hSw.1.cell 7; have d0 := hSw.2.2.1.cell 0; have d1 := hSw.2.2.1.cell 1; have d2 := hSw.2.2.1.cell 2; have d3 := hSw.2.2.1.cell 3; have d4 := hSw.2.2.1.cell 4; have d5 := hSw.2.2.1.cell 5; have d6 := hSw.2.2.1.cell 6; have d7 := hSw.2.2.1.cell 7; go_simp; (try with_reducible rfl)
      (try simp only [Act.put, List.getElem_toArray, List.getElem_cons_zero, List.getElem_cons_succ, List.setIfInBounds_toArray, List.set_cons_zero, List.set_cons_succ])
      refine wpAnyF_take (i := 47) (v := ?_) (by kernel_rfl) (by kernel_rfl) rfl (by kernel_rfl) (by kernel_rfl) (by kernel_rfl) (fun _ _ _ h => h) (Or.inl ⟨by rfl, ?_⟩) (by assumption) ?_
      rotate_left
      · intro w' hSw; (try dsimp only at hSw); have c0 := hSw.1.cell 0; have c1 := hSw.1.cell 1; have c2 := hSw.1.cell 2; have c3 := hSw.1.cell 3; have c4 := hSw.1.cell 4; have c5 := hSw.1.cell 5; have c6 := hSw.1.cell 6; have c7 := hSw.1.cell 7; have d0 := hSw.2.2.1.cell 0; have d1 := hSw.2.2.1.cell 1; have d2 := hSw.2.2.1.cell 2; have d3 := hSw.2.2.1.cell 3; have d4 := hSw.2.2.1.cell 4; have d5 := hSw.2.2.1.cell 5; have d6 := hSw.2.2.1.cell 6; have d7 := hSw.2.2.1.cell 7; go_simp; (try with_reducible rfl)
      (try simp only [Act.put, List.getElem_toArray, List.getElem_cons_zero, List.getElem_cons_succ, List.setIfInBounds_toArray, List.set_cons_zero, List.set_cons_succ])
      refine wpAnyF_take (i := 49) (v := ?_) (by kernel_rfl) (by kernel_rfl) rfl (by kernel_rfl) (by kernel_rfl) (by kernel_rfl) (fun _ _ _ h => h) (Or.inl ⟨by rfl, ?_⟩) (by assumption) ?_
      rotate_left
      · intro w' hSw; (try dsimp only at hSw); have c0 := hSw.1.cell 0; have c1 := hSw.1.cell 1; have c2 := hSw.1.cell 2; have c3 := hSw.1.cell 3; have c4 := hSw.1.cell 4; have c5 := hSw.1.cell 5; have c6 := hSw.1.cell 6; have c7 := hSw.1.cell 7; have d0 := hSw.2.2.1.cell 0; have d1 := hSw.2.2.1.cell 1; have d2 := hSw.2.2.1.cell 2; have d3 := hSw.2.2.1.cell 3; have d4 := hSw.2.2.1.cell 4; have d5 := hSw.2.2.1.cell 5; have d6 := hSw.2.2.1.cell 6; have d7 := hSw.2.2.1.cell 7; go_simp; (try with_reducible rfl)
      (try simp only [Act.put, List.getElem_toArray, List.getElem_cons_zero, List.getElem_cons_succ, List.setIfInBounds_toArray, List.set_cons_zero, List.set_cons_succ])
      refine wpAnyF_take (i := 50) (v := ?_) (by kernel_rfl) (by kernel_rfl) rfl (by kernel_rfl) (by kernel_rfl) (by kernel_rfl) (fun _ _ _ h => h) (Or.inl ⟨by rfl, ?_⟩) (by assumption) ?_
      rotate_left
      · intro w' hSw; (try dsimp only at hSw); have c0 := hSw.1.cell 0; have c1 := hSw.1.cell 1; have c2 := hSw.1.cell 2; have c3 := hSw.1.cell 3; have c4 := hSw.1.cell 4; have c5 := hSw.1.cell 5; have c6 := hSw.1.cell 6; have c7 := hSw.1.cell 7; have d0 := hSw.2.2.1.cell 0; have d1 := hSw.2.2.1.cell 1; have d2 := hSw.2.2.1.cell 2; have d3 := hSw.2.2.1.cell 3; have d4 := hSw.2.2.1.cell 4; have d5 := hSw.2.2.1.cell 5; have d6 := hSw.2.2.1.cell 6; have d7 := hSw.2.2.1.cell 7; go_simp; (try with_reducible rfl)
      (try simp only [Act.put, List.getElem_toArray, List.getElem_cons_zero, List.getElem_cons_succ, List.setIfInBounds_toArray, List.set_cons_zero, List.set_cons_succ])
      refine wpAnyF_take (i := 51) (v := ?_) (by kernel_rfl) (by kernel_rfl) rfl (by kernel_rfl) (by kernel_rfl) (by kernel_rfl) (fun _ _ _ h => h) (Or.inl ⟨by rfl, ?_⟩) (by assumption) ?_
      rotate_left
      · intro w' hSw; (try dsimp only at hSw); have c0 := hSw.1.cell 0; have c1 := hSw.1.cell 1; have c2 := hSw.1.cell 2; have c3 := hSw.1.cell 3; have c4 := hSw.1.cell 4; have c5 := hSw.1.cell 5; have c6 := hSw.1.cell 6; have c7 := hSw.1.cell 7; have d0 := hSw.2.2.1.cell 0; have d1 := hSw.2.2.1.cell 1; have d2 := hSw.2.2.1.cell 2; have d3 := hSw.2.2.1.cell 3; have d4 := hSw.2.2.1.cell 4; have d5 := hSw.2.2.1.cell 5; have d6 := hSw.2.2.1.cell 6; have d7 := hSw.2.2.1.cell 7; go_simp; (try with_reducible rfl)
      (try simp only [Act.put, List.getElem_toArray, List.getElem_cons_zero, List.getElem_cons_succ, List.setIfInBounds_toArray, List.set_cons_zero, List.set_cons_succ])
      refine wpAnyF_ready (rs := [48]) (by kernel_rfl) (by simp) ?_
      refine AllReadyF.cons rfl (fun KK hKK => ?_) AllReadyF.nil
      go_simp
      ((with_reducible refine (RE.out _).mono ?_); rintro e' w148 ⟨rfl, rfl⟩)
      (try go_simp)
      refine hKK.out _ _ hHeld (fun hHeld => ?_)
      clear hKK KK
      (try simp only [Act.put, List.getElem_toArray, List.getElem_cons_zero, List.getElem_cons_succ, List.setIfInBounds_toArray, List.set_cons_zero, List.set_cons_succ])
      refine wpAnyF_ready (rs := [52]) (by kernel_rfl) (by simp) ?_
      refine AllReadyF.cons rfl (fun KK hKK => ?_) AllReadyF.nil
      go_simp
      ((with_reducible refine (RRE.out _).mono ?_); rintro e' w152 ⟨rfl, rfl⟩)
      (try go_simp)
      refine hKK.out _ _ hHeld (fun hHeld => ?_)
      clear hKK KK
      (try simp only [Act.put, List.getElem_toArray, List.getElem_cons_zero, List.getElem_cons_succ, List.setIfInBounds_toArray, List.set_cons_zero, List.set_cons_succ])
      refine wpAnyF_take (i := 53) (v := ?_) (by kernel_rfl) (by kernel_rfl) rfl (by kernel_rfl) (by kernel_rfl) (by kernel_rfl) (fun _ _ _ h => h) (Or.inl ⟨by rfl, ?_⟩) (by assumption) ?_
      rotate_left
      · intro w' hSw; (try dsimp only at hSw); have c0 := hSw.1.cell 0; have c1 := hSw.1.cell 1; have c2 := hSw.1.cell 2; have c3 := hSw.1.cell 3; have c4 := hSw.1.cell 4; have c5 := hSw.1.cell 5; have c6 := hSw.1.cell 6; have c7 := hSw.1.cell 7; have d0 := hSw.2.2.1.cell 0; have d1 := hSw.2.2.1.cell 1; have d2 := hSw.2.2.1.cell 2; have d3 := hSw.2.2.1.cell 3; have d4 := hSw.2.2.1.cell 4; have d5 := hSw.2.2.1.cell 5; have d6 := hSw.2.2.1.cell 6; have d7 := hSw.2.2.1.cell 7; go_simp; (try with_reducible rfl)
      (try simp only [Act.put, List.getElem_toArray, List.getElem_cons_zero, List.getElem_cons_succ, List.setIfInBounds_toArray, List.set_cons_zero, List.set_cons_succ])
      refine wpAnyF_take (i := 54) (v := ?_) (by kernel_rfl) (by kernel_rfl) rfl (by kernel_rfl) (by kernel_rfl) (by kernel_rfl) (fun _ _ _ h => h) (Or.inl ⟨by rfl, ?_⟩) (by assumption) ?_
      rotate_left
      · intro w' hSw; (try dsimp only at hSw); have c0 := hSw.1.cell 0; have c1 := hSw.1.cell 1; have c2 := hSw.1.cell 2; have c3 := hSw.1.cell 3; have c4 := hSw.1.cell 4; have c5 := hSw.1.cell 5; have c6 := hSw.1.cell 6; have c7 := hSw.1.cell 7; have d0 := hSw.2.2.1.cell 0; have d1 := hSw.2.2.1.cell 1; have d2 := hSw.2.2.1.cell 2; have d3 := hSw.2.2.1.cell 3; have d4 := hSw.2.2.1.cell 4; have d5 := hSw.2.2.1.cell 5; have d6 := hSw.2.2.1.cell 6; have d7 := hSw.2.2.1.cell 7; go_simp; (try with_reducible rfl)
      (try simp only [Act.put, List.getElem_toArray, List.getElem_cons_zero, List.getElem_cons_succ, List.setIfInBounds_toArray, List.set_cons_zero, List.set_cons_succ])
      refine wpAnyF_take (i := 55) (v := ?_) (by kernel_rfl) (by kernel_rfl) rfl (by kernel_rfl) (by kernel_rfl) (by kernel_rfl) (fun _ _ _ h => h) (Or.inl ⟨by rfl, ?_⟩) (by assumption) ?_
      rotate_left
      · intro w' hSw; (try dsimp only at hSw); have c0 := hSw.1.cell 0; have c1 := hSw.1.cell 1; have c2 := hSw.1.cell 2; have c3 := hSw.1.cell 3; have c4 := hSw.1.cell 4; have c5 := hSw.1.cell 5; have c6 := hSw.1.cell 6; have c7 := hSw.1.cell 7; have d0 := hSw.2.2.1.cell 0; have d1 := hSw.2.2.1.cell 1; have d2 := hSw.2.2.1.cell 2; have d3 := hSw.2.2.1.cell 3; have d4 := hSw.2.2.1.cell 4; have d5 := hSw.2.2.1.cell 5; have d6 := hSw.2.2.1.cell 6; have d7 := hSw.2.2.1.cell 7; go_simp; (try with_reducible rfl)
      (try simp only [Act.put, List.getElem_toArray, List.getElem_cons_zero, List.getElem_cons_succ, List.setIfInBounds_toArray, List.set_cons_zero, List.set_cons_succ])
      refine wpAnyF_take (i := 56) (v := ?_) (by kernel_rfl) (by kernel_rfl) rfl (by kernel_rfl) (by kernel_rfl) (by kernel_rfl) (fun _ _ _ h => h) (Or.inl ⟨by rfl, ?_⟩) (by assumption) ?_
      rotate_left
      · intro w' hSw; (try dsimp only at hSw); have c0 := hSw.1.cell 0; have c1 := hSw.1.cell 1; have c2 := hSw.1.cell 2; have c3 := hSw.1.cell 3; have c4 := hSw.1.cell 4; have c5 := hSw.1.cell 5; have c6 := hSw.1.cell 6; have c7 := hSw.1.cell 7; have d0 := hSw.2.2.1.cell 0; have d1 := hSw.2.2.1.cell 1; have d2 := hSw.2.2.1.cell 2; have d3 := hSw.2.2.1.cell 3; have d4 := hSw.2.2.1.cell 4; have d5 := hSw.2.2.1.cell 5; have d6 := hSw.2.2.1.cell 6; have d7 := hSw.2.2.1.cell 7; go_simp; (try with_reducible rfl)
      (try simp only [Act.put, List.getElem_toArray, List.getElem_cons_zero, List.getElem_cons_succ, List.setIfInBounds_toArray, List.set_cons_zero, List.set_cons_succ])
      refine wpAnyF_take (i := 58) (v := ?_) (by kernel_rfl) (by kernel_rfl) rfl (by kernel_rfl) (by kernel_rfl) (by kernel_rfl) (fun _ _ _ h => h) (Or.inl ⟨by rfl, ?_⟩) (by assumption) ?_
      rotate_left
      · intro w' hSw; (try dsimp only at hSw); have c0 := hSw.1.cell 0; have c1 := hSw.1.cell 1; have c2 := hSw.1.cell 2; have c3 := hSw.1.cell 3; have c4 := hSw.1.cell 4; have c5 := hSw.1.cell 5; have c6 := hSw.1.cell 6; have c7 := hSw.1.cell 7; have d0 := hSw.2.2.1.cell 0; have d1 := hSw.2.2.1.cell 1; have d2 := hSw.2.2.1.cell 2; have d3 := hSw.2.2.1.cell 3; have d4 := hSw.2.2.1.cell 4; have d5 := hSw.2.2.1.cell 5; have d6 := hSw.2.2.1.cell 6; have d7 := hSw.2.2.1.cell 7; go_simp; (try with_reducible rfl)
      (try simp only [Act.put, List.getElem_toArray, List.getElem_cons_zero, List.getElem_cons_succ, List.setIfInBounds_toArray, List.set_cons_zero, List.set_cons_succ])
      refine wpAnyF_take (i := 59) (v := ?_) (by kernel_rfl) (by kernel_rfl) rfl (by kernel_rfl) (by kernel_rfl) (by kernel_rfl) (fun _ _ _ h => h) (Or.inl ⟨by rfl, ?_⟩) (by assumption) ?_
      rotate_left
      · intro w' hSw; (try dsimp only at hSw); have c0 := hSw.1.cell 0; have c1 := hSw.1.cell 1; have c2 := hSw.1.cell 2; have c3 := hSw.1.cell 3; have c4 := hSw.1.cell 4; have c5 := hSw.1.cell 5; have c6 := hSw.1.cell 6; have c7 := hSw.1.cell 7; have d0 := hSw.2.2.1.cell 0; have d1 := hSw.2.2.1.cell 1; have d2 := hSw.2.2.1.cell 2; have d3 := hSw.2.2.1.cell 3; have d4 := hSw.2.2.1.cell 4; have d5 := hSw.2.2.1.cell 5; have d6 := hSw.2.2.1.cell 6; have d7 := hSw.2.2.1.cell 7; go_simp; (try with_reducible rfl)
      (try simp only [Act.put, List.getElem_toArray, List.getElem_cons_zero, List.getElem_cons_succ, List.setIfInBounds_toArray, List.set_cons_zero, List.set_cons_succ])
      refine wpAnyF_ready (rs := [57]) (by kernel_rfl) (by simp) ?_
      refine AllReadyF.cons rfl (fun KK hKK => ?_) AllReadyF.nil
      go_simp
      ((with_reducible refine (DE.out _).mono ?_); rintro e' w157 ⟨rfl, hb⟩; have hSS := And.intro (hHeld.1.below hb) (And.intro (hHeld.2.1.below hb) (And.intro (hHeld.2.2.1.below hb) (hHeld.2.2.2.trans (hb.mono hHeld.2.2.2.size)))); clear hb)
      (try go_simp)
      refine hKK.out _ _ hSS (fun hHeld => ?_)
      clear hKK KK
      (try simp only [Act.put, List.getElem_toArray, List.getElem_cons_zero, List.getElem_cons_succ, List.setIfInBounds_toArray, List.set_cons_zero, List.set_cons_succ])
      refine wpAnyF_ready (rs := [60]) (by kernel_rfl) (by simp) ?_
      refine AllReadyF.cons rfl (fun KK hKK => ?_) AllReadyF.nil
      go_simp
      ((with_reducible refine (LE.out _).mono ?_); rintro e' w160 ⟨rfl, hb⟩; have hSS := And.intro (hHeld.1.below hb) (And.intro (hHeld.2.1.below hb) (And.intro (hHeld.2.2.1.below hb) (hHeld.2.2.2.trans (hb.mono hHeld.2.2.2.size)))); clear hb)
      (try go_simp)
      refine hKK.out _ _ hSS (fun hHeld => ?_)
      clear hKK KK
      (try simp only [Act.put, List.getElem_toArray, List.getElem_cons_zero, List.getElem_cons_succ, List.setIfInBounds_toArray, List.set_cons_zero, List.set_cons_succ])
      refine wpAnyF_take (i := 61) (v := ?_) (by kernel_rfl) (by kernel_rfl) rfl (by kernel_rfl) (by kernel_rfl) (by kernel_rfl) (fun _ _ _ h => h) (Or.inl ⟨by rfl, ?_⟩) (by assumption) ?_
      rotate_left
      · intro w' hSw; (try dsimp only at hSw); have c0 := hSw.1.cell 0; have c1 := hSw.1.cell 1; have c2 := hSw.1.cell 2; have c3 := hSw.1.cell 3; have c4 := hSw.1.cell 4; have c5 := hSw.1.cell 5; have c6 := hSw.1.cell 6; have c7 := hSw.1.cell 7; have d0 := hSw.2.2.1.cell 0; have d1 := hSw.2.2.1.cell 1; have d2 := hSw.2.2.1.cell 2; have d3 := hSw.2.2.1.cell 3; have d4 := hSw.2.2.1.cell 4; have d5 := hSw.2.2.1.cell 5; have d6 := hSw.2.2.1.cell 6; have d7 := hSw.2.2.1.cell 7; go_simp; (try with_reducible rfl)
      (try simp only [Act.put, List.getElem_toArray, List.getElem_cons_zero, List.getElem_cons_succ, List.setIfInBounds_toArray, List.set_cons_zero, List.set_cons_succ])
      refine wpAnyF_take (i := 62) (v := ?_) (by kernel_rfl) (by kernel_rfl) rfl (by kernel_rfl) (by kernel_rfl) (by kernel_rfl) (fun _ _ _ h => h) (Or.inl ⟨by rfl, ?_⟩) (by assumption) ?_
      rotate_left
      · intro w' hSw; (try dsimp only at hSw); have c0 := hSw.1.cell 0; have c1 := hSw.1.cell 1; have c2 := hSw.1.cell 2; have c3 := hSw.1.cell 3; have c4 := hSw.1.cell 4; have c5 := hSw.1.cell 5; have c6 := hSw.1.cell 6; have c7 := hSw.1.cell 7; have d0 := hSw.2.2.1.cell 0; have d1 := hSw.2.2.1.cell 1; have d2 := hSw.2.2.1.cell 2; have d3 := hSw.2.2.1.cell 3; have d4 := hSw.2.2.1.cell 4; have d5 := hSw.2.2.1.cell 5; have d6 := hSw.2.2.1.cell 6; have d7 := hSw.2.2.1.cell 7; go_simp; (try with_reducible rfl)
      (try simp only [Act.put, List.getElem_toArray, List.getElem_cons_zero, List.getElem_cons_succ, List.setIfInBounds_toArray, List.set_cons_zero, List.set_cons_succ])
      refine wpAnyF_done (by kernel_rfl) ?_ _
      refine NoPanic.normal ?_
      have HH := hi hHeld
      clear hHeld
      go_wp2
      go_roundw
      case rel => exact ⟨k + 1, by omega, by go_num, by rw [xAt_succ x xs hkl, HXE.out, HYE.out]; exact ⟨HH.out.1, HH.out.2.1, HH.out.2.2.2, HRB.out⟩⟩
      case measure => simp [intOf]; omega
    · have hkn' : k = n := by omega
      subst hkn'
      have f := HD.out.f
      have t1 : decide ((k : Int) < k) = false := by simp
      go_wp2_with (go_at_call 23; ((with_reducible refine (new_if _).mono ?_); rintro e w9 ⟨rfl, hb⟩; have B9 := hi (HD.out.below.trans (hb.mono HD.out.below.size)); clear hb))
      go_ret
      exact ⟨rfl, B9.out⟩

end Go.Proofs.Ytnnlimjbmfpalaa
