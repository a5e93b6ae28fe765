/-
  The law's does: an act, of both.
-/
import Derived.Test.YtnnlimjbmfpalaaCpQ
namespace Go.Proofs.Ytnnlimjbmfpalaa
open Go.ChangeShapes Go.WideShapes Go.ChangeAt Go.RowKit Go.Shelf
set_option linter.unusedVariables false
attribute [local go_sem] Oper.semAt_some

/-- An act of the law's. -/
structure Ac14 where
  d : Int
  g : Int
  c : Cd
  r : Int
  v : Nat
abbrev Ac14.cs (a : Ac14) : Array Value := #[.int .i64 a.d, .int .i64 a.g, .int .i64 a.c.id, .int .i64 a.c.p, .int .i64 a.c.g, .bool a.c.is, .int .i64 a.r, .int .u64 a.v]
abbrev Ac14.v_ (a : Ac14) : Value := .agg a.cs
def stepC (x : Fc) (a : Ac14) : Fc := if a.d = 1 then (takeV x a.c a.g).1 else if a.d = 2 then (dropV x a.g).1 else if a.d = 3 then (writeC x a.r a.v).1 else x
theorem Kept.belowN {bs : Nat → Prop} {A W W' : World} (h : Kept bs A W) (k : Below A.heap.size W W') : Kept bs A W' := ⟨k.os.trans h.os, k.tape.trans h.tape, k.output.trans h.output, Nat.le_trans h.size k.size, fun i hi hn => (k.block i hi).trans (h.block i hi hn)⟩
set_option maxRecDepth 100000 in
set_option maxHeartbeats 8000000 in
theorem does_0 (bf : Nat) (x : Fc) (d g ci cp cg : Int) (cis : Bool) (rg : Int) (v : Nat) (w : World) (h1 : d ≠ 1) (h2 : d ≠ 2) (h3 : d ≠ 3) (h : CB w bf 29 x.cs) :
    Calls Try.prog 11 #[.pointer (some ⟨bf, 0, none⟩), rfv x, .agg #[.int .i64 d, .int .i64 g, .int .i64 ci, .int .i64 cp, .int .i64 cg, .bool cis, .int .i64 rg, .int .u64 v]] w fun e w' => e = .returned (.tuple #[rfv x, .bool true]) ∧ FcAf w bf x w' := by
  have e1 : (d == 1) = false := by simpa using h1
  have e2 : (d == 2) = false := by simpa using h2
  have e3 : (d == 3) = false := by simpa using h3
  have hlt := h.lt
  have b2 := bal_two w (.cells (rifA x) 36) (.cells #[.int .i64 d, .int .i64 g, .int .i64 ci, .int .i64 cp, .int .i64 cg, .bool cis, .int .i64 rg, .int .u64 v] 43)
  have b3 := b2.alloc b2.size (.cells (rifA Fc.zero) 36)
  have HF0 := hi (show CB (((w.alloc (.cells (rifA x) 36)).alloc (.cells #[.int .i64 d, .int .i64 g, .int .i64 ci, .int .i64 cp, .int .i64 cg, .bool cis, .int .i64 rg, .int .u64 v] 43)).alloc (.cells (rifA Fc.zero) 36)) bf 29 x.cs from h.below b3)
  have HR0 := hi (show CB (((w.alloc (.cells (rifA x) 36)).alloc (.cells #[.int .i64 d, .int .i64 g, .int .i64 ci, .int .i64 cp, .int .i64 cg, .bool cis, .int .i64 rg, .int .u64 v] 43)).alloc (.cells (rifA Fc.zero) 36)) w.heap.size 36 (rifA x) from ((CB.new w 36 (rifA x)).alloc _).alloc _)
  have HA0 := hi (show CB (((w.alloc (.cells (rifA x) 36)).alloc (.cells #[.int .i64 d, .int .i64 g, .int .i64 ci, .int .i64 cp, .int .i64 cg, .bool cis, .int .i64 rg, .int .u64 v] 43)).alloc (.cells (rifA Fc.zero) 36)) (w.heap.size + 1) 43 #[.int .i64 d, .int .i64 g, .int .i64 ci, .int .i64 cp, .int .i64 cg, .bool cis, .int .i64 rg, .int .u64 v] from (cb_second (w := w) (o := .cells (rifA x) 36) (cs := #[.int .i64 d, .int .i64 g, .int .i64 ci, .int .i64 cp, .int .i64 cg, .bool cis, .int .i64 rg, .int .u64 v]) (t := 43)).alloc _)
  have HZ0 := hi (show CB (((w.alloc (.cells (rifA x) 36)).alloc (.cells #[.int .i64 d, .int .i64 g, .int .i64 ci, .int .i64 cp, .int .i64 cg, .bool cis, .int .i64 rg, .int .u64 v] 43)).alloc (.cells (rifA Fc.zero) 36)) (w.heap.size + 1 + 1) 36 (rifA Fc.zero) from by simpa using CB.new ((w.alloc (.cells (rifA x) 36)).alloc (.cells #[.int .i64 d, .int .i64 g, .int .i64 ci, .int .i64 cp, .int .i64 cg, .bool cis, .int .i64 rg, .int .u64 v] 43)) 36 (rifA Fc.zero))
  have HK0 := hi (show Kept (· = bf) w (((w.alloc (.cells (rifA x) 36)).alloc (.cells #[.int .i64 d, .int .i64 g, .int .i64 ci, .int .i64 cp, .int .i64 cg, .bool cis, .int .i64 rg, .int .u64 v] 43)).alloc (.cells (rifA Fc.zero) 36)) from Kept.of b3)
  have HZ := hi (size_rif x)
  have HZA := hi (size_rifA x)
  have H1 := hi (rifA_one x)
  have HN := hi (show bf < w.heap.size from hlt)
  have a0 := HA0.out.cell 0
  have a1 := HA0.out.cell 1
  have a2 := HA0.out.cell 2
  have a3 := HA0.out.cell 3
  have a4 := HA0.out.cell 4
  have a5 := HA0.out.cell 5
  have a6 := HA0.out.cell 6
  have a7 := HA0.out.cell 7
  clear hlt b2 b3 h
  have HS0 := hi HR0.out.rif
  have HT0 := hi (show World.there (((w.alloc (.cells (rifA x) 36)).alloc (.cells #[.int .i64 d, .int .i64 g, .int .i64 ci, .int .i64 cp, .int .i64 cg, .bool cis, .int .i64 rg, .int .u64 v] 43)).alloc (.cells (rifA Fc.zero) 36)) (w.heap.size + 1 + 1) 0 (rifA x).size by rw [rifA_size]; exact HZ0.out.thereR (rifA_size _))
  have R5 := hi (show CB ((((w.alloc (.cells (rifA x) 36)).alloc (.cells #[.int .i64 d, .int .i64 g, .int .i64 ci, .int .i64 cp, .int .i64 cg, .bool cis, .int .i64 rg, .int .u64 v] 43)).alloc (.cells (rifA Fc.zero) 36)).setCells (w.heap.size + 1 + 1) 0 (rifA x).toList) (w.heap.size + 1 + 1) 36 (rifA x) from HZ0.out.wholeR (rifA_size _) x)
  have F5 := hi (show FcAf w bf x ((((w.alloc (.cells (rifA x) 36)).alloc (.cells #[.int .i64 d, .int .i64 g, .int .i64 ci, .int .i64 cp, .int .i64 cg, .bool cis, .int .i64 rg, .int .u64 v] 43)).alloc (.cells (rifA Fc.zero) 36)).setCells (w.heap.size + 1 + 1) 0 (rifA x).toList) from ⟨CB.otherCells (by have := HN.out; omega) (rifL x) 0 _ HF0.out, HK0.out.belowN (below_cells (by omega) (rifL x) 0 _ (Below.refl _ _))⟩)
  go_enter Try.func11, Try.ntmps11
  go_wp2_with (first
    | (refine wpList_alloc_rif rfl rfl ?_; try simp only [World.size_alloc])
    | (refine wpList_load_mid rfl 36 (.tmp 4) rfl w.heap.size 0 rfl (rifL x) _ HS0.out Try.underlying36 rfl HZ.out ?_)
    | (refine wpList_store_mid rfl 36 (.tmp 6) (.tmp 89) rfl (w.heap.size + 1 + 1) 0 (rifA x) rfl rfl HT0.out HZA.out H1.out ?_))
  exact bodyPost_ret (results_rif rfl _ _ (w.heap.size + 1 + 1) x (.bool true) rfl rfl R5.out) rfl ⟨rfl, F5.out⟩
set_option maxRecDepth 100000 in
set_option maxHeartbeats 8000000 in
theorem does_1 (bf : Nat) (x y : Fc) (g ci cp cg : Int) (cis : Bool) (rg : Int) (v : Nat) (w : World) (i9 : Int) (is9 : Bool) (hE : takeV x ⟨ci, cp, cg, cis⟩ g = (y, i9, is9)) (h : CB w bf 29 x.cs) :
    Calls Try.prog 11 #[.pointer (some ⟨bf, 0, none⟩), rfv x, .agg #[.int .i64 1, .int .i64 g, .int .i64 ci, .int .i64 cp, .int .i64 cg, .bool cis, .int .i64 rg, .int .u64 v]] w fun e w' => e = .returned (.tuple #[rfv y, .bool true]) ∧ FcAf w bf y w' := by
  have HP := hi (fun W (z : CB W bf 29 x.cs) => show Calls Try.prog 26 #[.pointer (some ⟨bf, 0, none⟩), .agg #[.int .i64 ci, .int .i64 cp, .int .i64 cg, .bool cis], .int .i64 g] W fun e w' => e = .returned (.tuple #[.int .i64 i9, .bool is9]) ∧ FcAf W bf y w' from by have := take_any bf x ⟨ci, cp, cg, cis⟩ g W z; rw [hE] at this; exact this)
  have HQ := hi (fun W => show Calls Try.prog 32 #[.agg (rifL x).toArray, .agg #[.int .i64 ci, .int .i64 cp, .int .i64 cg, .bool cis], .int .i64 g] W fun e w' => e = .returned (.tuple #[rfv y, .int .i64 i9, .bool is9]) ∧ Below W.heap.size W w' from by have := rtake_if x ⟨ci, cp, cg, cis⟩ g W; rw [hE] at this; exact this)
  clear hE
  have hlt := h.lt
  have b2 := bal_two w (.cells (rifA x) 36) (.cells #[.int .i64 1, .int .i64 g, .int .i64 ci, .int .i64 cp, .int .i64 cg, .bool cis, .int .i64 rg, .int .u64 v] 43)
  have b3 := b2.alloc b2.size (.cells (rifA Fc.zero) 36)
  have HF0 := hi (show CB (((w.alloc (.cells (rifA x) 36)).alloc (.cells #[.int .i64 1, .int .i64 g, .int .i64 ci, .int .i64 cp, .int .i64 cg, .bool cis, .int .i64 rg, .int .u64 v] 43)).alloc (.cells (rifA Fc.zero) 36)) bf 29 x.cs from h.below b3)
  have HR0 := hi (show CB (((w.alloc (.cells (rifA x) 36)).alloc (.cells #[.int .i64 1, .int .i64 g, .int .i64 ci, .int .i64 cp, .int .i64 cg, .bool cis, .int .i64 rg, .int .u64 v] 43)).alloc (.cells (rifA Fc.zero) 36)) w.heap.size 36 (rifA x) from ((CB.new w 36 (rifA x)).alloc _).alloc _)
  have HA0 := hi (show CB (((w.alloc (.cells (rifA x) 36)).alloc (.cells #[.int .i64 1, .int .i64 g, .int .i64 ci, .int .i64 cp, .int .i64 cg, .bool cis, .int .i64 rg, .int .u64 v] 43)).alloc (.cells (rifA Fc.zero) 36)) (w.heap.size + 1) 43 #[.int .i64 1, .int .i64 g, .int .i64 ci, .int .i64 cp, .int .i64 cg, .bool cis, .int .i64 rg, .int .u64 v] from (cb_second (w := w) (o := .cells (rifA x) 36) (cs := #[.int .i64 1, .int .i64 g, .int .i64 ci, .int .i64 cp, .int .i64 cg, .bool cis, .int .i64 rg, .int .u64 v]) (t := 43)).alloc _)
  have HZ0 := hi (show CB (((w.alloc (.cells (rifA x) 36)).alloc (.cells #[.int .i64 1, .int .i64 g, .int .i64 ci, .int .i64 cp, .int .i64 cg, .bool cis, .int .i64 rg, .int .u64 v] 43)).alloc (.cells (rifA Fc.zero) 36)) (w.heap.size + 1 + 1) 36 (rifA Fc.zero) from by simpa using CB.new ((w.alloc (.cells (rifA x) 36)).alloc (.cells #[.int .i64 1, .int .i64 g, .int .i64 ci, .int .i64 cp, .int .i64 cg, .bool cis, .int .i64 rg, .int .u64 v] 43)) 36 (rifA Fc.zero))
  have HK0 := hi (show Kept (· = bf) w (((w.alloc (.cells (rifA x) 36)).alloc (.cells #[.int .i64 1, .int .i64 g, .int .i64 ci, .int .i64 cp, .int .i64 cg, .bool cis, .int .i64 rg, .int .u64 v] 43)).alloc (.cells (rifA Fc.zero) 36)) from Kept.of b3)
  have HZ := hi (size_rif x)
  have HZA := hi (size_rifA x)
  have H1 := hi (rifA_one x)
  have HN := hi (show bf < w.heap.size from hlt)
  have a0 := HA0.out.cell 0
  have a1 := HA0.out.cell 1
  have a2 := HA0.out.cell 2
  have a3 := HA0.out.cell 3
  have a4 := HA0.out.cell 4
  have a5 := HA0.out.cell 5
  have a6 := HA0.out.cell 6
  have a7 := HA0.out.cell 7
  clear hlt b2 b3 h
  have HZy := hi (size_rif y)
  have HZAy := hi (size_rifA y)
  have H1y := hi (rifA_one y)
  go_enter Try.func11, Try.ntmps11
  go_wp2_with (first
    | (refine wpList_alloc_rif rfl rfl ?_; try simp only [World.size_alloc])
    | (go_at_call 26; ((with_reducible refine (HP.out _ HF0.out).mono ?_); rintro e w1 ⟨rfl, hf⟩; have hn := HN.out; have R1 := HR0.out.keptB hf.kept (by omega); have A1 := HA0.out.keptB hf.kept (by omega); have HZ1 := hi (HZ0.out.keptB hf.kept (by omega)); have HS1 := hi R1.rif; have HF1 := hi hf.bx; have HK1 := hi (HK0.out.trans hf.kept); have e1 := A1.cell 1; have e2 := A1.cell 2; have e3 := A1.cell 3; have e4 := A1.cell 4; have e5 := A1.cell 5; have e6 := A1.cell 6; have e7 := A1.cell 7; clear hf hn R1 A1))
    | (refine wpList_load_mid rfl 36 (.tmp 4) rfl w.heap.size 0 rfl (rifL x) _ HS1.out Try.underlying36 rfl HZ.out ?_)
    | (go_at_call 32; ((with_reducible refine (HQ.out _).mono ?_); rintro e w2 ⟨rfl, hb⟩; have hn := HN.out; have Z2 := HZ1.out.below hb; have F2 := HF1.out.below hb; have hz := Z2.lt; have hal := bal w2 (.cells (rifA Fc.zero) 36); have N2 := CB.new w2 36 (rifA Fc.zero); have HT2 := hi (show World.there (w2.alloc (.cells (rifA Fc.zero) 36)) w2.heap.size 0 (rifA y).size by rw [rifA_size]; exact N2.thereR (rifA_size _)); obtain ⟨W4, h4, N4, Z4, F4, K4⟩ : ∃ W, (w2.alloc (.cells (rifA Fc.zero) 36)).setCells w2.heap.size 0 (rifL y) = W ∧ CB W w2.heap.size 36 (rifA y) ∧ CB W (w.heap.size + 1 + 1) 36 (rifA Fc.zero) ∧ CB W bf 29 y.cs ∧ Kept (· = bf) w W := ⟨_, rfl, N2.wholeR (rifA_size _) y, CB.otherCells (by omega) (rifL y) 0 _ (Z2.below hal), CB.otherCells (by omega) (rifL y) 0 _ (F2.below hal), ((HK1.out.below hb).below hal).belowN (below_cells (by omega) (rifL y) 0 _ (Below.refl _ _))⟩; have HW4 := hi h4; have HS4 := hi N4.rif; have HT4 := hi (show World.there W4 (w.heap.size + 1 + 1) 0 (rifA y).size by rw [rifA_size]; exact Z4.thereR (rifA_size _)); have R5 := hi (Z4.wholeR (rifA_size _) y); have F5 := hi (show FcAf w bf y (W4.setCells (w.heap.size + 1 + 1) 0 (rifL y)) from ⟨CB.otherCells (by omega) (rifL y) 0 _ F4, K4.belowN (below_cells (by omega) (rifL y) 0 _ (Below.refl _ _))⟩); clear hb hn Z2 F2 hz hal N2 h4 N4 Z4 F4 K4))
    | (refine wpList_store_mid rfl 36 (.tmp 10) (.tmp 39) rfl w2.heap.size 0 (rifA y) rfl rfl HT2.out HZAy.out H1y.out ?_; rw [show (rifA y).toList = rifL y from rfl, HW4.out])
    | (refine wpList_load_mid rfl 36 (.tmp 10) rfl w2.heap.size 0 rfl (rifL y) _ HS4.out Try.underlying36 rfl HZy.out ?_)
    | (refine wpList_store_mid rfl 36 (.tmp 6) (.tmp 42) rfl (w.heap.size + 1 + 1) 0 (rifA y) rfl rfl HT4.out HZAy.out H1y.out ?_))
  exact bodyPost_ret (results_rif rfl _ _ (w.heap.size + 1 + 1) y (.bool true) rfl rfl R5.out) rfl ⟨rfl, F5.out⟩
set_option maxRecDepth 100000 in
set_option maxHeartbeats 8000000 in
theorem does_2 (bf : Nat) (x y : Fc) (g ci cp cg : Int) (cis : Bool) (rg : Int) (v : Nat) (w : World) (is9 : Bool) (hE : dropV x g = (y, is9)) (h : CB w bf 29 x.cs) :
    Calls Try.prog 11 #[.pointer (some ⟨bf, 0, none⟩), rfv x, .agg #[.int .i64 2, .int .i64 g, .int .i64 ci, .int .i64 cp, .int .i64 cg, .bool cis, .int .i64 rg, .int .u64 v]] w fun e w' => e = .returned (.tuple #[rfv y, .bool true]) ∧ FcAf w bf y w' := by
  have HP := hi (fun W (z : CB W bf 29 x.cs) => show Calls Try.prog 29 #[.pointer (some ⟨bf, 0, none⟩), .int .i64 g] W fun e w' => e = .returned (.bool is9) ∧ FcAf W bf y w' from by have := drop_if bf x g W z; rw [hE] at this; exact this)
  have HQ := hi (fun W => show Calls Try.prog 33 #[.agg (rifL x).toArray, .int .i64 g] W fun e w' => e = .returned (.tuple #[rfv y, .bool is9]) ∧ Below W.heap.size W w' from by have := rdrop_if x g W; rw [hE] at this; exact this)
  clear hE
  have hlt := h.lt
  have b2 := bal_two w (.cells (rifA x) 36) (.cells #[.int .i64 2, .int .i64 g, .int .i64 ci, .int .i64 cp, .int .i64 cg, .bool cis, .int .i64 rg, .int .u64 v] 43)
  have b3 := b2.alloc b2.size (.cells (rifA Fc.zero) 36)
  have HF0 := hi (show CB (((w.alloc (.cells (rifA x) 36)).alloc (.cells #[.int .i64 2, .int .i64 g, .int .i64 ci, .int .i64 cp, .int .i64 cg, .bool cis, .int .i64 rg, .int .u64 v] 43)).alloc (.cells (rifA Fc.zero) 36)) bf 29 x.cs from h.below b3)
  have HR0 := hi (show CB (((w.alloc (.cells (rifA x) 36)).alloc (.cells #[.int .i64 2, .int .i64 g, .int .i64 ci, .int .i64 cp, .int .i64 cg, .bool cis, .int .i64 rg, .int .u64 v] 43)).alloc (.cells (rifA Fc.zero) 36)) w.heap.size 36 (rifA x) from ((CB.new w 36 (rifA x)).alloc _).alloc _)
  have HA0 := hi (show CB (((w.alloc (.cells (rifA x) 36)).alloc (.cells #[.int .i64 2, .int .i64 g, .int .i64 ci, .int .i64 cp, .int .i64 cg, .bool cis, .int .i64 rg, .int .u64 v] 43)).alloc (.cells (rifA Fc.zero) 36)) (w.heap.size + 1) 43 #[.int .i64 2, .int .i64 g, .int .i64 ci, .int .i64 cp, .int .i64 cg, .bool cis, .int .i64 rg, .int .u64 v] from (cb_second (w := w) (o := .cells (rifA x) 36) (cs := #[.int .i64 2, .int .i64 g, .int .i64 ci, .int .i64 cp, .int .i64 cg, .bool cis, .int .i64 rg, .int .u64 v]) (t := 43)).alloc _)
  have HZ0 := hi (show CB (((w.alloc (.cells (rifA x) 36)).alloc (.cells #[.int .i64 2, .int .i64 g, .int .i64 ci, .int .i64 cp, .int .i64 cg, .bool cis, .int .i64 rg, .int .u64 v] 43)).alloc (.cells (rifA Fc.zero) 36)) (w.heap.size + 1 + 1) 36 (rifA Fc.zero) from by simpa using CB.new ((w.alloc (.cells (rifA x) 36)).alloc (.cells #[.int .i64 2, .int .i64 g, .int .i64 ci, .int .i64 cp, .int .i64 cg, .bool cis, .int .i64 rg, .int .u64 v] 43)) 36 (rifA Fc.zero))
  have HK0 := hi (show Kept (· = bf) w (((w.alloc (.cells (rifA x) 36)).alloc (.cells #[.int .i64 2, .int .i64 g, .int .i64 ci, .int .i64 cp, .int .i64 cg, .bool cis, .int .i64 rg, .int .u64 v] 43)).alloc (.cells (rifA Fc.zero) 36)) from Kept.of b3)
  have HZ := hi (size_rif x)
  have HZA := hi (size_rifA x)
  have H1 := hi (rifA_one x)
  have HN := hi (show bf < w.heap.size from hlt)
  have a0 := HA0.out.cell 0
  have a1 := HA0.out.cell 1
  have a2 := HA0.out.cell 2
  have a3 := HA0.out.cell 3
  have a4 := HA0.out.cell 4
  have a5 := HA0.out.cell 5
  have a6 := HA0.out.cell 6
  have a7 := HA0.out.cell 7
  clear hlt b2 b3 h
  have HZy := hi (size_rif y)
  have HZAy := hi (size_rifA y)
  have H1y := hi (rifA_one y)
  go_enter Try.func11, Try.ntmps11
  go_wp2_with (first
    | (refine wpList_alloc_rif rfl rfl ?_; try simp only [World.size_alloc])
    | (go_at_call 29; ((with_reducible refine (HP.out _ HF0.out).mono ?_); rintro e w1 ⟨rfl, hf⟩; have hn := HN.out; have R1 := HR0.out.keptB hf.kept (by omega); have A1 := HA0.out.keptB hf.kept (by omega); have HZ1 := hi (HZ0.out.keptB hf.kept (by omega)); have HS1 := hi R1.rif; have HF1 := hi hf.bx; have HK1 := hi (HK0.out.trans hf.kept); have e1 := A1.cell 1; have e2 := A1.cell 2; have e3 := A1.cell 3; have e4 := A1.cell 4; have e5 := A1.cell 5; have e6 := A1.cell 6; have e7 := A1.cell 7; clear hf hn R1 A1))
    | (refine wpList_load_mid rfl 36 (.tmp 4) rfl w.heap.size 0 rfl (rifL x) _ HS1.out Try.underlying36 rfl HZ.out ?_)
    | (go_at_call 33; ((with_reducible refine (HQ.out _).mono ?_); rintro e w2 ⟨rfl, hb⟩; have hn := HN.out; have Z2 := HZ1.out.below hb; have F2 := HF1.out.below hb; have hz := Z2.lt; have hal := bal w2 (.cells (rifA Fc.zero) 36); have N2 := CB.new w2 36 (rifA Fc.zero); have HT2 := hi (show World.there (w2.alloc (.cells (rifA Fc.zero) 36)) w2.heap.size 0 (rifA y).size by rw [rifA_size]; exact N2.thereR (rifA_size _)); obtain ⟨W4, h4, N4, Z4, F4, K4⟩ : ∃ W, (w2.alloc (.cells (rifA Fc.zero) 36)).setCells w2.heap.size 0 (rifL y) = W ∧ CB W w2.heap.size 36 (rifA y) ∧ CB W (w.heap.size + 1 + 1) 36 (rifA Fc.zero) ∧ CB W bf 29 y.cs ∧ Kept (· = bf) w W := ⟨_, rfl, N2.wholeR (rifA_size _) y, CB.otherCells (by omega) (rifL y) 0 _ (Z2.below hal), CB.otherCells (by omega) (rifL y) 0 _ (F2.below hal), ((HK1.out.below hb).below hal).belowN (below_cells (by omega) (rifL y) 0 _ (Below.refl _ _))⟩; have HW4 := hi h4; have HS4 := hi N4.rif; have HT4 := hi (show World.there W4 (w.heap.size + 1 + 1) 0 (rifA y).size by rw [rifA_size]; exact Z4.thereR (rifA_size _)); have R5 := hi (Z4.wholeR (rifA_size _) y); have F5 := hi (show FcAf w bf y (W4.setCells (w.heap.size + 1 + 1) 0 (rifL y)) from ⟨CB.otherCells (by omega) (rifL y) 0 _ F4, K4.belowN (below_cells (by omega) (rifL y) 0 _ (Below.refl _ _))⟩); clear hb hn Z2 F2 hz hal N2 h4 N4 Z4 F4 K4))
    | (refine wpList_store_mid rfl 36 (.tmp 14) (.tmp 62) rfl w2.heap.size 0 (rifA y) rfl rfl HT2.out HZAy.out H1y.out ?_; rw [show (rifA y).toList = rifL y from rfl, HW4.out])
    | (refine wpList_load_mid rfl 36 (.tmp 14) rfl w2.heap.size 0 rfl (rifL y) _ HS4.out Try.underlying36 rfl HZy.out ?_)
    | (refine wpList_store_mid rfl 36 (.tmp 6) (.tmp 64) rfl (w.heap.size + 1 + 1) 0 (rifA y) rfl rfl HT4.out HZAy.out H1y.out ?_))
  exact bodyPost_ret (results_rif rfl _ _ (w.heap.size + 1 + 1) y (.bool true) rfl rfl R5.out) rfl ⟨rfl, F5.out⟩
set_option maxRecDepth 100000 in
set_option maxHeartbeats 8000000 in
theorem does_3 (bf : Nat) (x y : Fc) (g ci cp cg : Int) (cis : Bool) (rg : Int) (v : Nat) (w : World) (is9 : Bool) (hv : v < 18446744073709551616) (hE : writeC x rg v = (y, is9)) (h : CB w bf 29 x.cs) :
    Calls Try.prog 11 #[.pointer (some ⟨bf, 0, none⟩), rfv x, .agg #[.int .i64 3, .int .i64 g, .int .i64 ci, .int .i64 cp, .int .i64 cg, .bool cis, .int .i64 rg, .int .u64 v]] w fun e w' => e = .returned (.tuple #[rfv y, .bool true]) ∧ FcAf w bf y w' := by
  have HP := hi (fun W (z : CB W bf 29 x.cs) => show Calls Try.prog 30 #[.pointer (some ⟨bf, 0, none⟩), .int .i64 rg, .int .u64 v] W fun e w' => e = .returned (.bool is9) ∧ FcAf W bf y w' from by have := write_any bf x rg v hv W z; rw [hE] at this; exact this)
  have HQ := hi (fun W => show Calls Try.prog 34 #[.agg (rifL x).toArray, .int .i64 rg, .int .u64 v] W fun e w' => e = .returned (.tuple #[rfv y, .bool is9]) ∧ Below W.heap.size W w' from by have := rwrite_if x rg v hv W; rw [hE] at this; exact this)
  clear hE
  have hlt := h.lt
  have b2 := bal_two w (.cells (rifA x) 36) (.cells #[.int .i64 3, .int .i64 g, .int .i64 ci, .int .i64 cp, .int .i64 cg, .bool cis, .int .i64 rg, .int .u64 v] 43)
  have b3 := b2.alloc b2.size (.cells (rifA Fc.zero) 36)
  have HF0 := hi (show CB (((w.alloc (.cells (rifA x) 36)).alloc (.cells #[.int .i64 3, .int .i64 g, .int .i64 ci, .int .i64 cp, .int .i64 cg, .bool cis, .int .i64 rg, .int .u64 v] 43)).alloc (.cells (rifA Fc.zero) 36)) bf 29 x.cs from h.below b3)
  have HR0 := hi (show CB (((w.alloc (.cells (rifA x) 36)).alloc (.cells #[.int .i64 3, .int .i64 g, .int .i64 ci, .int .i64 cp, .int .i64 cg, .bool cis, .int .i64 rg, .int .u64 v] 43)).alloc (.cells (rifA Fc.zero) 36)) w.heap.size 36 (rifA x) from ((CB.new w 36 (rifA x)).alloc _).alloc _)
  have HA0 := hi (show CB (((w.alloc (.cells (rifA x) 36)).alloc (.cells #[.int .i64 3, .int .i64 g, .int .i64 ci, .int .i64 cp, .int .i64 cg, .bool cis, .int .i64 rg, .int .u64 v] 43)).alloc (.cells (rifA Fc.zero) 36)) (w.heap.size + 1) 43 #[.int .i64 3, .int .i64 g, .int .i64 ci, .int .i64 cp, .int .i64 cg, .bool cis, .int .i64 rg, .int .u64 v] from (cb_second (w := w) (o := .cells (rifA x) 36) (cs := #[.int .i64 3, .int .i64 g, .int .i64 ci, .int .i64 cp, .int .i64 cg, .bool cis, .int .i64 rg, .int .u64 v]) (t := 43)).alloc _)
  have HZ0 := hi (show CB (((w.alloc (.cells (rifA x) 36)).alloc (.cells #[.int .i64 3, .int .i64 g, .int .i64 ci, .int .i64 cp, .int .i64 cg, .bool cis, .int .i64 rg, .int .u64 v] 43)).alloc (.cells (rifA Fc.zero) 36)) (w.heap.size + 1 + 1) 36 (rifA Fc.zero) from by simpa using CB.new ((w.alloc (.cells (rifA x) 36)).alloc (.cells #[.int .i64 3, .int .i64 g, .int .i64 ci, .int .i64 cp, .int .i64 cg, .bool cis, .int .i64 rg, .int .u64 v] 43)) 36 (rifA Fc.zero))
  have HK0 := hi (show Kept (· = bf) w (((w.alloc (.cells (rifA x) 36)).alloc (.cells #[.int .i64 3, .int .i64 g, .int .i64 ci, .int .i64 cp, .int .i64 cg, .bool cis, .int .i64 rg, .int .u64 v] 43)).alloc (.cells (rifA Fc.zero) 36)) from Kept.of b3)
  have HZ := hi (size_rif x)
  have HZA := hi (size_rifA x)
  have H1 := hi (rifA_one x)
  have HN := hi (show bf < w.heap.size from hlt)
  have a0 := HA0.out.cell 0
  have a1 := HA0.out.cell 1
  have a2 := HA0.out.cell 2
  have a3 := HA0.out.cell 3
  have a4 := HA0.out.cell 4
  have a5 := HA0.out.cell 5
  have a6 := HA0.out.cell 6
  have a7 := HA0.out.cell 7
  clear hlt b2 b3 h
  have HZy := hi (size_rif y)
  have HZAy := hi (size_rifA y)
  have H1y := hi (rifA_one y)
  go_enter Try.func11, Try.ntmps11
  go_wp2_with (first
    | (refine wpList_alloc_rif rfl rfl ?_; try simp only [World.size_alloc])
    | (go_at_call 30; ((with_reducible refine (HP.out _ HF0.out).mono ?_); rintro e w1 ⟨rfl, hf⟩; have hn := HN.out; have R1 := HR0.out.keptB hf.kept (by omega); have A1 := HA0.out.keptB hf.kept (by omega); have HZ1 := hi (HZ0.out.keptB hf.kept (by omega)); have HS1 := hi R1.rif; have HF1 := hi hf.bx; have HK1 := hi (HK0.out.trans hf.kept); have e1 := A1.cell 1; have e2 := A1.cell 2; have e3 := A1.cell 3; have e4 := A1.cell 4; have e5 := A1.cell 5; have e6 := A1.cell 6; have e7 := A1.cell 7; clear hf hn R1 A1))
    | (refine wpList_load_mid rfl 36 (.tmp 4) rfl w.heap.size 0 rfl (rifL x) _ HS1.out Try.underlying36 rfl HZ.out ?_)
    | (go_at_call 34; ((with_reducible refine (HQ.out _).mono ?_); rintro e w2 ⟨rfl, hb⟩; have hn := HN.out; have Z2 := HZ1.out.below hb; have F2 := HF1.out.below hb; have hz := Z2.lt; have hal := bal w2 (.cells (rifA Fc.zero) 36); have N2 := CB.new w2 36 (rifA Fc.zero); have HT2 := hi (show World.there (w2.alloc (.cells (rifA Fc.zero) 36)) w2.heap.size 0 (rifA y).size by rw [rifA_size]; exact N2.thereR (rifA_size _)); obtain ⟨W4, h4, N4, Z4, F4, K4⟩ : ∃ W, (w2.alloc (.cells (rifA Fc.zero) 36)).setCells w2.heap.size 0 (rifL y) = W ∧ CB W w2.heap.size 36 (rifA y) ∧ CB W (w.heap.size + 1 + 1) 36 (rifA Fc.zero) ∧ CB W bf 29 y.cs ∧ Kept (· = bf) w W := ⟨_, rfl, N2.wholeR (rifA_size _) y, CB.otherCells (by omega) (rifL y) 0 _ (Z2.below hal), CB.otherCells (by omega) (rifL y) 0 _ (F2.below hal), ((HK1.out.below hb).below hal).belowN (below_cells (by omega) (rifL y) 0 _ (Below.refl _ _))⟩; have HW4 := hi h4; have HS4 := hi N4.rif; have HT4 := hi (show World.there W4 (w.heap.size + 1 + 1) 0 (rifA y).size by rw [rifA_size]; exact Z4.thereR (rifA_size _)); have R5 := hi (Z4.wholeR (rifA_size _) y); have F5 := hi (show FcAf w bf y (W4.setCells (w.heap.size + 1 + 1) 0 (rifL y)) from ⟨CB.otherCells (by omega) (rifL y) 0 _ F4, K4.belowN (below_cells (by omega) (rifL y) 0 _ (Below.refl _ _))⟩); clear hb hn Z2 F2 hz hal N2 h4 N4 Z4 F4 K4))
    | (refine wpList_store_mid rfl 36 (.tmp 17) (.tmp 83) rfl w2.heap.size 0 (rifA y) rfl rfl HT2.out HZAy.out H1y.out ?_; rw [show (rifA y).toList = rifL y from rfl, HW4.out])
    | (refine wpList_load_mid rfl 36 (.tmp 17) rfl w2.heap.size 0 rfl (rifL y) _ HS4.out Try.underlying36 rfl HZy.out ?_)
    | (refine wpList_store_mid rfl 36 (.tmp 6) (.tmp 85) rfl (w.heap.size + 1 + 1) 0 (rifA y) rfl rfl HT4.out HZAy.out H1y.out ?_))
  exact bodyPost_ret (results_rif rfl _ _ (w.heap.size + 1 + 1) y (.bool true) rfl rfl R5.out) rfl ⟨rfl, F5.out⟩
theorem does_if (bf : Nat) (x : Fc) (a : Ac14) (hv : a.v < 18446744073709551616) (w : World) (h : CB w bf 29 x.cs) :
    Calls Try.prog 11 #[.pointer (some ⟨bf, 0, none⟩), rfv x, a.v_] w fun e w' => e = .returned (.tuple #[rfv (stepC x a), .bool true]) ∧ FcAf w bf (stepC x a) w' := by
  obtain ⟨d, g, ⟨ci, cp, cg, cis⟩, rg, v⟩ := a
  unfold stepC
  dsimp only at hv ⊢
  by_cases h1 : d = 1
  · subst h1
    rw [if_pos rfl]
    exact does_1 bf x _ g ci cp cg cis rg v w _ _ rfl h
  · rw [if_neg h1]
    by_cases h2 : d = 2
    · subst h2
      rw [if_pos rfl]
      exact does_2 bf x _ g ci cp cg cis rg v w _ rfl h
    · rw [if_neg h2]
      by_cases h3 : d = 3
      · subst h3
        rw [if_pos rfl]
        exact does_3 bf x _ g ci cp cg cis rg v w _ hv rfl h
      · rw [if_neg h3]
        exact does_0 bf x d g ci cp cg cis rg v w h1 h2 h3 h

end Go.Proofs.Ytnnlimjbmfpalaa
