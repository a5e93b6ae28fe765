/-
  The laws FrameAgain, FrameOdd at every input.
-/
import Derived.Test.YtjgamfonpagkbaaLawF
namespace Go.Proofs.Ytjgamfonpagkbaa
open Go.ChangeShapes Go.WideShapes Go.ChangeAt Go.RowKit Go.Shelf
set_option linter.unusedVariables false
attribute [local go_sem] Oper.semAt_some

set_option maxRecDepth 100000 in
set_option maxHeartbeats 8000000 in
theorem lawAgain_any (f n : Int) (v : Value) (xs : List Ac11) (x : Ac11) (w : World) (hf0 : 0 ≤ f) (hf1 : f < 256) (hn0 : 0 ≤ n) (hn1 : n < 256) (h : ActsAt w v xs) (hl : xs.length ≤ 9223372036854775806) (hx : AcOk x) :
    Calls Try.prog 6 #[.int .u8 f, .int .u8 n, v, x.w] w fun e w' => e = .returned (.bool true) ∧ Below w.heap.size w w' := by
  have CP := hi (fun W (hW : Below w.heap.size w W) => played_any f n v xs W hf0 hf1 hn0 hn1 (h.below hW) hl)
  have CD := hi (fun V => distD_any x.off V hx.off)
  have HVL := hi hx.v
  obtain ⟨d, off, id, vv, a⟩ := x
  dsimp only at CD HVL
  dsimp only [Ac11.w]
  have HXN := hi (CB.new w 32 #[.int .i64 d, .int .i64 off, .int .i64 id, .int .u64 vv, .int .i64 a])
  have HXB := hi (bal w (.cells #[.int .i64 d, .int .i64 off, .int .i64 id, .int .u64 vv, .int .i64 a] 32))
  clear h hx
  go_enter Try.func6, Try.ntmps6
  go_wp2_with (first
    | (go_at_call 9; ((with_reducible refine (awake_any _).mono ?_); rintro e' w1 ⟨rfl, hb⟩; have HX1 := hi (HXN.out.below hb); have HB1 := hi (HXB.out.trans (hb.mono HXB.out.size)); clear hb))
    | (go_at_call 16; ((with_reducible refine (CP.out _ HB1.out).mono ?_); rintro e' w2 ⟨b, g, cap, f0, es, rfl, hB⟩; have HK2 := hi hB; have HX2 := hi (HX1.out.below hB.below); have HB2 := hi (HB1.out.trans (hB.below.mono HB1.out.size)); have x1 := HX2.out.cell 1; have x1' : w2.cell? ⟨w.heap.size, 1, none⟩ = some (.int .i64 off) := x1; clear hB x1))
    | (go_at_call 13; ((with_reducible refine (CD.out _).mono ?_); rintro e' w3 ⟨⟨r, fp, pc⟩, c, er, rfl, hok, hb⟩; have HOK := hi hok; have hb3 := hb.alloc hb.size (.cells #[.int .i64 r, .int .i64 fp, .int .i64 pc] 37); have HX3 := hi (HX2.out.below hb3); have HB3 := hi (HB2.out.trans (hb3.mono HB2.out.size)); have HK3 := hi (HK2.out.later hb3); have HP3 := hi (CB.new w3 37 #[.int .i64 r, .int .i64 fp, .int .i64 pc]); have x3 := HX3.out.cell 3; have x3' : (w3.alloc (.cells #[.int .i64 r, .int .i64 fp, .int .i64 pc] 37)).cell? ⟨w.heap.size, 3, none⟩ = some (.int .u64 vv) := x3; have x3l : w.heap.size < w3.heap.size := Nat.lt_of_lt_of_le HX2.out.lt hb.size; have x3'' : w3.cell? ⟨w.heap.size, 3, none⟩ = some (.int .u64 vv) := (HX2.out.below hb).cell 3; have hs23 := hb.size; clear hok hb hb3 x3 x3'))
    | (go_at_call 18; ((with_reducible refine (write_any HK4.out.bk HK4.out.fit HK4.out.fine HPK.out HVL.out).mono ?_); rintro e' w5 ⟨he5, hA5⟩; rw [writeV_again] at he5; subst he5; have HB5 := hi (HB4.out.trans (hA5.kept.toBelow HB4.out.size (fun i e => by subst e; exact Nat.le_trans HB1.out.size HK4.out.lg))); clear hA5))
    | (go_at_call 18; ((with_reducible refine (write_any (p := ⟨r, fp, pc⟩) (c := c) HK3.out.bk HK3.out.fit HK3.out.fine (HOK.out (by have h9 := ‹(er != 0) = false›; simpa using h9)) HVL.out).mono ?_); rintro e' w4 ⟨he4, hA4⟩; have HPK := hi (HOK.out (by have h9 := ‹(er != 0) = false›; simpa using h9)); have HK4 := hi (HK3.out.write hA4); have hmc := writeV_le ⟨r, fp, pc⟩ c f0 vv es; have hcc : pc = (c : Int) := HPK.out.cnt; obtain ⟨m, hm⟩ : ∃ m, (writeV ⟨r, fp, pc⟩ c f0 vv es).2 = m := ⟨_, rfl⟩; rw [hm] at he4 hmc; subst he4; have hmpc : (m : Int) ≤ pc := (by omega); have hgn : w.heap.size ≠ g ∧ w3.heap.size ≠ g := (by have h8 := HK2.out.lg; have h7 := HK2.out.bk.row.lt; have h6 := HX1.out.lt; omega); have HX4 := hi (HX3.out.keptB hA4.kept hgn.1); have HP4 := hi (HP3.out.keptB hA4.kept hgn.2); have HB4 := hi (HB3.out.trans (hA4.kept.toBelow HB3.out.size (fun i e => by subst e; exact Nat.le_trans HB1.out.size HK3.out.lg))); have y3 : w4.cell? ⟨w.heap.size, 3, none⟩ = some (.int .u64 vv) := HX4.out.cell 3; have p0 : w4.cell? ⟨w3.heap.size, 0, none⟩ = some (.int .i64 r) := HP4.out.cell 0; have p1 : w4.cell? ⟨w3.heap.size, 1, none⟩ = some (.int .i64 fp) := HP4.out.cell 1; have p2 : w4.cell? ⟨w3.heap.size, 2, none⟩ = some (.int .i64 pc) := HP4.out.cell 2; clear hA4 hm hcc hmc)))
  · go_ret
    exact ⟨rfl, HB3.out⟩
  · go_ret
    exact ⟨rfl, HB5.out⟩

set_option maxRecDepth 100000 in
set_option maxHeartbeats 8000000 in
theorem lawOdd_any (f n : Int) (v : Value) (xs : List Ac11) (r : Int) (vv : Nat) (id : Int) (w : World) (hf0 : 0 ≤ f) (hf1 : f < 256) (hn0 : 0 ≤ n) (hn1 : n < 256) (h : ActsAt w v xs) (hl : xs.length ≤ 9223372036854775806) (hv : vv < 18446744073709551616) (hi0 : 0 ≤ id) (hi1 : id < 256) :
    Calls Try.prog 8 #[.int .u8 f, .int .u8 n, v, .int .i64 r, .int .u64 vv, .int .u8 id] w fun e w' => e = .returned (.bool true) ∧ Below w.heap.size w w' := by
  have CP := hi (fun W (hW : Below w.heap.size w W) => played_any f n v xs W hf0 hf1 hn0 hn1 (h.below hW) hl)
  have hwid := u8_i64 hi0 hi1
  have HPK := hi (show PlOk ⟨r, id, 32⟩ 32 from ⟨rfl, by decide, hi0, by show id + _ ≤ _; omega⟩)
  clear h
  by_cases h4 : 4 ≤ r
  · by_cases h12 : r ≤ 12
    · go_enter Try.func8, Try.ntmps8
      go_wp2_with (first
        | (go_at_call 9; ((with_reducible refine (awake_any _).mono ?_); rintro e' w1 ⟨rfl, hb⟩; have HB1 := hi hb; clear hb))
        | (go_at_call 16; ((with_reducible refine (CP.out _ HB1.out).mono ?_); rintro e' w2 ⟨b, g, cap, f0, es, rfl, hB⟩; have HK2 := hi hB; have HB2 := hi (HB1.out.trans (hB.below.mono HB1.out.size)); have HP2 := hi (CB.new w2 37 #[.int .i64 r, .int .i64 id, .int .i64 32]); have hb3 := bal w2 (.cells #[.int .i64 r, .int .i64 id, .int .i64 32] 37); have HK3 := hi (HK2.out.later hb3); have HB3 := hi (HB2.out.trans (hb3.mono HB2.out.size)); clear hB hb3))
    )
      go_ret
      exact ⟨rfl, HB2.out⟩
    · have HOD := hi (show ¬ (4 ≤ (⟨r, id, 32⟩ : Pl).r ∧ (⟨r, id, 32⟩ : Pl).r ≤ 12) from fun e => h12 e.2)
      go_enter Try.func8, Try.ntmps8
      go_wp2_with (first
        | (go_at_call 9; ((with_reducible refine (awake_any _).mono ?_); rintro e' w1 ⟨rfl, hb⟩; have HB1 := hi hb; clear hb))
        | (go_at_call 16; ((with_reducible refine (CP.out _ HB1.out).mono ?_); rintro e' w2 ⟨b, g, cap, f0, es, rfl, hB⟩; have HK2 := hi hB; have HB2 := hi (HB1.out.trans (hB.below.mono HB1.out.size)); have HP2 := hi (CB.new w2 37 #[.int .i64 r, .int .i64 id, .int .i64 32]); have hb3 := bal w2 (.cells #[.int .i64 r, .int .i64 id, .int .i64 32] 37); have HK3 := hi (HK2.out.later hb3); have HB3 := hi (HB2.out.trans (hb3.mono HB2.out.size)); clear hB hb3))
        | (go_at_call 14; ((with_reducible refine (read_any (p := ⟨r, id, 32⟩) HK3.out.bk HK3.out.fit HK3.out.fine HPK.out).mono ?_); rintro e' w4 ⟨he, hb⟩; rw [read_odd HOD.out] at he; subst he; have HK4 := hi (HK3.out.later hb); have HB4 := hi (HB3.out.trans (hb.mono HB3.out.size)); have HP4 := hi (HP2.out.below hb); have p0 : w4.cell? ⟨w2.heap.size, 0, none⟩ = some (.int .i64 r) := HP4.out.cell 0; have p1 : w4.cell? ⟨w2.heap.size, 1, none⟩ = some (.int .i64 id) := HP4.out.cell 1; have p2 : w4.cell? ⟨w2.heap.size, 2, none⟩ = some (.int .i64 32) := HP4.out.cell 2; clear hb))
        | (go_at_call 18; ((with_reducible refine (write_any (p := ⟨r, id, 32⟩) HK4.out.bk HK4.out.fit HK4.out.fine HPK.out hv).mono ?_); rintro e' w5 ⟨he, hA⟩; rw [write_odd HOD.out] at he; subst he; have HB5 := hi (HB4.out.trans (hA.kept.toBelow HB4.out.size (fun i e => by subst e; exact Nat.le_trans HB1.out.size HK4.out.lg))); clear hA))
    )
      go_ret
      exact ⟨rfl, HB5.out⟩
  · have HOD := hi (show ¬ (4 ≤ (⟨r, id, 32⟩ : Pl).r ∧ (⟨r, id, 32⟩ : Pl).r ≤ 12) from fun e => h4 e.1)
    go_enter Try.func8, Try.ntmps8
    go_wp2_with (first
      | (go_at_call 9; ((with_reducible refine (awake_any _).mono ?_); rintro e' w1 ⟨rfl, hb⟩; have HB1 := hi hb; clear hb))
      | (go_at_call 16; ((with_reducible refine (CP.out _ HB1.out).mono ?_); rintro e' w2 ⟨b, g, cap, f0, es, rfl, hB⟩; have HK2 := hi hB; have HB2 := hi (HB1.out.trans (hB.below.mono HB1.out.size)); have HP2 := hi (CB.new w2 37 #[.int .i64 r, .int .i64 id, .int .i64 32]); have hb3 := bal w2 (.cells #[.int .i64 r, .int .i64 id, .int .i64 32] 37); have HK3 := hi (HK2.out.later hb3); have HB3 := hi (HB2.out.trans (hb3.mono HB2.out.size)); clear hB hb3))
        | (go_at_call 14; ((with_reducible refine (read_any (p := ⟨r, id, 32⟩) HK3.out.bk HK3.out.fit HK3.out.fine HPK.out).mono ?_); rintro e' w4 ⟨he, hb⟩; rw [read_odd HOD.out] at he; subst he; have HK4 := hi (HK3.out.later hb); have HB4 := hi (HB3.out.trans (hb.mono HB3.out.size)); have HP4 := hi (HP2.out.below hb); have p0 : w4.cell? ⟨w2.heap.size, 0, none⟩ = some (.int .i64 r) := HP4.out.cell 0; have p1 : w4.cell? ⟨w2.heap.size, 1, none⟩ = some (.int .i64 id) := HP4.out.cell 1; have p2 : w4.cell? ⟨w2.heap.size, 2, none⟩ = some (.int .i64 32) := HP4.out.cell 2; clear hb))
        | (go_at_call 18; ((with_reducible refine (write_any (p := ⟨r, id, 32⟩) HK4.out.bk HK4.out.fit HK4.out.fine HPK.out hv).mono ?_); rintro e' w5 ⟨he, hA⟩; rw [write_odd HOD.out] at he; subst he; have HB5 := hi (HB4.out.trans (hA.kept.toBelow HB4.out.size (fun i e => by subst e; exact Nat.le_trans HB1.out.size HK4.out.lg))); clear hA))
    )
    go_ret
    exact ⟨rfl, HB5.out⟩

end Go.Proofs.Ytjgamfonpagkbaa
