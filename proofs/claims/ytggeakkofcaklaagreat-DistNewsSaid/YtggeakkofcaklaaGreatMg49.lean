import Derived.Test.YtggeakkofcaklaaGreatMg48
namespace Go.Proofs.YtggeakkofcaklaaGreat
open Go.ChangeShapes Go.WideShapes Go.ChangeAt Go.RowKit Go.Shelf
set_option linter.unusedVariables false
set_option linter.unusedSimpArgs false
attribute [local go_sem] Oper.semAt_some
theorem i64_0 : Int64 0 := ⟨by decide, by decide⟩
set_option maxRecDepth 100000 in
set_option maxHeartbeats 8000000 in
theorem news_law (cores spis off : Int) (ho : Int64 off) (w : World) :
    Calls Tryz.prog 4 #[.int .i64 cores, .int .i64 spis, .int .i64 off] w fun e w' => e = .returned (.bool true) ∧ Below w.heap.size w w' := by
  by_cases hN : NewOkD cores spis
  · obtain ⟨h1, h8, h0, h64⟩ := hN
    obtain ⟨n, rfl⟩ := Int.eq_ofNat_of_zero_le (show 0 ≤ cores by omega)
    obtain ⟨m, rfl⟩ := Int.eq_ofNat_of_zero_le h0
    have CN := hi (fun W => new_dist n m W (by omega) (by omega) (by omega))
    have CR := hi (fun W => rnew_dist n m W (by omega) (by omega) (by omega))
    have HOK := hi (Ds.new_ok (n := n) (m := m) (by omega) (by omega) (by omega))
    have HO := hi ho
    clear h1 h8 h0 h64 ho
    go_enter Tryz.func4, Tryz.ntmps4
    go_wp2_with (first
      | (go_at_call 10; ((with_reducible refine (awake_any _).mono ?_); rintro e w1 ⟨rfl, hb⟩; have B1 := hi hb; clear hb))
      | (go_at_call 18; ((with_reducible refine (CN.out _).mono ?_); rintro e w2 ⟨b, c, rfl, hd, hB⟩; have H2 := hi hd; have B2 := hi (B1.out.trans (hB.mono B1.out.size)); clear hd hB))
      | (go_at_call 19; ((with_reducible refine (CR.out _).mono ?_); rintro e w3 ⟨b2, c2, rfl, hd, hB⟩; have hle := H2.out.le; have HT := hi (show TwD w3 w1.heap.size w2.heap.size w2.heap.size w3.heap.size b c b2 c2 (Ds.new n m) from ⟨H2.out.below hB, hd, fun i x y => by have := x.2; have := y.1; omega⟩); have B3 := hi (B2.out.trans (hB.mono B2.out.size)); have AL := hi (alike_any HT.out HOK.out); clear hd hB hle))
      | (go_at_call 16; ((with_reducible refine AL.out.mono ?_); rintro e w4 ⟨rfl, hb⟩; have HT4 := hi (HT.out.below hb); have B4 := hi (B3.out.trans (hb.mono B3.out.size)); have AS := hi (show Calls Tryz.prog 17 #[.pointer (some ⟨b 0, 0, none⟩), .pointer (some ⟨b2 0, 0, none⟩), .agg #[.int .i64 0, .int .i64 off, .int .i64 0, .int .i64 0, .int .u64 0, .int .i64 0, .bool false, .bool false, .bool false, .bool false, .bool false]] w4 fun e w' => e = .returned (.bool true) ∧ Below w4.heap.size w4 w' from asks_any HT4.out HOK.out ⟨0, off, 0, 0, 0, 0, ⟨false, false, false, false⟩, false⟩ ⟨HO.out, i64_0, i64_0, (by decide : (0 : Nat) < 18446744073709551616)⟩); clear hb))
      | (go_at_call 17; ((with_reducible refine AS.out.mono ?_); rintro e w5 ⟨rfl, hb⟩; have B5 := hi (B4.out.trans (hb.mono B4.out.size)); clear hb)))
    go_ret
    exact ⟨rfl, B5.out⟩
  · have CN := hi (fun W => new_dist_no cores spis W hN)
    have CR := hi (fun W => rnew_dist_no cores spis W hN)
    clear hN
    go_enter Tryz.func4, Tryz.ntmps4
    go_wp2_with (first
      | (go_at_call 10; ((with_reducible refine (awake_any _).mono ?_); rintro e w1 ⟨rfl, hb⟩; have B1 := hi hb; clear hb))
      | (go_at_call 18; ((with_reducible refine (CN.out _).mono ?_); rintro e w2 ⟨rfl, rfl⟩))
      | (go_at_call 19; ((with_reducible refine (CR.out _).mono ?_); rintro e w3 ⟨rfl, rfl⟩)))
    go_ret
    exact ⟨rfl, B1.out⟩
end Go.Proofs.YtggeakkofcaklaaGreat
