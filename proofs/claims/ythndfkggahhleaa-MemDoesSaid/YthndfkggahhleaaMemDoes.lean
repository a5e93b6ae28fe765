/-
  MemDoes: along any acts, what each answers, what may be read there, and what stands in the memory behind it: its walk.
-/
import Derived.Test.YthndfkggahhleaaMemT
import Derived.Deep.RegionHeld3
namespace Go.Proofs.Ythndfkggahhleaa
open Go.ChangeShapes Go.WideShapes Go.ChangeAt Go.RowKit
set_option linter.unusedVariables false

theorem Two.copied {w : World} {p g c q h d p2 g2 c2 : Nat} {bs bs2 : List Nat} {W W' : World} (t : Two w p g c q h d bs bs2 W) (hb : Below W.heap.size W W') (m : MemAt 60 W' p2 g2 c2 bs) (hp : W.heap.size ≤ p2) (hg : W.heap.size ≤ g2) : Two w p2 g2 c2 q h d bs bs2 W' := by
  have h1 := t.sz
  have h3 := t.ref.plt
  have h4 := t.ref.bytes.lt
  exact ⟨m, t.ref.below hb, t.below.trans (hb.mono h1), by omega, by omega, t.lq, t.lh, by omega, by omega⟩
theorem Two.old {w : World} {p g c q h d x : Nat} {bs bs2 : List Nat} {W W' : World} (t : Two w p g c q h d bs bs2 W) (k : Kept (· = x) W W') (hx : w.heap.size ≤ x) (h1 : p ≠ x) (h2 : g ≠ x) (h3 : q ≠ x) (h4 : h ≠ x) : Two w p g c q h d bs bs2 W' :=
  ⟨t.mem.kept k h1 h2, t.ref.kept k h3 h4, t.below.trans (k.toBelow t.sz (fun y (e : y = x) => by omega)), t.lp, t.lg, t.lq, t.lh, t.gh, t.pq⟩
theorem copy_out (p g cap : Nat) (bs : List Nat) (w : World) (hM : MemAt 60 w p g cap bs) :
    Calls Try.prog 10 #[.pointer (some ⟨p, 0, none⟩)] w fun e w' => ∃ q h c, e = .returned (.pointer (some ⟨q, 0, none⟩)) ∧ MemAt 60 w' q h c bs ∧ w.heap.size ≤ q ∧ w.heap.size ≤ h ∧ Below w.heap.size w w' :=
  copy_any p g cap bs w hM
theorem write0_out (p g c : Nat) (bs : List Nat) (m : Nat) (hm : m ≤ 131072) (w : World) (hM : MemAt 60 w p g c bs) :
    Calls Try.prog 11 #[.pointer (some ⟨p, 0, none⟩), .agg #[.int .i64 0, .int .i64 (m : Int)], .int .i64 0, .int .i64 8, .int .u64 7] w fun e w' => ∃ E bs3, e = .returned (.int .i64 E) ∧ MemAt 60 w' p g c bs3 ∧ Kept (· = g) w w' :=
  (write_any p g c bs 0 m 0 8 7 w hM (by omega) (by omega) (by omega) (by omega) (by omega)).mono fun e w' h => ⟨_, _, h⟩
theorem wipe0_out (p g c : Nat) (bs : List Nat) (a s : Int) (w : World) (hM : MemAt 60 w p g c bs)
    (ha0 : -9223372036854775808 ≤ a) (ha1 : a ≤ 9223372036854775807) (hs0 : -9223372036854775808 ≤ s) (hs1 : s ≤ 9223372036854775807) :
    Calls Try.prog 13 #[.pointer (some ⟨p, 0, none⟩), .agg #[.int .i64 a, .int .i64 s]] w fun e w' => ∃ E bs3, e = .returned (.int .i64 E) ∧ MemAt 60 w' p g c bs3 ∧ Kept (· = g) w w' :=
  (wipe_any p g c bs a s w hM ha0 ha1 hs0 hs1).mono fun e w' h => ⟨_, _, h⟩

set_option maxRecDepth 100000 in
set_option maxHeartbeats 8000000 in
theorem memDoes_walk (size : Int) (sv : Value) (xs : List ActD) (w : World) (hacts : ActsAt w sv xs) :
    Calls Try.prog 3 #[.int .i64 size, sv] w fun e w' => e = .returned (.bool true) ∧ Below w.heap.size w w' := by
  have HS := hi hacts
  obtain ⟨sa, scap, hsv, hsl⟩ : ∃ sa scap, sv = .slice sa xs.length scap ∧ xs.length ≤ 9223372036854775807 := by obtain ⟨a1, a2, a3, a4, _⟩ := hacts; exact ⟨a1, a2, a3, a4⟩
  subst hsv
  clear hacts
  go_enter Try.func3, Try.ntmps3
  go_wp2_with (first
    | (go_at_call 8; ((with_reducible refine (awake_any _).mono ?_); rintro e w1 ⟨rfl, hb1⟩; have HK1 := hi hb1; clear hb1))
    | (go_at_call 9; ((with_reducible refine (lawNew_any size _).mono ?_); rintro e w2 ⟨p0, g0, q, h, rfl, hB⟩; have HT0 := hi (Two.of_both hB HK1.out); clear hB)))
  obtain ⟨n, hn⟩ : ∃ n, newN size = n := ⟨_, rfl⟩
  rw [hn] at HT0
  clear hn HK1
  go_loopw [6, 8] (fun m i wr => ∃ (j p g c : Nat) (bs : List Nat), i = .int .i64 j ∧ m = .pointer (some ⟨p, 0, none⟩) ∧ Hi (j ≤ xs.length ∧ Two w p g c q h n bs bs wr)) (fun _ i _ => xs.length - (intOf i).toNat)
  case atStart => exact ⟨0, p0, g0, _, _, rfl, rfl, hi ⟨Nat.zero_le _, HT0.out⟩⟩
  case round =>
    clear HT0
    obtain ⟨j, p, g, c, bs, rfl, rfl, HJ⟩ := hrel
    have hj := HJ.out.1
    have HT := hi HJ.out.2
    by_cases hlt : j < xs.length
    · obtain ⟨x, bv, b, off, hmem, rfl, hfair, hy, c0, c1, c2, c3, c4, c5, c6⟩ := actsAt_read HS.out (Below.refl _ _) hlt
      have hblk := World.block_lt_of_cell? w _ c0
      have KK : ∀ o, wr.cell? ⟨b, o, none⟩ = w.cell? ⟨b, o, none⟩ := fun o => HT.out.below.cell (p := ⟨b, o, none⟩) hblk
      replace c0 := (KK _).trans c0
      replace c1 := (KK _).trans c1
      replace c2 := (KK _).trans c2
      replace c3 := (KK _).trans c3
      replace c4 := (KK _).trans c4
      replace c5 := (KK _).trans c5
      replace c6 := (KK _).trans c6
      clear KK hblk
      obtain ⟨ba, bc, hbv⟩ : ∃ ba bc, bv = .slice ba x.ys.length bc := by obtain ⟨a1, a2, a3, _⟩ := hy; exact ⟨a1, a2, a3⟩
      obtain ⟨yl, hyl⟩ : ∃ yl, x.ys.length = yl := ⟨_, rfl⟩
      rw [hyl] at hbv
      subst hbv
      clear hyl
      have HX := hi (And.intro hfair hy)
      clear hmem hfair hy HJ hj
      have HBX := hi (BoxX.mk (w := w) (X := wr.heap.size) (x := x) (bv := .slice ba yl bc) (W := wr.alloc (.cells (xb x (.slice ba yl bc)) 33)) (heap_new _ _))
      have HT1 := hi (HT.out.later (bal wr (.cells (xb x (.slice ba yl bc)) 33)))
      unfold xb at HBX HT1
      have hXg : ¬ wr.heap.size = g := by have := HT.out.mem.bytes.lt; omega
      have hXh : ¬ wr.heap.size = h := by have := HT.out.ref.bytes.lt; omega
      have HXN := hi (And.intro hXg hXh)
      clear hXg hXh
      by_cases hd : x.d = 4
      · have hd' : (x.d == 4) = true := by simpa using hd
        clear hd
        have hn13 : bs.length ≤ 131072 := HT.out.mem.len
        go_wp2_with (first
          | (go_at_call 10; ((with_reducible refine (copy_out p g c bs _ HT1.out.mem).mono ?_); rintro e w3 ⟨p2, g2, cc2, rfl, hm3, hp2, hg2, hb3⟩; have HO3 := hi (HT1.out.mem.below hb3); have HT3 := hi (HT1.out.copied hb3 hm3 hp2 hg2); have HNE := hi (And.intro (show p2 ≠ g by have := HT1.out.mem.bytes.lt; omega) (And.intro (show g2 ≠ g by have := HT1.out.mem.bytes.lt; omega) (And.intro (show q ≠ g from fun e => HT1.out.ref.neb HT1.out.mem e) (And.intro (show h ≠ g from fun e => HT1.out.gh e.symm) (And.intro HT1.out.lg (show ¬ wr.heap.size = g2 by have := (Array.getElem?_eq_some_iff.1 HBX.out.box).1; omega)))))); have HB3 := hi (HBX.out.later hb3); obtain ⟨y0, y1, y2, y3, y4, y5, y6⟩ := HB3.out.cells; clear hm3 hp2 hg2 hb3))
          | (go_at_call 12; ((with_reducible refine (size_any p g c bs _ HO3.out).mono ?_); rintro e w4 ⟨rfl, rfl⟩))
          | (go_at_call 11; ((with_reducible refine (write0_out p g c bs bs.length hn13 _ HO3.out).mono ?_); rintro e w4 ⟨E4, bs4, rfl, hm4, hk4⟩; have HO4 := hi hm4; have HT4 := hi (HT3.out.old hk4 HNE.out.2.2.2.2.1 HNE.out.1 HNE.out.2.1 HNE.out.2.2.1 HNE.out.2.2.2.1); have HB4 := hi (HB3.out.kept hk4 HXN.out.1); obtain ⟨z0, z1, z2, z3, z4, z5, z6⟩ := HB4.out.cells; clear hm4 hk4 y0 y1 y2 y3 y4 y5 y6))
          | (go_at_call 13; ((with_reducible refine (wipe0_out p g c bs4 x.a x.s _ HO4.out HX.out.1.a0 HX.out.1.a1 HX.out.1.s0 HX.out.1.s1).mono ?_); rintro e Wc ⟨E5, bs5, rfl, hm5, hk5⟩; replace HT1 := hi (HT4.out.old hk5 HNE.out.2.2.2.2.1 HNE.out.1 HNE.out.2.1 HNE.out.2.2.1 HNE.out.2.2.2.1); replace HBX := hi (HB4.out.kept hk5 HXN.out.1); have HXN2 := hi (And.intro HNE.out.2.2.2.2.2 HXN.out.2); clear hm5 hk5 z0 z1 z2 z3 z4 z5 z6)))
        clear HXN
        have HXN := HXN2
        obtain ⟨E, hE⟩ : ∃ E, doE bs x = E := ⟨_, rfl⟩
        obtain ⟨bs', hL⟩ : ∃ bs', doL bs x = bs' := ⟨_, rfl⟩
        have HD := hi (fun W (hW : MemAt 60 W p2 g2 cc2 bs) (hy : BytesIn W (.slice ba yl bc) x.ys) => does_E p2 g2 cc2 bs bs' x (.slice ba yl bc) E hE hL W HX.out.1 hW hy)
        have HMo := hi (fun W (hW : MemAt 57 W q h n bs) (hb : Below w.heap.size w W) => model_E q h n bs bs' x (.slice ba yl bc) E hE hL w W HX.out.1 hW HX.out.2 hb HT1.out.lh)
        clear hE hL
        obtain ⟨s0, s1, s2, s3, s4, s5, s6⟩ := HBX.out.cells
        clear c0 c1 c2 c3 c4 c5 c6
        go_region_held3 (fun w' => w'.cell? ⟨wr.heap.size, 0, none⟩ = some (.int .i64 x.d) ∧ w'.cell? ⟨wr.heap.size, 1, none⟩ = some (.int .i64 x.a) ∧ w'.cell? ⟨wr.heap.size, 2, none⟩ = some (.int .i64 x.s) ∧ w'.cell? ⟨wr.heap.size, 3, none⟩ = some (.int .i64 x.off) ∧ w'.cell? ⟨wr.heap.size, 4, none⟩ = some (.int .i64 x.wd) ∧ w'.cell? ⟨wr.heap.size, 5, none⟩ = some (.int .u64 (x.v : Int)) ∧ w'.cell? ⟨wr.heap.size, 6, none⟩ = some (.slice ba yl bc))
          (first
            | go_keep
            | ((try dsimp only); go_split_ands; exact ⟨by assumption, by assumption, by assumption, by assumption, by assumption, by assumption, by assumption⟩))
          (first
            | (go_at_call 14; (with_reducible refine (HD.out _ HT1.out.drew.mem (HX.out.2.below HT1.out.drew.below)).mono ?_); rintro e w5 ⟨rfl, hm5, hk5⟩; have HT5 := hi (HT1.out.drew.mem_step hk5 hm5); have HB5 := hi (HBX.out.drew.kept hk5 HXN.out.1); obtain ⟨t0, t1, t2, t3, t4, t5, t6⟩ := HB5.out.cells; clear hm5 hk5)
            | (go_at_call 15; (with_reducible refine (HMo.out _ HT5.out.ref HT5.out.below).mono ?_); rintro e w6 ⟨rfl, hm6, hk6⟩; have HT6 := hi (HT5.out.ref_step hk6 hm6); have HB6 := hi (HB5.out.kept hk6 HXN.out.2); obtain ⟨u0, u1, u2, u3, u4, u5, u6⟩ := HB6.out.cells; clear hm6 hk6)
            | (go_at_call 16; (with_reducible refine (same_eq p2 g2 cc2 q h n bs' _ HT6.out.mem HT6.out.ref).mono ?_); rintro e w7 ⟨rfl, hb7⟩; have HT7 := hi (HT6.out.later hb7); have HB7 := hi (HB6.out.later hb7); obtain ⟨v0, v1, v2, v3, v4, v5, v6⟩ := HB7.out.cells; clear hb7))
        obtain ⟨N, hN⟩ : ∃ N, rdE bs' x.a x.s x.off x.wd = N := ⟨_, rfl⟩
        obtain ⟨E2, hE2⟩ : ∃ E2, accE bs'.length x.a x.s x.off x.wd = E2 := ⟨_, rfl⟩
        obtain ⟨E3, hE3⟩ : ∃ E3, bytesE bs'.length x.a x.s = E3 := ⟨_, rfl⟩
        obtain ⟨l, hl⟩ : ∃ l, bytesL bs' x.a x.s = l := ⟨_, rfl⟩
        obtain ⟨B, hB⟩ : ∃ B, holdsB bs'.length x.a x.s = B := ⟨_, rfl⟩
        have HRD := hi (fun W (hW : MemAt 60 W p2 g2 cc2 bs') => read_E p2 g2 cc2 bs' x.a x.s x.off x.wd N E2 hN hE2 W hW HX.out.1.a0 HX.out.1.a1 HX.out.1.s0 HX.out.1.s1)
        have HRR := hi (fun W (hW : MemAt 57 W q h n bs') => rread_E q h n bs' x.a x.s x.off x.wd N E2 hN hE2 W hW HX.out.1.a0 HX.out.1.a1 HX.out.1.s0 HX.out.1.s1)
        have HBY := hi (fun W (hW : MemAt 60 W p2 g2 cc2 bs') => bytes_E p2 g2 cc2 bs' l x.a x.s E3 hE3 hl W hW HX.out.1.a0 HX.out.1.a1 HX.out.1.s0 HX.out.1.s1)
        have HBR := hi (fun W (hW : MemAt 57 W q h n bs') => rbytes_E q h n bs' l x.a x.s E3 hE3 hl W hW HX.out.1.a0 HX.out.1.a1 HX.out.1.s0 HX.out.1.s1)
        have HHO := hi (fun W (hW : MemAt 60 W p2 g2 cc2 bs') => holds_E p2 g2 cc2 bs' x.a x.s B hB W hW HX.out.1.a0 HX.out.1.a1 HX.out.1.s0 HX.out.1.s1)
        have HHR := hi (fun W (hW : MemAt 57 W q h n bs') => rholds_E q h n bs' x.a x.s B hB W hW HX.out.1.a0 HX.out.1.a1 HX.out.1.s0 HX.out.1.s1)
        obtain ⟨Y, hYY⟩ : ∃ Y, strB l = Y := ⟨_, rfl⟩
        have HYY := hi hYY
        clear hN hE2 hE3 hl hB hYY HD HMo
        obtain ⟨v0, v1, v2, v3, v4, v5, v6⟩ := HB7.out.cells
        go_wp2_with (first
          | (go_at_call 17; ((with_reducible refine (HRD.out _ HT7.out.mem).mono ?_); rintro e w8 ⟨rfl, hb8⟩; have HT8 := hi (HT7.out.later hb8); have HB8 := hi (HB7.out.later hb8); obtain ⟨a0, a1, a2, a3, a4, a5, a6⟩ := HB8.out.cells; clear hb8))
          | (go_at_call 18; ((with_reducible refine (HRR.out _ HT8.out.ref).mono ?_); rintro e w9 ⟨rfl, hb9⟩; have HT9 := hi (HT8.out.later hb9); have HB9 := hi (HB8.out.later hb9); obtain ⟨d0, d1, d2, d3, d4, d5, d6⟩ := HB9.out.cells; clear hb9))
          | (go_at_call 19; ((with_reducible refine (HBY.out _ HT9.out.mem).mono ?_); rintro e w10 ⟨v1, rfl, ho1, hb10⟩; have HT10 := hi (HT9.out.later hb10); have HB10 := hi (HB9.out.later hb10); have HV1 := hi ho1; obtain ⟨e0, e1, e2, e3, e4, e5, e6⟩ := HB10.out.cells; clear ho1 hb10))
          | (go_at_call 20; ((with_reducible refine (HBR.out _ HT10.out.ref).mono ?_); rintro e w11 ⟨v2, rfl, ho2, hb11⟩; have HT11 := hi (HT10.out.later hb11); have HB11 := hi (HB10.out.later hb11); have HI1 := hi (HV1.out.bytesIn.below hb11); have HI2 := hi ho2.bytesIn; have HK11 := hi hb11; clear ho2 hb11)))
        clear a0 a1 a2 a3 a4 a5 a6 d0 d1 d2 d3 d4 d5 d6 e0 e1 e2 e3 e4 e5 e6
        obtain ⟨_, f1, f2, _⟩ := HB11.out.cells; have f3 := conv_bytes HI1.out; have f4 := conv_bytes HI2.out; rw [HYY.out] at f3 f4
        have f3d : (convert 31 9 v1).run Try.prog w11.drew = .ok (.string Y) w11.drew := by have := conv_bytes (HI1.out.drewN 1); rwa [HYY.out] at this
        have f4d : (convert 31 9 v2).run Try.prog w11.drew = .ok (.string Y) w11.drew := by have := conv_bytes (HI2.out.drewN 1); rwa [HYY.out] at this
        go_region_held3 (fun w' => w'.cell? ⟨wr.heap.size, 1, none⟩ = some (.int .i64 x.a) ∧ w'.cell? ⟨wr.heap.size, 2, none⟩ = some (.int .i64 x.s) ∧ (convert 31 9 v1).run Try.prog w' = .ok (.string Y) w' ∧ (convert 31 9 v2).run Try.prog w' = .ok (.string Y) w')
          (first
            | go_keep
            | ((try dsimp only); go_split_ands; exact ⟨by assumption, by assumption, by assumption, by assumption⟩))
          (first
            | (go_at_call 21; (with_reducible refine (HHO.out _ HT11.out.drew.mem).mono ?_); rintro e w12 ⟨rfl, hb12⟩; have HT12 := hi (HT11.out.drew.later hb12); have HB12 := hi (HB11.out.drew.later hb12); have HI3 := hi ((HI1.out.drewN 1).below hb12); have HI4 := hi ((HI2.out.drewN 1).below hb12); obtain ⟨_, g1, g2, _⟩ := HB12.out.cells; have g3 := conv_bytes HI3.out; have g4 := conv_bytes HI4.out; rw [HYY.out] at g3 g4; have HK12 := hi hb12; clear hb12)
            | (go_at_call 22; (with_reducible refine (HHR.out _ HT12.out.ref).mono ?_); rintro e w13 ⟨rfl, hb13⟩; have HT13 := hi (HT12.out.later hb13); have HB13 := hi (HB12.out.later hb13); have HI5 := hi (HI3.out.below hb13); have HI6 := hi (HI4.out.below hb13); obtain ⟨_, k1, k2, _⟩ := HB13.out.cells; have k3 := conv_bytes HI5.out; have k4 := conv_bytes HI6.out; rw [HYY.out] at k3 k4; have HK13 := hi hb13; clear hb13))
        go_wp2
        clear f1 f2 f3 f4 f3d f4d g1 g2 g3 g4 k1 k2 k3 k4 HRD HRR HBY HBR HHO HHR
        have hlx := hlt
        rcases HV1.out with ⟨e1, hl0⟩ | ⟨ob, cap1, e1, hge, hBy, hle, hcp⟩
        · subst e1
          have HTZ := HT13
          clear hl0
          go_loopw [19] (fun i wr2 => i = .int .i64 0 ∧ w13 = wr2) (fun i _ => 0)
          case atStart => exact ⟨rfl, rfl⟩
          case round =>
            obtain ⟨rfl, rfl⟩ := hrel
            go_wp2_with (go_at_call 16; ((with_reducible refine (same_eq p2 g2 cc2 q h n bs' _ HTZ.out.mem HTZ.out.ref).mono ?_); rintro e w14 ⟨rfl, hb14⟩; have HT14 := hi (HTZ.out.later hb14); clear hb14))
            go_roundw
            case rel => exact ⟨j + 1, p2, g2, cc2, bs', by go_num, rfl, hi ⟨hlt, HT14.out⟩⟩
            case measure => simp [intOf]; omega
        · subst e1
          have hy11 := hBy.of_block (HK11.out.block ob hBy.lt)
          have hy12 := (hy11.drew).of_block (HK12.out.block ob hy11.lt)
          have HY13 := hi (hy12.of_block (HK13.out.block ob hy12.lt))
          obtain ⟨L, hL⟩ : ∃ L, l.length = L := ⟨_, rfl⟩
          have HL := hi hL
          have HGE := hi hge
          have hL63 : L ≤ 9223372036854775807 := by rw [← hL]; unfold maxLen at hcp; omega
          rw [hL]
          clear hL hge hle hcp hy11 hy12 hBy
          go_loopw [19] (fun i wr2 => ∃ k : Nat, i = .int .i64 k ∧ Hi (k ≤ L ∧ Kept (· = ob) w13 wr2 ∧ ∃ zs : List Nat, zs.length = L ∧ BytesAt wr2 ob zs)) (fun i _ => L - (intOf i).toNat)
          case atStart => exact ⟨0, rfl, hi ⟨Nat.zero_le _, Kept.refl _ _, l, HL.out, HY13.out⟩⟩
          case round =>
            obtain ⟨k, rfl, HJ2⟩ := hrel
            have hk2 := HJ2.out.1
            by_cases hlt2 : k < L
            · obtain ⟨zs, hzl, hzb⟩ := HJ2.out.2.2
              have hcell := hzb.cell k (by omega)
              have hfr := hzb.frozen k
              obtain ⟨y, hy⟩ : ∃ y, zs[k]?.getD 0 = y := ⟨_, rfl⟩
              rw [hy] at hcell
              have HZ := hi (And.intro hzl hzb)
              clear hy hzl hzb
              go_wp2
              go_roundw
              case rel => exact ⟨k + 1, by go_num, hi ⟨hlt2, HJ2.out.2.1.trans (kept_setCell _ _ _ _), zs.set k 99, by rw [List.length_set]; exact HZ.out.1, HZ.out.2.set k 99 (by rw [HZ.out.1]; exact hlt2) (by omega)⟩⟩
              case measure => simp [intOf]; omega
            · have e : k = L := by omega
              subst e
              have HTZ := hi (HT13.out.own_step HJ2.out.2.1 HT9.out HGE.out)
              go_wp2_with (go_at_call 16; ((with_reducible refine (same_eq p2 g2 cc2 q h n bs' _ HTZ.out.mem HTZ.out.ref).mono ?_); rintro e w14 ⟨rfl, hb14⟩; have HT14 := hi (HTZ.out.later hb14); clear hb14))
              go_roundw
              case rel => exact ⟨j + 1, p2, g2, cc2, bs', by go_num, rfl, hi ⟨hlt, HT14.out⟩⟩
              case measure => simp [intOf]; omega
      · have hd' : (x.d == 4) = false := by simpa using hd
        clear hd
        go_wp2
        obtain ⟨Wc, hWc⟩ : ∃ Wc, wr.alloc (.cells #[.int .i64 x.d, .int .i64 x.a, .int .i64 x.s, .int .i64 x.off, .int .i64 x.wd, .int .u64 (x.v : Int), .slice ba yl bc] 33) = Wc := ⟨_, rfl⟩
        rw [hWc] at HBX HT1 ⊢
        clear hWc
        obtain ⟨E, hE⟩ : ∃ E, doE bs x = E := ⟨_, rfl⟩
        obtain ⟨bs', hL⟩ : ∃ bs', doL bs x = bs' := ⟨_, rfl⟩
        have HD := hi (fun W (hW : MemAt 60 W p g c bs) (hy : BytesIn W (.slice ba yl bc) x.ys) => does_E p g c bs bs' x (.slice ba yl bc) E hE hL W HX.out.1 hW hy)
        have HMo := hi (fun W (hW : MemAt 57 W q h n bs) (hb : Below w.heap.size w W) => model_E q h n bs bs' x (.slice ba yl bc) E hE hL w W HX.out.1 hW HX.out.2 hb HT1.out.lh)
        clear hE hL
        obtain ⟨s0, s1, s2, s3, s4, s5, s6⟩ := HBX.out.cells
        clear c0 c1 c2 c3 c4 c5 c6
        go_region_held3 (fun w' => w'.cell? ⟨wr.heap.size, 0, none⟩ = some (.int .i64 x.d) ∧ w'.cell? ⟨wr.heap.size, 1, none⟩ = some (.int .i64 x.a) ∧ w'.cell? ⟨wr.heap.size, 2, none⟩ = some (.int .i64 x.s) ∧ w'.cell? ⟨wr.heap.size, 3, none⟩ = some (.int .i64 x.off) ∧ w'.cell? ⟨wr.heap.size, 4, none⟩ = some (.int .i64 x.wd) ∧ w'.cell? ⟨wr.heap.size, 5, none⟩ = some (.int .u64 (x.v : Int)) ∧ w'.cell? ⟨wr.heap.size, 6, none⟩ = some (.slice ba yl bc))
          (first
            | go_keep
            | ((try dsimp only); go_split_ands; exact ⟨by assumption, by assumption, by assumption, by assumption, by assumption, by assumption, by assumption⟩))
          (first
            | (go_at_call 14; (with_reducible refine (HD.out _ HT1.out.drew.mem (HX.out.2.below HT1.out.drew.below)).mono ?_); rintro e w5 ⟨rfl, hm5, hk5⟩; have HT5 := hi (HT1.out.drew.mem_step hk5 hm5); have HB5 := hi (HBX.out.drew.kept hk5 HXN.out.1); obtain ⟨t0, t1, t2, t3, t4, t5, t6⟩ := HB5.out.cells; clear hm5 hk5)
            | (go_at_call 15; (with_reducible refine (HMo.out _ HT5.out.ref HT5.out.below).mono ?_); rintro e w6 ⟨rfl, hm6, hk6⟩; have HT6 := hi (HT5.out.ref_step hk6 hm6); have HB6 := hi (HB5.out.kept hk6 HXN.out.2); obtain ⟨u0, u1, u2, u3, u4, u5, u6⟩ := HB6.out.cells; clear hm6 hk6)
            | (go_at_call 16; (with_reducible refine (same_eq p g c q h n bs' _ HT6.out.mem HT6.out.ref).mono ?_); rintro e w7 ⟨rfl, hb7⟩; have HT7 := hi (HT6.out.later hb7); have HB7 := hi (HB6.out.later hb7); obtain ⟨v0, v1, v2, v3, v4, v5, v6⟩ := HB7.out.cells; clear hb7))
        obtain ⟨N, hN⟩ : ∃ N, rdE bs' x.a x.s x.off x.wd = N := ⟨_, rfl⟩
        obtain ⟨E2, hE2⟩ : ∃ E2, accE bs'.length x.a x.s x.off x.wd = E2 := ⟨_, rfl⟩
        obtain ⟨E3, hE3⟩ : ∃ E3, bytesE bs'.length x.a x.s = E3 := ⟨_, rfl⟩
        obtain ⟨l, hl⟩ : ∃ l, bytesL bs' x.a x.s = l := ⟨_, rfl⟩
        obtain ⟨B, hB⟩ : ∃ B, holdsB bs'.length x.a x.s = B := ⟨_, rfl⟩
        have HRD := hi (fun W (hW : MemAt 60 W p g c bs') => read_E p g c bs' x.a x.s x.off x.wd N E2 hN hE2 W hW HX.out.1.a0 HX.out.1.a1 HX.out.1.s0 HX.out.1.s1)
        have HRR := hi (fun W (hW : MemAt 57 W q h n bs') => rread_E q h n bs' x.a x.s x.off x.wd N E2 hN hE2 W hW HX.out.1.a0 HX.out.1.a1 HX.out.1.s0 HX.out.1.s1)
        have HBY := hi (fun W (hW : MemAt 60 W p g c bs') => bytes_E p g c bs' l x.a x.s E3 hE3 hl W hW HX.out.1.a0 HX.out.1.a1 HX.out.1.s0 HX.out.1.s1)
        have HBR := hi (fun W (hW : MemAt 57 W q h n bs') => rbytes_E q h n bs' l x.a x.s E3 hE3 hl W hW HX.out.1.a0 HX.out.1.a1 HX.out.1.s0 HX.out.1.s1)
        have HHO := hi (fun W (hW : MemAt 60 W p g c bs') => holds_E p g c bs' x.a x.s B hB W hW HX.out.1.a0 HX.out.1.a1 HX.out.1.s0 HX.out.1.s1)
        have HHR := hi (fun W (hW : MemAt 57 W q h n bs') => rholds_E q h n bs' x.a x.s B hB W hW HX.out.1.a0 HX.out.1.a1 HX.out.1.s0 HX.out.1.s1)
        obtain ⟨Y, hYY⟩ : ∃ Y, strB l = Y := ⟨_, rfl⟩
        have HYY := hi hYY
        clear hN hE2 hE3 hl hB hYY HD HMo
        obtain ⟨v0, v1, v2, v3, v4, v5, v6⟩ := HB7.out.cells
        go_wp2_with (first
          | (go_at_call 17; ((with_reducible refine (HRD.out _ HT7.out.mem).mono ?_); rintro e w8 ⟨rfl, hb8⟩; have HT8 := hi (HT7.out.later hb8); have HB8 := hi (HB7.out.later hb8); obtain ⟨a0, a1, a2, a3, a4, a5, a6⟩ := HB8.out.cells; clear hb8))
          | (go_at_call 18; ((with_reducible refine (HRR.out _ HT8.out.ref).mono ?_); rintro e w9 ⟨rfl, hb9⟩; have HT9 := hi (HT8.out.later hb9); have HB9 := hi (HB8.out.later hb9); obtain ⟨d0, d1, d2, d3, d4, d5, d6⟩ := HB9.out.cells; clear hb9))
          | (go_at_call 19; ((with_reducible refine (HBY.out _ HT9.out.mem).mono ?_); rintro e w10 ⟨v1, rfl, ho1, hb10⟩; have HT10 := hi (HT9.out.later hb10); have HB10 := hi (HB9.out.later hb10); have HV1 := hi ho1; obtain ⟨e0, e1, e2, e3, e4, e5, e6⟩ := HB10.out.cells; clear ho1 hb10))
          | (go_at_call 20; ((with_reducible refine (HBR.out _ HT10.out.ref).mono ?_); rintro e w11 ⟨v2, rfl, ho2, hb11⟩; have HT11 := hi (HT10.out.later hb11); have HB11 := hi (HB10.out.later hb11); have HI1 := hi (HV1.out.bytesIn.below hb11); have HI2 := hi ho2.bytesIn; have HK11 := hi hb11; clear ho2 hb11)))
        clear a0 a1 a2 a3 a4 a5 a6 d0 d1 d2 d3 d4 d5 d6 e0 e1 e2 e3 e4 e5 e6
        obtain ⟨_, f1, f2, _⟩ := HB11.out.cells; have f3 := conv_bytes HI1.out; have f4 := conv_bytes HI2.out; rw [HYY.out] at f3 f4
        have f3d : (convert 31 9 v1).run Try.prog w11.drew = .ok (.string Y) w11.drew := by have := conv_bytes (HI1.out.drewN 1); rwa [HYY.out] at this
        have f4d : (convert 31 9 v2).run Try.prog w11.drew = .ok (.string Y) w11.drew := by have := conv_bytes (HI2.out.drewN 1); rwa [HYY.out] at this
        go_region_held3 (fun w' => w'.cell? ⟨wr.heap.size, 1, none⟩ = some (.int .i64 x.a) ∧ w'.cell? ⟨wr.heap.size, 2, none⟩ = some (.int .i64 x.s) ∧ (convert 31 9 v1).run Try.prog w' = .ok (.string Y) w' ∧ (convert 31 9 v2).run Try.prog w' = .ok (.string Y) w')
          (first
            | go_keep
            | ((try dsimp only); go_split_ands; exact ⟨by assumption, by assumption, by assumption, by assumption⟩))
          (first
            | (go_at_call 21; (with_reducible refine (HHO.out _ HT11.out.drew.mem).mono ?_); rintro e w12 ⟨rfl, hb12⟩; have HT12 := hi (HT11.out.drew.later hb12); have HB12 := hi (HB11.out.drew.later hb12); have HI3 := hi ((HI1.out.drewN 1).below hb12); have HI4 := hi ((HI2.out.drewN 1).below hb12); obtain ⟨_, g1, g2, _⟩ := HB12.out.cells; have g3 := conv_bytes HI3.out; have g4 := conv_bytes HI4.out; rw [HYY.out] at g3 g4; have HK12 := hi hb12; clear hb12)
            | (go_at_call 22; (with_reducible refine (HHR.out _ HT12.out.ref).mono ?_); rintro e w13 ⟨rfl, hb13⟩; have HT13 := hi (HT12.out.later hb13); have HB13 := hi (HB12.out.later hb13); have HI5 := hi (HI3.out.below hb13); have HI6 := hi (HI4.out.below hb13); obtain ⟨_, k1, k2, _⟩ := HB13.out.cells; have k3 := conv_bytes HI5.out; have k4 := conv_bytes HI6.out; rw [HYY.out] at k3 k4; have HK13 := hi hb13; clear hb13))
        go_wp2
        clear f1 f2 f3 f4 f3d f4d g1 g2 g3 g4 k1 k2 k3 k4 HRD HRR HBY HBR HHO HHR
        have hlx := hlt
        rcases HV1.out with ⟨e1, hl0⟩ | ⟨ob, cap1, e1, hge, hBy, hle, hcp⟩
        · subst e1
          have HTZ := HT13
          clear hl0
          go_loopw [19] (fun i wr2 => i = .int .i64 0 ∧ w13 = wr2) (fun i _ => 0)
          case atStart => exact ⟨rfl, rfl⟩
          case round =>
            obtain ⟨rfl, rfl⟩ := hrel
            go_wp2_with (go_at_call 16; ((with_reducible refine (same_eq p g c q h n bs' _ HTZ.out.mem HTZ.out.ref).mono ?_); rintro e w14 ⟨rfl, hb14⟩; have HT14 := hi (HTZ.out.later hb14); clear hb14))
            go_roundw
            case rel => exact ⟨j + 1, p, g, c, bs', by go_num, rfl, hi ⟨hlt, HT14.out⟩⟩
            case measure => simp [intOf]; omega
        · subst e1
          have hy11 := hBy.of_block (HK11.out.block ob hBy.lt)
          have hy12 := (hy11.drew).of_block (HK12.out.block ob hy11.lt)
          have HY13 := hi (hy12.of_block (HK13.out.block ob hy12.lt))
          obtain ⟨L, hL⟩ : ∃ L, l.length = L := ⟨_, rfl⟩
          have HL := hi hL
          have HGE := hi hge
          have hL63 : L ≤ 9223372036854775807 := by rw [← hL]; unfold maxLen at hcp; omega
          rw [hL]
          clear hL hge hle hcp hy11 hy12 hBy
          go_loopw [19] (fun i wr2 => ∃ k : Nat, i = .int .i64 k ∧ Hi (k ≤ L ∧ Kept (· = ob) w13 wr2 ∧ ∃ zs : List Nat, zs.length = L ∧ BytesAt wr2 ob zs)) (fun i _ => L - (intOf i).toNat)
          case atStart => exact ⟨0, rfl, hi ⟨Nat.zero_le _, Kept.refl _ _, l, HL.out, HY13.out⟩⟩
          case round =>
            obtain ⟨k, rfl, HJ2⟩ := hrel
            have hk2 := HJ2.out.1
            by_cases hlt2 : k < L
            · obtain ⟨zs, hzl, hzb⟩ := HJ2.out.2.2
              have hcell := hzb.cell k (by omega)
              have hfr := hzb.frozen k
              obtain ⟨y, hy⟩ : ∃ y, zs[k]?.getD 0 = y := ⟨_, rfl⟩
              rw [hy] at hcell
              have HZ := hi (And.intro hzl hzb)
              clear hy hzl hzb
              go_wp2
              go_roundw
              case rel => exact ⟨k + 1, by go_num, hi ⟨hlt2, HJ2.out.2.1.trans (kept_setCell _ _ _ _), zs.set k 99, by rw [List.length_set]; exact HZ.out.1, HZ.out.2.set k 99 (by rw [HZ.out.1]; exact hlt2) (by omega)⟩⟩
              case measure => simp [intOf]; omega
            · have e : k = L := by omega
              subst e
              have HTZ := hi (HT13.out.own_step HJ2.out.2.1 HT9.out HGE.out)
              go_wp2_with (go_at_call 16; ((with_reducible refine (same_eq p g c q h n bs' _ HTZ.out.mem HTZ.out.ref).mono ?_); rintro e w14 ⟨rfl, hb14⟩; have HT14 := hi (HTZ.out.later hb14); clear hb14))
              go_roundw
              case rel => exact ⟨j + 1, p, g, c, bs', by go_num, rfl, hi ⟨hlt, HT14.out⟩⟩
              case measure => simp [intOf]; omega
    · have e : j = xs.length := by omega
      subst e
      go_wp2
      go_ret
      exact ⟨rfl, HT.out.below⟩

end Go.Proofs.Ythndfkggahhleaa
