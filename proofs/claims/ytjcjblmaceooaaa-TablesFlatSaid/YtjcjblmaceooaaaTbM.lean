/-
  TablesFlat.
-/
import Derived.Test.YtjcjblmaceooaaaTbL
namespace Go.Proofs.Ytjcjblmaceooaaa
open Go.ChangeShapes Go.WideShapes Go.ChangeAt Go.RowKit
set_option linter.unusedVariables false
set_option linter.unusedSimpArgs false

attribute [local go_sem high] eql_dv neq_dv guard_dv

/-- What the loops keep. -/
structure FlI (w : World) (p g M : Nat) (bs : List Nat) (W : World) : Prop where
  m : Since w p g 1000 bs W
  f : CB W M 32 #[.int .i64 0, .int .i64 128, .int .i64 0]
  t : CB W (M + 1) 32 #[.int .i64 128, .int .i64 32, .int .i64 32]
  ne : g < M
theorem FlI.later {w : World} {p g M : Nat} {bs : List Nat} {W W' : World} (h : FlI w p g M bs W) (k : Below W.heap.size W W') : FlI w p g M bs W' := ⟨h.m.later k, h.f.below k, h.t.below k, h.ne⟩
theorem FlI.wrote {w : World} {p g M : Nat} {bs cs : List Nat} {W W' : World} (h : FlI w p g M bs W) (k : Kept (· = g) W W') (m : MemAt 89 W' p g 1000 cs) : FlI w p g M cs W' :=
  ⟨h.m.wrote k m, h.f.keptB k (fun e => by have := h.ne; omega), h.t.keptB k (fun e => by have := h.ne; omega), h.ne⟩
theorem FlI.cells {w : World} {p g M : Nat} {bs : List Nat} {W : World} (h : FlI w p g M bs W) :
    (W.cell? ⟨M, 0, none⟩ = some (.int .i64 0) ∧ W.cell? ⟨M, 1, none⟩ = some (.int .i64 128) ∧ W.cell? ⟨M, 2, none⟩ = some (.int .i64 0)) ∧ (W.cell? ⟨M + 1, 0, none⟩ = some (.int .i64 128) ∧ W.cell? ⟨M + 1, 1, none⟩ = some (.int .i64 32) ∧ W.cell? ⟨M + 1, 2, none⟩ = some (.int .i64 32)) := ⟨CB.three h.f, CB.three h.t⟩

set_option maxRecDepth 100000 in
set_option maxHeartbeats 16000000 in
theorem flat_law (a0 a1 : Option Addr) (b0 b1 f0 f1 k0 k1 : Nat) (xs : List Nat) (ds : List Dv) (y : Nat) (w : World) (hx : RowAt w a0 b0 f0 1 (xs.map u8C)) (hd : RowAt w a1 b1 f1 3 (ds.map dvC))
    (hx1 : ∀ x ∈ xs, x < 256) (hd1 : ∀ d ∈ ds, d.Fair) (hy : y < 256) :
    Calls Try.prog 3 #[.slice a0 xs.length k0, .slice a1 ds.length k1, .int .u8 y] w fun e w' => e = .returned (.bool true) ∧ Below w.heap.size w w' := by
  have HA := Hi.mk (fun W => awake_any W)
  have HN := Hi.mk (show ∀ W, Calls Try.prog 8 #[.int .i64 1000] W fun e w' => ∃ p g q h, e = .returned (.tuple #[.pointer (some ⟨p, 0, none⟩), .pointer (some ⟨q, 0, none⟩)]) ∧ Since W p g 1000 (ldN 0) w' from fun W => (lawNew_any 1000 W).mono fun e w' ⟨p, g, q, h, h1, h2⟩ => ⟨p, g, q, h, h1, h2.mem⟩)
  have HL := Hi.mk (show ∀ (p g k : Nat), k < 4 → ∀ W, MemAt 89 W p g 1000 (ldN k) → Calls Try.prog 9 #[.agg #[.int .i64 128, .int .i64 32, .int .i64 32], .pointer (some ⟨p, 0, none⟩), .int .i64 (4 * (k : Int)), .int .i64 (200 + 40 * (k : Int))] W fun e w' => e = .returned (.int .i64 0) ∧ MemAt 89 w' p g 1000 (ldN (k + 1)) ∧ Kept (· = g) W w' from
    fun p g k hk W hM => by have h := lead_any p g 1000 (ldN k) pgT pgT_fair (4 * (k : Int)) (200 + 40 * (k : Int)) ⟨by omega, by omega⟩ W hM; rwa [ldN_ok k hk] at h)
  have HGF := Hi.mk (show ∀ (p g : Nat) (bs : List Nat) (i : Int) W, MemAt 89 W p g 1000 bs → Calls Try.prog 10 #[.agg #[.int .i64 0, .int .i64 128, .int .i64 0], .pointer (some ⟨p, 0, none⟩), .int .i64 i] W fun e w' => e = .returned (.tuple #[(getV bs flT i).v, .int .i64 (entE bs flT i)]) ∧ Below W.heap.size W w' from fun p g bs i W hM => get_any p g 1000 bs flT flT_fair i W hM)
  have HGP := Hi.mk (show ∀ (p g : Nat) (bs : List Nat) (i : Int) W, MemAt 89 W p g 1000 bs → Calls Try.prog 10 #[.agg #[.int .i64 128, .int .i64 32, .int .i64 32], .pointer (some ⟨p, 0, none⟩), .int .i64 i] W fun e w' => e = .returned (.tuple #[(getV bs pgT i).v, .int .i64 (entE bs pgT i)]) ∧ Below W.heap.size W w' from fun p g bs i W hM => get_any p g 1000 bs pgT pgT_fair i W hM)
  have HPF := Hi.mk (show ∀ (p g : Nat) (bs : List Nat) (i : Int) (d : Dv), d.Fair → ∀ W, MemAt 89 W p g 1000 bs → Calls Try.prog 11 #[.agg #[.int .i64 0, .int .i64 128, .int .i64 0], .pointer (some ⟨p, 0, none⟩), .int .i64 i, d.v] W fun e w' => e = .returned (.int .i64 (tputE bs flT i d)) ∧ MemAt 89 w' p g 1000 (putB bs flT i d) ∧ Kept (· = g) W w' from fun p g bs i d hd W hM => put_any p g 1000 bs flT flT_fair i d hd W hM)
  have HPP := Hi.mk (show ∀ (p g : Nat) (bs : List Nat) (i : Int) (d : Dv), d.Fair → ∀ W, MemAt 89 W p g 1000 bs → Calls Try.prog 11 #[.agg #[.int .i64 128, .int .i64 32, .int .i64 32], .pointer (some ⟨p, 0, none⟩), .int .i64 i, d.v] W fun e w' => e = .returned (.int .i64 (tputE bs pgT i d)) ∧ MemAt 89 w' p g 1000 (putB bs pgT i d) ∧ Kept (· = g) W w' from fun p g bs i d hd W hM => put_any p g 1000 bs pgT pgT_fair i d hd W hM)
  have hl0 := hx.len
  have hl1 := hd.len
  rw [List.length_map] at hl0 hl1
  have HX := Hi.mk (And.intro hx hd)
  have HB := Hi.mk (And.intro hx1 hd1)
  clear hx hd hx1 hd1
  go_enter Try.func3, Try.ntmps3
  go_wp2_with (first
    | (go_at_call 7; ((with_reducible refine (HA.out _).mono ?_); rintro e w1 ⟨rfl, hb1⟩; have HB1 := Hi.mk hb1; clear hb1))
    | (go_at_call 8; ((with_reducible refine (HN.out _).mono ?_); rintro e w2 ⟨p, g, q, h, rfl, hs2⟩; have H2 := Hi.mk (show FlI w p g w2.heap.size (ldN 0) ((w2.alloc (.cells #[.int .i64 0, .int .i64 128, .int .i64 0] 32)).alloc (.cells #[.int .i64 128, .int .i64 32, .int .i64 32] 32)) from ⟨((hs2.base HB1.out).later (bal _ _)).later (bal _ _), (CB.new w2 _ _).alloc _, cb_second, hs2.mem.bytes.lt⟩); clear hs2)))
  go_loopw [12] (fun i wr => ∃ k : Nat, i = .int .i64 k ∧ Hi (k ≤ 4 ∧ FlI w p g w2.heap.size (ldN k) wr)) (fun i _ => 4 - (intOf i).toNat)
  case atStart => exact ⟨0, rfl, Hi.mk ⟨by omega, H2.out⟩⟩
  case round =>
    obtain ⟨k, rfl, HJ⟩ := hrel
    have hk := HJ.out.1
    by_cases hlt : k < 4
    · have x1 : (k : Int) < 4 := by omega
      have HLD := Hi.mk (fun W hM => HL.out p g k hlt W hM)
      obtain ⟨⟨c0, c1, c2⟩, ⟨d0, d1, d2⟩⟩ := HJ.out.2.cells
      go_wp2_with (go_at_call 9; ((with_reducible refine (HLD.out _ HJ.out.2.m.mem).mono ?_); rintro e w3 ⟨rfl, hm3, hk3⟩; have H3 := Hi.mk (HJ.out.2.wrote hk3 hm3); clear hm3 hk3))
      go_roundw
      case rel => exact ⟨k + 1, by go_num, Hi.mk ⟨hlt, H3.out⟩⟩
      case measure => simp [intOf]; omega
    · have hk4 : k = 4 := by omega
      have HK := Hi.mk (And.intro (show FlOk (ldN k) by rw [hk4]; exact ldN_four) HJ.out.2)
      have hk5 : (4 : Int) ≤ (k : Int) := by omega
      clear HJ hk hk4 hlt
      obtain ⟨ld, hld⟩ : ∃ l, ldN k = l := ⟨_, rfl⟩
      rw [hld] at HK
      clear hld HL
      go_wp2
      go_loopw [13] (fun i wr' => ∃ j : Nat, i = .int .i64 j ∧ Hi (j ≤ xs.length ∧ ∃ bs, FlOk bs ∧ FlI w p g w2.heap.size bs wr')) (fun i _ => xs.length - (intOf i).toNat)
      case atStart => exact ⟨0, rfl, Hi.mk ⟨Nat.zero_le _, _, HK.out⟩⟩
      case round =>
        obtain ⟨j, rfl, HJ⟩ := hrel
        have hj := HJ.out.1
        obtain ⟨bs, hfo, hfi⟩ := HJ.out.2
        have HO := Hi.mk hfo
        have HI := Hi.mk hfi
        clear hfo hfi
        by_cases hlt : j < xs.length
        · by_cases hlt1 : j < ds.length
          · have hc0 := (HX.out.1.below HI.out.m.below).one (map_at (f := u8C) hlt)
            obtain rfl := HX.out.1.some (j := j) (by simpa using hlt)
            obtain rfl := HX.out.2.some (j := j) (by simpa using hlt1)
            have hxb := HB.out.1 _ (List.getElem_mem hlt)
            have hdf := HB.out.2 _ (List.getElem_mem hlt1)
            obtain ⟨x, hxe⟩ : ∃ x, xs[j] = x := ⟨_, rfl⟩
            obtain ⟨d, hde⟩ : ∃ d, ds[j] = d := ⟨_, rfl⟩
            rw [hxe] at hc0 hxb
            have HDE := Hi.mk hde
            rw [hde] at hdf
            have hxi : x % 16 < 16 := by omega
            have hyi : y % 16 < 16 := by omega
            obtain ⟨p1, p2, p3, p4, p5⟩ := HO.out.put hxi d
            obtain ⟨g1, g2⟩ := HO.out.get_fl hyi
            obtain ⟨g3, g4⟩ := p4.get_fl hyi
            obtain ⟨g5, g6⟩ := p4.get_pg hyi
            have HG1 := Hi.mk (fun W hM => HGF.out p g bs ((y % 16 : Nat) : Int) W hM)
            have HP1 := Hi.mk (fun W hM => HPF.out p g bs ((x % 16 : Nat) : Int) d hdf W hM)
            have HP2 := Hi.mk (fun W hM => HPP.out p g (flPut bs (x % 16) d) ((x % 16 : Nat) : Int) d hdf W hM)
            have HG2 := Hi.mk (fun W hM => HGF.out p g (pgPut bs (x % 16) d) ((y % 16 : Nat) : Int) W hM)
            have HG3 := Hi.mk (fun W hM => HGP.out p g (pgPut bs (x % 16) d) ((y % 16 : Nat) : Int) W hM)
            rw [g1, g2] at HG1
            rw [g3, g4] at HG2
            rw [g5, g6] at HG3
            rw [p1, show putB bs flT ((x % 16 : Nat) : Int) d = flPut bs (x % 16) d from rfl] at HP1
            rw [p2, show putB (flPut bs (x % 16) d) pgT ((x % 16 : Nat) : Int) d = pgPut bs (x % 16) d from rfl] at HP2
            have heq : y % 16 ≠ x % 16 → devV (w8 (pgPut bs (x % 16) d) (8 * (y % 16))) = devV (w8 bs (8 * (y % 16))) := fun h => by rw [p5 _ hyi h]
            obtain ⟨v1, hv1⟩ : ∃ v, devV (w8 bs (8 * (y % 16))) = v := ⟨_, rfl⟩
            obtain ⟨v2, hv2⟩ : ∃ v, devV (w8 (pgPut bs (x % 16) d) (8 * (y % 16))) = v := ⟨_, rfl⟩
            rw [hv1] at HG1 heq
            rw [hv2] at HG2 HG3 heq
            have HP4 := Hi.mk p4
            obtain ⟨bs1, hbs1⟩ : ∃ l, flPut bs (x % 16) d = l := ⟨_, rfl⟩
            obtain ⟨bs2, hbs2⟩ : ∃ l, pgPut bs (x % 16) d = l := ⟨_, rfl⟩
            rw [hbs1] at HP1 HP2
            rw [hbs2] at HP2 HG2 HG3 HP4
            have hcx : ((x % 16 : Nat) : Int) = (x : Int) % 16 := by omega
            have hcy : ((y % 16 : Nat) : Int) = (y : Int) % 16 := by omega
            rw [hcx] at HP1 HP2
            rw [hcy] at HG1 HG2 HG3
            obtain ⟨er, her⟩ : ∃ e, d.err = e := ⟨_, rfl⟩
            rw [her] at HP1 HP2
            have hdc := fun {W : World} (h : Below w.heap.size w W) => (HX.out.2.below h).three (map_at (f := dvC) hlt1)
            rw [hde] at hdc
            have HDC := Hi.mk @hdc
            have hxy : (y % 16 = x % 16) ∨ ((x : Int) % 16 ≠ (y : Int) % 16 ∧ v2 = v1) := by
              by_cases h : y % 16 = x % 16
              · exact .inl h
              · exact .inr ⟨by omega, heq h⟩
            clear hv1 hv2 hbs1 hbs2 p1 p2 p3 p4 p5 g1 g2 g3 g4 g5 g6 her hdc hde heq hxe hcx hcy hdf
            obtain ⟨d1, d2, d3⟩ := d
            obtain ⟨u1, u2, u3⟩ := v1
            obtain ⟨z1, z2, z3⟩ := v2
            dsimp only at HP1 HP2 HG1 HG2 HG3 HDC
            have qz : eqDv ⟨z1, z2, z3⟩ ⟨z1, z2, z3⟩ = true := by rw [eqDv_iff]; simp
            obtain ⟨c, hc⟩ : ∃ c : Int, (x : Int) % 16 = c := ⟨_, rfl⟩
            obtain ⟨o, ho⟩ : ∃ o : Int, (y : Int) % 16 = o := ⟨_, rfl⟩
            rw [hc] at HP1 HP2 hxy
            rw [ho] at HG1 HG2 HG3 hxy
            have HXY := Hi.mk (show c = o ∨ (c ≠ o ∧ (⟨z1, z2, z3⟩ : Dv) = ⟨u1, u2, u3⟩) from by
              rcases hxy with h | h
              · exact .inl (by omega)
              · exact .inr h)
            clear hxy hxi hyi
            obtain ⟨⟨m0, m1, m2⟩, ⟨n0, n1, n2⟩⟩ := HI.out.cells
            go_wp2_with (go_at_call 10; ((with_reducible refine (HG1.out _ HI.out.m.mem).mono ?_); rintro e w3 ⟨rfl, hb3⟩; have hk3 := hb3.alloc hb3.size (.cells #[.bool u1, .int .i64 u2, .int .i64 u3] 36); have H3 := Hi.mk (And.intro (HI.out.later hk3) (CB.new w3 36 #[.bool u1, .int .i64 u2, .int .i64 u3])); have hz3 := Hi.mk (Nat.lt_of_lt_of_le HI.out.m.mem.bytes.lt hb3.size); clear hb3 hk3 m0 m1 m2 n0 n1 n2 hc0))
            refine wp_region_noPanic ?_
            refine wp_region_last_drew (S := (fun V => ((V.cell? ⟨w2.heap.size, 0, none⟩ = some (.int .i64 0) ∧ V.cell? ⟨w2.heap.size, 1, none⟩ = some (.int .i64 128) ∧ V.cell? ⟨w2.heap.size, 2, none⟩ = some (.int .i64 0)) ∧ (V.cell? ⟨(w2.heap.size + 1), 0, none⟩ = some (.int .i64 128) ∧ V.cell? ⟨(w2.heap.size + 1), 1, none⟩ = some (.int .i64 32) ∧ V.cell? ⟨(w2.heap.size + 1), 2, none⟩ = some (.int .i64 32))) ∧ (V.cell? ⟨b1, f1 + j * 3, none⟩ = some (.bool d1) ∧ V.cell? ⟨b1, f1 + j * 3 + 1, none⟩ = some (.int .i64 d2) ∧ V.cell? ⟨b1, f1 + j * 3 + 2, none⟩ = some (.int .i64 d3)))) [] (by kernel_rfl) ⟨(H3.out.1.later (below_dr _)).cells, HDC.out (H3.out.1.later (below_dr _)).m.below⟩ (fun hHeld => ?_)
            (try simp only [Array.replicate_succ, Array.replicate_zero, List.push_toArray, List.nil_append, List.cons_append])
            refine wpAnyF_take (i := 0) (v := ?_) (by kernel_rfl) (by kernel_rfl) rfl (by kernel_rfl) (by kernel_rfl) (by kernel_rfl) (fun _ _ _ h => h) (Or.inl ⟨by rfl, ?_⟩) (by assumption) ?_
            rotate_left
            · intro w' hSw; (try dsimp only at hSw); have hq := hSw.1.1; clear hSw; obtain ⟨m0, m1, m2⟩ := hq; go_simp; (try with_reducible rfl)
            (try simp only [Act.put, List.getElem_toArray, List.getElem_cons_zero, List.getElem_cons_succ, List.setIfInBounds_toArray, List.set_cons_zero, List.set_cons_succ])
            refine wpAnyF_take (i := 1) (v := ?_) (by kernel_rfl) (by kernel_rfl) rfl (by kernel_rfl) (by kernel_rfl) (by kernel_rfl) (fun _ _ _ h => h) (Or.inl ⟨by rfl, ?_⟩) (by assumption) ?_
            rotate_left
            · intro w' hSw; (try dsimp only at hSw); clear hSw; go_simp; (try with_reducible rfl)
            (try simp only [Act.put, List.getElem_toArray, List.getElem_cons_zero, List.getElem_cons_succ, List.setIfInBounds_toArray, List.set_cons_zero, List.set_cons_succ])
            refine wpAnyF_take (i := 2) (v := ?_) (by kernel_rfl) (by kernel_rfl) rfl (by kernel_rfl) (by kernel_rfl) (by kernel_rfl) (fun _ _ _ h => h) (Or.inl ⟨by rfl, ?_⟩) (by assumption) ?_
            rotate_left
            · intro w' hSw; (try dsimp only at hSw); clear hSw; go_simp; (try with_reducible rfl)
            (try simp only [Act.put, List.getElem_toArray, List.getElem_cons_zero, List.getElem_cons_succ, List.setIfInBounds_toArray, List.set_cons_zero, List.set_cons_succ])
            refine wpAnyF_take (i := 3) (v := ?_) (by kernel_rfl) (by kernel_rfl) rfl (by kernel_rfl) (by kernel_rfl) (by kernel_rfl) (fun _ _ _ h => h) (Or.inl ⟨by rfl, ?_⟩) (by assumption) ?_
            rotate_left
            · intro w' hSw; (try dsimp only at hSw); clear hSw; go_simp; (try with_reducible rfl)
            (try simp only [Act.put, List.getElem_toArray, List.getElem_cons_zero, List.getElem_cons_succ, List.setIfInBounds_toArray, List.set_cons_zero, List.set_cons_succ])
            refine wpAnyF_take (i := 4) (v := ?_) (by kernel_rfl) (by kernel_rfl) rfl (by kernel_rfl) (by kernel_rfl) (by kernel_rfl) (fun _ _ _ h => h) (Or.inl ⟨by rfl, ?_⟩) (by assumption) ?_
            rotate_left
            · intro w' hSw; (try dsimp only at hSw); clear hSw; go_simp; (try with_reducible rfl)
            (try simp only [Act.put, List.getElem_toArray, List.getElem_cons_zero, List.getElem_cons_succ, List.setIfInBounds_toArray, List.set_cons_zero, List.set_cons_succ])
            refine wpAnyF_take (i := 5) (v := ?_) (by kernel_rfl) (by kernel_rfl) rfl (by kernel_rfl) (by kernel_rfl) (by kernel_rfl) (fun _ _ _ h => h) (Or.inl ⟨by rfl, ?_⟩) (by assumption) ?_
            rotate_left
            · intro w' hSw; (try dsimp only at hSw); clear hSw; go_simp; (try with_reducible rfl)
            (try simp only [Act.put, List.getElem_toArray, List.getElem_cons_zero, List.getElem_cons_succ, List.setIfInBounds_toArray, List.set_cons_zero, List.set_cons_succ])
            refine wpAnyF_take (i := 6) (v := ?_) (by kernel_rfl) (by kernel_rfl) rfl (by kernel_rfl) (by kernel_rfl) (by kernel_rfl) (fun _ _ _ h => h) (Or.inl ⟨by rfl, ?_⟩) (by assumption) ?_
            rotate_left
            · intro w' hSw; (try dsimp only at hSw); have hq := hSw.2; clear hSw; obtain ⟨m0, m1, m2⟩ := hq; go_simp; (try with_reducible rfl)
            (try simp only [Act.put, List.getElem_toArray, List.getElem_cons_zero, List.getElem_cons_succ, List.setIfInBounds_toArray, List.set_cons_zero, List.set_cons_succ])
            refine wpAnyF_take (i := 8) (v := ?_) (by kernel_rfl) (by kernel_rfl) rfl (by kernel_rfl) (by kernel_rfl) (by kernel_rfl) (fun _ _ _ h => h) (Or.inl ⟨by rfl, ?_⟩) (by assumption) ?_
            rotate_left
            · intro w' hSw; (try dsimp only at hSw); have hq := hSw.1.2; clear hSw; obtain ⟨m0, m1, m2⟩ := hq; go_simp; (try with_reducible rfl)
            (try simp only [Act.put, List.getElem_toArray, List.getElem_cons_zero, List.getElem_cons_succ, List.setIfInBounds_toArray, List.set_cons_zero, List.set_cons_succ])
            refine wpAnyF_take (i := 9) (v := ?_) (by kernel_rfl) (by kernel_rfl) rfl (by kernel_rfl) (by kernel_rfl) (by kernel_rfl) (fun _ _ _ h => h) (Or.inl ⟨by rfl, ?_⟩) (by assumption) ?_
            rotate_left
            · intro w' hSw; (try dsimp only at hSw); clear hSw; go_simp; (try with_reducible rfl)
            (try simp only [Act.put, List.getElem_toArray, List.getElem_cons_zero, List.getElem_cons_succ, List.setIfInBounds_toArray, List.set_cons_zero, List.set_cons_succ])
            refine wpAnyF_take (i := 10) (v := ?_) (by kernel_rfl) (by kernel_rfl) rfl (by kernel_rfl) (by kernel_rfl) (by kernel_rfl) (fun _ _ _ h => h) (Or.inl ⟨by rfl, ?_⟩) (by assumption) ?_
            rotate_left
            · intro w' hSw; (try dsimp only at hSw); clear hSw; go_simp; (try with_reducible rfl)
            (try simp only [Act.put, List.getElem_toArray, List.getElem_cons_zero, List.getElem_cons_succ, List.setIfInBounds_toArray, List.set_cons_zero, List.set_cons_succ])
            refine wpAnyF_take (i := 11) (v := ?_) (by kernel_rfl) (by kernel_rfl) rfl (by kernel_rfl) (by kernel_rfl) (by kernel_rfl) (fun _ _ _ h => h) (Or.inl ⟨by rfl, ?_⟩) (by assumption) ?_
            rotate_left
            · intro w' hSw; (try dsimp only at hSw); clear hSw; go_simp; (try with_reducible rfl)
            (try simp only [Act.put, List.getElem_toArray, List.getElem_cons_zero, List.getElem_cons_succ, List.setIfInBounds_toArray, List.set_cons_zero, List.set_cons_succ])
            refine wpAnyF_take (i := 12) (v := ?_) (by kernel_rfl) (by kernel_rfl) rfl (by kernel_rfl) (by kernel_rfl) (by kernel_rfl) (fun _ _ _ h => h) (Or.inl ⟨by rfl, ?_⟩) (by assumption) ?_
            rotate_left
            · intro w' hSw; (try dsimp only at hSw); clear hSw; go_simp; (try with_reducible rfl)
            (try simp only [Act.put, List.getElem_toArray, List.getElem_cons_zero, List.getElem_cons_succ, List.setIfInBounds_toArray, List.set_cons_zero, List.set_cons_succ])
            refine wpAnyF_take (i := 13) (v := ?_) (by kernel_rfl) (by kernel_rfl) rfl (by kernel_rfl) (by kernel_rfl) (by kernel_rfl) (fun _ _ _ h => h) (Or.inl ⟨by rfl, ?_⟩) (by assumption) ?_
            rotate_left
            · intro w' hSw; (try dsimp only at hSw); clear hSw; go_simp; (try with_reducible rfl)
            (try simp only [Act.put, List.getElem_toArray, List.getElem_cons_zero, List.getElem_cons_succ, List.setIfInBounds_toArray, List.set_cons_zero, List.set_cons_succ])
            refine wpAnyF_take (i := 14) (v := ?_) (by kernel_rfl) (by kernel_rfl) rfl (by kernel_rfl) (by kernel_rfl) (by kernel_rfl) (fun _ _ _ h => h) (Or.inl ⟨by rfl, ?_⟩) (by assumption) ?_
            rotate_left
            · intro w' hSw; (try dsimp only at hSw); have hq := hSw.2; clear hSw; obtain ⟨m0, m1, m2⟩ := hq; go_simp; (try with_reducible rfl)
            (try simp only [Act.put, List.getElem_toArray, List.getElem_cons_zero, List.getElem_cons_succ, List.setIfInBounds_toArray, List.set_cons_zero, List.set_cons_succ])
            refine wpAnyF_ready (rs := [7]) (by kernel_rfl) (by simp) ?_
            refine AllReadyF.cons rfl (fun KK hKK => ?_) AllReadyF.nil
            go_simp
            ((with_reducible refine (HP1.out _ (H3.out.1.later (below_dr _)).m.mem).mono ?_); rintro e' w4 ⟨rfl, hm4, hk4⟩; have H4 := Hi.mk (And.intro ((H3.out.1.later (below_dr _)).wrote hk4 hm4) ((H3.out.2.drew).keptB hk4 (fun e => by have := hz3.out; omega))); clear hm4 hk4)
            (try go_simp)
            refine hKK.out _ _ ⟨H4.out.1.cells, HDC.out H4.out.1.m.below⟩ (fun hHeld => ?_)
            clear hKK KK
            (try simp only [Act.put, List.getElem_toArray, List.getElem_cons_zero, List.getElem_cons_succ, List.setIfInBounds_toArray, List.set_cons_zero, List.set_cons_succ])
            refine wpAnyF_ready (rs := [15]) (by kernel_rfl) (by simp) ?_
            refine AllReadyF.cons rfl (fun KK hKK => ?_) AllReadyF.nil
            go_simp
            ((with_reducible refine (HP2.out _ H4.out.1.m.mem).mono ?_); rintro e' w5 ⟨rfl, hm5, hk5⟩; have H5 := Hi.mk (And.intro (H4.out.1.wrote hk5 hm5) (H4.out.2.keptB hk5 (fun e => by have := hz3.out; omega))); clear hm5 hk5)
            (try go_simp)
            refine hKK.out _ _ ⟨H5.out.1.cells, HDC.out H5.out.1.m.below⟩ (fun hHeld => ?_)
            clear hKK KK
            (try simp only [Act.put, List.getElem_toArray, List.getElem_cons_zero, List.getElem_cons_succ, List.setIfInBounds_toArray, List.set_cons_zero, List.set_cons_succ])
            refine wpAnyF_take (i := 16) (v := ?_) (by kernel_rfl) (by kernel_rfl) rfl (by kernel_rfl) (by kernel_rfl) (by kernel_rfl) (fun _ _ _ h => h) (Or.inl ⟨by rfl, ?_⟩) (by assumption) ?_
            rotate_left
            · intro w' hSw; (try dsimp only at hSw); clear hSw; go_simp; (try with_reducible rfl)
            (try simp only [Act.put, List.getElem_toArray, List.getElem_cons_zero, List.getElem_cons_succ, List.setIfInBounds_toArray, List.set_cons_zero, List.set_cons_succ])
            refine wpAnyF_take (i := 17) (v := ?_) (by kernel_rfl) (by kernel_rfl) rfl (by kernel_rfl) (by kernel_rfl) (by kernel_rfl) (fun _ _ _ h => h) (Or.inl ⟨by rfl, ?_⟩) (by assumption) ?_
            rotate_left
            · intro w' hSw; (try dsimp only at hSw); clear hSw; go_simp; (try with_reducible rfl)
            (try simp only [Act.put, List.getElem_toArray, List.getElem_cons_zero, List.getElem_cons_succ, List.setIfInBounds_toArray, List.set_cons_zero, List.set_cons_succ])
            refine wpAnyF_done (by kernel_rfl) ?_ _
            refine NoPanic.normal ?_
            obtain ⟨⟨m0, m1, m2⟩, ⟨n0, n1, n2⟩⟩ := H5.out.1.cells
            rcases HXY.out with rfl | ⟨hne, hvv⟩
            · go_wp2_with (first
                | (go_at_call 10; ((with_reducible refine (HG2.out _ H5.out.1.m.mem).mono ?_); rintro e w6 ⟨rfl, hb6⟩; have hk6 := hb6.alloc hb6.size (.cells #[.bool z1, .int .i64 z2, .int .i64 z3] 36); have H6 := Hi.mk (And.intro (H5.out.1.later hk6) (And.intro (H5.out.2.below hk6) (CB.new w6 36 #[.bool z1, .int .i64 z2, .int .i64 z3]))); clear hb6 hk6 m0 m1 m2 n0 n1 n2; obtain ⟨⟨m0, m1, m2⟩, ⟨n0, n1, n2⟩⟩ := H6.out.1.cells))
                | (go_at_call 10; ((with_reducible refine (HG3.out _ H6.out.1.m.mem).mono ?_); rintro e w7 ⟨rfl, hb7⟩; have hk7 := hb7.alloc hb7.size (.cells #[.bool z1, .int .i64 z2, .int .i64 z3] 36); have H7 := Hi.mk (And.intro (H6.out.1.later hk7) (And.intro (H6.out.2.1.below hk7) (H6.out.2.2.below hk7))); have hz7 := hb7.size; clear hk7 m0 m1 m2 n0 n1 n2; obtain ⟨t0, t1, t2⟩ := CB.three H7.out.2.1; obtain ⟨s0, s1, s2⟩ := CB.three H7.out.2.2; clear hb7)))
              go_roundw
              case rel => exact ⟨j + 1, by go_num, Hi.mk ⟨hlt, _, HP4.out, H7.out.1⟩⟩
              case measure => simp [intOf]; omega
            · obtain ⟨rfl, rfl, rfl⟩ : z1 = u1 ∧ z2 = u2 ∧ z3 = u3 := by simpa using hvv
              have hne2 : (c != o) = true := by simpa using hne
              clear hvv
              go_wp2_with (first
                | (go_at_call 10; ((with_reducible refine (HG2.out _ H5.out.1.m.mem).mono ?_); rintro e w6 ⟨rfl, hb6⟩; have hk6 := hb6.alloc hb6.size (.cells #[.bool z1, .int .i64 z2, .int .i64 z3] 36); have H6 := Hi.mk (And.intro (H5.out.1.later hk6) (And.intro (H5.out.2.below hk6) (CB.new w6 36 #[.bool z1, .int .i64 z2, .int .i64 z3]))); clear hb6 hk6 m0 m1 m2 n0 n1 n2; obtain ⟨⟨m0, m1, m2⟩, ⟨n0, n1, n2⟩⟩ := H6.out.1.cells))
                | (go_at_call 10; ((with_reducible refine (HG3.out _ H6.out.1.m.mem).mono ?_); rintro e w7 ⟨rfl, hb7⟩; have hk7 := hb7.alloc hb7.size (.cells #[.bool z1, .int .i64 z2, .int .i64 z3] 36); have H7 := Hi.mk (And.intro (H6.out.1.later hk7) (And.intro (H6.out.2.1.below hk7) (H6.out.2.2.below hk7))); have hz7 := hb7.size; clear hk7 m0 m1 m2 n0 n1 n2; obtain ⟨t0, t1, t2⟩ := CB.three H7.out.2.1; obtain ⟨s0, s1, s2⟩ := CB.three H7.out.2.2; clear hb7)))
              go_roundw
              case rel => exact ⟨j + 1, by go_num, Hi.mk ⟨hlt, _, HP4.out, H7.out.1⟩⟩
              case measure => simp [intOf]; omega
          · have HE1 := Hi.mk (show ∀ W, MemAt 89 W p g 1000 bs → Calls Try.prog 10 #[.agg #[.int .i64 0, .int .i64 128, .int .i64 0], .pointer (some ⟨p, 0, none⟩), .int .i64 16] W fun e w' => e = .returned (.tuple #[.agg #[.bool false, .int .i64 0, .int .i64 0], .int .i64 180]) ∧ Below W.heap.size W w' from fun W hM => by
              have h := HGF.out p g bs 16 W hM
              have e1 := ent_no (t := flT) (i := 16) (by rw [HO.out.len]; exact fl_right.1) (fl_find_no HO.out.len)
              rwa [getV, e1, if_neg (by decide)] at h)
            have HE2 := Hi.mk (show ∀ W, MemAt 89 W p g 1000 bs → Calls Try.prog 10 #[.agg #[.int .i64 128, .int .i64 32, .int .i64 32], .pointer (some ⟨p, 0, none⟩), .int .i64 16] W fun e w' => e = .returned (.tuple #[.agg #[.bool false, .int .i64 0, .int .i64 0], .int .i64 180]) ∧ Below W.heap.size W w' from fun W hM => by
              have h := HGP.out p g bs 16 W hM
              have e1 := ent_no (t := pgT) (i := 16) (by rw [HO.out.len]; exact fl_right.2) (pg_find_no HO.out.len)
              rwa [getV, e1, if_neg (by decide)] at h)
            obtain ⟨⟨m0, m1, m2⟩, ⟨n0, n1, n2⟩⟩ := HI.out.cells
            go_wp2_with (first
              | (go_at_call 10; ((with_reducible refine (HE1.out _ HI.out.m.mem).mono ?_); rintro e w3 ⟨rfl, hb3⟩; have H3 := Hi.mk (HI.out.later (hb3.alloc hb3.size (.cells #[.bool false, .int .i64 0, .int .i64 0] 36))); clear hb3 m0 m1 m2 n0 n1 n2; obtain ⟨⟨m0, m1, m2⟩, ⟨n0, n1, n2⟩⟩ := H3.out.cells))
              | (go_at_call 10; ((with_reducible refine (HE2.out _ H3.out.m.mem).mono ?_); rintro e w4 ⟨rfl, hb4⟩; have H4 := Hi.mk (H3.out.later (hb4.alloc hb4.size (.cells #[.bool false, .int .i64 0, .int .i64 0] 36))); clear hb4 m0 m1 m2 n0 n1 n2)))
            go_ret
            exact ⟨rfl, H4.out.m.below⟩
        · have HE1 := Hi.mk (show ∀ W, MemAt 89 W p g 1000 bs → Calls Try.prog 10 #[.agg #[.int .i64 0, .int .i64 128, .int .i64 0], .pointer (some ⟨p, 0, none⟩), .int .i64 16] W fun e w' => e = .returned (.tuple #[.agg #[.bool false, .int .i64 0, .int .i64 0], .int .i64 180]) ∧ Below W.heap.size W w' from fun W hM => by
            have h := HGF.out p g bs 16 W hM
            have e1 := ent_no (t := flT) (i := 16) (by rw [HO.out.len]; exact fl_right.1) (fl_find_no HO.out.len)
            rwa [getV, e1, if_neg (by decide)] at h)
          have HE2 := Hi.mk (show ∀ W, MemAt 89 W p g 1000 bs → Calls Try.prog 10 #[.agg #[.int .i64 128, .int .i64 32, .int .i64 32], .pointer (some ⟨p, 0, none⟩), .int .i64 16] W fun e w' => e = .returned (.tuple #[.agg #[.bool false, .int .i64 0, .int .i64 0], .int .i64 180]) ∧ Below W.heap.size W w' from fun W hM => by
            have h := HGP.out p g bs 16 W hM
            have e1 := ent_no (t := pgT) (i := 16) (by rw [HO.out.len]; exact fl_right.2) (pg_find_no HO.out.len)
            rwa [getV, e1, if_neg (by decide)] at h)
          obtain ⟨⟨m0, m1, m2⟩, ⟨n0, n1, n2⟩⟩ := HI.out.cells
          go_wp2_with (first
            | (go_at_call 10; ((with_reducible refine (HE1.out _ HI.out.m.mem).mono ?_); rintro e w3 ⟨rfl, hb3⟩; have H3 := Hi.mk (HI.out.later (hb3.alloc hb3.size (.cells #[.bool false, .int .i64 0, .int .i64 0] 36))); clear hb3 m0 m1 m2 n0 n1 n2; obtain ⟨⟨m0, m1, m2⟩, ⟨n0, n1, n2⟩⟩ := H3.out.cells))
            | (go_at_call 10; ((with_reducible refine (HE2.out _ H3.out.m.mem).mono ?_); rintro e w4 ⟨rfl, hb4⟩; have H4 := Hi.mk (H3.out.later (hb4.alloc hb4.size (.cells #[.bool false, .int .i64 0, .int .i64 0] 36))); clear hb4 m0 m1 m2 n0 n1 n2)))
          go_ret
          exact ⟨rfl, H4.out.m.below⟩

end Go.Proofs.Ytjcjblmaceooaaa
