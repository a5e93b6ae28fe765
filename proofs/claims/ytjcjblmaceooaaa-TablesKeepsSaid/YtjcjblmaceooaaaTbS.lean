/-
  An act as a record; played: a memory behind some acts.
-/
import Derived.Test.YtjcjblmaceooaaaTbK
import Derived.Test.YtjcjblmaceooaaaTbR
namespace Go.Proofs.Ytjcjblmaceooaaa
open Go.ChangeShapes Go.WideShapes Go.ChangeAt Go.RowKit
set_option linter.unusedVariables false
set_option linter.unusedSimpArgs false

structure Ax where
  dd : Int
  id : Int
  ac : Int
  ev : Int
  d : Dv
  r : Rt
  wa : Int
  ws : Int
  is : Bool
  v : Nat
structure Ax.Fair (x : Ax) : Prop where
  ac : i64B x.ac
  d : x.d.Fair
  wa : i64B x.wa
  ws : i64B x.ws
  v : x.v < 18446744073709551616
def acC (x : Ax) : List Value := [.int .i64 x.dd, .int .i64 x.id, .int .i64 x.ac, .int .i64 x.ev, .bool x.d.ok, .int .i64 x.d.bits, .int .i64 x.d.at_, .int .i64 x.r.num, .int .i64 x.r.coll, .bool x.r.ok, .int .i64 x.wa, .int .i64 x.ws, .bool x.is, .int .u64 (x.v : Int)]
theorem act_at {W : World} {a : Option Addr} {b f : Nat} {xs : List Ax} (h : RowAt W a b f 14 (xs.map acC)) {j : Nat} {x : Ax} (hj : xs[j]? = some x) :
    W.cell? ⟨b, f + j * 14, none⟩ = some (.int .i64 x.dd) ∧ W.cell? ⟨b, f + j * 14 + 1, none⟩ = some (.int .i64 x.id) ∧ W.cell? ⟨b, f + j * 14 + 2, none⟩ = some (.int .i64 x.ac) ∧ W.cell? ⟨b, f + j * 14 + 3, none⟩ = some (.int .i64 x.ev) ∧ W.cell? ⟨b, f + j * 14 + 4, none⟩ = some (.bool x.d.ok) ∧ W.cell? ⟨b, f + j * 14 + 5, none⟩ = some (.int .i64 x.d.bits) ∧ W.cell? ⟨b, f + j * 14 + 6, none⟩ = some (.int .i64 x.d.at_) ∧ W.cell? ⟨b, f + j * 14 + 7, none⟩ = some (.int .i64 x.r.num) ∧ W.cell? ⟨b, f + j * 14 + 8, none⟩ = some (.int .i64 x.r.coll) ∧ W.cell? ⟨b, f + j * 14 + 9, none⟩ = some (.bool x.r.ok) ∧ W.cell? ⟨b, f + j * 14 + 10, none⟩ = some (.int .i64 x.wa) ∧ W.cell? ⟨b, f + j * 14 + 11, none⟩ = some (.int .i64 x.ws) ∧ W.cell? ⟨b, f + j * 14 + 12, none⟩ = some (.bool x.is) ∧ W.cell? ⟨b, f + j * 14 + 13, none⟩ = some (.int .u64 (x.v : Int)) :=
  have hc : (xs.map acC)[j]? = some (acC x) := by rw [List.getElem?_map, hj]; rfl
  ⟨h.cells j _ hc 0 _ rfl, h.cells j _ hc 1 _ rfl, h.cells j _ hc 2 _ rfl, h.cells j _ hc 3 _ rfl, h.cells j _ hc 4 _ rfl, h.cells j _ hc 5 _ rfl, h.cells j _ hc 6 _ rfl, h.cells j _ hc 7 _ rfl, h.cells j _ hc 8 _ rfl, h.cells j _ hc 9 _ rfl, h.cells j _ hc 10 _ rfl, h.cells j _ hc 11 _ rfl, h.cells j _ hc 12 _ rfl, h.cells j _ hc 13 _ rfl⟩

set_option maxRecDepth 100000 in
set_option maxHeartbeats 8000000 in
theorem played_any (t : Tb) (hF : t.Fair) (size : Int) (a : Option Addr) (b f k : Nat) (xs : List Ax) (w : World) (hx : RowAt w a b f 14 (xs.map acC)) (hx1 : ∀ x ∈ xs, x.Fair) :
    Calls Try.prog 19 #[t.v, .int .i64 size, .slice a xs.length k] w fun e w' => ∃ p g bs, e = .returned (.pointer (some ⟨p, 0, none⟩)) ∧ bs.length = newN size ∧ Since w p g (newN size) bs w' := by
  have hl0 := hx.len
  rw [List.length_map] at hl0
  have HX := Hi.mk (hx.below (bal w (.cells (Tb.cs t) 32)))
  have HF := Hi.mk (And.intro hF hx1)
  have HT := Hi.mk (CB.new w 32 (Tb.cs t))
  clear hx hx1 hF
  go_enter Try.func19, Try.ntmps19
  go_wp2_with (go_at_call 8; ((with_reducible refine (lawNew_any size _).mono ?_); rintro e w2 ⟨p, g, q, h, rfl, hB⟩; have HM0 := Hi.mk (Two.of_both hB (Below.refl _ _)); clear hB))
  go_loopw [9] (fun i wr => ∃ j : Nat, i = .int .i64 j ∧ Hi (j ≤ xs.length ∧ ∃ bs bs2 : List Nat, bs.length = newN size ∧ bs2.length = newN size ∧ Two (w.alloc (.cells (Tb.cs t) 32)) p g (newN size) q h (newN size) bs bs2 wr)) (fun i _ => xs.length - (intOf i).toNat)
  case atStart => exact ⟨0, rfl, Hi.mk ⟨Nat.zero_le _, _, _, List.length_replicate, List.length_replicate, HM0.out⟩⟩
  case round =>
    obtain ⟨j, rfl, HJ⟩ := hrel
    have hj := HJ.out.1
    obtain ⟨bs, bs2, hl1, hl2, h2⟩ := HJ.out.2
    have HL := Hi.mk (And.intro hl1 hl2)
    have H2 := Hi.mk h2
    clear hl1 hl2 h2
    by_cases hlt : j < xs.length
    · obtain rfl := HX.out.some (j := j) (by simpa using hlt)
      have hxf := HF.out.2 _ (List.getElem_mem hlt)
      obtain ⟨x, hxe⟩ : ∃ x, xs[j] = x := ⟨_, rfl⟩
      have hxj : xs[j]? = some x := by rw [List.getElem?_eq_getElem hlt, hxe]
      rw [hxe] at hxf
      have hac := fun {W : World} (h : Below (w.alloc (.cells (Tb.cs t) 32)).heap.size (w.alloc (.cells (Tb.cs t) 32)) W) => act_at (HX.out.below h) hxj
      have HAC := Hi.mk @hac
      have htc := fun {W : World} (h : Below (w.alloc (.cells (Tb.cs t) 32)).heap.size (w.alloc (.cells (Tb.cs t) 32)) W) => CB.three (HT.out.below h)
      have HTC := Hi.mk @htc
      have HD := Hi.mk (fun W hT => does_any (w.alloc (.cells (Tb.cs t) 32)) p g (newN size) q h (newN size) bs bs2 t HF.out.1 x.dd x.id x.ac x.ev x.d x.r x.wa x.ws x.is x.v hxf.ac hxf.d hxf.wa hxf.ws hxf.v W hT)
      clear hac htc hxj hxe hxf
      go_wp2
      refine wp_region_noPanic ?_
      refine wp_region_last_drew (S := (fun V => (V.cell? ⟨w.heap.size, 0, none⟩ = some (.int .i64 t.at_) ∧ V.cell? ⟨w.heap.size, 1, none⟩ = some (.int .i64 t.size) ∧ V.cell? ⟨w.heap.size, 2, none⟩ = some (.int .i64 t.page)) ∧ (V.cell? ⟨b, f + j * 14, none⟩ = some (.int .i64 x.dd) ∧ V.cell? ⟨b, f + j * 14 + 1, none⟩ = some (.int .i64 x.id) ∧ V.cell? ⟨b, f + j * 14 + 2, none⟩ = some (.int .i64 x.ac) ∧ V.cell? ⟨b, f + j * 14 + 3, none⟩ = some (.int .i64 x.ev) ∧ V.cell? ⟨b, f + j * 14 + 4, none⟩ = some (.bool x.d.ok) ∧ V.cell? ⟨b, f + j * 14 + 5, none⟩ = some (.int .i64 x.d.bits) ∧ V.cell? ⟨b, f + j * 14 + 6, none⟩ = some (.int .i64 x.d.at_) ∧ V.cell? ⟨b, f + j * 14 + 7, none⟩ = some (.int .i64 x.r.num) ∧ V.cell? ⟨b, f + j * 14 + 8, none⟩ = some (.int .i64 x.r.coll) ∧ V.cell? ⟨b, f + j * 14 + 9, none⟩ = some (.bool x.r.ok) ∧ V.cell? ⟨b, f + j * 14 + 10, none⟩ = some (.int .i64 x.wa) ∧ V.cell? ⟨b, f + j * 14 + 11, none⟩ = some (.int .i64 x.ws) ∧ V.cell? ⟨b, f + j * 14 + 12, none⟩ = some (.bool x.is) ∧ V.cell? ⟨b, f + j * 14 + 13, none⟩ = some (.int .u64 (x.v : Int))))) [] (by kernel_rfl) ⟨HTC.out (H2.out.below.drew), HAC.out (H2.out.below.drew)⟩ (fun hHeld => ?_)
      (try simp only [Array.replicate_succ, Array.replicate_zero, List.push_toArray, List.nil_append, List.cons_append])
      refine wpAnyF_take (i := 0) (v := ?_) (by kernel_rfl) (by kernel_rfl) rfl (by kernel_rfl) (by kernel_rfl) (by kernel_rfl) (fun _ _ _ h => h) (Or.inl ⟨by rfl, ?_⟩) (by assumption) ?_
      rotate_left
      · intro w' hSw; (try dsimp only at hSw); have hq := hSw.1; clear hSw; obtain ⟨m0, m1, m2⟩ := hq; go_simp; (try with_reducible rfl)
      (try simp only [Act.put, List.getElem_toArray, List.getElem_cons_zero, List.getElem_cons_succ, List.setIfInBounds_toArray, List.set_cons_zero, List.set_cons_succ])
      refine wpAnyF_take (i := 1) (v := ?_) (by kernel_rfl) (by kernel_rfl) rfl (by kernel_rfl) (by kernel_rfl) (by kernel_rfl) (fun _ _ _ h => h) (Or.inl ⟨by rfl, ?_⟩) (by assumption) ?_
      rotate_left
      · intro w' hSw; (try dsimp only at hSw); clear hSw; go_simp; (try with_reducible rfl)
      (try simp only [Act.put, List.getElem_toArray, List.getElem_cons_zero, List.getElem_cons_succ, List.setIfInBounds_toArray, List.set_cons_zero, List.set_cons_succ])
      refine wpAnyF_take (i := 2) (v := ?_) (by kernel_rfl) (by kernel_rfl) rfl (by kernel_rfl) (by kernel_rfl) (by kernel_rfl) (fun _ _ _ h => h) (Or.inl ⟨by rfl, ?_⟩) (by assumption) ?_
      rotate_left
      · intro w' hSw; (try dsimp only at hSw); clear hSw; go_simp; (try with_reducible rfl)
      (try simp only [Act.put, List.getElem_toArray, List.getElem_cons_zero, List.getElem_cons_succ, List.setIfInBounds_toArray, List.set_cons_zero, List.set_cons_succ])
      refine wpAnyF_take (i := 3) (v := ?_) (by kernel_rfl) (by kernel_rfl) rfl (by kernel_rfl) (by kernel_rfl) (by kernel_rfl) (fun _ _ _ h => h) (Or.inl ⟨by rfl, ?_⟩) (by assumption) ?_
      rotate_left
      · intro w' hSw; (try dsimp only at hSw); clear hSw; go_simp; (try with_reducible rfl)
      (try simp only [Act.put, List.getElem_toArray, List.getElem_cons_zero, List.getElem_cons_succ, List.setIfInBounds_toArray, List.set_cons_zero, List.set_cons_succ])
      refine wpAnyF_take (i := 4) (v := ?_) (by kernel_rfl) (by kernel_rfl) rfl (by kernel_rfl) (by kernel_rfl) (by kernel_rfl) (fun _ _ _ h => h) (Or.inl ⟨by rfl, ?_⟩) (by assumption) ?_
      rotate_left
      · intro w' hSw; (try dsimp only at hSw); clear hSw; go_simp; (try with_reducible rfl)
      (try simp only [Act.put, List.getElem_toArray, List.getElem_cons_zero, List.getElem_cons_succ, List.setIfInBounds_toArray, List.set_cons_zero, List.set_cons_succ])
      refine wpAnyF_take (i := 5) (v := ?_) (by kernel_rfl) (by kernel_rfl) rfl (by kernel_rfl) (by kernel_rfl) (by kernel_rfl) (fun _ _ _ h => h) (Or.inl ⟨by rfl, ?_⟩) (by assumption) ?_
      rotate_left
      · intro w' hSw; (try dsimp only at hSw); clear hSw; go_simp; (try with_reducible rfl)
      (try simp only [Act.put, List.getElem_toArray, List.getElem_cons_zero, List.getElem_cons_succ, List.setIfInBounds_toArray, List.set_cons_zero, List.set_cons_succ])
      refine wpAnyF_take (i := 6) (v := ?_) (by kernel_rfl) (by kernel_rfl) rfl (by kernel_rfl) (by kernel_rfl) (by kernel_rfl) (fun _ _ _ h => h) (Or.inl ⟨by rfl, ?_⟩) (by assumption) ?_
      rotate_left
      · intro w' hSw; (try dsimp only at hSw); have hq := hSw.2; clear hSw; obtain ⟨m0, m1, m2, m3, m4, m5, m6, m7, m8, m9, m10, m11, m12, m13⟩ := hq; go_simp; (try with_reducible rfl)
      (try simp only [Act.put, List.getElem_toArray, List.getElem_cons_zero, List.getElem_cons_succ, List.setIfInBounds_toArray, List.set_cons_zero, List.set_cons_succ])
      refine wpAnyF_ready (rs := [7]) (by kernel_rfl) (by simp) ?_
      refine AllReadyF.cons rfl (fun KK hKK => ?_) AllReadyF.nil
      go_simp
      ((with_reducible refine (HD.out _ (H2.out.drew)).mono ?_); rintro e' w4 ⟨⟨rb, rfl⟩, bsn, bsm, hln, hlm, ht4⟩; have H4 := Hi.mk (And.intro hln (And.intro hlm ht4)); clear hln hlm ht4)
      (try go_simp)
      refine hKK.out _ _ ⟨HTC.out H4.out.2.2.below, HAC.out H4.out.2.2.below⟩ (fun hHeld => ?_)
      clear hKK KK
      (try simp only [Act.put, List.getElem_toArray, List.getElem_cons_zero, List.getElem_cons_succ, List.setIfInBounds_toArray, List.set_cons_zero, List.set_cons_succ])
      refine wpAnyF_done (by kernel_rfl) ?_ _
      refine NoPanic.normal ?_
      go_wp2
      go_roundw
      case rel => exact ⟨j + 1, by go_num, Hi.mk ⟨hlt, _, _, H4.out.1.trans HL.out.1, H4.out.2.1.trans HL.out.2, H4.out.2.2⟩⟩
      case measure => simp [intOf]; omega
    · go_wp2
      go_ret
      have hb := (bal w (.cells (Tb.cs t) 32)).size
      exact ⟨p, g, bs, rfl, HL.out.1, H2.out.mem, Nat.le_trans hb H2.out.lp, Nat.le_trans hb H2.out.lg, (bal w _).more H2.out.below⟩

end Go.Proofs.Ytjcjblmaceooaaa
