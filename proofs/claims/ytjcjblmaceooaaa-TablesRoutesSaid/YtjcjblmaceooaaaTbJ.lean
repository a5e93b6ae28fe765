/-
  Devices and routes compared; the document's examples hold (awake): for every call.
-/
import Derived.Laws.StructEq
import Derived.ChangeKeysEq
import Derived.Test.YtjcjblmaceooaaaTbI
namespace Go.Proofs.Ytjcjblmaceooaaa
open Go.ChangeShapes Go.WideShapes Go.ChangeAt Go.RowKit
set_option linter.unusedVariables false
set_option linter.unusedSimpArgs false

def eqDv (a b : Dv) : Bool := a.ok == b.ok && (a.bits == b.bits && (a.at_ == b.at_))
theorem eqDv_iff (a b : Dv) : eqDv a b = decide (a = b) := by
  obtain ⟨a1, a2, a3⟩ := a
  obtain ⟨b1, b2, b3⟩ := b
  rw [Bool.eq_iff_iff]
  simp [eqDv]
set_option maxRecDepth 100000 in
set_option maxHeartbeats 4000000 in
theorem equal_dv (a1 b1 : Bool) (a2 b2 : Int) (a3 b3 : Int) (w : World) : (Op.equalIn 10000 36 (.agg #[.bool a1, .int .i64 a2, .int .i64 a3]) (.agg #[.bool b1, .int .i64 b2, .int .i64 b3])).run Try.prog w = .ok (eqDv ⟨a1, a2, a3⟩ ⟨b1, b2, b3⟩) w := by
  have u3 := Try.underlying4
  have y3 := Try.isAgg4
  have z3 := Try.sizeOf4
  have u4 := Try.underlying3
  have y4 := Try.isAgg3
  have z4 := Try.sizeOf3
  have hS : Try.prog.underlying 36 = some (.struct (Try.prog.fieldsOf 36)) := by kernel_rfl
  have hp : Try.prog.stoodInHeld 36 = false := by kernel_rfl
  rw [show (10000 : Nat) = 9999 + 1 from rfl, run_equalIn_agg w 9999 _ _ _ hS hp]
  simp only [Program.fieldsOf, Try.underlying36]
  have e0 : eqDv ⟨a1, a2, a3⟩ ⟨b1, b2, b3⟩ = (a1 == b1 && (a2 == b2 && (a3 == b3))) := rfl
  rw [e0]
  clear e0
  cases h1 : (a1 == b1)
  · go_simp
  · cases h2 : (a2 == b2)
    · go_simp
    · cases h3 : (a3 == b3) <;> go_simp
theorem eql_dv (a1 b1 : Bool) (a2 b2 : Int) (a3 b3 : Int) (w : World) : (binOp .eql 36 (.agg #[.bool a1, .int .i64 a2, .int .i64 a3]) (.agg #[.bool b1, .int .i64 b2, .int .i64 b3])).run Try.prog w = .ok (.bool (eqDv ⟨a1, a2, a3⟩ ⟨b1, b2, b3⟩)) w := by
  rw [run_eql_struct, equal_dv]; rfl
theorem neq_dv (a1 b1 : Bool) (a2 b2 : Int) (a3 b3 : Int) (w : World) : (binOp .neq 36 (.agg #[.bool a1, .int .i64 a2, .int .i64 a3]) (.agg #[.bool b1, .int .i64 b2, .int .i64 b3])).run Try.prog w = .ok (.bool (!(eqDv ⟨a1, a2, a3⟩ ⟨b1, b2, b3⟩))) w := by
  rw [run_neq_struct, equal_dv]; rfl
theorem guard_dv (op : BinOp) (x y : Operand) (xs ys : Array Value) (w : World) : (eqGuard op 36 x y (.agg xs) (.agg ys)).run Try.prog w = .ok () w := run_eqGuard_agg w op _ _ _ _ _ (by kernel_rfl)

def eqRt (a b : Rt) : Bool := a.num == b.num && (a.coll == b.coll && (a.ok == b.ok))
theorem eqRt_iff (a b : Rt) : eqRt a b = decide (a = b) := by
  obtain ⟨a1, a2, a3⟩ := a
  obtain ⟨b1, b2, b3⟩ := b
  rw [Bool.eq_iff_iff]
  simp [eqRt]
set_option maxRecDepth 100000 in
set_option maxHeartbeats 4000000 in
theorem equal_rt (a1 b1 : Int) (a2 b2 : Int) (a3 b3 : Bool) (w : World) : (Op.equalIn 10000 52 (.agg #[.int .i64 a1, .int .i64 a2, .bool a3]) (.agg #[.int .i64 b1, .int .i64 b2, .bool b3])).run Try.prog w = .ok (eqRt ⟨a1, a2, a3⟩ ⟨b1, b2, b3⟩) w := by
  have u3 := Try.underlying4
  have y3 := Try.isAgg4
  have z3 := Try.sizeOf4
  have u4 := Try.underlying3
  have y4 := Try.isAgg3
  have z4 := Try.sizeOf3
  have hS : Try.prog.underlying 52 = some (.struct (Try.prog.fieldsOf 52)) := by kernel_rfl
  have hp : Try.prog.stoodInHeld 52 = false := by kernel_rfl
  rw [show (10000 : Nat) = 9999 + 1 from rfl, run_equalIn_agg w 9999 _ _ _ hS hp]
  simp only [Program.fieldsOf, Try.underlying52]
  have e0 : eqRt ⟨a1, a2, a3⟩ ⟨b1, b2, b3⟩ = (a1 == b1 && (a2 == b2 && (a3 == b3))) := rfl
  rw [e0]
  clear e0
  cases h1 : (a1 == b1)
  · go_simp
  · cases h2 : (a2 == b2)
    · go_simp
    · cases h3 : (a3 == b3) <;> go_simp
theorem eql_rt (a1 b1 : Int) (a2 b2 : Int) (a3 b3 : Bool) (w : World) : (binOp .eql 52 (.agg #[.int .i64 a1, .int .i64 a2, .bool a3]) (.agg #[.int .i64 b1, .int .i64 b2, .bool b3])).run Try.prog w = .ok (.bool (eqRt ⟨a1, a2, a3⟩ ⟨b1, b2, b3⟩)) w := by
  rw [run_eql_struct, equal_rt]; rfl
theorem neq_rt (a1 b1 : Int) (a2 b2 : Int) (a3 b3 : Bool) (w : World) : (binOp .neq 52 (.agg #[.int .i64 a1, .int .i64 a2, .bool a3]) (.agg #[.int .i64 b1, .int .i64 b2, .bool b3])).run Try.prog w = .ok (.bool (!(eqRt ⟨a1, a2, a3⟩ ⟨b1, b2, b3⟩))) w := by
  rw [run_neq_struct, equal_rt]; rfl
theorem guard_rt (op : BinOp) (x y : Operand) (xs ys : Array Value) (w : World) : (eqGuard op 52 x y (.agg xs) (.agg ys)).run Try.prog w = .ok () w := run_eqGuard_agg w op _ _ _ _ _ (by kernel_rfl)

attribute [local go_sem high] eql_dv neq_dv guard_dv

def xT : Tb := ⟨0, 32, 32⟩
def xD : Dv := ⟨true, 1, 256⟩
def xR : Rt := ⟨8200, 2, true⟩
def x0 : List Nat := List.replicate 512 0
def x1 : List Nat := leadB x0 xT 5 64
def x2 : List Nat := putB x1 xT 5 xD
def x3 : List Nat := setB x2 xD 3 xR
theorem x1_len : x1.length = 512 := leadB_len.trans List.length_replicate
theorem x2_len : x2.length = 512 := putB_len.trans x1_len
theorem x3_len : x3.length = 512 := setB_len.trans x2_len
theorem xe1 : entE x0 xT 5 = 180 ∧ getV x0 xT 5 = ⟨false, 0, 0⟩ := by constructor <;> kernel_rfl
theorem xe2 : leadE x0 xT 5 64 = 0 ∧ tputE x1 xT 5 xD = 0 := by constructor <;> kernel_rfl
theorem xe3 : entE x2 xT 5 = 0 ∧ getV x2 xT 5 = xD := by constructor <;> kernel_rfl
theorem xe4 : accE 512 0 512 72 8 = 0 ∧ rdE x2 0 512 72 8 = 9223372036854776065 := by constructor <;> kernel_rfl
theorem xe5 : setE 512 xD 3 xR = 0 ∧ rdE x3 0 512 280 8 = 9223372045444718600 ∧ accE 512 0 512 280 8 = 0 := by refine ⟨?_, ?_, ?_⟩ <;> kernel_rfl
theorem xe6 : evE 512 xD 4 = 182 ∧ routR x3 xD 4 = ⟨0, 0, false⟩ ∧ evN xD = 4 := by refine ⟨?_, ?_, ?_⟩ <;> kernel_rfl
theorem xT_fair : xT.Fair := by constructor <;> (unfold i64B xT; decide)
theorem xD_fair : xD.Fair := by constructor <;> (unfold i64B xD; decide)

/-- The boxes of awake. -/
structure AwT (w : World) (p g b c : Nat) (bs : List Nat) (W : World) : Prop where
  m : Since w p g 512 bs W
  t : CB W b 32 #[.int .i64 0, .int .i64 32, .int .i64 32]
  d : CB W c 36 #[.bool true, .int .i64 1, .int .i64 256]
  ne : g < b ∧ b < c
theorem AwT.later {w : World} {p g b c : Nat} {bs : List Nat} {W W' : World} (h : AwT w p g b c bs W) (k : Below W.heap.size W W') : AwT w p g b c bs W' := ⟨h.m.later k, h.t.below k, h.d.below k, h.ne⟩
theorem AwT.wrote {w : World} {p g b c : Nat} {bs cs : List Nat} {W W' : World} (h : AwT w p g b c bs W) (k : Kept (· = g) W W') (m : MemAt 89 W' p g 512 cs) : AwT w p g b c cs W' :=
  ⟨h.m.wrote k m, h.t.keptB k (fun e => by have := h.ne; omega), h.d.keptB k (fun e => by have := h.ne; omega), h.ne⟩
theorem AwT.cells {w : World} {p g b c : Nat} {bs : List Nat} {W : World} (h : AwT w p g b c bs W) :
    (W.cell? ⟨b, 0, none⟩ = some (.int .i64 0) ∧ W.cell? ⟨b, 1, none⟩ = some (.int .i64 32) ∧ W.cell? ⟨b, 2, none⟩ = some (.int .i64 32)) ∧ (W.cell? ⟨c, 0, none⟩ = some (.bool true) ∧ W.cell? ⟨c, 1, none⟩ = some (.int .i64 1) ∧ W.cell? ⟨c, 2, none⟩ = some (.int .i64 256)) :=
  ⟨CB.three h.t, CB.three h.d⟩

set_option maxRecDepth 100000 in
set_option maxHeartbeats 8000000 in
theorem awake_any (w : World) : Calls Try.prog 7 #[] w fun e w' => e = .returned (.bool true) ∧ Below w.heap.size w w' := by
  have HN := hi (show ∀ W, Calls Try.prog 21 #[.int .i64 512] W (fun e w' => ∃ p g, e = .returned (.tuple #[.pointer (some ⟨p, 0, none⟩), .int .i64 0]) ∧ Since W p g 512 x0 w') from fun W => (new_yes 512 W (by omega)).mono fun e w' ⟨p, g, h1, h2, h3, h4, h5⟩ => ⟨p, g, h1, h2, h3, h4, h5⟩)
  have HG0 := hi (fun p g W hM => get_any p g 512 x0 xT xT_fair 5 W hM)
  rw [xe1.1, xe1.2] at HG0
  have HLD := hi (fun p g W hM => lead_any p g 512 x0 xT xT_fair 5 64 (by unfold i64B; decide) W hM)
  rw [xe2.1, show leadB x0 xT 5 64 = x1 from rfl] at HLD
  have HPT := hi (fun p g W hM => put_any p g 512 x1 xT xT_fair 5 xD xD_fair W hM)
  rw [xe2.2, show putB x1 xT 5 xD = x2 from rfl] at HPT
  have HG2 := hi (fun p g W hM => get_any p g 512 x2 xT xT_fair 5 W hM)
  rw [xe3.1, xe3.2] at HG2
  have HR2 := hi (fun p g W hM => read_any p g 512 x2 0 512 72 8 W hM (by decide) (by decide) (by decide) (by decide))
  rw [x2_len, xe4.1, xe4.2] at HR2
  have HSR := hi (fun p g W hM => setR_any p g 512 x2 xD xD_fair 3 xR W hM)
  rw [x2_len, xe5.1, show setB x2 xD 3 xR = x3 from rfl] at HSR
  have HR3 := hi (fun p g W hM => read_any p g 512 x3 0 512 280 8 W hM (by decide) (by decide) (by decide) (by decide))
  rw [x3_len, xe5.2.1, xe5.2.2] at HR3
  have HRT := hi (fun p g W hM => route_any p g 512 x3 xD xD_fair 4 W hM)
  rw [x3_len, xe6.1, xe6.2.1] at HRT
  have HEV := hi (fun W => events_any xD W)
  rw [xe6.2.2] at HEV
  unfold xT xD xR at *
  unfold win tupU at HR2 HR3
  (try dsimp only at HG0 HLD HPT HG2 HSR HRT HEV)
  have qd : eqDv ⟨true, 1, 256⟩ ⟨true, 1, 256⟩ = true := by decide
  obtain ⟨y0, hy0⟩ : ∃ l, x0 = l := ⟨_, rfl⟩
  obtain ⟨y1, hy1⟩ : ∃ l, x1 = l := ⟨_, rfl⟩
  obtain ⟨y2, hy2⟩ : ∃ l, x2 = l := ⟨_, rfl⟩
  obtain ⟨y3, hy3⟩ : ∃ l, x3 = l := ⟨_, rfl⟩
  rw [hy0] at HN HG0 HLD
  rw [hy1] at HLD HPT
  rw [hy2] at HPT HG2 HR2 HSR
  rw [hy3] at HSR HR3 HRT
  clear hy0 hy1 hy2 hy3
  go_enter Try.func7, Try.ntmps7
  go_wp2_with (first
    | (go_at_call 21; ((with_reducible refine (HN.out _).mono ?_); rintro e w1 ⟨p, g, rfl, hs1⟩; have H1 := hi (And.intro (hs1.later (bal w1 (.cells #[.int .i64 0, .int .i64 32, .int .i64 32] 32))) (CB.new w1 32 #[.int .i64 0, .int .i64 32, .int .i64 32])); have HGl := hi hs1.mem.bytes.lt; clear hs1))
    | (go_at_call 10; ((with_reducible refine (HG0.out p g _ H1.out.1.mem).mono ?_); rintro e w2 ⟨rfl, hb2⟩; have hk2 := (hb2.alloc hb2.size (.cells #[.bool false, .int .i64 0, .int .i64 0] 36)); have hz2 : w1.heap.size < w2.heap.size + 1 := by { have := hb2.size; simp at this; omega }; have H2 := hi (show AwT w p g w1.heap.size (w2.heap.size + 1) y0 _ from ⟨(H1.out.1.later hk2).later (bal _ (.cells #[.bool true, .int .i64 1, .int .i64 256] 36)), (H1.out.2.below hk2).alloc _, by have := CB.new (w2.alloc (.cells #[.bool false, .int .i64 0, .int .i64 0] 36)) 36 #[.bool true, .int .i64 1, .int .i64 256]; rwa [size_al] at this, HGl.out, hz2⟩); clear hb2 hk2 hz2)))
  refine wp_region_noPanic ?_
  refine wp_region_last_drew (S := (fun V => (V.cell? ⟨w1.heap.size, 0, none⟩ = some (.int .i64 0) ∧ V.cell? ⟨w1.heap.size, 1, none⟩ = some (.int .i64 32) ∧ V.cell? ⟨w1.heap.size, 2, none⟩ = some (.int .i64 32)) ∧ (V.cell? ⟨(w2.heap.size + 1), 0, none⟩ = some (.bool true) ∧ V.cell? ⟨(w2.heap.size + 1), 1, none⟩ = some (.int .i64 1) ∧ V.cell? ⟨(w2.heap.size + 1), 2, none⟩ = some (.int .i64 256)))) [] (by kernel_rfl) ((H2.out.later (below_dr _)).cells) (fun hHeld => ?_)
  (try simp only [Array.replicate_succ, Array.replicate_zero, List.push_toArray, List.nil_append, List.cons_append])
  refine wpAnyF_take (i := 0) (v := ?_) (by kernel_rfl) (by kernel_rfl) rfl (by kernel_rfl) (by kernel_rfl) (by kernel_rfl) (fun _ _ _ h => h) (Or.inl ⟨by rfl, ?_⟩) (by assumption) ?_
  rotate_left
  · intro w' hSw; (try dsimp only at hSw); have hq := hSw.1; clear hSw; obtain ⟨a0, a1, a2⟩ := hq; go_simp; (try with_reducible rfl)
  (try simp only [Act.put, List.getElem_toArray, List.getElem_cons_zero, List.getElem_cons_succ, List.setIfInBounds_toArray, List.set_cons_zero, List.set_cons_succ])
  refine wpAnyF_take (i := 1) (v := ?_) (by kernel_rfl) (by kernel_rfl) rfl (by kernel_rfl) (by kernel_rfl) (by kernel_rfl) (fun _ _ _ h => h) (Or.inl ⟨by rfl, ?_⟩) (by assumption) ?_
  rotate_left
  · intro w' hSw; (try dsimp only at hSw); clear hSw; go_simp; (try with_reducible rfl)
  (try simp only [Act.put, List.getElem_toArray, List.getElem_cons_zero, List.getElem_cons_succ, List.setIfInBounds_toArray, List.set_cons_zero, List.set_cons_succ])
  refine wpAnyF_take (i := 3) (v := ?_) (by kernel_rfl) (by kernel_rfl) rfl (by kernel_rfl) (by kernel_rfl) (by kernel_rfl) (fun _ _ _ h => h) (Or.inl ⟨by rfl, ?_⟩) (by assumption) ?_
  rotate_left
  · intro w' hSw; (try dsimp only at hSw); have hq := hSw.1; clear hSw; obtain ⟨a0, a1, a2⟩ := hq; go_simp; (try with_reducible rfl)
  (try simp only [Act.put, List.getElem_toArray, List.getElem_cons_zero, List.getElem_cons_succ, List.setIfInBounds_toArray, List.set_cons_zero, List.set_cons_succ])
  refine wpAnyF_take (i := 4) (v := ?_) (by kernel_rfl) (by kernel_rfl) rfl (by kernel_rfl) (by kernel_rfl) (by kernel_rfl) (fun _ _ _ h => h) (Or.inl ⟨by rfl, ?_⟩) (by assumption) ?_
  rotate_left
  · intro w' hSw; (try dsimp only at hSw); clear hSw; go_simp; (try with_reducible rfl)
  (try simp only [Act.put, List.getElem_toArray, List.getElem_cons_zero, List.getElem_cons_succ, List.setIfInBounds_toArray, List.set_cons_zero, List.set_cons_succ])
  refine wpAnyF_take (i := 5) (v := ?_) (by kernel_rfl) (by kernel_rfl) rfl (by kernel_rfl) (by kernel_rfl) (by kernel_rfl) (fun _ _ _ h => h) (Or.inl ⟨by rfl, ?_⟩) (by assumption) ?_
  rotate_left
  · intro w' hSw; (try dsimp only at hSw); have hq := hSw.2; clear hSw; obtain ⟨a0, a1, a2⟩ := hq; go_simp; (try with_reducible rfl)
  (try simp only [Act.put, List.getElem_toArray, List.getElem_cons_zero, List.getElem_cons_succ, List.setIfInBounds_toArray, List.set_cons_zero, List.set_cons_succ])
  refine wpAnyF_ready (rs := [2]) (by kernel_rfl) (by simp) ?_
  refine AllReadyF.cons rfl (fun KK hKK => ?_) AllReadyF.nil
  go_simp
  ((with_reducible refine (HLD.out p g _ (H2.out.later (below_dr _)).m.mem).mono ?_); rintro e' w3 ⟨rfl, hm3, hk3⟩; have H3 := hi ((H2.out.later (below_dr _)).wrote hk3 hm3); clear hm3 hk3)
  (try go_simp)
  refine hKK.out _ _ H3.out.cells (fun hHeld => ?_)
  clear hKK KK
  (try simp only [Act.put, List.getElem_toArray, List.getElem_cons_zero, List.getElem_cons_succ, List.setIfInBounds_toArray, List.set_cons_zero, List.set_cons_succ])
  refine wpAnyF_ready (rs := [6]) (by kernel_rfl) (by simp) ?_
  refine AllReadyF.cons rfl (fun KK hKK => ?_) AllReadyF.nil
  go_simp
  ((with_reducible refine (HPT.out p g _ H3.out.m.mem).mono ?_); rintro e' w4 ⟨rfl, hm4, hk4⟩; have H4 := hi (H3.out.wrote hk4 hm4); clear hm4 hk4)
  (try go_simp)
  refine hKK.out _ _ H4.out.cells (fun hHeld => ?_)
  clear hKK KK
  (try simp only [Act.put, List.getElem_toArray, List.getElem_cons_zero, List.getElem_cons_succ, List.setIfInBounds_toArray, List.set_cons_zero, List.set_cons_succ])
  refine wpAnyF_take (i := 7) (v := ?_) (by kernel_rfl) (by kernel_rfl) rfl (by kernel_rfl) (by kernel_rfl) (by kernel_rfl) (fun _ _ _ h => h) (Or.inl ⟨by rfl, ?_⟩) (by assumption) ?_
  rotate_left
  · intro w' hSw; (try dsimp only at hSw); clear hSw; go_simp; (try with_reducible rfl)
  (try simp only [Act.put, List.getElem_toArray, List.getElem_cons_zero, List.getElem_cons_succ, List.setIfInBounds_toArray, List.set_cons_zero, List.set_cons_succ])
  refine wpAnyF_take (i := 8) (v := ?_) (by kernel_rfl) (by kernel_rfl) rfl (by kernel_rfl) (by kernel_rfl) (by kernel_rfl) (fun _ _ _ h => h) (Or.inl ⟨by rfl, ?_⟩) (by assumption) ?_
  rotate_left
  · intro w' hSw; (try dsimp only at hSw); clear hSw; go_simp; (try with_reducible rfl)
  (try simp only [Act.put, List.getElem_toArray, List.getElem_cons_zero, List.getElem_cons_succ, List.setIfInBounds_toArray, List.set_cons_zero, List.set_cons_succ])
  refine wpAnyF_done (by kernel_rfl) ?_ _
  refine NoPanic.normal ?_
  obtain ⟨⟨t0, t1, t2⟩, ⟨d0, d1, d2⟩⟩ := H4.out.cells
  go_wp2_with (first
    | (go_at_call 10; ((with_reducible refine (HG2.out p g _ H4.out.m.mem).mono ?_); rintro e w5 ⟨rfl, hb5⟩; have hk5 := (hb5.alloc hb5.size (.cells #[.bool true, .int .i64 1, .int .i64 256] 36)); have H5 := hi (And.intro (H4.out.later hk5) (CB.new w5 36 #[.bool true, .int .i64 1, .int .i64 256])); have HM6 := hi (Nat.lt_of_lt_of_le H4.out.m.mem.bytes.lt hb5.size); clear hb5 hk5 t0 t1 t2 d0 d1 d2))
    | (go_at_call 22; ((with_reducible refine (HR2.out p g _ H5.out.1.m.mem).mono ?_); rintro e w6 ⟨rfl, hb6⟩; have H6 := hi (And.intro (H5.out.1.later hb6) (And.intro (H5.out.2.below hb6) (Nat.lt_of_lt_of_le H5.out.1.m.mem.bytes.lt hb6.size))); clear hb6; obtain ⟨⟨t0, t1, t2⟩, ⟨d0, d1, d2⟩⟩ := H6.out.1.cells))
    | (go_at_call 16; ((with_reducible refine (HSR.out p g _ H6.out.1.m.mem).mono ?_); rintro e w7 ⟨rfl, hm7, hk7⟩; have H7 := hi (And.intro (H6.out.1.wrote hk7 hm7) (H6.out.2.1.keptB hk7 (fun e => by have := HM6.out; omega))); clear hm7 hk7 t0 t1 t2 d0 d1 d2))
    | (go_at_call 22; ((with_reducible refine (HR3.out p g _ H7.out.1.m.mem).mono ?_); rintro e w8 ⟨rfl, hb8⟩; have H8 := hi (And.intro (H7.out.1.later hb8) (H7.out.2.below hb8)); clear hb8; obtain ⟨⟨t0, t1, t2⟩, ⟨d0, d1, d2⟩⟩ := H8.out.1.cells))
    | (go_at_call 18; ((with_reducible refine (HRT.out p g _ H8.out.1.m.mem).mono ?_); rintro e w9 ⟨rfl, hb9⟩; have hk9 := (hb9.alloc hb9.size (.cells #[.int .i64 0, .int .i64 0, .bool false] 52)); have H9 := hi (And.intro (H8.out.1.later hk9) (H8.out.2.below hk9)); clear hb9 hk9 t0 t1 t2 d0 d1 d2; obtain ⟨⟨t0, t1, t2⟩, ⟨d0, d1, d2⟩⟩ := H9.out.1.cells; obtain ⟨e0, e1, e2⟩ := CB.three H9.out.2))
    | (go_at_call 15; ((with_reducible refine (HEV.out _).mono ?_); rintro e wa ⟨rfl, hba⟩; have HA := hi (H9.out.1.later hba); clear hba)))
  go_ret
  exact ⟨rfl, HA.out.m.below⟩

end Go.Proofs.Ytjcjblmaceooaaa
