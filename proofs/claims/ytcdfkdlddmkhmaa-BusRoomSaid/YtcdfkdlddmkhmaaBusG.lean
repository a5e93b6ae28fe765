/-
  Find, where the access may be.
-/
import Derived.Test.YtcdfkdlddmkhmaaBusF
namespace Go.Proofs.Ytcdfkdlddmkhmaa
open Go.ChangeShapes Go.WideShapes Go.ChangeAt Go.RowKit Go.Shelf
open Go.Sort (grow)
set_option linter.unusedVariables false
attribute [local go_sem] Oper.semAt_some

theorem leaf_567 {b B0 : Nat} {addr width off : Int} {x : Sp} {w0 W W7 : World} {pre : List Sp} (hF7 : FI b addr width W7) (hB7 : Below b w0 W7) (hoff : off = IntKind.i64.wrap (addr - x.b)) (hp : (∀ z ∈ pre, covW addr width z = false) ∧ covW addr width x = true) (hk : KW B0 W W7) (hb7 : Below b W W7) :
    KW B0 W ((((((W7.setCell ⟨b + 1 + 1, 0, none⟩ (.int .i64 x.b)).setCell ⟨b + 1 + 1, 1, none⟩ (.int .i64 x.s)).setCell ⟨b + 1 + 1, 2, none⟩ (.int .i64 x.k)).setCell ⟨b + 1 + 1, 3, none⟩ (.int .i64 x.i)).setCell ⟨b + 1 + 1 + 1, 0, none⟩ (.int .i64 off)).setCell ⟨b + 1 + 1 + 1 + 1, 0, none⟩ (.int .i64 0)) ∧ Below b W ((((((W7.setCell ⟨b + 1 + 1, 0, none⟩ (.int .i64 x.b)).setCell ⟨b + 1 + 1, 1, none⟩ (.int .i64 x.s)).setCell ⟨b + 1 + 1, 2, none⟩ (.int .i64 x.k)).setCell ⟨b + 1 + 1, 3, none⟩ (.int .i64 x.i)).setCell ⟨b + 1 + 1 + 1, 0, none⟩ (.int .i64 off)).setCell ⟨b + 1 + 1 + 1 + 1, 0, none⟩ (.int .i64 0)) ∧ (Code.ret = Code.ret ∧ FIx addr width b (pre ++ [x]) ((((((W7.setCell ⟨b + 1 + 1, 0, none⟩ (.int .i64 x.b)).setCell ⟨b + 1 + 1, 1, none⟩ (.int .i64 x.s)).setCell ⟨b + 1 + 1, 2, none⟩ (.int .i64 x.k)).setCell ⟨b + 1 + 1, 3, none⟩ (.int .i64 x.i)).setCell ⟨b + 1 + 1 + 1, 0, none⟩ (.int .i64 off)).setCell ⟨b + 1 + 1 + 1 + 1, 0, none⟩ (.int .i64 0))) ∧ Below b w0 ((((((W7.setCell ⟨b + 1 + 1, 0, none⟩ (.int .i64 x.b)).setCell ⟨b + 1 + 1, 1, none⟩ (.int .i64 x.s)).setCell ⟨b + 1 + 1, 2, none⟩ (.int .i64 x.k)).setCell ⟨b + 1 + 1, 3, none⟩ (.int .i64 x.i)).setCell ⟨b + 1 + 1 + 1, 0, none⟩ (.int .i64 off)).setCell ⟨b + 1 + 1 + 1 + 1, 0, none⟩ (.int .i64 0)) :=
  ⟨hk.trans (((((((KW.refl _ _).trans (KW.set _ _ _)).trans (KW.set _ _ _)).trans (KW.set _ _ _)).trans (KW.set _ _ _)).trans (KW.set _ _ _)).trans (KW.set _ _ _)), ((((((hb7).setCell (p := ⟨b + 1 + 1, 0, none⟩) (by show b ≤ b + 1 + 1; omega) _).setCell (p := ⟨b + 1 + 1, 1, none⟩) (by show b ≤ b + 1 + 1; omega) _).setCell (p := ⟨b + 1 + 1, 2, none⟩) (by show b ≤ b + 1 + 1; omega) _).setCell (p := ⟨b + 1 + 1, 3, none⟩) (by show b ≤ b + 1 + 1; omega) _).setCell (p := ⟨b + 1 + 1 + 1, 0, none⟩) (by show b ≤ b + 1 + 1 + 1; omega) _).setCell (p := ⟨b + 1 + 1 + 1 + 1, 0, none⟩) (by show b ≤ b + 1 + 1 + 1 + 1; omega) _, ⟨rfl, pre, x, rfl, hp.1, hp.2, by rw [← hoff]; exact ⟨((SpBox.set4 (hF7.s2) x).setOther _ _ _ (by omega)).setOther _ _ _ (by omega), box_other (Boxed.set (.int .i64 off) (box_other (box_other (box_other (box_other (hF7.s3) _ _ _ (by omega)) _ _ _ (by omega)) _ _ _ (by omega)) _ _ _ (by omega))) _ _ _ (by omega), Boxed.set (.int .i64 0) (box_other (box_other (box_other (box_other (box_other (hF7.s4) _ _ _ (by omega)) _ _ _ (by omega)) _ _ _ (by omega)) _ _ _ (by omega)) _ _ _ (by omega))⟩⟩, ((((((hB7).setCell (p := ⟨b + 1 + 1, 0, none⟩) (by show b ≤ b + 1 + 1; omega) _).setCell (p := ⟨b + 1 + 1, 1, none⟩) (by show b ≤ b + 1 + 1; omega) _).setCell (p := ⟨b + 1 + 1, 2, none⟩) (by show b ≤ b + 1 + 1; omega) _).setCell (p := ⟨b + 1 + 1, 3, none⟩) (by show b ≤ b + 1 + 1; omega) _).setCell (p := ⟨b + 1 + 1 + 1, 0, none⟩) (by show b ≤ b + 1 + 1 + 1; omega) _).setCell (p := ⟨b + 1 + 1 + 1 + 1, 0, none⟩) (by show b ≤ b + 1 + 1 + 1 + 1; omega) _⟩

theorem FS.drew {Bx b : Nat} {addr : Int} {x : Sp} {W : World} (h : FS Bx b addr x W) : FS Bx b addr x W.drew := ⟨h.ne, h.bx, h.ad, h.s2, h.s3, h.s4⟩
theorem FS.undrew {Bx b : Nat} {addr : Int} {x : Sp} {W : World} (h : FS Bx b addr x W.drew) : FS Bx b addr x W := ⟨h.ne, h.bx, h.ad, h.s2, h.s3, h.s4⟩
theorem leaf_drew {b B0 : Nat} {addr width : Int} {w0 W V : World} {pre : List Sp} (h : KW B0 W V ∧ Below b W V ∧ (Code.ret = Code.ret ∧ FIx addr width b pre V) ∧ Below b w0 V) :
    KW B0 W V.drew ∧ Below b W V.drew ∧ (Code.ret = Code.ret ∧ FIx addr width b pre V.drew) ∧ Below b w0 V.drew := by
  obtain ⟨⟨a1, a2⟩, hbb, ⟨_, ini, x, e1, e2, e3, ⟨f1, f2, f3⟩⟩, hb⟩ := h
  exact ⟨⟨a1, a2⟩, ⟨hbb.os, hbb.tape, hbb.output, hbb.size, hbb.block⟩, ⟨rfl, ini, x, e1, e2, e3, ⟨f1, f2, f3⟩⟩, ⟨hb.os, hb.tape, hb.output, hb.size, hb.block⟩⟩


theorem done_w {b : Nat} {addr width : Int} {W : World} (hF : FI b addr width W) (v : Int) :
    SpBox (((((((W.setCell ⟨b + 1 + 1, 0, none⟩ (.int .i64 0)).setCell ⟨b + 1 + 1, 1, none⟩ (.int .i64 0)).setCell ⟨b + 1 + 1, 2, none⟩ (.int .i64 0)).setCell ⟨b + 1 + 1, 3, none⟩ (.int .i64 0)).setCell ⟨b + 1 + 1 + 1, 0, none⟩ (.int .i64 0)).setCell ⟨b + 1 + 1 + 1 + 1, 0, none⟩ (.int .i64 v))) (b + 1 + 1) Sp.zero ∧ Boxed (((((((W.setCell ⟨b + 1 + 1, 0, none⟩ (.int .i64 0)).setCell ⟨b + 1 + 1, 1, none⟩ (.int .i64 0)).setCell ⟨b + 1 + 1, 2, none⟩ (.int .i64 0)).setCell ⟨b + 1 + 1, 3, none⟩ (.int .i64 0)).setCell ⟨b + 1 + 1 + 1, 0, none⟩ (.int .i64 0)).setCell ⟨b + 1 + 1 + 1 + 1, 0, none⟩ (.int .i64 v))) (b + 1 + 1 + 1) 3 (.int .i64 0) ∧ Boxed (((((((W.setCell ⟨b + 1 + 1, 0, none⟩ (.int .i64 0)).setCell ⟨b + 1 + 1, 1, none⟩ (.int .i64 0)).setCell ⟨b + 1 + 1, 2, none⟩ (.int .i64 0)).setCell ⟨b + 1 + 1, 3, none⟩ (.int .i64 0)).setCell ⟨b + 1 + 1 + 1, 0, none⟩ (.int .i64 0)).setCell ⟨b + 1 + 1 + 1 + 1, 0, none⟩ (.int .i64 v))) (b + 1 + 1 + 1 + 1) 25 (.int .i64 v) ∧ KeepsOthers W (((((((W.setCell ⟨b + 1 + 1, 0, none⟩ (.int .i64 0)).setCell ⟨b + 1 + 1, 1, none⟩ (.int .i64 0)).setCell ⟨b + 1 + 1, 2, none⟩ (.int .i64 0)).setCell ⟨b + 1 + 1, 3, none⟩ (.int .i64 0)).setCell ⟨b + 1 + 1 + 1, 0, none⟩ (.int .i64 0)).setCell ⟨b + 1 + 1 + 1 + 1, 0, none⟩ (.int .i64 v))) ∧ Below b W (((((((W.setCell ⟨b + 1 + 1, 0, none⟩ (.int .i64 0)).setCell ⟨b + 1 + 1, 1, none⟩ (.int .i64 0)).setCell ⟨b + 1 + 1, 2, none⟩ (.int .i64 0)).setCell ⟨b + 1 + 1, 3, none⟩ (.int .i64 0)).setCell ⟨b + 1 + 1 + 1, 0, none⟩ (.int .i64 0)).setCell ⟨b + 1 + 1 + 1 + 1, 0, none⟩ (.int .i64 v))) :=
  ⟨(((hF.s2.set4 Sp.zero).setOther _ _ _ (by omega)).setOther _ _ _ (by omega)),
   box_other (Boxed.set (.int .i64 0) (box_other (box_other (box_other (box_other hF.s3 _ _ _ (by omega)) _ _ _ (by omega)) _ _ _ (by omega)) _ _ _ (by omega))) _ _ _ (by omega),
   Boxed.set (.int .i64 v) (box_other (box_other (box_other (box_other (box_other hF.s4 _ _ _ (by omega)) _ _ _ (by omega)) _ _ _ (by omega)) _ _ _ (by omega)) _ _ _ (by omega)),
   (((((KeepsOthers.setCell _ _ _).trans (KeepsOthers.setCell _ _ _)).trans (KeepsOthers.setCell _ _ _)).trans (KeepsOthers.setCell _ _ _)).trans (KeepsOthers.setCell _ _ _)).trans (KeepsOthers.setCell _ _ _),
   ((((((Below.refl b W).setCell (p := ⟨b + 1 + 1, 0, none⟩) (by show b ≤ b + 1 + 1; omega) _).setCell (p := ⟨b + 1 + 1, 1, none⟩) (by show b ≤ b + 1 + 1; omega) _).setCell (p := ⟨b + 1 + 1, 2, none⟩) (by show b ≤ b + 1 + 1; omega) _).setCell (p := ⟨b + 1 + 1, 3, none⟩) (by show b ≤ b + 1 + 1; omega) _).setCell (p := ⟨b + 1 + 1 + 1, 0, none⟩) (by show b ≤ b + 1 + 1 + 1; omega) _).setCell (p := ⟨b + 1 + 1 + 1 + 1, 0, none⟩) (by show b ≤ b + 1 + 1 + 1 + 1; omega) _⟩

theorem after_w (x : Sp) (w : World) :
    Calls Try.prog 27 #[x.v] w fun e w' => e = .returned (.int .i64 (IntKind.i64.wrap (x.b + x.s))) ∧ w' = w.alloc (.cells #[.int .i64 x.b, .int .i64 x.s, .int .i64 x.k, .int .i64 x.i] 33) := by
  obtain ⟨b, s, k, i⟩ := x
  show Calls Try.prog 27 #[.agg #[.int .i64 b, .int .i64 s, .int .i64 k, .int .i64 i]] w _
  go_enter Try.func27, Try.ntmps27
  go_wp2
  go_ret
  exact ⟨by simp [IntKind.wrap_i64, wrap64], rfl⟩
theorem after_wgrown (x : Sp) (w : World) (n : Nat) (os : Array Obj) :
    Calls Try.prog 27 #[.agg #[.int .i64 x.b, .int .i64 x.s, .int .i64 x.k, .int .i64 x.i]] (grow (w.drewN n) os) fun e w' => e = .returned (.int .i64 (IntKind.i64.wrap (x.b + x.s))) ∧ ∃ q os', w' = grow ((grow (w.drewN n) os).drewN q) os' :=
  (after_w x _).mono fun e w' ⟨he, hw⟩ => ⟨he, 0, #[.cells #[.int .i64 x.b, .int .i64 x.s, .int .i64 x.k, .int .i64 x.i] 33], by rw [hw, Go.Sort.alloc_eq_grow]; rfl⟩

set_option maxRecDepth 100000 in
set_option maxHeartbeats 8000000 in
theorem find_ok (lo hi' p : Nat) (sv : Value) (xs : List Sp) (addr width : Int) (w : World) (hb : BusAt lo hi' w p sv xs) (hh : hi' ≤ w.heap.size) (hok : ∀ x ∈ xs, x.Ok) (hm : mayE 1099511627776 addr width = 0) :
    Calls Try.prog 13 #[.pointer (some ⟨p, 0, none⟩), .int .i64 addr, .int .i64 width] w fun e w' => e = .returned (findT addr (xs.find? (covB addr width))) ∧ Below w.heap.size w w' := by
  obtain ⟨hwd, ha0, ha1⟩ := may_out hm
  have HM := hi (fun W => may_any 1099511627776 addr width W)
  rw [hm] at HM
  obtain ⟨w5, hw5⟩ : ∃ w5, ((((w.alloc (.cells #[.int .i64 addr] 3)).alloc (.cells #[.int .i64 width] 3)).alloc (.cells #[.int .i64 0, .int .i64 0, .int .i64 0, .int .i64 0] 33)).alloc (.cells #[.int .i64 0] 3)).alloc (.cells #[.int .i64 0] 25) = w5 := ⟨_, rfl⟩
  have hB5 : Below w.heap.size w w5 := by rw [← hw5]; exact ((((bal w _).alloc (by simp) _).alloc (by simp; omega) _).alloc (by simp; omega) _).alloc (by simp; omega) _
  have hz5 : w5.heap.size = w.heap.size + 5 := by rw [← hw5]; simp
  have hF5 : FI w.heap.size addr width w5 := by
    rw [← hw5]
    have b0 := ((((Boxed.new w 3 (.int .i64 addr)).alloc (.cells #[.int .i64 width] 3)).alloc (.cells #[.int .i64 0, .int .i64 0, .int .i64 0, .int .i64 0] 33)).alloc (.cells #[.int .i64 0] 3)).alloc (.cells #[.int .i64 0] 25)
    have b1 := (((Boxed.new (w.alloc (.cells #[.int .i64 addr] 3)) 3 (.int .i64 width)).alloc (.cells #[.int .i64 0, .int .i64 0, .int .i64 0, .int .i64 0] 33)).alloc (.cells #[.int .i64 0] 3)).alloc (.cells #[.int .i64 0] 25)
    have b3 := (Boxed.new (((w.alloc (.cells #[.int .i64 addr] 3)).alloc (.cells #[.int .i64 width] 3)).alloc (.cells #[.int .i64 0, .int .i64 0, .int .i64 0, .int .i64 0] 33)) 3 (.int .i64 0)).alloc (.cells #[.int .i64 0] 25)
    have b4 := Boxed.new ((((w.alloc (.cells #[.int .i64 addr] 3)).alloc (.cells #[.int .i64 width] 3)).alloc (.cells #[.int .i64 0, .int .i64 0, .int .i64 0, .int .i64 0] 33)).alloc (.cells #[.int .i64 0] 3)) 25 (.int .i64 0)
    have b2 := SpBox.new ((w.alloc (.cells #[.int .i64 addr] 3)).alloc (.cells #[.int .i64 width] 3)) Sp.zero
    simp only [World.size_alloc] at b1 b2 b3 b4
    exact ⟨b0, b1, (Below.heap_alloc _ _ _ (by simp)).trans ((Below.heap_alloc _ _ _ (by simp)).trans b2), b3, b4⟩
  have hb5 := (hb.mono (Nat.le_refl _) hh).below hB5 (Nat.le_refl _)
  have HS := hi (spans_any lo w.heap.size p sv xs w5 hb5)
  obtain ⟨w6, hw6⟩ : ∃ w6, w5.alloc (.cells #[sv] 22) = w6 := ⟨_, rfl⟩
  have hB6 : Below w5.heap.size w5 w6 := by rw [← hw6]; exact bal w5 _
  have hz6 : w6.heap.size = w5.heap.size + 1 := by rw [← hw6]; simp
  have hstop := values_stops (w.heap.size + 5) lo w.heap.size sv xs w6 (by omega) (by omega) (by rw [← hw6, ← hz5]; exact (Boxed.new w5 _ _).cell) ((hb5.below hB6 (by omega)).sp)
  have hB06 : Below w.heap.size w w6 := hB5.trans (hB6.mono (by omega))
  have hF6 : FI w.heap.size addr width w6 := hF5.kept (below_keeps hB6)
  have hwa : IntKind.i64.wrap (addr + width) = addr + width := by rw [IntKind.wrap_i64]; omega
  have HWA := hi hwa
  have HOK := hi hok
  have zc4 := hF5.ad.cell
  have zc5 := hF5.wd.cell
  clear hwa hF5 hb5 hb hok hm
  refine (callsIn_wide (n := 6)).1 ?_
  refine callsIn_of_wp_marks Try.func13 rfl trivial ?_ rfl
  simp only [Try.ntmps13, List.size_toArray, List.length_cons, List.length_nil, Nat.reduceAdd, Nat.reduceSub, Array.replicate_succ, Array.replicate_zero, List.push_toArray, List.append_toArray, List.nil_append, List.cons_append]
  gi_wp2_with (first
    | (refine ⟨trivial, ?_⟩; gi_at_call 29; ((with_reducible refine (callsIn_wide.2 (HM.out _)).mono ?_); rintro e w1 ⟨rfl, rfl⟩))
    | (refine ⟨trivial, ?_⟩; gi_at_call 30; ((with_reducible refine (callsIn_wide.2 HS.out).mono ?_); rintro e w1 ⟨rfl, rfl⟩))
    | gi_in)
  refine range_win (n := 6) (by omega) (gf := 38) (lb := #[.pointer (some ⟨w.heap.size + 5, 0, none⟩)]) rfl (enters_of Try.func38 (by kernel_rfl) rfl)
    hstop (fun a b => belowK_t a b) (belowK2 (by omega)) (Below.refl _ _) (fun _ => rfl)
    (fun pre W => ((∀ z ∈ pre, covW addr width z = false) ∧ FI w.heap.size addr width W) ∧ Below w.heap.size w W)
    (fun c pre W => (c = .ret ∧ FIx addr width w.heap.size pre W) ∧ Below w.heap.size w W)
    (AbL.and (AbL.and (AbL.pure _ _ (fun pre => ∀ z ∈ pre, covW addr width z = false)) (AbL.own FI.own)) (AbL.below (Nat.le_refl _) (by omega)))
    (fun c => AbL.and (AbL.own (fun s A B row hs hg hr => ⟨hs.1, by obtain ⟨ini, x, e1, e2, e3, e4⟩ := hs.2; exact ⟨ini, x, e1, e2, e3, e4.kept (own_keeps hg hr)⟩⟩)) (AbL.below (Nat.le_refl _) (by omega)))
    ⟨⟨by simp, hF6⟩, hB06⟩
    (fun x a' W => ∃ Bx, w.heap.size + 4 < Bx ∧ SpBox W Bx x ∧ a' = { tmps := #[.pointer (some ⟨p, 0, none⟩), .int .i64 addr, .int .i64 width, undef, .pointer (some ⟨w.heap.size, 0, none⟩), .pointer (some ⟨w.heap.size + 1, 0, none⟩), .pointer (some ⟨w.heap.size + 1 + 1, 0, none⟩), .pointer (some ⟨w.heap.size + 1 + 1 + 1, 0, none⟩), .pointer (some ⟨w.heap.size + 1 + 1 + 1 + 1, 0, none⟩), .int .i64 0, .pointer (some ⟨Bx, 0, none⟩), .int .i64 addr, .int .i64 width, .int .i64 0, .int .i64 0, .bool false, undef, undef, .pointer (some ⟨p, 0, none⟩), .func (.func 38) #[] #[.pointer (some ⟨w.heap.size + 5, 0, none⟩)], x.v, undef, undef, undef, undef, undef, undef, undef, undef, undef, undef, undef, undef, undef, undef, undef, undef, undef, undef], defers := [] })
    (fun x a' => AbL.own (fun s A B row hs hg hr => by obtain ⟨Bx, e0, e1, e2⟩ := hs; exact ⟨Bx, e0, SpBox.own () A B row e1 hg hr, e2⟩))
    ?assign ?body ?done ?stop
  case assign =>
    rintro l pre x W K ⟨⟨hp, hF⟩, hB⟩ hsz hK
    gi_wp2
    exact hK _ _ (KW.of_below (bal W _)) ((bal W _).mono hB.size) ⟨⟨hp, hF.kept (below_keeps (bal W _))⟩, hB.trans ((bal W _).mono hB.size)⟩ ⟨W.heap.size, by omega, SpBox.new W x, rfl⟩
  case body =>
    rintro l pre x a' W hsz ⟨⟨hp, hF⟩, hB⟩ ⟨Bx, hBx, hx, rfl⟩ hlt
    obtain ⟨S, hS⟩ : ∃ S, IntKind.i64.wrap (x.b + x.s) = S := ⟨_, rfl⟩
    have HAF := hi (fun n os => after_wgrown x W n os)
    rw [hS] at HAF
    have hcw : covW addr width x = (decide (x.b ≤ addr) && decide (addr + width ≤ S)) := by unfold covW; rw [hS]
    have HCW := hi hcw
    have hWs := hB.size
    have K : ∀ b c v, b < W.heap.size → W.cell? ⟨b, c, none⟩ = some v → ∀ m os, (grow (W.drewN m) os).cell? ⟨b, c, none⟩ = some v := fun b c v hb hv m os => cell_grown hb hv m os
    have c0 := K _ _ _ hx.lt hx.cells.1
    have c1 := K _ _ _ hx.lt hx.cells.2.1
    have c2 := K _ _ _ hx.lt hx.cells.2.2.1
    have c3 := K _ _ _ hx.lt hx.cells.2.2.2
    have d0 := K _ _ _ hF.ad.lt hF.ad.cell
    have d1 := K _ _ _ hF.wd.lt hF.wd.cell
    have HP := hi hp
    have HF := hi hF
    have HB := hi hB
    have HX := hi hx
    have hwa := HWA.out
    clear hS hcw K hp hF hB hx
    by_cases g1 : x.b ≤ addr
    · have t1 : decide (x.b ≤ addr) = true := by simpa using g1
      by_cases g2 : addr + width ≤ S
      · have t2 : decide (addr + width ≤ S) = true := by simpa using g2
        have hcv : covW addr width x = true := by rw [HCW.out, t1, t2]; rfl
        have hFP : (∀ z ∈ pre, covW addr width z = false) ∧ covW addr width x = true := ⟨HP.out, hcv⟩
        have HFP := hi hFP
        clear g1 g2 hcv hFP
        gi_wp2
        refine region_quiet_r mixed (by kernel_rfl) (by kernel_rfl) ?_
        repeat (refine wpQuietIn_step (fun _ _ _ _ => trivial) (fun K hK => ?_); go_simp; first | (refine hK _ ?_; clear hK K) | (apply Exists.intro; refine ⟨fun _ => ?_, hK _ ?_⟩; (gi_at_call 27; refine CallsIn.inRound l (callsIn_wide.2 (Calls.grown_of (HAF.out _ _)))); clear hK K))
        refine wpQuietIn_nil ?_
        intro _ hw'
        obtain ⟨⟨nq, osq⟩, hw''⟩ := hw'
        subst hw''
        have hbg := below_grow W nq osq
        have hF7 : FI w.heap.size addr width (grow (W.drewN nq) osq) := HF.out.kept (below_keeps hbg)
        have hB7 : Below w.heap.size w (grow (W.drewN nq) osq) := HB.out.trans (hbg.mono HB.out.size)
        have hKW7 : KW w6.heap.size W (grow (W.drewN nq) osq) := KW.of_below hbg
        have hx7' : SpBox (grow (W.drewN nq) osq) Bx x := (hbg.block _ HX.out.lt).trans HX.out
        obtain ⟨off, hx7⟩ : ∃ off, off = IntKind.i64.wrap (addr - x.b) := ⟨_, rfl⟩
        have hFS : FS Bx w.heap.size addr x (grow (W.drewN nq) osq) := ⟨hBx, hx7', hF7.ad, ⟨_, hF7.s2⟩, ⟨_, hF7.s3⟩, ⟨_, hF7.s4⟩⟩
        have hof : IntKind.i64.wrap (addr - x.b) = off := hx7.symm
        have hFP := HFP.out
        have hw7b : Below w.heap.size W (grow (W.drewN nq) osq) := hbg.mono HB.out.size
        obtain ⟨W7, hW7⟩ : ∃ W7, grow (W.drewN nq) osq = W7 := ⟨_, rfl⟩
        rw [hW7] at hF7 hB7 hKW7 hx7' hFS hw7b
        have HW7B := hi hw7b
        clear hw7b
        have HF7 := hi hF7
        have HB7 := hi hB7
        have HK7 := hi hKW7
        have HX7 := hi hx7
        have HFS := hi hFS
        have HOF := hi hof
        clear hF7 hB7 hKW7 hx7' hx7 hFS hof hFP hwa hbg c0 c1 c2 c3 d0 d1
        gi_wp2
        rw [hW7]
        refine region_held_r (S := FS Bx w.heap.size addr x) mixed (by kernel_rfl) (HFS.out.own ⟨rfl, rfl, rfl, Nat.le_refl _, fun _ _ => rfl⟩) (fun hHeld => ?_)
        (try simp only [Array.replicate_succ, Array.replicate_zero, List.push_toArray, List.nil_append, List.cons_append])
        have hof := HOF.out
        refine wpAnyH_take (i := 0) (v := ?_) rfl (by kernel_rfl) (by kernel_rfl) (by kernel_rfl) (fun _ _ _ h => h) (Or.inl ⟨by rfl, ?_⟩) (by assumption) ?_
        rotate_left
        · intro w' hSw; have hq := hSw.cells; obtain ⟨q0, q1, q2, q3, q4⟩ := hq; clear hSw; go_simp; (try with_reducible rfl)
        (try simp only [Act.put, List.getElem_toArray, List.getElem_cons_zero, List.setIfInBounds_toArray, List.set_cons_zero, List.set_cons_succ])
        refine wpAnyH_take (i := 1) (v := ?_) rfl (by kernel_rfl) (by kernel_rfl) (by kernel_rfl) (fun _ _ _ h => h) (Or.inl ⟨by rfl, ?_⟩) (by assumption) ?_
        rotate_left
        · intro w' hSw; have hq := hSw.cells; obtain ⟨q0, q1, q2, q3, q4⟩ := hq; clear hSw; go_simp; (try with_reducible rfl)
        (try simp only [Act.put, List.getElem_toArray, List.getElem_cons_zero, List.getElem_cons_succ, List.setIfInBounds_toArray, List.set_cons_zero, List.set_cons_succ])
        refine wpAnyH_take (i := 2) (v := ?_) rfl (by kernel_rfl) (by kernel_rfl) (by kernel_rfl) (fun _ _ _ h => h) (Or.inl ⟨by rfl, ?_⟩) (by assumption) ?_
        rotate_left
        · intro w' hSw; have hq := hSw.cells; obtain ⟨q0, q1, q2, q3, q4⟩ := hq; clear hSw; go_simp; (try with_reducible rfl)
        (try simp only [Act.put, List.getElem_toArray, List.getElem_cons_zero, List.getElem_cons_succ, List.setIfInBounds_toArray, List.set_cons_zero, List.set_cons_succ])
        refine wpAnyH_take (i := 3) (v := ?_) rfl (by kernel_rfl) (by kernel_rfl) (by kernel_rfl) (fun _ _ _ h => h) (Or.inl ⟨by rfl, ?_⟩) (by assumption) ?_
        rotate_left
        · intro w' hSw; have hq := hSw.cells; obtain ⟨q0, q1, q2, q3, q4⟩ := hq; clear hSw; go_simp; (try with_reducible rfl)
        (try simp only [Act.put, List.getElem_toArray, List.getElem_cons_zero, List.getElem_cons_succ, List.setIfInBounds_toArray, List.set_cons_zero, List.set_cons_succ])
        refine wpAnyH_take (i := 4) (v := ?_) rfl (by kernel_rfl) (by kernel_rfl) (by kernel_rfl) (fun _ _ _ h => h) (Or.inl ⟨by rfl, ?_⟩) (by assumption) ?_
        rotate_left
        · intro w' hSw; have hq := hSw.cells; obtain ⟨q0, q1, q2, q3, q4⟩ := hq; clear hSw; go_simp; (try with_reducible rfl)
        (try simp only [Act.put, List.getElem_toArray, List.getElem_cons_zero, List.getElem_cons_succ, List.setIfInBounds_toArray, List.set_cons_zero, List.set_cons_succ])
        refine wpAnyH_ready (rs := [5]) (by kernel_rfl) (by simp) ?_
        refine AllReadyH.cons rfl (fun KK hKK => ?_) AllReadyH.nil
        have hU := FS.undrew hHeld
        obtain ⟨z, hz⟩ := hU.s2
        have hz1 := hz.cells
        have hz2 := hz.frozen
        obtain ⟨z0, z1, z2, z3⟩ := hz1
        clear hz
        go_simp
        clear z0 z1 z2 z3 hz2
        refine hKK.out _ _ (FS.drew (hU.set2 x)) (fun hHeld => ?_)
        clear hKK KK hU
        (try simp only [Act.put, List.getElem_toArray, List.getElem_cons_zero, List.getElem_cons_succ, List.setIfInBounds_toArray, List.set_cons_zero, List.set_cons_succ])
        refine wpAnyH_ready (rs := [6]) (by kernel_rfl) (by simp) ?_
        refine AllReadyH.cons rfl (fun KK hKK => ?_) AllReadyH.nil
        have hU := FS.undrew hHeld
        obtain ⟨z, hz⟩ := hU.s3
        have z0 := hz.cell
        have z1 := hz.frozen
        clear hz
        go_simp
        clear z0 z1
        refine hKK.out _ _ (FS.drew (hU.set3 _)) (fun hHeld => ?_)
        clear hKK KK hU
        (try simp only [Act.put, List.getElem_toArray, List.getElem_cons_zero, List.getElem_cons_succ, List.setIfInBounds_toArray, List.set_cons_zero, List.set_cons_succ])
        refine wpAnyH_ready (rs := [7]) (by kernel_rfl) (by simp) ?_
        refine AllReadyH.cons rfl (fun KK hKK => ?_) AllReadyH.nil
        have hU := FS.undrew hHeld
        obtain ⟨z, hz⟩ := hU.s4
        have z0 := hz.cell
        have z1 := hz.frozen
        clear hz
        go_simp
        clear z0 z1
        refine hKK.out _ _ (FS.drew (hU.set4 _)) (fun hHeld => ?_)
        clear hKK KK hU
        (try simp only [Act.put, List.getElem_toArray, List.getElem_cons_zero, List.getElem_cons_succ, List.setIfInBounds_toArray, List.set_cons_zero, List.set_cons_succ])
        refine wpAnyH_done (by kernel_rfl) ?_ _
        refine normQ_in ?_
        gi_wp2
        exact leaf_drew (leaf_567 HF7.out HB7.out HX7.out HFP.out HK7.out HW7B.out)
      · have t2 : decide (addr + width ≤ S) = false := by simpa using g2
        have hcv : covW addr width x = false := by rw [HCW.out, t1, t2]; rfl
        have HCV := hi hcv
        clear g1 g2 hcv
        gi_wp2
        refine region_quiet_r mixed (by kernel_rfl) (by kernel_rfl) ?_
        repeat (refine wpQuietIn_step (fun _ _ _ _ => trivial) (fun K hK => ?_); go_simp; first | (refine hK _ ?_; clear hK K) | (apply Exists.intro; refine ⟨fun _ => ?_, hK _ ?_⟩; (gi_at_call 27; refine CallsIn.inRound l (callsIn_wide.2 (Calls.grown_of (HAF.out _ _)))); clear hK K))
        refine wpQuietIn_nil ?_
        intro _ hw'
        obtain ⟨⟨nq, osq⟩, hw''⟩ := hw'
        subst hw''
        have hbg := below_grow W nq osq
        have HBG := hi hbg
        clear hbg
        gi_wp2
        exact ⟨KW.of_below HBG.out, HBG.out.mono HB.out.size, ⟨fun z hz => by
          rcases List.mem_append.1 hz with h | h
          · exact HP.out z h
          · simp at h; subst h; exact HCV.out, HF.out.kept (below_keeps HBG.out)⟩, HB.out.trans (HBG.out.mono HB.out.size)⟩
    · have t1 : decide (x.b ≤ addr) = false := by simpa using g1
      have hcv : covW addr width x = false := by rw [HCW.out, t1]; rfl
      have HCV := hi hcv
      clear g1 hcv
      gi_wp2
      refine region_quiet_r mixed (by kernel_rfl) (by kernel_rfl) ?_
      repeat (refine wpQuietIn_step (fun _ _ _ _ => trivial) (fun K hK => ?_); go_simp; first | (refine hK _ ?_; clear hK K) | (apply Exists.intro; refine ⟨fun _ => ?_, hK _ ?_⟩; (gi_at_call 27; refine CallsIn.inRound l (callsIn_wide.2 (Calls.grown_of (HAF.out _ _)))); clear hK K))
      refine wpQuietIn_nil ?_
      intro _ hw'
      obtain ⟨⟨nq, osq⟩, hw''⟩ := hw'
      subst hw''
      have hbg := below_grow W nq osq
      have HBG := hi hbg
      clear hbg
      gi_wp2
      exact ⟨KW.of_below HBG.out, HBG.out.mono HB.out.size, ⟨fun z hz => by
        rcases List.mem_append.1 hz with h | h
        · exact HP.out z h
        · simp at h; subst h; exact HCV.out, HF.out.kept (below_keeps HBG.out)⟩, HB.out.trans (HBG.out.mono HB.out.size)⟩
  case done =>
    rintro ys W rfl ⟨⟨hp, hF⟩, hB⟩ hK _
    have z0 := hF.s2.cells
    have z1 := hF.s2.frozen
    have z2 := hF.s3.cell
    have z3 := hF.s3.frozen
    have z4 := hF.s4.cell
    have z5 := hF.s4.frozen
    obtain ⟨y0, y1, y2, y3⟩ := z0
    have HF := hi hF
    have HB := hi hB
    have HK := hi hK
    have HP := hi hp
    clear hF hB hK hp
    gi_wp2
    obtain ⟨e1, e2, e3, e4, e5⟩ := done_w HF.out 42
    have hK' := e4.same _ _ HK.out rfl
    refine ⟨by simp, .inl ⟨_, _, rfl, run_takeDeferred hK', ?_⟩⟩
    have k := own_keeps (grownBy_putObj' _ w6.heap.size (.deferred none)) (fun r e => by cases e; exact ⟨_, hK', rfl⟩)
    have hf : ys.find? (covB addr width) = none := find_none fun z hz => by rw [← covW_ok (HOK.out z hz)]; exact HP.out z hz
    exact ⟨_, results_find rfl _ _ (w.heap.size + 1 + 1) (w.heap.size + 1 + 1 + 1) (w.heap.size + 1 + 1 + 1 + 1) Sp.zero 0 42 rfl rfl rfl (k _ _ e1 rfl) (k _ _ e2 rfl) (k _ _ e3 rfl), by rw [hf]; rfl, (HB.out.trans e5).trans (belowK2 (w := w6) hB06.size _ w6.heap.size _ _ (Nat.le_refl _) (by omega) hK' rfl)⟩
  case stop =>
    rintro c pre W hpre ⟨⟨rfl, hx⟩, hB⟩ hK _
    obtain ⟨ini, x, rfl, hini, hcx, hR⟩ := hx
    have hmem : ∀ z ∈ ini ++ [x], z ∈ xs := fun z hz => by obtain ⟨r, rfl⟩ := hpre; exact List.mem_append_left _ hz
    have okx := HOK.out x (hmem x (by simp))
    have hf : xs.find? (covB addr width) = some x := find_some hpre (fun z hz => by rw [← covW_ok (HOK.out z (hmem z (by simp [hz])))]; exact hini z hz) (by rw [← covW_ok okx]; exact hcx)
    have hoff : IntKind.i64.wrap (addr - x.b) = addr - x.b := by
      have h1 : x.b ≤ addr := by unfold covW at hcx; simp at hcx; exact hcx.1
      rw [IntKind.wrap_i64]; have := okx.b0; omega
    rw [hoff] at hR
    gi_wp2
    refine ⟨by simp, .inl ⟨_, _, rfl, run_takeDeferred hK, ?_⟩⟩
    have k : ∀ (i : Nat) (o : Obj), W.heap[i]? = some o → o.isCells = true → (W.putObj w6.heap.size (.deferred none)).heap[i]? = some o := own_keeps (grownBy_putObj' W _ _) (fun r e => by cases e; exact ⟨_, hK, rfl⟩)
    have hR' := hR.kept k
    exact ⟨_, results_find rfl _ _ (w.heap.size + 1 + 1) (w.heap.size + 1 + 1 + 1) (w.heap.size + 1 + 1 + 1 + 1) x (addr - x.b) 0 rfl rfl rfl hR'.s2 hR'.s3 hR'.s4, by rw [hf]; rfl, hB.trans (belowK2 (w := w6) hB06.size W w6.heap.size _ _ (Nat.le_refl _) (by omega) hK rfl)⟩

end Go.Proofs.Ytcdfkdlddmkhmaa
