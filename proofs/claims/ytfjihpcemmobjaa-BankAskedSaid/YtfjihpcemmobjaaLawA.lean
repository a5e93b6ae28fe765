/-
  Structs compared with themselves: lines, entries, candidates. Awake: the document's examples.
-/
import Derived.Test.YtfjihpcemmobjaaRefG
import Derived.Laws.StructEq
namespace Go.Proofs.Ytfjihpcemmobjaa
open Go.ChangeShapes Go.WideShapes Go.ChangeAt Go.RowKit Go.Shelf
set_option linter.unusedVariables false
attribute [local go_sem] Oper.semAt_some

theorem self_irq (d : Nat) (a b c e : Bool) (w : World) : (Op.equalIn (d + 2) 30 (.agg #[.bool a, .bool b, .bool c, .bool e]) (.agg #[.bool a, .bool b, .bool c, .bool e])).run Try.prog w = .ok true w := by
  have u3 := Try.underlying4
  have a3 := Try.isAgg4
  have z3 := Try.sizeOf4
  have hS : Try.prog.underlying 30 = some (.struct (Try.prog.fieldsOf 30)) := by kernel_rfl
  have hp : Try.prog.stoodInHeld 30 = false := by kernel_rfl
  rw [show d + 2 = (d + 1) + 1 from rfl, run_equalIn_agg w (d + 1) _ _ _ hS hp]
  simp only [Program.fieldsOf, Try.underlying30]
  go_simp
theorem self_line (d : Nat) (a b c e en : Bool) (g p : Int) (w : World) : (Op.equalIn (d + 3) 32 (.agg #[.bool a, .bool b, .bool c, .bool e, .bool en, .int .i64 g, .int .i64 p]) (.agg #[.bool a, .bool b, .bool c, .bool e, .bool en, .int .i64 g, .int .i64 p])).run Try.prog w = .ok true w := by
  have hI := self_irq d a b c e
  have u3 := Try.underlying4
  have a3 := Try.isAgg4
  have z3 := Try.sizeOf4
  have u4 := Try.underlying3
  have a4 := Try.isAgg3
  have z4 := Try.sizeOf3
  have a5 := Try.isAgg30
  have z5 := Try.sizeOf30
  have hS : Try.prog.underlying 32 = some (.struct (Try.prog.fieldsOf 32)) := by kernel_rfl
  have hp : Try.prog.stoodInHeld 32 = false := by kernel_rfl
  rw [show d + 3 = (d + 2) + 1 from rfl, run_equalIn_agg w (d + 2) _ _ _ hS hp]
  simp only [Program.fieldsOf, Try.underlying32]
  go_simp
theorem self_entry (d : Nat) (a b c e en : Bool) (g p : Int) (s : ByteArray) (w : World) : (Op.equalIn (d + 4) 62 (.agg #[.bool a, .bool b, .bool c, .bool e, .bool en, .int .i64 g, .int .i64 p, .string s]) (.agg #[.bool a, .bool b, .bool c, .bool e, .bool en, .int .i64 g, .int .i64 p, .string s])).run Try.prog w = .ok true w := by
  have hI := self_line d a b c e en g p
  have u3 := Try.underlying9
  have a3 := Try.isAgg9
  have z3 := Try.sizeOf9
  have a5 := Try.isAgg32
  have z5 := Try.sizeOf32
  have hS : Try.prog.underlying 62 = some (.struct (Try.prog.fieldsOf 62)) := by kernel_rfl
  have hp : Try.prog.stoodInHeld 62 = false := by kernel_rfl
  rw [show d + 4 = (d + 3) + 1 from rfl, run_equalIn_agg w (d + 3) _ _ _ hS hp]
  simp only [Program.fieldsOf, Try.underlying62]
  go_simp
theorem self_cand (i p g : Int) (b : Bool) (w : World) : (Op.equalIn 10000 51 (.agg #[.int .i64 i, .int .i64 p, .int .i64 g, .bool b]) (.agg #[.int .i64 i, .int .i64 p, .int .i64 g, .bool b])).run Try.prog w = .ok true w := by
  have u3 := Try.underlying4
  have a3 := Try.isAgg4
  have z3 := Try.sizeOf4
  have u4 := Try.underlying3
  have a4 := Try.isAgg3
  have z4 := Try.sizeOf3
  have hS : Try.prog.underlying 51 = some (.struct (Try.prog.fieldsOf 51)) := by kernel_rfl
  have hp : Try.prog.stoodInHeld 51 = false := by kernel_rfl
  rw [show (10000 : Nat) = 9999 + 1 from rfl, run_equalIn_agg w 9999 _ _ _ hS hp]
  simp only [Program.fieldsOf, Try.underlying51]
  go_simp
theorem neqL (a b c e en : Bool) (g p : Int) (w : World) : (binOp .neq 32 (.agg #[.bool a, .bool b, .bool c, .bool e, .bool en, .int .i64 g, .int .i64 p]) (.agg #[.bool a, .bool b, .bool c, .bool e, .bool en, .int .i64 g, .int .i64 p])).run Try.prog w = .ok (.bool false) w := by
  rw [run_neq_struct, self_line 9997]; rfl
theorem neqE (a b c e en : Bool) (g p : Int) (s : ByteArray) (w : World) : (binOp .neq 62 (.agg #[.bool a, .bool b, .bool c, .bool e, .bool en, .int .i64 g, .int .i64 p, .string s]) (.agg #[.bool a, .bool b, .bool c, .bool e, .bool en, .int .i64 g, .int .i64 p, .string s])).run Try.prog w = .ok (.bool false) w := by
  rw [run_neq_struct, self_entry 9996]; rfl
theorem eqlE (a b c e en : Bool) (g p : Int) (s : ByteArray) (w : World) : (binOp .eql 62 (.agg #[.bool a, .bool b, .bool c, .bool e, .bool en, .int .i64 g, .int .i64 p, .string s]) (.agg #[.bool a, .bool b, .bool c, .bool e, .bool en, .int .i64 g, .int .i64 p, .string s])).run Try.prog w = .ok (.bool true) w := by
  rw [run_eql_struct, self_entry 9996]; rfl
theorem neqC (i p g : Int) (b : Bool) (w : World) : (binOp .neq 51 (.agg #[.int .i64 i, .int .i64 p, .int .i64 g, .bool b]) (.agg #[.int .i64 i, .int .i64 p, .int .i64 g, .bool b])).run Try.prog w = .ok (.bool false) w := by
  rw [run_neq_struct, self_cand]; rfl
theorem eqlC (i p g : Int) (b : Bool) (w : World) : (binOp .eql 51 (.agg #[.int .i64 i, .int .i64 p, .int .i64 g, .bool b]) (.agg #[.int .i64 i, .int .i64 p, .int .i64 g, .bool b])).run Try.prog w = .ok (.bool true) w := by
  rw [run_eql_struct, self_cand]; rfl
theorem guardL (op : BinOp) (x y : Operand) (xs ys : Array Value) (w : World) : (eqGuard op 32 x y (.agg xs) (.agg ys)).run Try.prog w = .ok () w := run_eqGuard_agg w op _ _ _ _ _ (by kernel_rfl)
theorem guardE (op : BinOp) (x y : Operand) (xs ys : Array Value) (w : World) : (eqGuard op 62 x y (.agg xs) (.agg ys)).run Try.prog w = .ok () w := run_eqGuard_agg w op _ _ _ _ _ (by kernel_rfl)
theorem guardC (op : BinOp) (x y : Operand) (xs ys : Array Value) (w : World) : (eqGuard op 51 x y (.agg xs) (.agg ys)).run Try.prog w = .ok () w := run_eqGuard_agg w op _ _ _ _ _ (by kernel_rfl)
attribute [local go_sem high] neqL neqE eqlE neqC eqlC guardL guardE guardC

/-! ### The document's examples -/
def xS : ByteArray := ⟨#[120]⟩
def awE : En := ⟨⟨⟨false, false, true, false⟩, true, 1, 165⟩, ⟨#[]⟩⟩
theorem aw_put : putR 32 (fresh 2 xS) 32 awE = ([⟨⟨⟨false, false, true, false⟩, true, 1, 160⟩, ⟨#[]⟩⟩, ⟨Ln.zero, xS⟩], 0) := by decide +kernel
theorem aw_ready : bestC (readyL 32 [⟨⟨⟨false, false, true, false⟩, true, 1, 160⟩, ⟨#[]⟩⟩, ⟨Ln.zero, xS⟩] true true) = ⟨32, 160, 1, true⟩ := by decide +kernel
theorem aw_fit : Fit 32 2 := ⟨by decide, by decide, by decide⟩
theorem aw_right : ∀ x ∈ ([⟨⟨⟨false, false, true, false⟩, true, 1, 160⟩, ⟨#[]⟩⟩, ⟨Ln.zero, xS⟩] : List En), x.ln.Right := by
  intro x hx
  simp only [List.mem_cons, List.not_mem_nil, or_false] at hx
  rcases hx with rfl | rfl
  · exact .inr rfl
  · exact .inl rfl

theorem aw1 (w : World) : Calls Try.prog 27 #[.int .i64 32, .int .i64 2, .string { data := #[120] }] w (Made w 32 2 xS) := new_yes 32 2 xS w ⟨by decide, by decide, by decide⟩
theorem aw2 {b g cap : Nat} {W : World} (h : BkAt W b g cap 32 (fresh 2 xS)) : Calls Try.prog 29 #[.pointer (some ⟨b, 0, none⟩), .int .i64 34] W fun e w' => e = .returned (.tuple #[En.zero.v, .int .i64 90]) ∧ Below W.heap.size W w' :=
  get_no h aw_fit ⟨by decide, by decide⟩ (by decide)
theorem aw3 {b g cap : Nat} {W : World} (h : BkAt W b g cap 32 (fresh 2 xS)) : Calls Try.prog 33 #[.pointer (some ⟨b, 0, none⟩), .int .i64 32, awE.v] W fun e w' => e = .returned (.int .i64 0) ∧ After W b g cap 32 [⟨⟨⟨false, false, true, false⟩, true, 1, 160⟩, ⟨#[]⟩⟩, ⟨Ln.zero, xS⟩] w' := by
  have h1 := put_any (x := awE) (id := 32) h aw_fit ⟨by decide, by decide⟩
  rw [aw_put] at h1
  exact h1
theorem aw4 {b g cap : Nat} {W : World} (h : BkAt W b g cap 32 [⟨⟨⟨false, false, true, false⟩, true, 1, 160⟩, ⟨#[]⟩⟩, ⟨Ln.zero, xS⟩]) : Calls Try.prog 21 #[.pointer (some ⟨b, 0, none⟩), .agg #[.bool true, .bool true]] W (Yields W 3 (readyL 32 [⟨⟨⟨false, false, true, false⟩, true, 1, 160⟩, ⟨#[]⟩⟩, ⟨Ln.zero, xS⟩] true true)) :=
  ready_it true true h aw_fit aw_right
theorem aw5 {lo hi' k : Nat} {fv : Value} {W : World} (h : Iter lo hi' k fv (readyL 32 [⟨⟨⟨false, false, true, false⟩, true, 1, 160⟩, ⟨#[]⟩⟩, ⟨Ln.zero, xS⟩] true true) W) : Calls Try.prog 22 #[fv] W fun e w' => e = .returned (.agg #[.int .i64 32, .int .i64 160, .int .i64 1, .bool true]) ∧ Below W.heap.size W w' := by
  have h1 := best_any h
  rw [aw_ready] at h1
  exact h1

set_option maxRecDepth 100000 in
set_option maxHeartbeats 4000000 in
theorem awake_any (w : World) : Calls Try.prog 9 #[] w fun e w' => e = .returned (.bool true) ∧ Below w.heap.size w w' := by
  have C3 := hi (fun b g cap W h => aw3 (b := b) (g := g) (cap := cap) (W := W) h)
  dsimp only [awE, En.v] at C3
  have C2 := hi (fun b g cap W h => aw2 (b := b) (g := g) (cap := cap) (W := W) h)
  dsimp only [En.zero, En.v, Ln.zero, St.zero] at C2
  go_enter Try.func9, Try.ntmps9
  go_wp2_with (first
    | (go_at_call 27; ((with_reducible refine (aw1 _).mono ?_); rintro e w1 ⟨b, g, rfl, hb, hg, hbk, hB⟩; have H1 := hi hbk; have HB1 := hi hB; have HLO := hi (And.intro hb hg); clear hb hg hbk hB))
    | (go_at_call 29; ((with_reducible refine (C2.out _ _ _ _ H1.out).mono ?_); rintro e w2 ⟨rfl, hB⟩; have H2 := hi ((H1.out.below hB).below (bal w2 (.cells #[.bool false, .bool false, .bool false, .bool false, .bool false, .int .i64 0, .int .i64 0, .string ⟨#[]⟩] 62))); have HB2 := hi ((HB1.out.trans (hB.mono HB1.out.size)).alloc (Nat.le_trans HB1.out.size hB.size) (.cells #[.bool false, .bool false, .bool false, .bool false, .bool false, .int .i64 0, .int .i64 0, .string ⟨#[]⟩] 62)); clear hB))
    | (go_at_call 33; ((with_reducible refine (C3.out _ _ _ _ H2.out).mono ?_); rintro e w3 ⟨rfl, hA⟩; have H3 := hi hA.bk; have HB3 := hi (HB2.out.trans (hA.kept.toBelow HB2.out.size (fun i e => by subst e; exact HLO.out.2))); clear hA))
    | (go_at_call 21; ((with_reducible refine (aw4 H3.out).mono ?_); rintro e w4 ⟨fv, rfl, hit, hB⟩; have HIT := hi hit; have HB4 := hi (HB3.out.trans (hB.mono HB3.out.size)); clear hit hB))
    | (go_at_call 22; ((with_reducible refine (aw5 HIT.out).mono ?_); rintro e w5 ⟨rfl, hB⟩; have HB5 := hi ((HB4.out.trans (hB.mono HB4.out.size)).alloc (Nat.le_trans HB4.out.size hB.size) (.cells #[.int .i64 32, .int .i64 160, .int .i64 1, .bool true] 51)); clear hB)))
  go_ret
  exact ⟨rfl, HB5.out⟩

end Go.Proofs.Ytfjihpcemmobjaa
