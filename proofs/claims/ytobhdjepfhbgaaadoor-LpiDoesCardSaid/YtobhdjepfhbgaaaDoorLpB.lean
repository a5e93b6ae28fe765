/-
  Package lpi: a part in memory; where a bit is.
-/
import Derived.Test.YtobhdjepfhbgaaaDoorLpA
import Derived.Test.YtobhdjepfhbgaaaDoorRefB
import Derived.Test.YtobhdjepfhbgaaaDoorPrM
namespace Go.Proofs.YtobhdjepfhbgaaaDoor
open Go.ChangeShapes Go.WideShapes Go.ChangeAt Go.RowKit Go.Shelf
set_option linter.unusedVariables false
set_option linter.unusedSimpArgs false

theorem CB.keptB {W W' : World} {B : Nat} {t : TypeId} {cs : Array Value} {bs : Nat → Prop} (h : CB W B t cs) (k : Kept bs W W') (hn : ¬ bs B) : CB W' B t cs := (k.block B h.lt hn).trans h
theorem _root_.Go.RowKit.Below.more {w w1 w2 : World} (h : Below w.heap.size w w1) (k : Below w1.heap.size w1 w2) : Below w.heap.size w w2 := h.trans (k.mono h.size)
theorem Kept.grownT {b : Nat} {A B : World} (hg : A.grownBy B (some b)) : Kept (· = b) A B := ⟨hg.os, hg.tape, hg.output, hg.size, fun k hk hn => hg.block k hk (fun e => hn (Option.some.inj e))⟩
theorem RowAt.keptB {T : TypeId} {W W' : World} {b : Nat} {S : Words} {bs : Nat → Prop} (h : RowAt T W b S) (k : Kept bs W W') (hn : ¬ bs b) : RowAt T W' b S := ⟨(k.block b h.lt hn).trans h.1, h.2⟩
theorem TabW.kept {W W' : World} {bs : Nat → Prop} (h : TabW W) (k : Kept bs W W') (hn : ¬ bs 0) : TabW W' := h.stays (fun i _ h2 => by
  have e : i = 0 := by omega
  subst e
  exact k.block 0 h.lt hn)
/-- New blocks are i's. -/
def grow (κ : Nat → Nat) (n i : Nat) : Nat → Nat := fun b => if b < n then κ b else i
theorem grow_old {κ : Nat → Nat} {n i b : Nat} (h : b < n) : grow κ n i b = κ b := by unfold grow; rw [if_pos h]
theorem grow_new {κ : Nat → Nat} {n i b : Nat} (h : n ≤ b) : grow κ n i b = i := by unfold grow; rw [if_neg (by omega)]
/-- The words hold just those that the part says. -/
def SetIs (S : Words) (x : St) : Prop := ∀ id : Int, memZ S id = (ownB x id && x.P (kOf id))
theorem okM_own {x : St} (h : x.n ≤ 512) {id : Int} (ho : ownB x id = true) : okM id = true := by
  obtain ⟨k, hk, rfl⟩ := ownB_out ho
  simp only [okM, decide_eq_true_eq]; omega
theorem SetIs.upd {S : Words} {x : St} (h : SetIs S x) (hn : x.n ≤ 512) {k : Nat} (hk : k < x.n) (is : Bool) : SetIs (if is = true then putS S ((8192 + k : Nat) : Int) else takeS S ((8192 + k : Nat) : Int)) { x with P := updP x.P k is } := by
  intro id
  have hu : ∀ y : St, y.n = x.n → ownB y id = ownB x id := fun y e => by unfold ownB; rw [e]
  have hu2 := hu { x with P := updP x.P k is } rfl
  rw [hu2]
  show _ = (ownB x id && updP x.P k is (kOf id))
  have hk2 : okM ((8192 + k : Nat) : Int) = true := okM_own hn (by rw [ownB_at]; simpa using hk)
  cases ho : ownB x id
  · have hne : ¬ id = ((8192 + k : Nat) : Int) := fun e => by rw [e, ownB_at] at ho; simp at ho; omega
    have h0 := h id
    rw [ho, Bool.false_and] at h0
    cases is
    · simp only [Bool.false_eq_true, if_false, Bool.false_and, memZ_take, h0]
    · simp only [if_true, Bool.false_and, memZ_put, h0, hk2, Bool.true_and, Bool.false_or, decide_eq_false hne]
  · obtain ⟨j, hj, rfl⟩ := ownB_out ho
    have h0 := h ((8192 + j : Nat) : Int)
    rw [ho, Bool.true_and, kOf_at] at h0
    have he : decide (((8192 + j : Nat) : Int) = ((8192 + k : Nat) : Int)) = decide (j = k) := by rw [decide_eq_decide]; omega
    rw [kOf_at]
    cases is
    · simp only [Bool.false_eq_true, if_false, Bool.true_and, memZ_take, h0, he, updP]
      by_cases e : j = k <;> simp [e]
    · simp only [if_true, Bool.true_and, memZ_put, h0, hk2, he, updP]
      by_cases e : j = k <;> simp [e]
theorem SetIs.none {x : St} (h : ∀ k, x.P k = false) : SetIs S0 x := fun id => by
  rw [h]
  have : memS S0 id.toNat = false := mem_zero _
  simp [memZ, this]
theorem SetIs.from0 {S : Words} {x : St} (h : SetIs S x) (hn : x.n ≤ 512) : MemFrom S 0 (ids (lst x.P x.n)) := by
  refine memFrom_of (by omega) ?_ (fun z hz => ?_) (fun z _ => ?_)
  · have h1 := lst_rise x.P x.n
    unfold Rises ids
    rw [List.pairwise_map]
    exact h1.imp (fun hab => by omega)
  · obtain ⟨k, _, rfl⟩ := ids_mem.1 hz; omega
  · rw [h z, ids_mem, Bool.and_eq_true]
    constructor
    · rintro ⟨k, hk, rfl⟩
      obtain ⟨h1, h2⟩ := lst_mem.1 hk
      exact ⟨by rw [ownB_at]; simpa using h1, by rw [kOf_at]; exact h2⟩
    · rintro ⟨h1, h2⟩
      obtain ⟨k, hk, rfl⟩ := ownB_out h1
      rw [kOf_at] at h2
      exact ⟨k, lst_mem.2 ⟨hk, h2⟩, rfl⟩

/-- The program's part: its cells, its set, its bytes. -/
@[reducible] def lpCs (x : St) (s c cap : Nat) : Array Value := #[.bool x.on, .int .i64 x.pa, .int .i64 x.ps, .int .i64 x.qa, .int .i64 x.qs, .pointer (some ⟨s, 0, none⟩), .slice (some ⟨c, 0, none⟩) x.n cap]
structure LpB (W : World) (l s c cap : Nat) (S : Words) (x : St) : Prop where
  box : CB W l 92 (lpCs x s c cap)
  set : RowAt 120 W s S
  is : SetIs S x
  cfg : BytesAt W c x.cfg
  len : x.cfg.length = x.n
  cap : x.n ≤ cap ∧ cap ≤ maxLen
theorem LpB.ls {W : World} {l s c cap : Nat} {S : Words} {x : St} (h : LpB W l s c cap S x) : l ≠ s := fun e => by
  have h1 := h.box; have h2 := h.set.1
  unfold CB at h1
  rw [e, h2] at h1
  simp only [Option.some.injEq, Obj.cells.injEq] at h1
  exact absurd h1.2.1 (by decide)
theorem LpB.lc {W : World} {l s c cap : Nat} {S : Words} {x : St} (h : LpB W l s c cap S x) : l ≠ c := fun e => by
  have h1 := h.box; obtain ⟨⟨r, h2⟩, _⟩ := h.cfg
  unfold CB at h1
  rw [e, h2] at h1
  simp only [Option.some.injEq, Obj.cells.injEq] at h1
  exact absurd h1.2.1 (by decide)
theorem LpB.sc {W : World} {l s c cap : Nat} {S : Words} {x : St} (h : LpB W l s c cap S x) : s ≠ c := fun e => by
  have h1 := h.set.1; obtain ⟨⟨r, h2⟩, _⟩ := h.cfg
  rw [e, h2] at h1
  simp only [Option.some.injEq, Obj.cells.injEq] at h1
  exact absurd h1.2.1 (by decide)
theorem LpB.kept {A W : World} {l s c cap : Nat} {S : Words} {x : St} (h : LpB A l s c cap S x) {bs : Nat → Prop} (k : Kept bs A W) (h1 : ¬ bs l) (h2 : ¬ bs s) (h3 : ¬ bs c) : LpB W l s c cap S x :=
  ⟨h.box.keptB k h1, h.set.keptB k h2, h.is, h.cfg.of_block (k.block c h.cfg.lt h3), h.len, h.cap⟩
theorem LpB.below {A W : World} {l s c cap : Nat} {S : Words} {x : St} (h : LpB A l s c cap S x) (k : Below A.heap.size A W) : LpB W l s c cap S x :=
  h.kept (bs := fun _ => False) (Kept.of k) (fun e => e) (fun e => e) (fun e => e)
theorem LpB.cells {W : World} {l s c cap : Nat} {S : Words} {x : St} (h : LpB W l s c cap S x) :
    W.cell? ⟨l, 0, none⟩ = some (.bool x.on) ∧ W.cell? ⟨l, 1, none⟩ = some (.int .i64 x.pa) ∧ W.cell? ⟨l, 2, none⟩ = some (.int .i64 x.ps) ∧ W.cell? ⟨l, 3, none⟩ = some (.int .i64 x.qa) ∧ W.cell? ⟨l, 4, none⟩ = some (.int .i64 x.qs) ∧ W.cell? ⟨l, 5, none⟩ = some (.pointer (some ⟨s, 0, none⟩)) ∧ W.cell? ⟨l, 6, none⟩ = some (.slice (some ⟨c, 0, none⟩) x.n cap) :=
  ⟨h.box.cell 0, h.box.cell 1, h.box.cell 2, h.box.cell 3, h.box.cell 4, h.box.cell 5, h.box.cell 6⟩

/-- What its own questions read of it. -/
structure LpH (W : World) (l s c cap : Nat) (S : Words) (x : St) : Prop where
  box : CB W l 92 (lpCs x s c cap)
  set : x.on = true → RowAt 120 W s S ∧ SetIs S x
theorem LpB.hd {W : World} {l s c cap : Nat} {S : Words} {x : St} (h : LpB W l s c cap S x) : LpH W l s c cap S x := ⟨h.box, fun _ => ⟨h.set, h.is⟩⟩
theorem LpH.kept {A W : World} {l s c cap : Nat} {S : Words} {x : St} (h : LpH A l s c cap S x) {bs : Nat → Prop} (k : Kept bs A W) (h1 : ¬ bs l) (h2 : x.on = true → ¬ bs s) : LpH W l s c cap S x :=
  ⟨h.box.keptB k h1, fun e => ⟨(h.set e).1.keptB k (h2 e), (h.set e).2⟩⟩
theorem LpH.below {A W : World} {l s c cap : Nat} {S : Words} {x : St} (h : LpH A l s c cap S x) (k : Below A.heap.size A W) : LpH W l s c cap S x :=
  h.kept (bs := fun _ => False) (Kept.of k) (fun e => e) (fun _ e => e)
theorem LpH.cells {W : World} {l s c cap : Nat} {S : Words} {x : St} (h : LpH W l s c cap S x) :
    W.cell? ⟨l, 0, none⟩ = some (.bool x.on) ∧ W.cell? ⟨l, 1, none⟩ = some (.int .i64 x.pa) ∧ W.cell? ⟨l, 2, none⟩ = some (.int .i64 x.ps) ∧ W.cell? ⟨l, 3, none⟩ = some (.int .i64 x.qa) ∧ W.cell? ⟨l, 4, none⟩ = some (.int .i64 x.qs) ∧ W.cell? ⟨l, 5, none⟩ = some (.pointer (some ⟨s, 0, none⟩)) ∧ W.cell? ⟨l, 6, none⟩ = some (.slice (some ⟨c, 0, none⟩) x.n cap) :=
  ⟨h.box.cell 0, h.box.cell 1, h.box.cell 2, h.box.cell 3, h.box.cell 4, h.box.cell 5, h.box.cell 6⟩

set_option maxHeartbeats 1000000 in
theorem place_any (k : Nat) (hk : k < 16384) (w : World) : Calls Tryd.prog 78 #[.int .i64 ((8192 + k : Nat) : Int)] w fun e w' => e = .returned (.tuple #[.int .i64 ((k / 8 : Nat) : Int), .int .u8 ((2 ^ (k % 8) : Nat) : Int)]) ∧ ∃ n, w' = w.drewN n := by
  obtain ⟨z, hz⟩ : ∃ z : Int, ((8192 + k : Nat) : Int) = z := ⟨_, rfl⟩
  have hw : IntKind.i64.wrap (z - 8192) = (k : Int) := by rw [IntKind.wrap_i64]; omega
  have h1 : wrap64 ((k : Int).tdiv 8) = ((k / 8 : Nat) : Int) := by
    rw [Int.tdiv_eq_ediv_of_nonneg (by omega)]; simp only [wrap64]; omega
  have h0 : (0 : Int) ≤ (k : Int) := by omega
  rw [hz]
  clear hz
  go_enter Tryd.func78, Tryd.ntmps78
  go_wp2
  go_quiet (fail)
  go_wp2
  go_ret2
  have e0 : ((2 ^ (k % 8) : Nat) : Int) = (2 : Int) ^ (k % 8) := by simp
  have e1 : 2 ^ (k % 8) < 2 ^ 8 := Nat.pow_lt_pow_right (by omega) (by omega)
  have e2 : (2 : Int) ^ (k % 8) % 256 = ((2 ^ (k % 8) : Nat) : Int) := by
    rw [← e0]
    exact Int.emod_eq_of_lt (Int.natCast_nonneg _) (Int.ofNat_lt.2 e1)
  refine ⟨?_, _, rfl⟩
  rw [← e2]
  rfl

end Go.Proofs.YtobhdjepfhbgaaaDoor
