/-
  A script of acts in memory; what is written is read: plain reckoning.
-/
import Derived.Test.YtkgkfgfnhjhabaaDoorMemM
namespace Go.Proofs.YtkgkfgfnhjhabaaDoor
open Go.ChangeShapes Go.WideShapes Go.ChangeAt Go.RowKit
set_option linter.unusedVariables false
set_option linter.unusedSimpArgs false

/-- The slice v holds the acts xs. -/
def ActsAt (W : World) (v : Value) (xs : List ActD) : Prop :=
  ∃ a cap, v = .slice a xs.length cap ∧ xs.length ≤ 9223372036854775807 ∧ (∀ x ∈ xs, x.Fair) ∧ (xs ≠ [] → ∃ b off : Nat, a = some ⟨b, off, none⟩ ∧ ∀ j x, xs[j]? = some x → ∃ bv, BytesIn W bv x.ys ∧
    W.cell? ⟨b, off + j * 7, none⟩ = some (.int .i64 x.d) ∧ W.cell? ⟨b, off + j * 7 + 1, none⟩ = some (.int .i64 x.a) ∧ W.cell? ⟨b, off + j * 7 + 2, none⟩ = some (.int .i64 x.s) ∧ W.cell? ⟨b, off + j * 7 + 3, none⟩ = some (.int .i64 x.off) ∧
    W.cell? ⟨b, off + j * 7 + 4, none⟩ = some (.int .i64 x.wd) ∧ W.cell? ⟨b, off + j * 7 + 5, none⟩ = some (.int .u64 x.v) ∧ W.cell? ⟨b, off + j * 7 + 6, none⟩ = some bv)

theorem actsAt_read {w W : World} {a : Option Addr} {cap k : Nat} {xs : List ActD} (h : ActsAt w (.slice a xs.length cap) xs) (hb : Below w.heap.size w W) (hk : k < xs.length) :
    ∃ (x : ActD) (bv : Value) (b off : Nat), x ∈ xs ∧ a = some ⟨b, off, none⟩ ∧ x.Fair ∧ BytesIn W bv x.ys ∧
    W.cell? ⟨b, off + k * 7, none⟩ = some (.int .i64 x.d) ∧ W.cell? ⟨b, off + k * 7 + 1, none⟩ = some (.int .i64 x.a) ∧ W.cell? ⟨b, off + k * 7 + 2, none⟩ = some (.int .i64 x.s) ∧ W.cell? ⟨b, off + k * 7 + 3, none⟩ = some (.int .i64 x.off) ∧
    W.cell? ⟨b, off + k * 7 + 4, none⟩ = some (.int .i64 x.wd) ∧ W.cell? ⟨b, off + k * 7 + 5, none⟩ = some (.int .u64 x.v) ∧ W.cell? ⟨b, off + k * 7 + 6, none⟩ = some bv := by
  obtain ⟨a', cap', e, _, hf, hcs⟩ := h
  simp only [Value.slice.injEq, true_and] at e
  obtain ⟨rfl, rfl⟩ := e
  obtain ⟨b, off, rfl, hc⟩ := hcs (fun e => by simp [e] at hk)
  obtain ⟨bv, hy, c0, c1, c2, c3, c4, c5, c6⟩ := hc k xs[k] (List.getElem?_eq_getElem hk)
  have hbl := World.block_lt_of_cell? w _ c0
  have K : ∀ o, W.cell? ⟨b, o, none⟩ = w.cell? ⟨b, o, none⟩ := fun o => hb.cell (p := ⟨b, o, none⟩) hbl
  have hm : xs[k] ∈ xs := List.getElem_mem hk
  exact ⟨xs[k], bv, b, off, hm, rfl, hf _ hm, hy.below hb, (K _).trans c0, (K _).trans c1, (K _).trans c2, (K _).trans c3, (K _).trans c4, (K _).trans c5, (K _).trans c6⟩
theorem ActsAt.below {w W : World} {v : Value} {xs : List ActD} (h : ActsAt w v xs) (hb : Below w.heap.size w W) : ActsAt W v xs := by
  obtain ⟨a, cap, rfl, hl, hf, hcs⟩ := h
  refine ⟨a, cap, rfl, hl, hf, fun hne => ?_⟩
  obtain ⟨b, off, rfl, hc⟩ := hcs hne
  refine ⟨b, off, rfl, fun j x hx => ?_⟩
  obtain ⟨bv, hy, c0, c1, c2, c3, c4, c5, c6⟩ := hc j x hx
  have hbl := World.block_lt_of_cell? w _ c0
  have K : ∀ o, W.cell? ⟨b, o, none⟩ = w.cell? ⟨b, o, none⟩ := fun o => hb.cell (p := ⟨b, o, none⟩) hbl
  exact ⟨bv, hy.below hb, (K _).trans c0, (K _).trans c1, (K _).trans c2, (K _).trans c3, (K _).trans c4, (K _).trans c5, (K _).trans c6⟩

theorem Since.base {w w1 : World} {p g c : Nat} {bs : List Nat} {W : World} (h : Since w1 p g c bs W) (k : Below w.heap.size w w1) : Since w p g c bs W :=
  ⟨h.mem, Nat.le_trans k.size h.p, Nat.le_trans k.size h.g, k.trans (h.below.mono k.size)⟩

/-- Does, its value written out. -/
theorem does_out (p g cap : Nat) (bs : List Nat) (x : ActD) (bv : Value) (w : World) (hx : x.Fair) (hM : MemAt 126 w p g cap bs) (hy : BytesIn w bv x.ys) :
    Calls Tryd.prog 19 #[.pointer (some ⟨p, 0, none⟩), .agg #[.int .i64 x.d, .int .i64 x.a, .int .i64 x.s, .int .i64 x.off, .int .i64 x.wd, .int .u64 x.v, bv]] w fun e w' => e = .returned (.int .i64 (doE bs x)) ∧ MemAt 126 w' p g cap (doL bs x) ∧ Kept (· = g) w w' :=
  does_any p g cap bs x bv w hx hM hy

theorem sub_splice (bs cs : List Nat) (o : Nat) (h : o + cs.length ≤ bs.length) : sub (splice bs o cs) o cs.length = cs := by
  have h1 : (bs.take o).length = o := by simp; omega
  simp only [sub, splice]
  rw [List.drop_append_of_le_length (by omega), List.drop_of_length_le (by omega), List.nil_append, List.take_append_of_le_length (by omega), List.take_of_length_le (by omega)]
theorem num_le (v : Nat) : ∀ k, num (le k v) = v % 256 ^ k
  | 0 => by simp [le, num, Nat.mod_one]
  | k + 1 => by
    rw [le_succ, num_append, num_le v k, le_len, Nat.mod_pow_succ, Nat.mul_comm (256 ^ k)]
theorem splice_in (bs cs : List Nat) (o j : Nat) (h : o + cs.length ≤ bs.length) (hj : j < cs.length) : (splice bs o cs)[o + j]? = cs[j]? := by
  have h1 : (bs.take o).length = o := by simp; omega
  simp only [splice]
  rw [List.getElem?_append_right (by omega), h1, Nat.add_sub_cancel_left, List.getElem?_append_left hj]
theorem le_get (k v j : Nat) (h : j < k) : (le k v)[j]? = some (v / 256 ^ j % 256) := by simp [le, h]
theorem sub_one (bs : List Nat) (o x : Nat) (h : bs[o]? = some x) : num (sub bs o 1) = x := by
  have hl : o < bs.length := (List.getElem?_eq_some_iff.1 h).1
  have e : sub bs o 1 = [x] := by
    simp only [sub]
    rw [List.drop_eq_getElem_cons hl]
    have := (List.getElem?_eq_some_iff.1 h).2
    simp [this]
  rw [e]; simp [num]
/-- A byte of what was written. -/
theorem num_byte (bs : List Nat) (o k v j : Nat) (h : o + k ≤ bs.length) (hj : j < k) : num (sub (splice bs o (le k v)) (o + j) 1) = v / 256 ^ j % 256 :=
  sub_one _ _ _ (by rw [splice_in _ _ _ _ (by rw [le_len]; exact h) (by rw [le_len]; exact hj), le_get _ _ _ hj])
theorem num_all (bs : List Nat) (o k v : Nat) (h : o + k ≤ bs.length) : num (sub (splice bs o (le k v)) o k) = v % 256 ^ k := by
  have := sub_splice bs (le k v) o (by rw [le_len]; exact h)
  rw [le_len] at this
  rw [this, num_le]
theorem mayE_one (S o : Nat) (h : o + 1 ≤ S) (hS : S ≤ 131072) : mayE S o 1 = 0 := by
  refine mayE0 (by decide) (tmod1 _) ⟨by omega, ?_⟩
  have : wrap64 ((S : Int) - 1) = (S : Int) - 1 := by simp only [wrap64]; omega
  rw [this]; omega
theorem and255 (x : Nat) (hx : x < 18446744073709551616) : bits .and .u64 (x : Int) 255 = ((x % 256 : Nat) : Int) := by
  rw [show (255 : Int) = ((255 : Nat) : Int) from rfl, u64_and_nat x 255 hx (by omega), show (255 : Nat) = 2 ^ 8 - 1 by rfl, Nat.and_two_pow_sub_one_eq_mod]
theorem and32 (x : Nat) (hx : x < 18446744073709551616) : bits .and .u64 (x : Int) 4294967295 = ((x % 4294967296 : Nat) : Int) := by
  rw [show (4294967295 : Int) = ((4294967295 : Nat) : Int) from rfl, u64_and_nat x 4294967295 hx (by omega), show (4294967295 : Nat) = 2 ^ 32 - 1 by rfl, Nat.and_two_pow_sub_one_eq_mod]
theorem shr_and (v j : Nat) (hv : v < 18446744073709551616) : bits .and .u64 ((v : Int) / 2 ^ (8 * j)) 255 = ((v / 256 ^ j % 256 : Nat) : Int) := by
  have e0 : ((2 : Int) ^ (8 * j)) = ((256 ^ j : Nat) : Int) := by rw [Int.pow_mul]; simp
  have h1 : v / 256 ^ j < 18446744073709551616 := Nat.lt_of_le_of_lt (Nat.div_le_self _ _) hv
  rw [e0, ← Int.natCast_ediv, and255 _ h1]

end Go.Proofs.YtkgkfgfnhjhabaaDoor
