/-
  The document's rows of the distributor's frame: bits, dist.
-/
import Derived.Test.YtjgamfonpagkbaaRefC
namespace Go.Proofs.Ytjgamfonpagkbaa
open Go.ChangeShapes Go.WideShapes Go.ChangeAt Go.RowKit Go.Shelf
set_option linter.unusedVariables false
attribute [local go_sem] Oper.semAt_some

/-- A row: from, to, width, register, first, of, per. -/
structure Rr where
  fr : Int
  to : Int
  wd : Int
  r : Int
  f : Int
  o : Int
  p : Int
deriving Inhabited
def Rr.cs (x : Rr) : List Value := [.int .i64 x.fr, .int .i64 x.to, .int .i64 x.wd, .int .i64 x.r, .int .i64 x.f, .int .i64 x.o, .int .i64 x.p]
abbrev Rr.ca (x : Rr) : Array Value := #[.int .i64 x.fr, .int .i64 x.to, .int .i64 x.wd, .int .i64 x.r, .int .i64 x.f, .int .i64 x.o, .int .i64 x.p]
theorem rr_len (x : Rr) : x.cs.length = 7 := rfl
abbrev flR (xs : List Rr) : List Value := flat Rr.cs xs
theorem flR_len (xs : List Rr) : (flR xs).length = xs.length * 7 := flat_len rr_len xs
theorem rr_one (x : Rr) : ∀ v ∈ x.cs, v.oneCell' = true := by
  intro v hv
  simp only [Rr.cs, List.mem_cons, List.not_mem_nil, or_false] at hv
  rcases hv with rfl | rfl | rfl | rfl | rfl | rfl | rfl <;> rfl
theorem info_rr : (Try.prog.info? 98).map (fun i => (i.zero, i.size, i.bytes)) = some (some (.agg #[.int .i64 0, .int .i64 0, .int .i64 0, .int .i64 0, .int .i64 0, .int .i64 0, .int .i64 0]), 7, 56) := by kernel_rfl
theorem own_later {W W' : World} {base sz : Nat} {te : TypeId} {v : Value} {n : Nat} {cs : List Value} (h : W.ownsRow base te sz v n cs) (k : Below W.heap.size W W') : W'.ownsRow base te sz v n cs :=
  h.kept (Below.grew k) (by cases ho : v.ownBlock with
    | none => exact .inl rfl
    | some b => exact .inr (by simp))
theorem cells_new (w : World) (cs : List Value) (t : TypeId) : ∀ j u, cs[j]? = some u → (w.alloc (.cells cs.toArray t)).cell? ((⟨w.heap.size, 0, none⟩ : Addr).add j) = some u := by
  intro j u h
  rw [addr_add, Nat.zero_add, (CB.new w t _).cell]
  simpa using h

def bitRow (k : Nat) : Rr := ⟨128 + 128 * k, 128 + 128 * k + 128, 4, 4 + k, 0, 8, 1⟩
def bitRows (k : Nat) : List Rr := (List.range k).map bitRow
theorem bitRows_len (k : Nat) : (bitRows k).length = k := by simp [bitRows]
theorem flR_bits (k : Nat) : flR (bitRows (k + 1)) = flR (bitRows k) ++ (bitRow k).cs := by
  rw [bitRows, List.range_succ, List.map_append, flR, flat_append]
  rfl
abbrev regsA : Array Value := #[.int .i64 4, .int .i64 5, .int .i64 6, .int .i64 7, .int .i64 8, .int .i64 9, .int .i64 10]
theorem regs_at {W : World} {B : Nat} {t : TypeId} (h : CB W B t regsA) {k : Nat} (hk : k < 7) : W.cell? ⟨B, k, none⟩ = some (.int .i64 (4 + k)) := by
  rw [h.cell]
  match k, hk with
  | 0, _ => rfl
  | 1, _ => rfl
  | 2, _ => rfl
  | 3, _ => rfl
  | 4, _ => rfl
  | 5, _ => rfl
  | 6, _ => rfl
  | k + 7, hk => omega

/-- Where bits' loop stands. -/
structure BW (w : World) (k : Nat) (v : Value) (W : World) : Prop where
  rg : CB W w.heap.size 35 regsA
  o : W.ownsRow (w.heap.size + 1) 98 7 v k (flR (bitRows k))
  below : Below w.heap.size w W
theorem BW.next {w W w9 : World} {k : Nat} {v v' : Value} {tmp : Obj} (h : BW w k v W) (ho : w9.ownsRow (w.heap.size + 1) 98 7 v' (k + 1) (flR (bitRows k) ++ (bitRow k).cs)) (hg : (W.alloc tmp).grownBy w9 v.ownBlock) : BW w (k + 1) v' w9 :=
  ⟨CB.kept (h.rg.alloc tmp) hg (own_above h.o (by omega)), by rw [flR_bits]; exact ho, (h.below.alloc h.below.size tmp).grown hg (by have := h.below.size; simp; omega) (fun j e => by have := (h.o.lt j e).1; omega)⟩
/-- What bits, dist leave. -/
def Rowed (w : World) (n : Nat) (xs : List Rr) (e : Ending) (w' : World) : Prop := ∃ v, e = .returned v ∧ w'.ownsRow w.heap.size 98 7 v n (flR xs) ∧ Below w.heap.size w w'

set_option maxRecDepth 100000 in
set_option maxHeartbeats 4000000 in
theorem bits_any (w : World) : Calls Try.prog 48 #[.int .i64 128, .int .i64 128, .int .i64 128] w (Rowed w 7 (bitRows 7)) := by
  obtain ⟨i0, hi2, hz0, hz1, hz2⟩ := info_parts info_rr
  have H0 := hi (show BW w 0 (.slice none 0 0) (w.alloc (.cells regsA 35)) from ⟨CB.new _ _ _, World.ownsRow_nil _ _ _ _, bal w _⟩)
  go_enter Try.func48, Try.ntmps48
  go_wp2
  go_loopw [8, 9] (fun o i wr => ∃ k : Nat, k ≤ 7 ∧ i = .int .i64 k ∧ Hi (BW w k o wr)) (fun _ i _ => 7 - (intOf i).toNat)
  case atStart => exact ⟨0, Nat.zero_le _, rfl, H0⟩
  case round =>
    obtain ⟨k, hk, rfl, HX⟩ := hrel
    clear H0
    by_cases hlt : k < 7
    · have hX := HX.out
      have hl := hX.o
      have hbs := hX.below.size
      have hrg := regs_at hX.rg hlt
      have hwl := hX.rg.lt
      have hw1 : IntKind.i64.wrap (128 * (k : Int)) = 128 * k := by rw [IntKind.wrap_i64]; omega
      have hw2 : IntKind.i64.wrap (128 + 128 * (k : Int)) = 128 + 128 * k := by rw [IntKind.wrap_i64]; omega
      have hw3 : IntKind.i64.wrap (128 + 128 * (k : Int) + 128) = 128 + 128 * k + 128 := by rw [IntKind.wrap_i64]; omega
      obtain ⟨va, vc, rfl⟩ := own_slice hl
      clear hX
      go_wp2_with (first
        | (at_builtin; refine wpList_append_own _ rfl _ _ 76 rfl (w.heap.size + 1) 98 i0 (.agg #[.int .i64 0, .int .i64 0, .int .i64 0, .int .i64 0, .int .i64 0, .int .i64 0, .int .i64 0]) 7 56 Try.underlying76 hi2 hz0 hz1 hz2 rfl (by decide) _ _ _ rfl (hl.alloc _) ⟨wr.heap.size, 0, none⟩ 1 1 (bitRow k).cs rfl rfl (cells_new _ _ _) (rr_one _) (by unfold maxLen; omega) (by omega) (by simp; omega) ?_; intro v' w9 hown' hgrow _; have HM := hi (HX.out.next hown' hgrow)))
      go_roundw
      case rel => exact ⟨k + 1, by omega, by go_num, HM⟩
      case measure => simp only [intOf]; omega
    · obtain rfl : k = 7 := by omega
      go_wp2
      go_ret
      exact ⟨_, rfl, own_base HX.out.o (by omega), HX.out.below⟩

def rowsA : List Rr := [⟨0, 4, 4, 1, 0, 0, 1⟩, ⟨4, 8, 4, 2, 0, 0, 1⟩]
def rowsB : List Rr := [⟨1024, 2048, 4, 11, 0, 1, 1⟩, ⟨3072, 3328, 4, 12, 0, 4, 1⟩, ⟨24832, 32768, 8, 13, 32, 1, 8⟩]
def distRows : List Rr := (rowsA ++ bitRows 7) ++ rowsB
theorem flR_one (xs : List Rr) : ∀ v ∈ flR xs, v.oneCell' = true := flat_one_cell rr_one xs
theorem own_cells {W : World} {base n : Nat} {g cap : Nat} {xs : List Rr} (h : W.ownsRow base 98 7 (.slice (some ⟨g, 0, none⟩) n cap) n (flR xs)) : ∀ j u, (flR xs)[j]? = some u → W.cell? ((⟨g, 0, none⟩ : Addr).add j) = some u := by
  intro j u hu
  rw [addr_add, Nat.zero_add, (Row.own h).cell (List.getElem?_eq_some_iff.1 hu).1, hu]
theorem own_new (w : World) (xs : List Rr) (n : Nat) (hn : xs.length = n) (h2 : n ≤ maxLen) : (w.alloc (.cells (flR xs).toArray 98)).ownsRow w.heap.size 98 7 (.slice (some ⟨w.heap.size, 0, none⟩) n n) n (flR xs) :=
  ⟨by rw [flR_len, hn], .inr ⟨w.heap.size, n, (flR xs).toArray, rfl, Nat.le_refl _, World.alloc_heap_new w _, Nat.le_refl _, h2, by rw [List.size_toArray, flR_len, hn], by rw [List.take_of_length_le]; rw [flR_len, hn]; exact Nat.le_refl _⟩⟩
theorem bits7_len : (bitRows 7).length = 7 := bitRows_len 7

set_option maxRecDepth 100000 in
set_option maxHeartbeats 4000000 in
theorem dist_any (w : World) : Calls Try.prog 30 #[] w (Rowed w 12 distRows) := by
  obtain ⟨i0, hi2, hz0, hz1, hz2⟩ := info_parts info_rr
  have CB0 := hi (fun W => bits_any W)
  have HA := hi (own_new w rowsA 2 rfl (by unfold maxLen; omega))
  have HBA := hi (bal w (.cells (flR rowsA).toArray 98))
  have HFA : (flR rowsA).toArray = #[.int .i64 0, .int .i64 4, .int .i64 4, .int .i64 1, .int .i64 0, .int .i64 0, .int .i64 1, .int .i64 4, .int .i64 8, .int .i64 4, .int .i64 2, .int .i64 0, .int .i64 0, .int .i64 1] := rfl
  rw [HFA] at HA HBA
  clear HFA
  go_enter Try.func30, Try.ntmps30
  go_wp2_with (first
    | (go_at_call 48; ((with_reducible refine (CB0.out _).mono ?_); rintro e w2 ⟨v7, rfl, ho7, hb7⟩; obtain ⟨g7, c7, rfl⟩ := ownsRow_succ ho7; have HO7 := hi ho7; have HA2 := hi (own_later HA.out hb7); have HB2 := hi (HBA.out.trans (hb7.mono HBA.out.size)); clear ho7 hb7))
    | (at_builtin; refine wpList_append_own _ rfl _ _ 76 rfl w.heap.size 98 i0 (.agg #[.int .i64 0, .int .i64 0, .int .i64 0, .int .i64 0, .int .i64 0, .int .i64 0, .int .i64 0]) 7 56 Try.underlying76 hi2 hz0 hz1 hz2 rfl (by decide) _ _ _ rfl HA2.out ⟨g7, 0, none⟩ 7 c7 (flR (bitRows 7)) rfl (by rw [flR_len, bits7_len]) (own_cells HO7.out) (flR_one _) (by unfold maxLen; omega) (by omega) HB2.out.size ?_; intro v' w9 hown' hgrow _; obtain ⟨g9, c9, rfl⟩ := ownsRow_succ hown'; have HO9 := hi hown'; have HB9 := hi (HB2.out.grown hgrow HB2.out.size (fun j e => by cases e; exact Nat.le_refl _)); clear hown' hgrow)
    | (at_builtin; refine wpList_append_own _ rfl _ _ 76 rfl w.heap.size 98 i0 (.agg #[.int .i64 0, .int .i64 0, .int .i64 0, .int .i64 0, .int .i64 0, .int .i64 0, .int .i64 0]) 7 56 Try.underlying76 hi2 hz0 hz1 hz2 rfl (by decide) _ _ _ rfl (HO9.out.alloc _) ⟨w9.heap.size, 0, none⟩ 3 3 (flR rowsB) rfl rfl (cells_new _ _ _) (flR_one _) (by unfold maxLen; omega) (by omega) (by have := HB9.out.size; simp; omega) ?_; intro v'' w8 hown8 hgrow8 _; have HO8 := hi hown8; have HB8 := hi ((HB9.out.alloc HB9.out.size _).grown hgrow8 (by have := HB9.out.size; simp; omega) (fun j e => (HO9.out.lt j e).1)); clear hown8 hgrow8))
  go_ret
  refine ⟨_, rfl, ?_, HB8.out⟩
  have h8 := HO8.out
  rw [show flR distRows = (flR rowsA ++ flR (bitRows 7)) ++ flR rowsB by rw [distRows, flR, flat_append, flat_append]]
  exact h8

end Go.Proofs.Ytjgamfonpagkbaa
