/-
  Package ladder: Of at one, two and three words.
-/
import Derived.Test.YthfcgedlpnbojaaLadB

namespace Go.Proofs.Ythfcgedlpnbojaa
open Go.ChangeShapes Go.WideShapes Go.ChangeAt Go.RowKit
set_option linter.unusedVariables false

theorem size_u32 : (Try.prog.info? 22).map (·.size) = some 1 := by kernel_rfl

theorem add_mid_ (b o j : Nat) : (⟨b, o, none⟩ : Addr).add j = ⟨b, o + j, none⟩ := by unfold Addr.add; split <;> simp_all
theorem cell_two {w : World} {o o' : Obj} {B : Nat} {cs : List Value} (hc : ∀ j x, cs[j]? = some x → w.cell? ⟨B, j, none⟩ = some x) (hB : B < w.heap.size) (j : Nat) (x : Value) (hx : cs[j]? = some x) :
    ((w.alloc o).alloc o').cell? ((⟨B, 0, none⟩ : Addr).add j) = some x := by
  have h := (bal_two w o o').cell (p := ⟨B, 0 + j, none⟩) hB
  rw [Nat.zero_add] at h
  rw [show (⟨B, 0, none⟩ : Addr).add j = ⟨B, j, none⟩ by rw [add_mid_, Nat.zero_add], h]
  exact hc j x hx

set_option maxHeartbeats 1000000 in
theorem of_any (n : Nat) (cs : List Value) (u v : Int) (B : Nat) (w : World) (hn : cs.length = Nat.min n 2) (h1 : ∀ x ∈ cs, x.oneCell' = true) (hs : splice [.int .u32 0, .int .u32 0] 0 cs = [.int .u32 u, .int .u32 v])
    (hc : ∀ j x, cs[j]? = some x → w.cell? ⟨B, j, none⟩ = some x) (hB : B < w.heap.size) (hm : n ≤ 3) :
    Calls Try.prog 10 #[.slice (some ⟨B, 0, none⟩) n n] w fun e w' => e = .returned (.agg #[.int .u32 u, .int .u32 v]) ∧ Below w.heap.size w w' := by
  have HC := hi hc
  have HS := hi hs
  have H1 := hi h1
  have HN := hi hn
  clear hc hs h1 hn
  go_enter Try.func10, Try.ntmps10
  go_wp2_with (refine wpList_copy_splice rfl _ _ 56 56 rfl 22 Try.underlying56 size_u32 _ _ 2 2 n n rfl rfl (w.heap.size + 1) 0 [.int .u32 0, .int .u32 0] 27 (cb_second (w := w)) cs HN.out (fun _ => ⟨rfl, _, rfl, cell_two HC.out hB⟩) (by have := HN.out; have : Nat.min n 2 ≤ 2 := Nat.min_le_right n 2; show 0 + cs.length ≤ 2; omega) H1.out (w.heap.size + 1) (w.alloc (.cells #[.int .u32 0, .int .u32 0] 27)) (by have := bal (w.alloc (.cells #[.int .u32 0, .int .u32 0] 27)) (.cells #[.int .u32 0, .int .u32 0] 27); rwa [World.size_alloc] at this) (by omega) ?_; intro w3 hw3 hb3; have HS3 := hi (show CB w3 (w.heap.size + 1) 27 #[.int .u32 u, .int .u32 v] by have e : w3.heap[w.heap.size + 1]? = _ := hw3; rw [HS.out] at e; exact e); have HR3 := hi (show CB w3 w.heap.size 27 #[.int .u32 0, .int .u32 0] from (hb3.block _ (by omega)).trans (CB.new w _ _)); have HB3 := hi (show Below w.heap.size w w3 from (bal w _).trans (hb3.mono (by omega))); clear hw3 hb3; have s0 := HS3.out.cell 0; have s1 := HS3.out.cell 1; have r0 := HR3.out.cell 0; have r1 := HR3.out.cell 1; have fr := HR3.out.frozen)

  exact bodyPost_ret (results_lad rfl _ _ w.heap.size _ _ rfl (CB.set2 HR3.out _ _)) rfl ⟨rfl, below_set2 HB3.out (by omega) _ _⟩

theorem of1_any (a B : Nat) (t : TypeId) (w : World) (ha : a < 4294967296) (h : CB w B t #[.int .u32 a]) :
    Calls Try.prog 10 #[.slice (some ⟨B, 0, none⟩) 1 1] w fun e w' => e = .returned (lv (ofW a 0)) ∧ Below w.heap.size w w' := by
  unfold lv lcs
  rw [wd_ofW0 0 ha, wd_ofW1 a (by omega)]
  refine of_any 1 [.int .u32 a] _ _ B w rfl (by simp [Value.oneCell']) rfl (fun j x hx => ?_) h.lt (by omega)
  rw [h.cell]
  simpa using hx
theorem of2_any (a b B : Nat) (t : TypeId) (w : World) (ha : a < 4294967296) (hb : b < 4294967296) (h : CB w B t #[.int .u32 a, .int .u32 b]) :
    Calls Try.prog 10 #[.slice (some ⟨B, 0, none⟩) 2 2] w fun e w' => e = .returned (lv (ofW a b)) ∧ Below w.heap.size w w' := by
  unfold lv lcs
  rw [wd_ofW0 b ha, wd_ofW1 a hb]
  refine of_any 2 [.int .u32 a, .int .u32 b] _ _ B w rfl (by simp [Value.oneCell']) rfl (fun j x hx => ?_) h.lt (by omega)
  rw [h.cell]
  simpa using hx
theorem of3_any (a b B : Nat) (c : Value) (t : TypeId) (w : World) (ha : a < 4294967296) (hb : b < 4294967296) (h : CB w B t #[.int .u32 a, .int .u32 b, c]) :
    Calls Try.prog 10 #[.slice (some ⟨B, 0, none⟩) 3 3] w fun e w' => e = .returned (lv (ofW a b)) ∧ Below w.heap.size w w' := by
  unfold lv lcs
  rw [wd_ofW0 b ha, wd_ofW1 a hb]
  refine of_any 3 [.int .u32 a, .int .u32 b] _ _ B w rfl (by simp [Value.oneCell']) rfl (fun j x hx => ?_) h.lt (by omega)
  rw [h.cell]
  match j, hx with
  | 0, hx => simpa using hx
  | 1, hx => simpa using hx
  | j + 2, hx => simp at hx

end Go.Proofs.Ythfcgedlpnbojaa
