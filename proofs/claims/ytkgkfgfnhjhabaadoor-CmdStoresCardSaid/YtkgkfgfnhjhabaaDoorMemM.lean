/-
  The law's New; a script of acts in memory; bytes as a string.
-/
import Derived.Test.YtkgkfgfnhjhabaaDoorMemL
import Derived.Laws.BytesArg
import Derived.Laws.IdiomStrings
namespace Go.Proofs.YtkgkfgfnhjhabaaDoor
open Go.ChangeShapes Go.WideShapes Go.ChangeAt Go.RowKit
set_option linter.unusedVariables false
set_option linter.unusedSimpArgs false

/-- The string of bytes. -/
def strB (ys : List Nat) : ByteArray := ⟨(ys.map UInt8.ofNat).toArray⟩
set_option maxRecDepth 100000 in
theorem conv_bytes {w : World} {v : Value} {ys : List Nat} (h : BytesIn w v ys) : (convert 48 9 v).run Tryd.prog w = .ok (.string (strB ys)) w := by
  obtain ⟨a, cap, rfl, hc, hm, hr⟩ := h
  have hs : Tryd.prog.underlying 9 = some .string := by kernel_rfl
  have h8 : Tryd.prog.underlying 5 = some (.int .u8) := by kernel_rfl
  cases a with
  | none =>
    have h0 : ys = [] := by
      cases ys with
      | nil => rfl
      | cons y r => obtain ⟨b, off, e, _⟩ := hr (by simp); cases e
    subst h0
    exact run_convert_bytes_nil w _ _ Tryd.underlying48 h8 _ _ _ hs
  | some ad =>
    have := run_convert_bytes_back (P := Tryd.prog) w 48 9 5 ad cap (ys.map UInt8.ofNat) Tryd.underlying48 h8 hs (fun j hj => by
      have hj' : j < ys.length := by simpa using hj
      obtain ⟨b, off, e, hcell⟩ := hr (fun e => by rw [e] at hj'; simp at hj')
      cases e
      rw [add_mid_, hcell j hj']
      have hlt := hm _ (List.getElem_mem hj')
      simp only [List.getElem?_eq_getElem hj', Option.getD_some, List.getElem_map, UInt8.toNat_ofNat', Nat.reducePow]
      congr 3
      omega)
    rwa [List.length_map] at this

/-- The length that New takes. -/
def newN (size : Int) : Nat := if 0 ≤ size ∧ size ≤ 4096 then size.toNat else 200
theorem newN_le (size : Int) : newN size ≤ 4096 := by unfold newN; split <;> omega

theorem new_z (z : Int) (n : Nat) (hz : z = n) (w : World) (hn : n ≤ 131072) :
    Calls Tryd.prog 39 #[.int .i64 z] w fun e w' => ∃ p g, e = .returned (.tuple #[.pointer (some ⟨p, 0, none⟩), .int .i64 0]) ∧ Since w p g n (List.replicate n 0) w' := by
  subst hz
  refine (new_yes n w hn).mono ?_
  rintro e w' ⟨p, g, rfl, h1, h2, h3, h4⟩
  exact ⟨p, g, rfl, h1, h2, h3, h4⟩

theorem size_al (W : World) (o : Obj) : (W.alloc o).heap.size = W.heap.size + 1 := by simp

/-- Two memories, the program's and the document's, made since w. -/
structure Both (w : World) (p g c q h d : Nat) (bs : List Nat) (W : World) : Prop where
  mem : Since w p g c bs W
  ref : MemAt 98 W q h d bs
  ql : w.heap.size ≤ q
  hl : w.heap.size ≤ h
  apart : g ≠ h
  qp : q ≠ p

theorem two_new {w w1 : World} {p g n : Nat} (h : Since w p g n (List.replicate n 0) w1) (hn : n ≤ 131072) :
    Both w p g n (w1.heap.size + 1) w1.heap.size n (List.replicate n 0) (((w1.drew).alloc (.cells (madeCells #[.int .u8 0] n) 5)).alloc (.cells #[.slice (some ⟨w1.heap.size, 0, none⟩) n n] 98)) := by
  have hs := h.sz
  have hb : Below w1.heap.size w1 (((w1.drew).alloc (.cells (madeCells #[.int .u8 0] n) 5)).alloc (.cells #[.slice (some ⟨w1.heap.size, 0, none⟩) n n] 98)) :=
    (((Below.refl _ _).drew).alloc (Nat.le_refl _) _).alloc (by rw [size_al]; exact Nat.le_succ _) _
  have z1 : (w1.drew.alloc (.cells (madeCells #[.int .u8 0] n) 5)).heap.size = w1.heap.size + 1 := size_al _ _
  have e1 : (((w1.drew).alloc (.cells (madeCells #[.int .u8 0] n) 5)).alloc (.cells #[.slice (some ⟨w1.heap.size, 0, none⟩) n n] 98)).heap[w1.heap.size]? = some (.cells (madeCells #[.int .u8 0] n) 5 (0, 0)) :=
    (Below.heap_alloc _ _ _ (by rw [z1]; omega)).trans (heap_new w1.drew (.cells (madeCells #[.int .u8 0] n) 5))
  have e2 := heap_new (w1.drew.alloc (.cells (madeCells #[.int .u8 0] n) 5)) (.cells #[.slice (some ⟨w1.heap.size, 0, none⟩) n n] 98)
  rw [z1] at e2
  have e3 : (madeCells #[Value.int .u8 0] n) = (u8s (List.replicate n 0) ++ []).toArray := by
    have := made_u8 n
    rw [Nat.mul_one] at this
    rw [List.append_nil, ← this]
    rfl
  have hg := h.mem.bytes.lt
  have hp := h.mem.plt
  refine ⟨h.later hb, ⟨?_, ⟨⟨[], ?_⟩, fun x hx => by rw [List.eq_of_mem_replicate hx]; omega⟩, by simp, by unfold maxLen; omega, by simp; exact hn, by decide⟩, by omega, hs, by omega, by omega⟩
  · rw [List.length_replicate]; exact e2
  · rw [← e3]; exact e1

set_option maxHeartbeats 2000000 in
theorem lawNew_any (size : Int) (w : World) :
    Calls Tryd.prog 18 #[.int .i64 size] w fun e w' => ∃ p g q h, e = .returned (.tuple #[.pointer (some ⟨p, 0, none⟩), .pointer (some ⟨q, 0, none⟩)]) ∧ Both w p g (newN size) q h (newN size) (List.replicate (newN size) 0) w' := by
  by_cases hs : 0 ≤ size ∧ size ≤ 4096
  · obtain ⟨n, rfl⟩ : ∃ n : Nat, size = n := ⟨size.toNat, by omega⟩
    have e : newN n = n := by simp [newN]; omega
    rw [e]
    have hn : n ≤ 4096 := by omega
    have HN := hi (new_z n n rfl w (by omega))
    have hmk := run_make_row' (P := Tryd.prog) 48 5 (.int .u8 0) 1 Tryd.underlying48 info_u8 rfl .i64 .i64 n (by omega) (by omega)
    clear e hs
    go_enter Tryd.func18, Tryd.ntmps18
    go_wp2_with (go_at_call 39; ((with_reducible refine HN.out.mono ?_); rintro e w1 ⟨p, g, rfl, hs1⟩; have HS := hi hs1; clear hs1))
    go_region
    go_wp2
    go_ret2
    exact ⟨p, g, _, _, rfl, two_new HS.out (by omega)⟩
  · have e : newN size = 200 := by simp [newN, hs]
    rw [e]
    have HN := hi (new_z 200 200 rfl w (by omega))
    have hmk := run_make_row' (P := Tryd.prog) 48 5 (.int .u8 0) 1 Tryd.underlying48 info_u8 rfl .i64 .i64 200 (by omega) (by omega)
    have hmk' : ∀ (w : World), Sem.run Tryd.prog (Instr.makeSlice 48 (.int .i64 200) (.int .i64 200)) w = .ok (.slice (some ⟨w.heap.size, 0, none⟩) 200 200) (w.alloc (.cells (madeCells #[.int .u8 0] 200) 5)) := hmk
    clear e hmk
    by_cases h0 : size < 0
    · clear hs
      go_enter Tryd.func18, Tryd.ntmps18
      go_wp2_with (go_at_call 39; ((with_reducible refine HN.out.mono ?_); rintro e w1 ⟨p, g, rfl, hs1⟩; have HS := hi hs1; clear hs1))
      go_region
      go_wp2
      go_ret2
      exact ⟨p, g, _, _, rfl, two_new HS.out (by omega)⟩
    · have h1 : 4096 < size := by omega
      have h2 : 0 ≤ size := by omega
      clear hs h0
      go_enter Tryd.func18, Tryd.ntmps18
      go_wp2_with (go_at_call 39; ((with_reducible refine HN.out.mono ?_); rintro e w1 ⟨p, g, rfl, hs1⟩; have HS := hi hs1; clear hs1))
      go_region
      go_wp2
      go_ret2
      exact ⟨p, g, _, _, rfl, two_new HS.out (by omega)⟩

end Go.Proofs.YtkgkfgfnhjhabaaDoor
