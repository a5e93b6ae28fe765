/-
  The law's Same, where both memories hold the same bytes.
-/
import Derived.Test.YthndfkggahhleaaMemR
namespace Go.Proofs.Ythndfkggahhleaa
open Go.ChangeShapes Go.WideShapes Go.ChangeAt Go.RowKit
set_option linter.unusedVariables false

theorem bytes_whole (p g cap : Nat) (bs : List Nat) (w : World) (hM : MemAt 60 w p g cap bs) :
    Calls Try.prog 19 #[.pointer (some ⟨p, 0, none⟩), .agg #[.int .i64 0, .int .i64 (bs.length : Int)]] w fun e w' => ∃ v, e = .returned (.tuple #[v, .int .i64 0]) ∧ BytesIn w' v bs ∧ Below w.heap.size w w' := by
  have hl := hM.len
  have h := bytes_any p g cap bs 0 bs.length w hM (by omega) (by omega) (by omega) (by omega)
  have hh : holdsB bs.length 0 bs.length = true := by simp [holdsB]
  have e1 : bytesE bs.length 0 bs.length = 0 := by simp [bytesE, hh]
  have e2 : bytesL bs 0 bs.length = bs := by simp [bytesL, hh, sub]
  rw [e1, e2] at h
  refine h.mono ?_
  rintro e w' ⟨v, rfl, hv, hb⟩
  refine ⟨v, rfl, ?_, hb⟩
  rcases hv with ⟨rfl, h0⟩ | ⟨k, ho⟩
  · rw [h0]; exact ⟨none, 0, rfl, Nat.le_refl _, (fun x hx => by simp at hx), fun h => absurd rfl h⟩
  · exact ho.bytesIn

theorem MemAt.bytesIn {T : TypeId} {W : World} {p g cap : Nat} {bs : List Nat} (h : MemAt T W p g cap bs) : BytesIn W (.slice (some ⟨g, 0, none⟩) bs.length cap) bs := by
  have := BytesIn.of (v := .slice (some ⟨g, 0, none⟩) bs.length cap) (o := 0) (n := bs.length) h.bytes ⟨_, _, rfl, fun _ => rfl, h.le, _, rfl⟩ (by omega)
  rwa [sub_all] at this
theorem BytesIn.drewN {W : World} {v : Value} {ys : List Nat} (h : BytesIn W v ys) (n : Nat) : BytesIn (W.drewN n) v ys := h

theorem MemAt.drewN {T : TypeId} {W : World} {p g cap : Nat} {bs : List Nat} (h : MemAt T W p g cap bs) (n : Nat) : MemAt T (W.drewN n) p g cap bs := ⟨h.box, ⟨h.bytes.1, h.bytes.2⟩, h.le, h.cap, h.len, h.type⟩
theorem size_q (p g cap : Nat) (bs : List Nat) (m : Nat) (w : World) (hM : MemAt 60 w p g cap bs) (hm : bs.length = m) (n : Nat) :
    Calls Try.prog 12 #[.pointer (some ⟨p, 0, none⟩)] (w.drewN n) fun e w' => e = .returned (.int .i64 (m : Int)) ∧ w' = w.drewN n := by
  subst hm
  exact (size_any p g cap bs _ (hM.drewN n)).mono fun e w' h => ⟨h.1, h.2.symm⟩

set_option maxHeartbeats 2000000 in
theorem same_eq (p g cap q h d : Nat) (bs : List Nat) (w : World) (hM : MemAt 60 w p g cap bs) (hR : MemAt 57 w q h d bs) :
    Calls Try.prog 16 #[.pointer (some ⟨p, 0, none⟩), .pointer (some ⟨q, 0, none⟩)] w fun e w' => e = .returned (.bool true) ∧ Below w.heap.size w w' := by
  have HM := hi hM
  have HR := hi hR
  have hcq := hR.cell
  have hcp := hM.cell
  have hpq : p < w.heap.size ∧ q < w.heap.size := ⟨hM.plt, hR.plt⟩
  have HB := hi (bytes_whole p g cap bs w hM)
  obtain ⟨Y, hY⟩ : ∃ Y, strB bs = Y := ⟨_, rfl⟩
  have HY := hi hY
  clear hM hR hY
  obtain ⟨n, hn⟩ : ∃ n, bs.length = n := ⟨_, rfl⟩
  have HN := hi hn
  rw [hn] at hcq hcp HB
  clear hn
  go_enter Try.func16, Try.ntmps16
  go_wp2_with (go_at_call 19; ((with_reducible refine HB.out.mono ?_); rintro e w1 ⟨v, rfl, hv, hb1⟩; have HV := hi hv; have HK := hi hb1; clear hv hb1))
  have hcq1 : w1.cell? ⟨q, 0, none⟩ = some (.slice (some ⟨h, 0, none⟩) n d) := (HK.out.cell (p := ⟨q, 0, none⟩) hpq.2).trans hcq
  have HM1 := hi (HM.out.below HK.out)
  have hs1 : ∀ k, (convert 31 9 v).run Try.prog (w1.drewN k) = .ok (.string Y) (w1.drewN k) := fun k => by
    have := conv_bytes (HV.out.drewN k)
    rwa [HY.out] at this
  have hs2 : ∀ k, (convert 31 9 (.slice (some ⟨h, 0, none⟩) n d)).run Try.prog (w1.drewN k) = .ok (.string Y) (w1.drewN k) := fun k => by
    have := conv_bytes (((HR.out.below HK.out).bytesIn).drewN k)
    rwa [HY.out, HN.out] at this
  clear hcq hcp
  go_quiet ((go_at_call 12; exact Calls.quiet_of_same (size_q p g cap bs n w1 HM1.out HN.out _)))
  go_wp2
  go_ret
  exact ⟨by simp, ⟨HK.out.os, HK.out.tape, HK.out.output, HK.out.size, HK.out.block⟩⟩

end Go.Proofs.Ythndfkggahhleaa
