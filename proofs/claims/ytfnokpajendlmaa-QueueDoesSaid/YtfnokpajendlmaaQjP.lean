/-
  The document's part at each place of a field.
  The document's Decode at all words.
-/
import Derived.Test.YtfnokpajendlmaaCmW
import Derived.BigQuiet
import Derived.Deep.QuietTactic
import Derived.Test.YtfnokpajendlmaaQjE
import Derived.Test.YtfnokpajendlmaaCmJ
namespace Go.Proofs.Ytfnokpajendlmaa
open Go.ChangeShapes Go.WideShapes Go.ChangeAt Go.RowKit
set_option linter.unusedVariables false
set_option linter.unusedSimpArgs false

theorem pt_drew (V : World) : Below V.heap.size V V.drew := ⟨rfl, rfl, rfl, Nat.le_refl _, fun _ _ => rfl⟩
theorem pt_ret {a b : Int} (h : a = b) : Ending.returned (.int .i64 a) = Ending.returned (.int .i64 b) := by rw [h]

set_option maxRecDepth 100000 in
set_option maxHeartbeats 2000000 in
theorem part_0_32 (x : Nat) (hx : x < 18446744073709551616) (w : World) : Calls Try.prog 67 #[.int .u64 x, .int .i64 0, .int .i64 32] w fun e w' => e = .returned (.int .i64 ((x / 1 % 4294967296 : Nat) : Int)) ∧ Below w.heap.size w w' := by
  go_enter Try.func67, Try.ntmps67
  go_wp2
  go_region
  go_wp2
  go_ret
  exact ⟨pt_ret (by omega), pt_drew _⟩

set_option maxRecDepth 100000 in
set_option maxHeartbeats 2000000 in
theorem part_32_32 (x : Nat) (hx : x < 18446744073709551616) (w : World) : Calls Try.prog 67 #[.int .u64 x, .int .i64 32, .int .i64 32] w fun e w' => e = .returned (.int .i64 ((x / 4294967296 % 4294967296 : Nat) : Int)) ∧ Below w.heap.size w w' := by
  go_enter Try.func67, Try.ntmps67
  go_wp2
  go_region
  go_wp2
  go_ret
  exact ⟨pt_ret (by omega), pt_drew _⟩

set_option maxRecDepth 100000 in
set_option maxHeartbeats 2000000 in
theorem part_16_16 (x : Nat) (hx : x < 18446744073709551616) (w : World) : Calls Try.prog 67 #[.int .u64 x, .int .i64 16, .int .i64 16] w fun e w' => e = .returned (.int .i64 ((x / 65536 % 65536 : Nat) : Int)) ∧ Below w.heap.size w w' := by
  go_enter Try.func67, Try.ntmps67
  go_wp2
  go_region
  go_wp2
  go_ret
  exact ⟨pt_ret (by omega), pt_drew _⟩

set_option maxRecDepth 100000 in
set_option maxHeartbeats 2000000 in
theorem part_0_16 (x : Nat) (hx : x < 18446744073709551616) (w : World) : Calls Try.prog 67 #[.int .u64 x, .int .i64 0, .int .i64 16] w fun e w' => e = .returned (.int .i64 ((x / 1 % 65536 : Nat) : Int)) ∧ Below w.heap.size w w' := by
  go_enter Try.func67, Try.ntmps67
  go_wp2
  go_region
  go_wp2
  go_ret
  exact ⟨pt_ret (by omega), pt_drew _⟩

set_option maxRecDepth 100000 in
set_option maxHeartbeats 2000000 in
theorem part_0_5 (x : Nat) (hx : x < 18446744073709551616) (w : World) : Calls Try.prog 67 #[.int .u64 x, .int .i64 0, .int .i64 5] w fun e w' => e = .returned (.int .i64 ((x / 1 % 32 : Nat) : Int)) ∧ Below w.heap.size w w' := by
  go_enter Try.func67, Try.ntmps67
  go_wp2
  go_region
  go_wp2
  go_ret
  exact ⟨pt_ret (by omega), pt_drew _⟩

set_option maxRecDepth 100000 in
set_option maxHeartbeats 2000000 in
theorem part_8_40 (x : Nat) (hx : x < 18446744073709551616) (w : World) : Calls Try.prog 67 #[.int .u64 x, .int .i64 8, .int .i64 40] w fun e w' => e = .returned (.int .i64 ((x / 256 % 1099511627776 : Nat) : Int)) ∧ Below w.heap.size w w' := by
  go_enter Try.func67, Try.ntmps67
  go_wp2
  go_region
  go_wp2
  go_ret
  exact ⟨pt_ret (by omega), pt_drew _⟩

set_option maxRecDepth 100000 in
set_option maxHeartbeats 2000000 in
theorem part_63_1 (x : Nat) (hx : x < 18446744073709551616) (w : World) : Calls Try.prog 67 #[.int .u64 x, .int .i64 63, .int .i64 1] w fun e w' => e = .returned (.int .i64 ((x / 9223372036854775808 % 2 : Nat) : Int)) ∧ Below w.heap.size w w' := by
  go_enter Try.func67, Try.ntmps67
  go_wp2
  go_region
  go_wp2
  go_ret
  exact ⟨pt_ret (by omega), pt_drew _⟩

end Go.Proofs.Ytfnokpajendlmaa

namespace Go.Proofs.Ytfnokpajendlmaa
open Go.ChangeShapes Go.WideShapes Go.ChangeAt Go.RowKit
set_option linter.unusedVariables false
set_option linter.unusedSimpArgs false

/-- A command with one field stored. -/
def setF (c : Cm) (x : Nat) (v : Int) : Cm :=
  match x with
  | 0 => { c with dev := v } | 1 => { c with ev := v } | 2 => { c with num := v } | 3 => { c with num := v } | 4 => { c with coll := v } | 5 => { c with tgt := v } | 6 => { c with bit := v } | 7 => { c with addr := 256 * v } | _ => { c with valid := decide (v = 1) }
def foldF (op : Int) (n : Ns) (L : List Nat) : Cm := L.foldl (fun c x => setF c x (n x)) ⟨op, 0, 0, 0, 0, 0, 0, 0, false⟩
theorem foldF_snoc (op : Int) (n : Ns) (L : List Nat) (x : Nat) : foldF op n (L ++ [x]) = setF (foldF op n L) x (n x) := by simp [foldF]
theorem decN_bd (ws : Ws) (x : Nat) : 0 ≤ decN ws x ∧ decN ws x < 1099511627776 := by
  have hp : 0 < pr x ∧ pr x ≤ 1099511627776 := by unfold pr; split <;> omega
  have := Nat.mod_lt (ws (pw x) / pm x) hp.1
  unfold decN
  omega
theorem wrap_small {n : Int} (h0 : 0 ≤ n) (h1 : n < 9223372036854775808) : RowKit.wrap64 n = n := by unfold RowKit.wrap64; omega
theorem foldF_join {op : Int} (ws : Ws) (hk : known op = true) : foldF op (decN ws) (fieldsL op) = joinC op (ownF (decN ws) (fieldsL op)) := by
  have h2 := decN_bd ws 2
  have h3 := decN_bd ws 3
  have h7 := decN_bd ws 7
  have e2 : RowKit.wrap64 (decN ws 2) = decN ws 2 := wrap_small (by omega) (by omega)
  have e3 : RowKit.wrap64 (decN ws 3) = decN ws 3 := wrap_small (by omega) (by omega)
  have e7 : RowKit.wrap64 (decN ws 7 * 256) = 256 * decN ws 7 := by rw [wrap_small (by omega) (by omega)]; omega
  rcases known_cases hk with rfl | rfl | rfl | rfl | rfl | rfl | rfl | rfl | rfl | rfl | rfl | rfl <;>
    simp [foldF, fieldsL, setF, joinC, ownF, wrap64_zero, e2, e3, e7]
theorem fair_join {op : Int} (ws : Ws) (h : i64B op) (L : List Nat) : (joinC op (ownF (decN ws) L)).Fair := by
  have b : ∀ x, 0 ≤ ownF (decN ws) L x ∧ ownF (decN ws) L x < 1099511627776 := fun x => by
    unfold ownF; split
    · exact decN_bd ws x
    · omega
  have b0 := b 0
  have b1 := b 1
  have b4 := b 4
  have b5 := b 5
  have b6 := b 6
  exact ⟨h, ⟨by show _ ≤ ownF _ _ _; omega, by show ownF _ _ _ ≤ _; omega⟩, ⟨by show _ ≤ ownF _ _ _; omega, by show ownF _ _ _ ≤ _; omega⟩, by simp only [joinC, i64B]; unfold RowKit.wrap64; omega, ⟨by show _ ≤ ownF _ _ _; omega, by show ownF _ _ _ ≤ _; omega⟩, ⟨by show _ ≤ ownF _ _ _; omega, by show ownF _ _ _ ≤ _; omega⟩, ⟨by show _ ≤ ownF _ _ _; omega, by show ownF _ _ _ ≤ _; omega⟩, by simp only [joinC, i64B]; unfold RowKit.wrap64; omega⟩
theorem CB.cm9 {W : World} {b : Nat} {t : TypeId} {a1 a2 a3 a4 a5 a6 a7 a8 : Int} {a9 : Bool} (h : CB W b t (Cm.cs ⟨a1, a2, a3, a4, a5, a6, a7, a8, a9⟩)) :
    W.cell? ⟨b, 0, none⟩ = some (.int .i64 a1) ∧ W.cell? ⟨b, 1, none⟩ = some (.int .i64 a2) ∧ W.cell? ⟨b, 2, none⟩ = some (.int .i64 a3) ∧ W.cell? ⟨b, 3, none⟩ = some (.int .i64 a4) ∧ W.cell? ⟨b, 4, none⟩ = some (.int .i64 a5) ∧
    W.cell? ⟨b, 5, none⟩ = some (.int .i64 a6) ∧ W.cell? ⟨b, 6, none⟩ = some (.int .i64 a7) ∧ W.cell? ⟨b, 7, none⟩ = some (.int .i64 a8) ∧ W.cell? ⟨b, 8, none⟩ = some (.bool a9) :=
  ⟨h.cell 0, h.cell 1, h.cell 2, h.cell 3, h.cell 4, h.cell 5, h.cell 6, h.cell 7, h.cell 8⟩
/-- What the document's Decode keeps: the words, the result's place, the command. -/
structure RdI (w : World) (ws : Ws) (c : Cm) (V : World) : Prop where
  ws : CB V w.heap.size 94 (Ws.cs ws)
  r : CB V (w.heap.size + 1) 36 (Cm.cs Cm.zero)
  c : CB V (w.heap.size + 1 + 1) 36 (Cm.cs c)
  below : Below w.heap.size w V
theorem RdI.later {w : World} {ws : Ws} {c : Cm} {V V' : World} (h : RdI w ws c V) (k : Below V.heap.size V V') : RdI w ws c V' := ⟨h.ws.below k, h.r.below k, h.c.below k, h.below.trans (k.mono h.below.size)⟩
theorem RdI.put {w : World} {ws : Ws} {c c' : Cm} {V : World} (h : RdI w ws c V) (j : Nat) (u : Value) (hc : (Cm.cs c).setIfInBounds j u = Cm.cs c') : RdI w ws c' (V.setCell ⟨w.heap.size + 1 + 1, j, none⟩ u) := by
  refine ⟨h.ws.other _ _ _ (by omega), h.r.other _ _ _ (by omega), ?_, below_set h.below (by omega) _⟩
  have := h.c.set j u
  rwa [hc] at this
theorem RdI.start (w : World) (ws : Ws) (c : Cm) (o : Obj) : RdI w ws c ((((w.alloc (.cells (Ws.cs ws) 94)).alloc (.cells (Cm.cs Cm.zero) 36)).alloc (.cells (Cm.cs c) 36)).alloc o) :=
  ⟨(((CB.new w _ _).alloc _).alloc _).alloc _, (cb_second.alloc _).alloc _, cb_third.alloc _, (bal_three w _ _ _).alloc (by simp; omega) _⟩

theorem opW_bd (ws : Ws) : 0 ≤ opW ws ∧ opW ws < 256 := by unfold opW; omega
theorem decR_of (ws : Ws) (hk : known (opW ws) = true) : (decR ws = if (validC (decC ws) && sameW (encW (decC ws)) ws) = true then decC ws else Cm.zero) ∧ decOk ws = (validC (decC ws) && sameW (encW (decC ws)) ws) := by
  have e : decOk ws = (validC (decC ws) && sameW (encW (decC ws)) ws) := by
    unfold decOk
    cases h : validC (decC ws)
    · rfl
    · rw [encW, if_pos h]
  exact ⟨by rw [decR, e], e⟩
theorem dec_unknown (ws : Ws) (hk : known (opW ws) = false) : decR ws = Cm.zero ∧ decOk ws = false := by
  have e : decOk ws = false := by
    have : (decC ws).op = 0 := by show kop (opW ws) = 0; exact kop_no hk
    unfold decOk
    rw [validC_unknown (by rw [this]; decide)]
    rfl
  exact ⟨by rw [decR, if_neg (by rw [e]; decide)], e⟩
theorem decC_known (ws : Ws) (hk : known (opW ws) = true) : decC ws = foldF (opW ws) (decN ws) (fieldsL (opW ws)) := by
  rw [foldF_join ws hk, decC, kop_yes hk]
theorem zero_op_fair {op : Int} (h : 0 ≤ op ∧ op < 256) : (⟨op, 0, 0, 0, 0, 0, 0, 0, false⟩ : Cm).Fair := by
  constructor <;> (unfold i64B; dsimp only; omega)

set_option maxRecDepth 100000 in
set_option maxHeartbeats 4000000 in
theorem rdec_unknown (ws : Ws) (hk : known (opW ws) = false) (w : World) : Calls Try.prog 50 #[Wv ws] w fun e w' => e = .returned (.tuple #[(decR ws).v, .bool (decOk ws)]) ∧ Below w.heap.size w w' := by
  obtain ⟨e1, e2⟩ := dec_unknown ws hk
  rw [e1, e2]
  have HF := hi (fun W => fields_no (opW ws) 0 0 0 0 0 0 0 false hk W)
  have HK := hi (fun W => dknown_any (opW ws) W)
  rw [hk] at HK
  have hob := opW_bd ws
  have how : IntKind.i64.wrap (opW ws) = opW ws := by rw [IntKind.wrap_i64]; omega
  have hmo : ((ws 0 : Nat) : Int) % 256 = opW ws := by unfold opW; omega
  obtain ⟨o, ho⟩ : ∃ o, opW ws = o := ⟨_, rfl⟩
  rw [ho] at HF HK how hmo hob
  clear e1 e2 hk ho
  dsimp only [Cm.zero, Cm.v]
  have HI0 := hi (RdI.start w ws ⟨o, 0, 0, 0, 0, 0, 0, 0, false⟩ (.cells #[.int .i64 o, .int .i64 0, .int .i64 0, .int .i64 0, .int .i64 0, .int .i64 0, .int .i64 0, .int .i64 0, .bool false] 36))
  dsimp only [Cm.zero, Cm.cs] at HI0
  go_enter Try.func50, Try.ntmps50
  go_wp2_with (first
    | (go_at_call 65; ((with_reducible refine (HF.out _).mono ?_); rintro e w1 ⟨⟨v, rfl⟩, hb1⟩; have HI1 := hi (HI0.out.later hb1); obtain ⟨k0, k1, k2, k3, k4, k5, k6, k7, k8⟩ := CB.cm9 HI1.out.c; clear hb1 k1 k2 k3 k4 k5 k6 k7 k8))
    | (go_at_call 66; ((with_reducible refine (HK.out _).mono ?_); rintro e w2 ⟨rfl, hb2⟩; have HI2 := hi (HI1.out.later hb2); clear k0 hb2; obtain ⟨q1, q2, q3, q4, q5, q6, q7, q8, q9⟩ := CB.cm9 HI2.out.r; have rf := HI2.out.r.frozen; have rz := HI2.out.r.lt)))
  exact bodyPost_ret (results_cmt rfl _ _ (w.heap.size + 1) _ _ _ _ _ _ _ _ _ _ rfl rfl (CB.set9 (show CB w2 _ _ #[_, _, _, _, _, _, _, _, _] from HI2.out.r) _ _ _ _ _ _ _ _ _)) rfl ⟨rfl, below_set9 HI2.out.below (by omega) _ _ _ _ _ _ _ _ _⟩

end Go.Proofs.Ytfnokpajendlmaa
