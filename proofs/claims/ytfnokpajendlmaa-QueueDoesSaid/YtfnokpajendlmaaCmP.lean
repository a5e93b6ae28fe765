/-
  Package cmd: Store at every call.
-/
import Derived.Test.YtfnokpajendlmaaCmN
namespace Go.Proofs.Ytfnokpajendlmaa
open Go.ChangeShapes Go.WideShapes Go.ChangeAt Go.RowKit
set_option linter.unusedVariables false
set_option linter.unusedSimpArgs false

/-- The bytes behind k words that are written one after the other. -/
def stB (bs : List Nat) (A : Int) (ws : Ws) : Nat → List Nat
  | 0 => bs
  | k + 1 => wrB (stB bs A ws k) A 32 ((k : Int) * 8) 8 (ws k)
theorem stB_len {bs : List Nat} {A : Int} {ws : Ws} (hl : bs.length ≤ 131072) : ∀ k, (stB bs A ws k).length = bs.length
  | 0 => rfl
  | k + 1 => by
    have ih := stB_len (A := A) (ws := ws) hl k
    rw [stB, wrB_len (by omega), ih]
def stE (n : Nat) (a s off : Int) (vd : Bool) : Int := if vd then (if entOk n a s off = true then 0 else 42) else 160
def stL (bs : List Nat) (a s off : Int) (c : Cm) : List Nat := if (validC c && entOk bs.length a s off) = true then stB bs (a + off) (wordsC c) 4 else bs
theorem CB.keptB {W W' : World} {B : Nat} {t : TypeId} {cs : Array Value} {bs : Nat → Prop} (h : CB W B t cs) (k : Kept bs W W') (hn : ¬ bs B) : CB W' B t cs := (k.block B h.lt hn).trans h
theorem under_w4 : Try.prog.underlying 94 = some (.array 4 37) := by kernel_rfl
/-- What Store keeps through its loop. -/
structure StI (w : World) (p g cap b : Nat) (bs : List Nat) (A : Int) (W : World) : Prop where
  mem : MemAt 73 W p g cap bs
  box : CB W b 23 #[.int .i64 A, .int .i64 32]
  kept : Kept (· = g) w W
theorem StI.write {w : World} {p g cap b : Nat} {bs cs : List Nat} {A : Int} {W W' : World} (h : StI w p g cap b bs A W) (hb : b ≠ g) (hm : MemAt 73 W' p g cap cs) (k : Kept (· = g) W W') : StI w p g cap b cs A W' :=
  ⟨hm, h.box.keptB k hb, h.kept.trans k⟩

set_option maxRecDepth 100000 in
set_option maxHeartbeats 4000000 in
theorem store_any (p g cap : Nat) (bs : List Nat) (a s off : Int) (c : Cm) (w : World) (hM : MemAt 73 w p g cap bs) (ha : i64B a) (hs : i64B s) (ho : i64B off) (hc : i64B c.addr) :
    Calls Try.prog 38 #[.pointer (some ⟨p, 0, none⟩), win a s, .int .i64 off, c.v] w fun e w' => e = .returned (.int .i64 (stE bs.length a s off (validC c))) ∧ MemAt 73 w' p g cap (stL bs a s off c) ∧ Kept (· = g) w w' := by
  have HEc := hi (fun W => encode_any c hc W)
  have HEN := hi (fun W (hb : Below w.heap.size w W) => entry_any p g cap bs a s off W (hM.below hb) ha hs ho)
  have HM := hi hM
  have hgl : g < w.heap.size := hM.bytes.lt
  have HWL := hi (fun h : validC c = true => words_lt h)
  cases hv : validC c
  · have hL : stL bs a s off c = bs := by rw [stL, hv]; rfl
    rw [hL, show stE bs.length a s off false = 160 from rfl]
    rw [hv, show errN false = 160 from rfl] at HEc
    clear hv hL HEN HWL hc hM ha hs ho
    obtain ⟨en, hen⟩ : ∃ en, encW c = en := ⟨_, rfl⟩
    rw [hen] at HEc
    clear hen
    obtain ⟨c1, c2, c3, c4, c5, c6, c7, c8, c9⟩ := c
    unfold win
    dsimp only [Cm.v] at HEc ⊢
    go_enter Try.func38, Try.ntmps38
    go_wp2_with (go_at_call 56; ((with_reducible refine (HEc.out _).mono ?_); rintro e w1 ⟨rfl, hb1⟩; have HB := hi ((bal_two w _ _).trans (hb1.mono (by simp; omega))); clear hb1))
    go_ret
    exact ⟨rfl, HM.out.below (HB.out.alloc HB.out.size _), Kept.of (HB.out.alloc HB.out.size _)⟩
  · have hwl := HWL.out hv
    rw [hv, show errN true = 0 from rfl, show encW c = wordsC c by rw [encW, if_pos hv]] at HEc
    have HL := hi (show stL bs a s off c = if entOk bs.length a s off = true then stB bs (a + off) (wordsC c) 4 else bs by rw [stL, hv, Bool.true_and])
    have HE := hi (show stE bs.length a s off true = if entOk bs.length a s off = true then 0 else 42 from rfl)
    unfold entV at HEN
    obtain ⟨sl, hsl⟩ : ∃ v, stL bs a s off c = v := ⟨_, rfl⟩
    obtain ⟨se, hse⟩ : ∃ v, stE bs.length a s off true = v := ⟨_, rfl⟩
    obtain ⟨ws, hws⟩ : ∃ ws, wordsC c = ws := ⟨_, rfl⟩
    obtain ⟨eo, heo⟩ : ∃ v, entOk bs.length a s off = v := ⟨_, rfl⟩
    rw [hsl, heo, hws] at HL
    rw [hse, heo] at HE
    rw [heo] at HEN
    rw [hws] at HEc hwl
    rw [hsl, hse]
    have HOK := hi (fun h : eo = true => show partOk a s off 32 = true by rw [← heo] at h; simp only [entOk, Bool.and_eq_true] at h; exact h.1)
    have HWB := hi hwl
    clear hsl hse hws heo hv HWL hc hM hs ho hwl
    have HAB := hi ha
    clear ha
    obtain ⟨c1, c2, c3, c4, c5, c6, c7, c8, c9⟩ := c
    unfold win at HEN ⊢
    dsimp only [Cm.v] at HEc ⊢
    cases eo
    · have h1 : sl = bs := by have := HL.out; simpa using this
      have h2 : se = 42 := by have := HE.out; simpa using this
      subst h1 h2
      have HEN2 := hi (show ∀ W, Below w.heap.size w W → Calls Try.prog 52 #[.pointer (some ⟨p, 0, none⟩), .agg #[.int .i64 a, .int .i64 s], .int .i64 off] W fun e w' => e = .returned (.tuple #[.agg #[.int .i64 0, .int .i64 0], .int .i64 42]) ∧ Below W.heap.size W w' from HEN.out)
      clear HEN HL HE HOK
      go_enter Try.func38, Try.ntmps38
      go_wp2_with (first
        | (go_at_call 56; ((with_reducible refine (HEc.out _).mono ?_); rintro e w1 ⟨rfl, hb1⟩; have hx := ((CB.new w 23 #[.int .i64 a, .int .i64 s]).alloc _).below hb1; obtain ⟨q0, q1⟩ := CB.two hx; have hz := hx.lt; have HB := hi ((bal_two w _ _).trans (hb1.mono (by simp; omega))); clear hb1 hx))
        | (go_at_call 52; ((with_reducible refine (HEN2.out _ (HB.out.alloc HB.out.size _)).mono ?_); rintro e w2 ⟨rfl, hb2⟩; have HB2 := hi ((HB.out.alloc HB.out.size _).trans (hb2.mono (by have := HB.out.size; simp; omega))); clear hb2)))
      go_ret
      exact ⟨rfl, HM.out.below (HB2.out.alloc HB2.out.size _), Kept.of (HB2.out.alloc HB2.out.size _)⟩
    · have h1 : sl = stB bs (a + off) ws 4 := by have := HL.out; simpa using this
      have h2 : se = 0 := by have := HE.out; simpa using this
      subst h1 h2
      have hpo := HOK.out rfl
      have HEN2 := hi (show ∀ W, Below w.heap.size w W → Calls Try.prog 52 #[.pointer (some ⟨p, 0, none⟩), .agg #[.int .i64 a, .int .i64 s], .int .i64 off] W fun e w' => e = .returned (.tuple #[.agg #[.int .i64 (a + off), .int .i64 32], .int .i64 0]) ∧ Below W.heap.size W w' from HEN.out)
      obtain ⟨A, hA⟩ : ∃ A, a + off = A := ⟨_, rfl⟩
      rw [hA] at HEN2 ⊢
      have hAb : i64B A := by
        simp only [partOk, Bool.and_eq_true, decide_eq_true_eq] at hpo
        have := fairB_out hpo.1
        constructor <;> omega
      have HIX := hi (fun (k : Nat) (hk : k < 4) W => run_index_one under_w4 size_u64 Try.isAgg37 (Ws.cs ws) k (.int .u64 (ws k)) hk (ws_at ws hk) W)
      have HWR := hi (fun (k : Nat) (hk : k < 4) (bs : List Nat) (W : World) (h : MemAt 73 W p g cap bs) => write_any p g cap bs A 32 ((k : Int) * 8) 8 (ws k) W h hAb.1 hAb.2 (by decide) (by decide) (HWB.out k))
      unfold win at HWR
      clear HEN HL HE HOK hA hpo hAb HWB
      go_enter Try.func38, Try.ntmps38
      go_wp2_with (first
        | (go_at_call 56; ((with_reducible refine (HEc.out _).mono ?_); rintro e w1 ⟨rfl, hb1⟩; have hx := ((CB.new w 23 #[.int .i64 a, .int .i64 s]).alloc _).below hb1; obtain ⟨q0, q1⟩ := CB.two hx; have hz := hx.lt; have HB := hi ((bal_two w _ _).trans (hb1.mono (by simp; omega))); clear hb1 hx))
        | (go_at_call 52; ((with_reducible refine (HEN2.out _ (HB.out.alloc HB.out.size _)).mono ?_); rintro e w2 ⟨rfl, hb2⟩; have hx := (CB.new w1 94 (Ws.cs ws)).below hb2; obtain ⟨b0, b1, b2, b3⟩ := CB.four hx; have hz2 := hx.lt; have HB2 := hi ((HB.out.alloc HB.out.size _).trans (hb2.mono (by have := HB.out.size; simp; omega))); clear hb2 hx)))
      have hwz : w.heap.size ≤ w2.heap.size := HB2.out.size
      have hI0 : StI w p g cap w2.heap.size bs A (w2.alloc (.cells #[.int .i64 A, .int .i64 32] 23)) := ⟨HM.out.below (HB2.out.alloc HB2.out.size _), CB.new w2 _ _, Kept.of (HB2.out.alloc HB2.out.size _)⟩
      have HI0 := hi hI0
      clear hI0
      go_loopw [33] (fun i wr => ∃ k : Nat, k ≤ 4 ∧ i = .int .i64 k ∧ Hi (StI w p g cap w2.heap.size (stB bs A ws k) A wr)) (fun i _ => 4 - (intOf i).toNat)
      case atStart => exact ⟨0, by omega, rfl, HI0⟩
      case round =>
        obtain ⟨k, hk, rfl, HP⟩ := hrel
        by_cases hlt : k < 4
        · have hix := HIX.out k hlt
          have x1 : (k : Int) < 4 := by omega
          obtain ⟨q0, q1⟩ := CB.two HP.out.box
          have hwk := HWR.out k hlt _ wr HP.out.mem
          have hk8 : (k : Int) * 8 ≤ 24 := by omega
          have HWK := hi hwk
          clear hwk
          have HS := hi (show stB bs A ws (k + 1) = wrB (stB bs A ws k) A 32 ((k : Int) * 8) 8 (ws k) from rfl)
          go_wp2_with (go_at_call 23; ((with_reducible refine HWK.out.mono ?_); rintro e w3 ⟨rfl, hm3, hk3⟩; have HI3 := hi (HP.out.write (by omega) hm3 hk3); clear hm3 hk3))
          go_roundw
          case rel => exact ⟨k + 1, by omega, by go_num, hi (by rw [HS.out]; exact HI3.out)⟩
          case measure => simp [intOf]; omega
        · obtain rfl : k = 4 := by omega
          go_wp2
          go_ret
          exact ⟨rfl, HP.out.mem, HP.out.kept⟩

end Go.Proofs.Ytfnokpajendlmaa
