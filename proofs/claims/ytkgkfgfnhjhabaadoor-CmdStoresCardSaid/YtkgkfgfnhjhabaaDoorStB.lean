/-
  The document's Store and Load, plain: where a command may stand, what stands there behind them.
  The document's Store and Load at every call.
  The document's Load at every call.
  CmdStores: what becomes of a memory into which a command is put, and which command stands anywhere, is what the document says.
-/
import Derived.Test.YtkgkfgfnhjhabaaDoorCmU
import Derived.Test.YtkgkfgfnhjhabaaDoorMemP
import Derived.Test.YtkgkfgfnhjhabaaDoorCmEg
import Derived.Test.YtkgkfgfnhjhabaaDoorCmK
import Derived.Test.YtkgkfgfnhjhabaaDoorCmR
import Derived.Test.YtkgkfgfnhjhabaaDoorStA
namespace Go.Proofs.YtkgkfgfnhjhabaaDoor
open Go.ChangeShapes Go.WideShapes Go.ChangeAt Go.RowKit
set_option linter.unusedVariables false
set_option linter.unusedSimpArgs false

theorem ent_alt {n : Nat} {a s off : Int} (hn : n ≤ 131072) : entOk n a s off = (holdsB n a s && (decide (off.tmod 8 = 0) && (decide (0 ≤ off) && decide (off ≤ s - 32)))) := by
  rw [Bool.eq_iff_iff]
  simp only [entOk, partOk, fairB, holdsB, Bool.and_eq_true, decide_eq_true_eq]
  omega
theorem ent_out {n : Nat} {a s off : Int} (hn : n ≤ 131072) (h : entOk n a s off = true) : ∃ A S o : Nat, a = A ∧ s = S ∧ off = o ∧ A + S ≤ n ∧ o % 8 = 0 ∧ o + 32 ≤ S := by
  rw [ent_alt hn] at h
  simp only [holdsB, Bool.and_eq_true, decide_eq_true_eq] at h
  obtain ⟨⟨h1, h2, h3⟩, h4, h5, h6⟩ := h
  rw [Int.tmod_eq_emod_of_nonneg h5] at h4
  exact ⟨a.toNat, s.toNat, off.toNat, by omega, by omega, by omega, by omega, by omega, by omega⟩
theorem acc_at {n A S o k : Nat} (hn : n ≤ 131072) (h : A + S ≤ n) (ho : o % 8 = 0) (hs : o + 32 ≤ S) (hk : k < 4) : accE n (A : Int) (S : Int) ((o : Int) + 8 * (k : Int)) 8 = 0 := by
  have hb : holdsB n (A : Int) (S : Int) = true := by simp [holdsB]; omega
  rw [accE, if_pos hb]
  refine mayE0 (.inr (.inr rfl)) ?_ ⟨by omega, ?_⟩
  · rw [Int.tmod_eq_emod_of_nonneg (by omega)]
    have : ((o : Int) + 8 * (k : Int)) % 8 = 0 := by omega
    simp [this]
  · unfold RowKit.wrap64; omega
/-- The bytes behind k words that the document writes. -/
def rstB (bs : List Nat) (a s off : Int) (ws : Ws) : Nat → List Nat
  | 0 => bs
  | k + 1 => wrB (rstB bs a s off ws k) a s (off + 8 * (k : Int)) 8 (ws k)
theorem rst_eq {bs : List Nat} {a s off : Int} {ws : Ws} (hl : bs.length ≤ 131072) (h : entOk bs.length a s off = true) : ∀ k, k ≤ 4 → rstB bs a s off ws k = stB bs (a + off) ws k
  | 0, _ => rfl
  | k + 1, hk => by
    have ih := rst_eq (ws := ws) hl h k (by omega)
    obtain ⟨A, S, o, rfl, rfl, rfl, h1, h2, h3⟩ := ent_out hl h
    have hlen : (stB bs ((A : Int) + (o : Int)) ws k).length = bs.length := stB_len hl k
    rw [rstB, stB, ih, wrB, wrB, hlen, acc_at hl h1 h2 h3 (by omega), show (A : Int) + (o : Int) = ((A + o : Nat) : Int) from by omega, acc8 (by omega) (by omega)]
    rw [if_pos rfl, if_pos rfl]
    congr 1
    omega
theorem rrd_eq {bs : List Nat} {a s off : Int} (hl : bs.length ≤ 131072) (h : entOk bs.length a s off = true) {k : Nat} (hk : k < 4) : rdE bs a s (off + 8 * (k : Int)) 8 = ldW bs (a + off) k ∧ accE bs.length a s (off + 8 * (k : Int)) 8 = 0 := by
  obtain ⟨A, S, o, rfl, rfl, rfl, h1, h2, h3⟩ := ent_out hl h
  have e := acc_at hl h1 h2 h3 hk
  refine ⟨?_, e⟩
  rw [ldW, rdE, rdE, e, show (A : Int) + (o : Int) = ((A + o : Nat) : Int) from by omega, acc8 (by omega) hk, if_pos rfl, if_pos rfl]
  congr 2
  omega
/-- Whatever the four reads let in may stand there. -/
theorem ent_of_acc {n : Nat} {a s off : Int} (hn : n ≤ 131072) (ho : i64B off) (h0 : accE n a s (RowKit.wrap64 (off + 0)) 8 = 0) (h3 : accE n a s (RowKit.wrap64 (off + 24)) 8 = 0) : entOk n a s off = true := by
  rw [ent_alt hn]
  unfold accE at h0 h3
  cases hb : holdsB n a s
  · rw [hb] at h0; simp at h0
  · rw [hb, if_pos rfl] at h0 h3
    have hb2 := hb
    simp only [holdsB, decide_eq_true_eq] at hb2
    unfold i64B at ho
    obtain ⟨o0, m0, e0, e0', _, e0m, e0s⟩ := mayE_out (by omega) (by omega) h0
    obtain ⟨o3, m3, e3, e3', _, e3m, e3s⟩ := mayE_out (by omega) (by omega) h3
    obtain rfl : m0 = 8 := by omega
    obtain rfl : m3 = 8 := by omega
    have w0 : RowKit.wrap64 (off + 0) = off := by unfold RowKit.wrap64; omega
    rw [w0] at e0
    subst e0
    have w3 : RowKit.wrap64 ((o0 : Int) + 24) = (o0 : Int) + 24 := by unfold RowKit.wrap64; omega
    rw [w3] at e3
    rw [Int.tmod_eq_emod_of_nonneg (by omega)]
    simp only [Bool.true_and, Bool.and_eq_true, decide_eq_true_eq]
    omega

end Go.Proofs.YtkgkfgfnhjhabaaDoor

namespace Go.Proofs.YtkgkfgfnhjhabaaDoor
open Go.ChangeShapes Go.WideShapes Go.ChangeAt Go.RowKit
set_option linter.unusedVariables false
set_option linter.unusedSimpArgs false

/-- What the document's Store keeps through its loop. -/
structure RsI (w : World) (p g cap B : Nat) (a s : Int) (ws : Ws) (bs : List Nat) (W : World) : Prop where
  mem : MemAt 98 W p g cap bs
  box : CB W w.heap.size 42 #[.int .i64 a, .int .i64 s]
  ws : CB W B 26 (Ws.cs ws)
  kept : Kept (· = g) w W
theorem RsI.write {w : World} {p g cap B : Nat} {a s : Int} {ws : Ws} {bs cs : List Nat} {W W' : World} (h : RsI w p g cap B a s ws bs W) (hg : g < w.heap.size) (hB : w.heap.size < B) (hm : MemAt 98 W' p g cap cs) (k : Kept (· = g) W W') : RsI w p g cap B a s ws cs W' :=
  ⟨hm, h.box.keptB k (by show ¬ _ = g; omega), h.ws.keptB k (by show ¬ _ = g; omega), h.kept.trans k⟩
theorem RsI.later {w : World} {p g cap B : Nat} {a s : Int} {ws : Ws} {bs : List Nat} {W W' : World} (h : RsI w p g cap B a s ws bs W) (k : Below W.heap.size W W') : RsI w p g cap B a s ws bs W' :=
  ⟨h.mem.below k, h.box.below k, h.ws.below k, h.kept.below k⟩

set_option maxRecDepth 100000 in
set_option maxHeartbeats 8000000 in
theorem rstore_any (p g cap : Nat) (bs : List Nat) (a s off : Int) (c : Cm) (w : World) (hM : MemAt 98 w p g cap bs) (ha : i64B a) (hs : i64B s) (ho : i64B off) (hF : c.Fair) :
    Calls Tryd.prog 22 #[.pointer (some ⟨p, 0, none⟩), win a s, .int .i64 off, c.v] w fun e w' => e = .returned (.int .i64 (stE bs.length a s off (validC c))) ∧ MemAt 98 w' p g cap (stL bs a s off c) ∧ Kept (· = g) w w' := by
  have HE := hi (fun W => renc_any c hF W)
  have HHL := hi (fun W (hb : Below w.heap.size w W) => rholds_any p g cap bs a s W (hM.below hb) ha.1 ha.2 hs.1 hs.2)
  have HM := hi hM
  have hgl : g < w.heap.size := hM.bytes.lt
  have hln := hM.len
  have HB2 := hi (show ∀ W, Below ((w.alloc (.cells #[.int .i64 a, .int .i64 s] 42)).alloc (.cells (Cm.cs c) 24)).heap.size ((w.alloc (.cells #[.int .i64 a, .int .i64 s] 42)).alloc (.cells (Cm.cs c) 24)) W → ∀ en : Ws, CB (W.alloc (.cells (Ws.cs en) 26)) w.heap.size 42 #[.int .i64 a, .int .i64 s] ∧ Below w.heap.size w (W.alloc (.cells (Ws.cs en) 26)) ∧ w.heap.size < W.heap.size from fun W hb en =>
    ⟨(((CB.new w _ _).alloc _).below hb).alloc _, ((bal_two w _ _).trans (hb.mono (by simp; omega))).alloc (by have := hb.size; simp at this; omega) _, by have := hb.size; simp at this; omega⟩)
  cases hv : validC c
  · have hL : stL bs a s off c = bs := by rw [stL, hv]; rfl
    rw [hL, show stE bs.length a s off false = 160 from rfl]
    rw [hv] at HE
    obtain ⟨en, hen⟩ : ∃ en, encW c = en := ⟨_, rfl⟩
    rw [hen] at HE
    clear hv hL hen hF hM ha hs ho HHL
    obtain ⟨c1, c2, c3, c4, c5, c6, c7, c8, c9⟩ := c
    unfold win
    dsimp only [Cm.v, Cm.cs] at HE HB2 ⊢
    go_enter Tryd.func22, Tryd.ntmps22
    go_wp2_with (go_at_call 11; ((with_reducible refine (HE.out _).mono ?_); rintro e w1 ⟨rfl, hb1⟩; have HB := hi (HB2.out _ hb1 en).2.1; clear hb1))
    go_ret
    exact ⟨rfl, HM.out.below HB.out, Kept.of HB.out⟩
  · have hwl := words_lt hv
    rw [hv, show encW c = wordsC c by rw [encW, if_pos hv]] at HE
    have HL := hi (show stL bs a s off c = if entOk bs.length a s off = true then stB bs (a + off) (wordsC c) 4 else bs by rw [stL, hv, Bool.true_and])
    have HSE := hi (show stE bs.length a s off true = if entOk bs.length a s off = true then 0 else 42 from rfl)
    have HEO := hi (ent_alt (n := bs.length) (a := a) (s := s) (off := off) hln)
    obtain ⟨ws, hws⟩ : ∃ ws, wordsC c = ws := ⟨_, rfl⟩
    rw [hws] at HE HL hwl
    have HRS := hi (fun (h : entOk bs.length a s off = true) k hk => rst_eq (ws := ws) hln h k hk)
    have HWB := hi hwl
    obtain ⟨sl, hsl⟩ : ∃ v, stL bs a s off c = v := ⟨_, rfl⟩
    obtain ⟨se, hse⟩ : ∃ v, stE bs.length a s off true = v := ⟨_, rfl⟩
    obtain ⟨eo, heo⟩ : ∃ v, entOk bs.length a s off = v := ⟨_, rfl⟩
    obtain ⟨hb, hhb⟩ : ∃ v, holdsB bs.length a s = v := ⟨_, rfl⟩
    rw [hsl, heo] at HL
    rw [hse, heo] at HSE
    rw [heo, hhb] at HEO
    rw [heo] at HRS
    rw [hhb] at HHL
    rw [hsl, hse]
    have HH0 := hi (show hb = true → 0 ≤ s ∧ s ≤ 131072 from fun h => by rw [← hhb] at h; simp only [holdsB, decide_eq_true_eq] at h; omega)
    have HAB := hi (And.intro ha (And.intro hs ho))
    clear hws hsl hse heo hhb hv hwl ha hs ho hF hM
    obtain ⟨c1, c2, c3, c4, c5, c6, c7, c8, c9⟩ := c
    unfold win at HHL ⊢
    dsimp only [Cm.v, Cm.cs] at HE HB2 ⊢
    cases hb
    · obtain rfl : eo = false := by have := HEO.out; simpa using this
      obtain rfl : sl = bs := by have := HL.out; simpa using this
      obtain rfl : se = 42 := by have := HSE.out; simpa using this
      clear HRS HEO HL HSE HH0
      go_enter Tryd.func22, Tryd.ntmps22
      go_wp2_with (first
        | (go_at_call 11; ((with_reducible refine (HE.out _).mono ?_); rintro e w1 ⟨rfl, hb1⟩; have H1 := hi (And.intro (HB2.out _ hb1 ws).1 (And.intro (HB2.out _ hb1 ws).2.1 (And.intro (HB2.out _ hb1 ws).2.2 (And.intro (CB.new w1 26 (Ws.cs ws)).lt (CB.new w1 26 (Ws.cs ws)))))); obtain ⟨q0, q1⟩ := CB.two H1.out.1; clear hb1))
        | (go_at_call 47; ((with_reducible refine (HHL.out _ H1.out.2.1).mono ?_); rintro e w2 ⟨rfl, hb2⟩; replace H1 := hi (And.intro (H1.out.1.below hb2) (And.intro (H1.out.2.1.trans (hb2.mono H1.out.2.1.size)) (And.intro H1.out.2.2.1 (And.intro (Nat.lt_of_lt_of_le H1.out.2.2.2.1 hb2.size) (H1.out.2.2.2.2.below hb2))))); have H2 := hi (And.intro H1.out.1 H1.out.2.1); clear hb2 q0 q1; obtain ⟨q0, q1⟩ := CB.two H2.out.1)))
      go_ret
      exact ⟨rfl, HM.out.below H2.out.2, Kept.of H2.out.2⟩
    · have hs2 := HH0.out rfl
      have hw32 : RowKit.wrap64 (s - 32) = s - 32 := by unfold RowKit.wrap64; omega
      by_cases h8 : off.tmod 8 = 0
      · have h8b : (off.tmod 8 != 0) = false := by simpa using h8
        by_cases h0 : off < 0
        · obtain rfl : eo = false := by have := HEO.out; rw [this]; simp; omega
          obtain rfl : sl = bs := by have := HL.out; simpa using this
          obtain rfl : se = 42 := by have := HSE.out; simpa using this
          clear HRS HEO HL HSE HH0 h8
          go_enter Tryd.func22, Tryd.ntmps22
          go_wp2_with (first
            | (go_at_call 11; ((with_reducible refine (HE.out _).mono ?_); rintro e w1 ⟨rfl, hb1⟩; have H1 := hi (And.intro (HB2.out _ hb1 ws).1 (And.intro (HB2.out _ hb1 ws).2.1 (And.intro (HB2.out _ hb1 ws).2.2 (And.intro (CB.new w1 26 (Ws.cs ws)).lt (CB.new w1 26 (Ws.cs ws)))))); obtain ⟨q0, q1⟩ := CB.two H1.out.1; clear hb1))
            | (go_at_call 47; ((with_reducible refine (HHL.out _ H1.out.2.1).mono ?_); rintro e w2 ⟨rfl, hb2⟩; replace H1 := hi (And.intro (H1.out.1.below hb2) (And.intro (H1.out.2.1.trans (hb2.mono H1.out.2.1.size)) (And.intro H1.out.2.2.1 (And.intro (Nat.lt_of_lt_of_le H1.out.2.2.2.1 hb2.size) (H1.out.2.2.2.2.below hb2))))); have H2 := hi (And.intro H1.out.1 H1.out.2.1); clear hb2 q0 q1; obtain ⟨q0, q1⟩ := CB.two H2.out.1)))
          go_ret
          exact ⟨rfl, HM.out.below H2.out.2, Kept.of H2.out.2⟩
        · have h8c : (off % 8 != 0) = false := by rw [Int.tmod_eq_emod_of_nonneg (by omega)] at h8; simpa using h8
          by_cases hg : s - 32 < off
          · obtain rfl : eo = false := by have := HEO.out; rw [this]; simp; omega
            obtain rfl : sl = bs := by have := HL.out; simpa using this
            obtain rfl : se = 42 := by have := HSE.out; simpa using this
            clear HRS HEO HL HSE HH0 h8
            go_enter Tryd.func22, Tryd.ntmps22
            go_wp2_with (first
              | (go_at_call 11; ((with_reducible refine (HE.out _).mono ?_); rintro e w1 ⟨rfl, hb1⟩; have H1 := hi (And.intro (HB2.out _ hb1 ws).1 (And.intro (HB2.out _ hb1 ws).2.1 (And.intro (HB2.out _ hb1 ws).2.2 (And.intro (CB.new w1 26 (Ws.cs ws)).lt (CB.new w1 26 (Ws.cs ws)))))); obtain ⟨q0, q1⟩ := CB.two H1.out.1; clear hb1))
              | (go_at_call 47; ((with_reducible refine (HHL.out _ H1.out.2.1).mono ?_); rintro e w2 ⟨rfl, hb2⟩; replace H1 := hi (And.intro (H1.out.1.below hb2) (And.intro (H1.out.2.1.trans (hb2.mono H1.out.2.1.size)) (And.intro H1.out.2.2.1 (And.intro (Nat.lt_of_lt_of_le H1.out.2.2.2.1 hb2.size) (H1.out.2.2.2.2.below hb2))))); have H2 := hi (And.intro H1.out.1 H1.out.2.1); clear hb2 q0 q1; obtain ⟨q0, q1⟩ := CB.two H2.out.1)))
            go_ret
            exact ⟨rfl, HM.out.below H2.out.2, Kept.of H2.out.2⟩
          · obtain rfl : eo = true := by have := HEO.out; rw [this]; simp [h8]; omega
            obtain rfl : sl = stB bs (a + off) ws 4 := by have := HL.out; simpa using this
            obtain rfl : se = 0 := by have := HSE.out; simpa using this
            have HR4 := hi (HRS.out rfl 4 (by omega))
            clear HRS HEO HL HSE HH0 h8
            go_enter Tryd.func22, Tryd.ntmps22
            go_wp2_with (first
              | (go_at_call 11; ((with_reducible refine (HE.out _).mono ?_); rintro e w1 ⟨rfl, hb1⟩; have H1 := hi (And.intro (HB2.out _ hb1 ws).1 (And.intro (HB2.out _ hb1 ws).2.1 (And.intro (HB2.out _ hb1 ws).2.2 (And.intro (CB.new w1 26 (Ws.cs ws)).lt (CB.new w1 26 (Ws.cs ws)))))); obtain ⟨q0, q1⟩ := CB.two H1.out.1; clear hb1))
              | (go_at_call 47; ((with_reducible refine (HHL.out _ H1.out.2.1).mono ?_); rintro e w2 ⟨rfl, hb2⟩; replace H1 := hi (And.intro (H1.out.1.below hb2) (And.intro (H1.out.2.1.trans (hb2.mono H1.out.2.1.size)) (And.intro H1.out.2.2.1 (And.intro (Nat.lt_of_lt_of_le H1.out.2.2.2.1 hb2.size) (H1.out.2.2.2.2.below hb2))))); have H2 := hi (And.intro H1.out.1 H1.out.2.1); clear hb2 q0 q1; obtain ⟨q0, q1⟩ := CB.two H2.out.1)))
            have HS0 := hi (show RsI w p g cap w1.heap.size a s ws (rstB bs a s off ws 0) w2 from ⟨HM.out.below H2.out.2, H2.out.1, H1.out.2.2.2.2, Kept.of H2.out.2⟩)
            have hw1 : w.heap.size < w1.heap.size := H1.out.2.2.1
            clear H1 H2
            go_loopw [11] (fun i wr => ∃ k : Nat, k ≤ 4 ∧ i = .int .i64 k ∧ Hi (RsI w p g cap w1.heap.size a s ws (rstB bs a s off ws k) wr)) (fun i _ => 4 - (intOf i).toNat)
            case atStart => exact ⟨0, by omega, rfl, HS0⟩
            case round =>
              obtain ⟨k, hk4, rfl, HJ⟩ := hrel
              by_cases hlt : k < 4
              · have x1 : (k : Int) < 4 := by omega
                have e1 : RowKit.wrap64 (8 * (k : Int)) = 8 * (k : Int) := by unfold RowKit.wrap64; omega
                have e2 : RowKit.wrap64 (off + 8 * (k : Int)) = off + 8 * (k : Int) := by unfold RowKit.wrap64; omega
                have HWR := hi (fun W (hm : MemAt 98 W p g cap (rstB bs a s off ws k)) => rwrite_any p g cap (rstB bs a s off ws k) a s (off + 8 * (k : Int)) 8 (ws k) W hm HAB.out.1.1 HAB.out.1.2 HAB.out.2.1.1 HAB.out.2.1.2 (HWB.out k))
                unfold win at HWR
                have e3 : IntKind.i64.wrap (off + IntKind.i64.wrap (8 * (k : Int))) = off + 8 * (k : Int) := by rw [IntKind.wrap_i64, IntKind.wrap_i64]; omega
                rw [← e3] at HWR
                clear e3
                go_wp2
                have HC3 := CB.two HJ.out.box
                refine wp_region_noPanic ?_
                refine wp_region_last_drew (S := (fun w' => w'.cell? ⟨w.heap.size, 0, none⟩ = some (.int .i64 a) ∧ w'.cell? ⟨w.heap.size, 1, none⟩ = some (.int .i64 s) ∧ w'.cell? ⟨w1.heap.size, k, none⟩ = some (.int .u64 (ws k)))) [] (by kernel_rfl) ⟨HC3.1, HC3.2, HJ.out.ws.ws hlt⟩ (fun hHeld => ?_)
                (try simp only [Array.replicate_succ, Array.replicate_zero, List.push_toArray, List.nil_append, List.cons_append])
                refine wpAnyF_take (i := 0) (v := ?_) (by kernel_rfl) (by kernel_rfl) rfl (by kernel_rfl) (by kernel_rfl) (by kernel_rfl) (fun _ _ _ h => h) (Or.inl ⟨by rfl, ?_⟩) (by assumption) ?_
                rotate_left
                · intro w' hSw; (try dsimp only at hSw); clear hSw; go_simp; (try with_reducible rfl)
                (try simp only [Act.put, List.getElem_toArray, List.getElem_cons_zero, List.getElem_cons_succ, List.setIfInBounds_toArray, List.set_cons_zero, List.set_cons_succ])
                refine wpAnyF_take (i := 1) (v := ?_) (by kernel_rfl) (by kernel_rfl) rfl (by kernel_rfl) (by kernel_rfl) (by kernel_rfl) (fun _ _ _ h => h) (Or.inl ⟨by rfl, ?_⟩) (by assumption) ?_
                rotate_left
                · intro w' hSw; (try dsimp only at hSw); obtain ⟨q0, q1, _q2⟩ := hSw; clear _q2; go_simp; (try with_reducible rfl)
                (try simp only [Act.put, List.getElem_toArray, List.getElem_cons_zero, List.getElem_cons_succ, List.setIfInBounds_toArray, List.set_cons_zero, List.set_cons_succ])
                refine wpAnyF_take (i := 2) (v := ?_) (by kernel_rfl) (by kernel_rfl) rfl (by kernel_rfl) (by kernel_rfl) (by kernel_rfl) (fun _ _ _ h => h) (Or.inl ⟨by rfl, ?_⟩) (by assumption) ?_
                rotate_left
                · intro w' hSw; (try dsimp only at hSw); clear hSw; go_simp; (try with_reducible rfl)
                (try simp only [Act.put, List.getElem_toArray, List.getElem_cons_zero, List.getElem_cons_succ, List.setIfInBounds_toArray, List.set_cons_zero, List.set_cons_succ])
                refine wpAnyF_take (i := 3) (v := ?_) (by kernel_rfl) (by kernel_rfl) rfl (by kernel_rfl) (by kernel_rfl) (by kernel_rfl) (fun _ _ _ h => h) (Or.inl ⟨by rfl, ?_⟩) (by assumption) ?_
                rotate_left
                · intro w' hSw; (try dsimp only at hSw); clear hSw; go_simp; (try with_reducible rfl)
                (try simp only [Act.put, List.getElem_toArray, List.getElem_cons_zero, List.getElem_cons_succ, List.setIfInBounds_toArray, List.set_cons_zero, List.set_cons_succ])
                refine wpAnyF_take (i := 4) (v := ?_) (by kernel_rfl) (by kernel_rfl) rfl (by kernel_rfl) (by kernel_rfl) (by kernel_rfl) (fun _ _ _ h => h) (Or.inl ⟨by rfl, ?_⟩) (by assumption) ?_
                rotate_left
                · intro w' hSw; (try dsimp only at hSw); clear hSw; go_simp; (try with_reducible rfl)
                (try simp only [Act.put, List.getElem_toArray, List.getElem_cons_zero, List.getElem_cons_succ, List.setIfInBounds_toArray, List.set_cons_zero, List.set_cons_succ])
                refine wpAnyF_take (i := 5) (v := ?_) (by kernel_rfl) (by kernel_rfl) rfl (by kernel_rfl) (by kernel_rfl) (by kernel_rfl) (fun _ _ _ h => h) (Or.inl ⟨by rfl, ?_⟩) (by assumption) ?_
                rotate_left
                · intro w' hSw; (try dsimp only at hSw); clear hSw; go_simp; (try with_reducible rfl)
                (try simp only [Act.put, List.getElem_toArray, List.getElem_cons_zero, List.getElem_cons_succ, List.setIfInBounds_toArray, List.set_cons_zero, List.set_cons_succ])
                refine wpAnyF_take (i := 6) (v := ?_) (by kernel_rfl) (by kernel_rfl) rfl (by kernel_rfl) (by kernel_rfl) (by kernel_rfl) (fun _ _ _ h => h) (Or.inl ⟨by rfl, ?_⟩) (by assumption) ?_
                rotate_left
                · intro w' hSw; (try dsimp only at hSw); clear hSw; go_simp; (try with_reducible rfl)
                (try simp only [Act.put, List.getElem_toArray, List.getElem_cons_zero, List.getElem_cons_succ, List.setIfInBounds_toArray, List.set_cons_zero, List.set_cons_succ])
                refine wpAnyF_take (i := 7) (v := ?_) (by kernel_rfl) (by kernel_rfl) rfl (by kernel_rfl) (by kernel_rfl) (by kernel_rfl) (fun _ _ _ h => h) (Or.inl ⟨by rfl, ?_⟩) (by assumption) ?_
                rotate_left
                · intro w' hSw; (try dsimp only at hSw); clear hSw; go_simp; (try with_reducible rfl)
                (try simp only [Act.put, List.getElem_toArray, List.getElem_cons_zero, List.getElem_cons_succ, List.setIfInBounds_toArray, List.set_cons_zero, List.set_cons_succ])
                refine wpAnyF_take (i := 8) (v := ?_) (by kernel_rfl) (by kernel_rfl) rfl (by kernel_rfl) (by kernel_rfl) (by kernel_rfl) (fun _ _ _ h => h) (Or.inl ⟨by rfl, ?_⟩) (by assumption) ?_
                rotate_left
                · intro w' hSw; (try dsimp only at hSw); obtain ⟨_q0, _q1, q2⟩ := hSw; clear _q0 _q1; go_simp; (try with_reducible rfl)
                (try simp only [Act.put, List.getElem_toArray, List.getElem_cons_zero, List.getElem_cons_succ, List.setIfInBounds_toArray, List.set_cons_zero, List.set_cons_succ])
                refine wpAnyF_ready (rs := [9]) (by kernel_rfl) (by simp) ?_
                refine AllReadyF.cons rfl (fun KK hKK => ?_) AllReadyF.nil
                go_simp
                ((with_reducible refine (HWR.out _ (HJ.out.later (below_drew' _)).mem).mono ?_); rintro e' w3 ⟨rfl, hm3, hk3⟩; have HJ2 := hi (show RsI w p g cap w1.heap.size a s ws (rstB bs a s off ws (k + 1)) w3 from (HJ.out.later (below_drew' _)).write hgl hw1 (by rw [rstB]; have e3 : IntKind.i64.wrap (off + IntKind.i64.wrap (8 * (k : Int))) = off + 8 * (k : Int) := (by rw [IntKind.wrap_i64, IntKind.wrap_i64]; omega); rw [e3] at hm3; exact hm3) hk3))
                (try go_simp)
                refine hKK.out _ _ ⟨(CB.two HJ2.out.box).1, (CB.two HJ2.out.box).2, HJ2.out.ws.ws hlt⟩ (fun hHeld => ?_)
                clear hKK KK
                (try simp only [Act.put, List.getElem_toArray, List.getElem_cons_zero, List.getElem_cons_succ, List.setIfInBounds_toArray, List.set_cons_zero, List.set_cons_succ])
                refine wpAnyF_done (by kernel_rfl) ?_ _
                refine NoPanic.normal ?_
                go_wp2
                go_roundw
                case rel => exact ⟨k + 1, by omega, by go_num, HJ2⟩
                case measure => simp [intOf]; omega
              · obtain rfl : k = 4 := by omega
                have x1 : ¬ ((4 : Nat) : Int) < 4 := by omega
                rw [HR4.out] at HJ
                go_wp2
                go_ret
                exact ⟨rfl, HJ.out.mem, HJ.out.kept⟩
      · have h8b : (off.tmod 8 != 0) = true := by simpa using h8
        obtain rfl : eo = false := by have := HEO.out; rw [this]; simp [h8]
        obtain rfl : sl = bs := by have := HL.out; simpa using this
        obtain rfl : se = 42 := by have := HSE.out; simpa using this
        clear HRS HEO HL HSE HH0 h8
        go_enter Tryd.func22, Tryd.ntmps22
        go_wp2_with (first
          | (go_at_call 11; ((with_reducible refine (HE.out _).mono ?_); rintro e w1 ⟨rfl, hb1⟩; have H1 := hi (And.intro (HB2.out _ hb1 ws).1 (And.intro (HB2.out _ hb1 ws).2.1 (And.intro (HB2.out _ hb1 ws).2.2 (And.intro (CB.new w1 26 (Ws.cs ws)).lt (CB.new w1 26 (Ws.cs ws)))))); obtain ⟨q0, q1⟩ := CB.two H1.out.1; clear hb1))
          | (go_at_call 47; ((with_reducible refine (HHL.out _ H1.out.2.1).mono ?_); rintro e w2 ⟨rfl, hb2⟩; replace H1 := hi (And.intro (H1.out.1.below hb2) (And.intro (H1.out.2.1.trans (hb2.mono H1.out.2.1.size)) (And.intro H1.out.2.2.1 (And.intro (Nat.lt_of_lt_of_le H1.out.2.2.2.1 hb2.size) (H1.out.2.2.2.2.below hb2))))); have H2 := hi (And.intro H1.out.1 H1.out.2.1); clear hb2 q0 q1; obtain ⟨q0, q1⟩ := CB.two H2.out.1)))
        go_ret
        exact ⟨rfl, HM.out.below H2.out.2, Kept.of H2.out.2⟩

end Go.Proofs.YtkgkfgfnhjhabaaDoor

namespace Go.Proofs.YtkgkfgfnhjhabaaDoor
open Go.ChangeShapes Go.WideShapes Go.ChangeAt Go.RowKit
set_option linter.unusedVariables false
set_option linter.unusedSimpArgs false

theorem CB.fourz {W : World} {b : Nat} {t : TypeId} {n : Ws} (h : CB W b t (Ws.cs n)) : W.cell? ⟨b, 0, none⟩ = some (.int .u64 (n 0)) ∧ W.cell? ⟨b, 1, none⟩ = some (.int .u64 (n 1)) ∧ W.cell? ⟨b, 2, none⟩ = some (.int .u64 (n 2)) ∧ W.cell? ⟨b, 3, none⟩ = some (.int .u64 (n 3)) := CB.four h
def offK (off : Int) (k : Nat) : Int := RowKit.wrap64 (off + 8 * (k : Int))
theorem offK_is {off : Int} (ho : i64B off) (k : Nat) (hk : k < 4) : offK off k = RowKit.wrap64 (off + 8 * (k : Int)) := rfl
/-- The words that are read so far. -/
def ldP (bs : List Nat) (a s off : Int) (k : Nat) : Ws := fun j => if j < k then rdE bs a s (offK off j) 8 else 0
theorem ldP_succ (bs : List Nat) (a s off : Int) (k : Nat) : (fun j => if j = k then rdE bs a s (offK off k) 8 else ldP bs a s off k j) = ldP bs a s off (k + 1) := by
  funext j
  simp only [ldP]
  by_cases h : j = k
  · subst h; simp
  · rw [if_neg h]
    by_cases h2 : j < k
    · rw [if_pos h2, if_pos (by omega)]
    · rw [if_neg h2, if_neg (by omega)]
/-- What the document's Load keeps through its loop. -/
structure RlI (w : World) (p g cap : Nat) (a s : Int) (bs : List Nat) (z : Ws) (W : World) : Prop where
  mem : MemAt 98 W p g cap bs
  box : CB W w.heap.size 42 #[.int .i64 a, .int .i64 s]
  r : CB W (w.heap.size + 1) 24 (Cm.cs Cm.zero)
  ws : CB W (w.heap.size + 1 + 1) 26 (Ws.cs z)
  below : Below w.heap.size w W
theorem RlI.later {w : World} {p g cap : Nat} {a s : Int} {bs : List Nat} {z : Ws} {W W' : World} (h : RlI w p g cap a s bs z W) (k : Below W.heap.size W W') : RlI w p g cap a s bs z W' :=
  ⟨h.mem.below k, h.box.below k, h.r.below k, h.ws.below k, h.below.trans (k.mono h.below.size)⟩
theorem RlI.put {w : World} {p g cap : Nat} {a s : Int} {bs : List Nat} {off : Int} {W : World} {k : Nat} (h : RlI w p g cap a s bs (ldP bs a s off k) W) (hp : p < w.heap.size) (hg : g < w.heap.size) (hk : k < 4) :
    RlI w p g cap a s bs (ldP bs a s off (k + 1)) (W.setCell ⟨w.heap.size + 1 + 1, k, none⟩ (.int .u64 (rdE bs a s (offK off k) 8 : Nat))) := by
  have hb : Kept (· = w.heap.size + 1 + 1) W (W.setCell ⟨w.heap.size + 1 + 1, k, none⟩ (.int .u64 (rdE bs a s (offK off k) 8 : Nat))) := kept_setCell W _ _ _
  refine ⟨h.mem.kept hb (by omega) (by omega), h.box.other _ _ _ (by omega), h.r.other _ _ _ (by omega), ?_, below_set h.below (by omega) _⟩
  have := h.ws.set k (.int .u64 (rdE bs a s (offK off k) 8 : Nat))
  rwa [ws_set _ hk, ldP_succ] at this

set_option maxRecDepth 100000 in
set_option maxHeartbeats 8000000 in
theorem rload_any (p g cap : Nat) (bs : List Nat) (a s off : Int) (w : World) (hM : MemAt 98 w p g cap bs) (ha : i64B a) (hs : i64B s) (ho : i64B off) :
    Calls Tryd.prog 25 #[.pointer (some ⟨p, 0, none⟩), win a s, .int .i64 off] w fun e w' => e = .returned (.tuple #[(ldV bs a s off).v, .int .i64 (ldE bs a s off)]) ∧ Below w.heap.size w w' := by
  have hln := hM.len
  have hpl : p < w.heap.size := hM.plt
  have hgl : g < w.heap.size := hM.bytes.lt
  have HRD := hi (fun (k : Nat) W (h : MemAt 98 W p g cap bs) => rread_any p g cap bs a s (offK off k) 8 W h ha.1 ha.2 hs.1 hs.2)
  have HNO := hi (fun (k : Nat) (hk : k < 4) (hne : accE bs.length a s (offK off k) 8 ≠ 0) => show entOk bs.length a s off = false by
    cases he : entOk bs.length a s off
    · rfl
    · exfalso
      obtain ⟨A, S, o, rfl, rfl, rfl, h1, h2, h3⟩ := ent_out hln he
      apply hne
      rw [offK_is ho k hk, show RowKit.wrap64 ((o : Int) + 8 * (k : Int)) = (o : Int) + 8 * (k : Int) by unfold RowKit.wrap64; omega]
      exact acc_at hln h1 h2 h3 hk)
  have HYES := hi (fun (h : ∀ j, j < 4 → accE bs.length a s (offK off j) 8 = 0) => show entOk bs.length a s off = true ∧ ∀ j, j < 4 → ldP bs a s off 4 j = ldW bs (a + off) j by
    have h0 := h 0 (by omega)
    have h3 := h 3 (by omega)
    rw [offK_is ho 0 (by omega)] at h0
    rw [offK_is ho 3 (by omega)] at h3
    have he := ent_of_acc hln ho h0 h3
    refine ⟨he, fun j hj => ?_⟩
    have h1 := (rrd_eq hln he hj).1
    obtain ⟨A, S, o, rfl, rfl, rfl, _, _, _⟩ := ent_out hln he
    simp only [ldP]
    rw [if_pos hj, offK_is ho j hj, show RowKit.wrap64 ((o : Int) + 8 * (j : Int)) = (o : Int) + 8 * (j : Int) by unfold RowKit.wrap64; omega]
    exact h1)
  have HDC := hi (fun W => rdec_any (ldW bs (a + off)) (fun j => rdE_lt (fun x hx => hM.bytes.2 x hx) hln) W)
  have HV := hi (show ldV bs a s off = (if entOk bs.length a s off = true then decR (ldW bs (a + off)) else Cm.zero) ∧ ldE bs a s off = (if entOk bs.length a s off = true then errN (decOk (ldW bs (a + off))) else 42) from ⟨rfl, rfl⟩)
  have HM := hi hM
  obtain ⟨dr, hdr⟩ : ∃ v, ldV bs a s off = v := ⟨_, rfl⟩
  obtain ⟨de, hde⟩ : ∃ v, ldE bs a s off = v := ⟨_, rfl⟩
  rw [hdr, hde] at HV ⊢
  obtain ⟨ws, hws⟩ : ∃ ws, ldW bs (a + off) = ws := ⟨_, rfl⟩
  rw [hws] at HV HDC HYES
  obtain ⟨cc, hcc⟩ : ∃ v, decR ws = v := ⟨_, rfl⟩
  obtain ⟨ck, hck⟩ : ∃ v, decOk ws = v := ⟨_, rfl⟩
  rw [hcc, hck] at HV HDC
  obtain ⟨eo, heo⟩ : ∃ v, entOk bs.length a s off = v := ⟨_, rfl⟩
  rw [heo] at HV HNO HYES
  clear hdr hde hws heo ha hs ho hM
  unfold win tupU at HRD
  unfold win
  have HZC := hi (show ck = false → cc = Cm.zero from fun h => by rw [← hcc, decR, if_neg (by rw [hck, h]; decide)])
  obtain ⟨c1, c2, c3, c4, c5, c6, c7, c8, c9⟩ := cc
  simp only [Cm.zero, Cm.mk.injEq] at HZC
  clear hcc hck
  dsimp only [Cm.v] at HDC
  have HI0 := hi (show RlI w p g cap a s bs (ldP bs a s off 0) (((w.alloc (.cells #[.int .i64 a, .int .i64 s] 42)).alloc (.cells (Cm.cs Cm.zero) 24)).alloc (.cells (Ws.cs wz) 26)) from
    ⟨((HM.out.below (bal _ _)).below (bal _ _)).below (bal _ _), ((CB.new w _ _).alloc _).alloc _, cb_second.alloc _, cb_third, bal_three w _ _ _⟩)
  go_enter Tryd.func25, Tryd.ntmps25
  go_wp2
  go_loopw [9] (fun i wr => ∃ k : Nat, k ≤ 4 ∧ i = .int .i64 k ∧ Hi ((∀ j, j < k → accE bs.length a s (offK off j) 8 = 0) ∧ RlI w p g cap a s bs (ldP bs a s off k) wr)) (fun i _ => 4 - (intOf i).toNat)
  case atStart => exact ⟨0, by omega, rfl, hi ⟨fun j h => absurd h (by omega), HI0.out⟩⟩
  case round =>
    obtain ⟨k, hk4, rfl, HJ⟩ := hrel
    by_cases hlt : k < 4
    · have x1 : (k : Int) < 4 := by omega
      have HR := hi (HRD.out k)
      obtain ⟨q0, q1⟩ := CB.two HJ.out.2.box
      obtain ⟨rv, hrv⟩ : ∃ v, rdE bs a s (offK off k) 8 = v := ⟨_, rfl⟩
      obtain ⟨ac, hac⟩ : ∃ v, accE bs.length a s (offK off k) 8 = v := ⟨_, rfl⟩
      rw [hrv, hac] at HR
      unfold offK at HR
      have HK := hi (And.intro hrv (And.intro hac hlt))
      clear hrv hac
      by_cases hz : ac = 0
      · subst hz
        go_wp2_with (go_at_call 50; ((with_reducible refine (HR.out _ HJ.out.2.mem).mono ?_); rintro e w2 ⟨rfl, hb2⟩; have HJ2 := hi (HJ.out.2.later hb2); obtain ⟨r0, r1, r2, r3⟩ := CB.fourz HJ2.out.ws; have wk := HJ2.out.ws.ws hlt; have rf := HJ2.out.ws.frozen; have rz := HJ2.out.ws.lt; clear hb2 q0 q1 r0 r1 r2 r3))
        go_roundw
        case rel =>
          refine ⟨k + 1, HK.out.2.2, by go_num, hi ⟨fun j hj => ?_, ?_⟩⟩
          · by_cases e : j = k
            · subst e; exact HK.out.2.1
            · exact HJ.out.1 j (by omega)
          · have := HJ2.out.put hpl hgl HK.out.2.2
            rw [HK.out.1] at this
            exact this
        case measure => have := HK.out.2.2; simp [intOf]; omega
      · have hne : (ac != 0) = true := by simpa using hz
        obtain rfl : eo = false := HNO.out k hlt (by rw [HK.out.2.1]; exact hz)
        obtain rfl : dr = Cm.zero := by have := HV.out.1; simpa using this
        obtain rfl : de = 42 := by have := HV.out.2; simpa using this
        clear HV HNO HYES HDC hz
        go_wp2_with (go_at_call 50; ((with_reducible refine (HR.out _ HJ.out.2.mem).mono ?_); rintro e w2 ⟨rfl, hb2⟩; have HJ2 := hi (HJ.out.2.later hb2); obtain ⟨r0, r1, r2, r3, r4, r5, r6, r7, r8⟩ := CB.cm9 HJ2.out.r; have rf := HJ2.out.r.frozen; have rz := HJ2.out.r.lt; clear hb2 q0 q1))
        exact bodyPost_ret (results_cmt rfl _ _ (w.heap.size + 1) _ _ _ _ _ _ _ _ _ _ rfl rfl (CB.set9 (show CB _ _ _ #[_, _, _, _, _, _, _, _, _] from HJ2.out.r) _ _ _ _ _ _ _ _ _)) rfl ⟨rfl, below_set9 HJ2.out.below (by omega) _ _ _ _ _ _ _ _ _⟩
    · obtain rfl : k = 4 := by omega
      have x1 : ¬ ((4 : Nat) : Int) < 4 := by omega
      obtain ⟨he, hw4⟩ := HYES.out HJ.out.1
      subst he
      have hdr := HV.out.1
      have hde := HV.out.2
      rw [if_pos rfl] at hdr hde
      subst hdr hde
      obtain ⟨q0, q1, q2, q3⟩ := CB.fourz HJ.out.2.ws
      rw [hw4 0 (by omega)] at q0
      rw [hw4 1 (by omega)] at q1
      rw [hw4 2 (by omega)] at q2
      rw [hw4 3 (by omega)] at q3
      clear HV HNO HYES hw4 hk4 hlt
      cases ck
      · obtain ⟨rfl, rfl, rfl, rfl, rfl, rfl, rfl, rfl, rfl⟩ := HZC.out rfl
        go_wp2_with (go_at_call 13; ((with_reducible refine (HDC.out _).mono ?_); rintro e w3 ⟨rfl, hb3⟩; have HI3 := hi ((HJ.out.2.later hb3).later (bal w3 (.cells #[.int .i64 0, .int .i64 0, .int .i64 0, .int .i64 0, .int .i64 0, .int .i64 0, .int .i64 0, .int .i64 0, .bool false] 24))); obtain ⟨r0, r1, r2, r3, r4, r5, r6, r7, r8⟩ := CB.cm9 HI3.out.r; have rf := HI3.out.r.frozen; have rz := HI3.out.r.lt; clear hb3 q0 q1 q2 q3))
        exact bodyPost_ret (results_cmt rfl _ _ (w.heap.size + 1) _ _ _ _ _ _ _ _ _ _ rfl rfl (CB.set9 (show CB _ _ _ #[_, _, _, _, _, _, _, _, _] from HI3.out.r) _ _ _ _ _ _ _ _ _)) rfl ⟨rfl, below_set9 HI3.out.below (by omega) _ _ _ _ _ _ _ _ _⟩
      · go_wp2_with (go_at_call 13; ((with_reducible refine (HDC.out _).mono ?_); rintro e w3 ⟨rfl, hb3⟩; have HI3 := hi ((HJ.out.2.later hb3).later (bal w3 (.cells #[.int .i64 c1, .int .i64 c2, .int .i64 c3, .int .i64 c4, .int .i64 c5, .int .i64 c6, .int .i64 c7, .int .i64 c8, .bool c9] 24))); obtain ⟨r0, r1, r2, r3, r4, r5, r6, r7, r8⟩ := CB.cm9 HI3.out.r; have rf := HI3.out.r.frozen; have rz := HI3.out.r.lt; clear hb3 q0 q1 q2 q3))
        exact bodyPost_ret (results_cmt rfl _ _ (w.heap.size + 1) _ _ _ _ _ _ _ _ _ _ rfl rfl (CB.set9 (show CB _ _ _ #[_, _, _, _, _, _, _, _, _] from HI3.out.r) _ _ _ _ _ _ _ _ _)) rfl ⟨rfl, below_set9 HI3.out.below (by omega) _ _ _ _ _ _ _ _ _⟩

end Go.Proofs.YtkgkfgfnhjhabaaDoor

namespace Go.Proofs.YtkgkfgfnhjhabaaDoor
open Go.ChangeShapes Go.WideShapes Go.ChangeAt Go.RowKit
set_option linter.unusedVariables false
set_option linter.unusedSimpArgs false
attribute [local go_sem high] eql_cm neq_cm guard_cm

/-- The window's and the command's boxes, ahead of all that is made. -/
structure WcB (w : World) (a s : Int) (c : Cm) (W : World) : Prop where
  a : CB W w.heap.size 42 #[.int .i64 a, .int .i64 s]
  c : CB W (w.heap.size + 1) 24 (Cm.cs c)
theorem WcB.of {w w2 W : World} {a s : Int} {c : Cm} (h : WcB w a s c w2) (k : Below w2.heap.size w2 W) : WcB w a s c W := ⟨h.a.below k, h.c.below k⟩
abbrev w2 (w : World) (a s c1 c2 c3 c4 c5 c6 c7 c8 : Int) (c9 : Bool) : World := (w.alloc (.cells #[.int .i64 a, .int .i64 s] 42)).alloc (.cells #[.int .i64 c1, .int .i64 c2, .int .i64 c3, .int .i64 c4, .int .i64 c5, .int .i64 c6, .int .i64 c7, .int .i64 c8, .bool c9] 24)
/-- What holds at each place behind the stores. -/
structure StH (w w0 : World) (a s : Int) (c1 c2 c3 c4 c5 c6 c7 c8 : Int) (c9 : Bool) (p g n q h m : Nat) (bs bs2 : List Nat) (V : World) : Prop where
  a : V.cell? ⟨w.heap.size, 0, none⟩ = some (.int .i64 a) ∧ V.cell? ⟨w.heap.size, 1, none⟩ = some (.int .i64 s)
  c : V.cell? ⟨w.heap.size + 1, 0, none⟩ = some (.int .i64 c1) ∧ V.cell? ⟨w.heap.size + 1, 1, none⟩ = some (.int .i64 c2) ∧ V.cell? ⟨w.heap.size + 1, 2, none⟩ = some (.int .i64 c3) ∧ V.cell? ⟨w.heap.size + 1, 3, none⟩ = some (.int .i64 c4) ∧ V.cell? ⟨w.heap.size + 1, 4, none⟩ = some (.int .i64 c5) ∧ V.cell? ⟨w.heap.size + 1, 5, none⟩ = some (.int .i64 c6) ∧ V.cell? ⟨w.heap.size + 1, 6, none⟩ = some (.int .i64 c7) ∧ V.cell? ⟨w.heap.size + 1, 7, none⟩ = some (.int .i64 c8) ∧ V.cell? ⟨w.heap.size + 1, 8, none⟩ = some (.bool c9)
  t : Two w0 p g n q h m bs bs2 V
theorem StH.mk' {w w0 V : World} {a s : Int} {c1 c2 c3 c4 c5 c6 c7 c8 : Int} {c9 : Bool} {p g n q h m : Nat} {bs bs2 : List Nat} (k : WcB w a s ⟨c1, c2, c3, c4, c5, c6, c7, c8, c9⟩ w0) (t : Two w0 p g n q h m bs bs2 V) : StH w w0 a s c1 c2 c3 c4 c5 c6 c7 c8 c9 p g n q h m bs bs2 V :=
  ⟨CB.two (k.of t.below).a, CB.cm9 (k.of t.below).c, t⟩

def actC (W : World) (b off k : Nat) (x : ActD) (bv : Value) : Prop :=
  W.cell? ⟨b, off + k * 7, none⟩ = some (.int .i64 x.d) ∧ W.cell? ⟨b, off + k * 7 + 1, none⟩ = some (.int .i64 x.a) ∧ W.cell? ⟨b, off + k * 7 + 2, none⟩ = some (.int .i64 x.s) ∧ W.cell? ⟨b, off + k * 7 + 3, none⟩ = some (.int .i64 x.off) ∧
  W.cell? ⟨b, off + k * 7 + 4, none⟩ = some (.int .i64 x.wd) ∧ W.cell? ⟨b, off + k * 7 + 5, none⟩ = some (.int .u64 x.v) ∧ W.cell? ⟨b, off + k * 7 + 6, none⟩ = some bv
theorem acts_b {w : World} {a : Option Addr} {cap k : Nat} {xs : List ActD} (h : ActsAt w (.slice a xs.length cap) xs) (hk : k < xs.length) :
    ∃ (x : ActD) (bv : Value) (b off : Nat), a = some ⟨b, off, none⟩ ∧ x.Fair ∧ BytesIn w bv x.ys ∧ ∀ W, Below w.heap.size w W → actC W b off k x bv := by
  obtain ⟨a', cap', e, _, hf, hcs⟩ := h
  simp only [Value.slice.injEq, true_and] at e
  obtain ⟨rfl, rfl⟩ := e
  obtain ⟨b, off, rfl, hc⟩ := hcs (fun e => by simp [e] at hk)
  obtain ⟨bv, hy, c0, c1, c2, c3, c4, c5, c6⟩ := hc k xs[k] (List.getElem?_eq_getElem hk)
  have hbl := World.block_lt_of_cell? w _ c0
  refine ⟨xs[k], bv, b, off, rfl, hf _ (List.getElem_mem hk), hy, fun W hb => ?_⟩
  have K : ∀ o, W.cell? ⟨b, o, none⟩ = w.cell? ⟨b, o, none⟩ := fun o => hb.cell (p := ⟨b, o, none⟩) hbl
  exact ⟨(K _).trans c0, (K _).trans c1, (K _).trans c2, (K _).trans c3, (K _).trans c4, (K _).trans c5, (K _).trans c6⟩

set_option maxRecDepth 100000 in
set_option maxHeartbeats 16000000 in
theorem stores_law (size : Int) (sv : Value) (xs : List ActD) (a s off : Int) (c : Cm) (at_ : Int) (w : World) (hacts : ActsAt w sv xs) (ha : i64B a) (hs : i64B s) (ho : i64B off) (hF : c.Fair) (hat : i64B at_) (hT : TabW w) :
    Calls Tryd.prog 4 #[.int .i64 size, sv, .agg #[.int .i64 a, .int .i64 s], .int .i64 off, c.v, .int .i64 at_] w fun e w' => e = .returned (.bool true) ∧ Below w.heap.size w w' := by
  have HA := hi (fun W hW => awake_any W hW)
  have HST := hi (fun p g n bs W (hM : MemAt 126 W p g n bs) => store_any p g n bs a s off c W hM ha hs ho hF.addr)
  have HRS := hi (fun p g n bs W (hM : MemAt 98 W p g n bs) => rstore_any p g n bs a s off c W hM ha hs ho hF)
  have HLD := hi (fun p g n bs k (hk : i64B k) W (hM : MemAt 126 W p g n bs) => load_any p g n bs a s k W hM ha hs hk)
  have HRL := hi (fun p g n bs k (hk : i64B k) W (hM : MemAt 98 W p g n bs) => rload_any p g n bs a s k W hM ha hs hk)
  have HSL := hi (fun (bs : List Nat) (hl : bs.length ≤ 131072) => stL_len (a := a) (s := s) (off := off) (c := c) hl)
  have HOA := hi (And.intro ho hat)
  obtain ⟨SL, hSL⟩ : ∃ SL : List Nat → List Nat, (fun bs => stL bs a s off c) = SL := ⟨_, rfl⟩
  obtain ⟨SE, hSE⟩ : ∃ SE : Nat → Int, (fun n => stE n a s off (validC c)) = SE := ⟨_, rfl⟩
  have hSL2 : ∀ bs, stL bs a s off c = SL bs := fun bs => by rw [← hSL]
  have hSE2 : ∀ n, stE n a s off (validC c) = SE n := fun n => by rw [← hSE]
  simp only [hSL2, hSE2] at HST HRS HSL
  clear hSL hSE hSL2 hSE2 ha hs ho hF hat
  obtain ⟨c1, c2, c3, c4, c5, c6, c7, c8, c9⟩ := c
  unfold win at HST HRS HLD HRL
  dsimp only [Cm.v] at HST HRS ⊢
  have hb0 : Below w.heap.size w (w2 w a s c1 c2 c3 c4 c5 c6 c7 c8 c9) := bal_two w _ _
  have HS := hi (hacts.below hb0)
  have HT := hi (hT.below hb0)
  have HB0 := hi hb0
  have HC := hi (show WcB w a s ⟨c1, c2, c3, c4, c5, c6, c7, c8, c9⟩ (w2 w a s c1 c2 c3 c4 c5 c6 c7 c8 c9) from ⟨(CB.new w _ _).alloc _, cb_second⟩)
  clear hT hb0
  obtain ⟨sa, scap, rfl, hsl, _, _⟩ := hacts
  go_enter Tryd.func4, Tryd.ntmps4
  go_wp2_with (first
    | (go_at_call 14; ((with_reducible refine (HA.out _ HT.out).mono ?_); rintro e w1 ⟨rfl, hb1⟩; have HK1 := hi hb1; clear hb1))
    | (go_at_call 18; ((with_reducible refine (lawNew_any size _).mono ?_); rintro e w2' ⟨p, g, q, h, rfl, hB⟩; have HM0 := hi (Two.of_both hB HK1.out); clear hB)))
  have hnl := newN_le size
  go_loopw [16] (fun i wr => ∃ j : Nat, i = .int .i64 j ∧ Hi (j ≤ xs.length ∧ ∃ bs : List Nat, bs.length = newN size ∧ Two (w2 w a s c1 c2 c3 c4 c5 c6 c7 c8 c9) p g (newN size) q h (newN size) bs bs wr)) (fun i _ => xs.length - (intOf i).toNat)
  case atStart => exact ⟨0, rfl, hi ⟨Nat.zero_le _, _, List.length_replicate, HM0.out⟩⟩
  case round =>
    obtain ⟨j, rfl, HJ⟩ := hrel
    have hj := HJ.out.1
    obtain ⟨bs, hbl, hsn⟩ := HJ.out.2
    have HSN := hi hsn
    have HBL := hi hbl
    clear hsn hbl
    by_cases hlt : j < xs.length
    · obtain ⟨x, bv, b, off', rfl, hfair, hy, hcs⟩ := acts_b HS.out hlt
      have HX := hi (And.intro hfair (And.intro hy hcs))
      obtain ⟨d0, d1, d2, d3, d4, d5, d6⟩ := hcs _ HSN.out.below
      obtain ⟨bs', hbs'⟩ : ∃ l, doL bs x = l := ⟨_, rfl⟩
      have HBS := hi hbs'
      obtain ⟨E, hE⟩ : ∃ E, doE bs x = E := ⟨_, rfl⟩
      have HE := hi hE
      clear hfair hy hcs hbs' hE
      go_wp2_with (first
        | (go_at_call 19; ((with_reducible refine (does_E p g (newN size) bs bs' x bv E HE.out HBS.out _ HX.out.1 HSN.out.mem (HX.out.2.1.below HSN.out.below)).mono ?_); rintro e w3 ⟨rfl, hm3, hk3⟩; have HS3 := hi (HSN.out.mem_step hk3 hm3); clear d0 d1 d2 d3 d4 d5 d6 hm3 hk3; obtain ⟨d0, d1, d2, d3, d4, d5, d6⟩ := HX.out.2.2 _ HS3.out.below))
        | (go_at_call 20; ((with_reducible refine (model_E q h (newN size) bs bs' x bv E HE.out HBS.out _ _ HX.out.1 HS3.out.ref HX.out.2.1 HS3.out.below HS3.out.lh).mono ?_); rintro e w4 ⟨rfl, hm4, hk4⟩; have HS4 := hi (HS3.out.ref_step hk4 hm4); clear hm4 hk4 d0 d1 d2 d3 d4 d5 d6)))
      go_roundw
      case rel => exact ⟨j + 1, by go_num, hi ⟨hlt, bs', by rw [← HBS.out]; exact (doL_len (by rw [HBL.out]; omega)).trans HBL.out, HS4.out⟩⟩
      case measure => simp [intOf]; omega
    · have e : j = xs.length := by omega
      subst e
      have x1 : ¬ (xs.length : Int) < (xs.length : Int) := by omega
      obtain ⟨F, hF⟩ : ∃ F, SE (newN size) = F := ⟨_, rfl⟩
      obtain ⟨bS, hbS⟩ : ∃ l, SL bs = l := ⟨_, rfl⟩
      have HDO := hi (fun W (hW : MemAt 126 W p g (newN size) bs) => HST.out p g (newN size) bs W hW)
      have HDR := hi (fun W (hW : MemAt 98 W q h (newN size) bs) => HRS.out q h (newN size) bs W hW)
      rw [HBL.out, hF, hbS] at HDO HDR
      have HLB := hi (show bS.length = newN size by rw [← hbS, HSL.out bs (by rw [HBL.out]; omega)]; exact HBL.out)
      have HSA := hi (fun W (hM : MemAt 126 W p g (newN size) bS) (hR : MemAt 98 W q h (newN size) bS) => same_eq p g (newN size) q h (newN size) bS W hM hR)
      clear hF hbS hj hlt
      go_wp2
      refine wp_region_noPanic ?_
      refine wp_region_last_drew (S := (fun V => (V.cell? ⟨w.heap.size, 0, none⟩ = some (.int .i64 a) ∧ V.cell? ⟨w.heap.size, 1, none⟩ = some (.int .i64 s)) ∧ (V.cell? ⟨w.heap.size + 1, 0, none⟩ = some (.int .i64 c1) ∧ V.cell? ⟨w.heap.size + 1, 1, none⟩ = some (.int .i64 c2) ∧ V.cell? ⟨w.heap.size + 1, 2, none⟩ = some (.int .i64 c3) ∧ V.cell? ⟨w.heap.size + 1, 3, none⟩ = some (.int .i64 c4) ∧ V.cell? ⟨w.heap.size + 1, 4, none⟩ = some (.int .i64 c5) ∧ V.cell? ⟨w.heap.size + 1, 5, none⟩ = some (.int .i64 c6) ∧ V.cell? ⟨w.heap.size + 1, 6, none⟩ = some (.int .i64 c7) ∧ V.cell? ⟨w.heap.size + 1, 7, none⟩ = some (.int .i64 c8) ∧ V.cell? ⟨w.heap.size + 1, 8, none⟩ = some (.bool c9)))) [] (by kernel_rfl) ⟨CB.two (HC.out.of HSN.out.drew.below).a, CB.cm9 (HC.out.of HSN.out.drew.below).c⟩ (fun hHeld => ?_)
      (try simp only [Array.replicate_succ, Array.replicate_zero, List.push_toArray, List.nil_append, List.cons_append])
      refine wpAnyF_take (i := 0) (v := ?_) (by kernel_rfl) (by kernel_rfl) rfl (by kernel_rfl) (by kernel_rfl) (by kernel_rfl) (fun _ _ _ h => h) (Or.inl ⟨by rfl, ?_⟩) (by assumption) ?_
      rotate_left
      · intro w' hSw; (try dsimp only at hSw); clear hSw; go_simp; (try with_reducible rfl)
      (try simp only [Act.put, List.getElem_toArray, List.getElem_cons_zero, List.getElem_cons_succ, List.setIfInBounds_toArray, List.set_cons_zero, List.set_cons_succ])
      refine wpAnyF_take (i := 1) (v := ?_) (by kernel_rfl) (by kernel_rfl) rfl (by kernel_rfl) (by kernel_rfl) (by kernel_rfl) (fun _ _ _ h => h) (Or.inl ⟨by rfl, ?_⟩) (by assumption) ?_
      rotate_left
      · intro w' hSw; (try dsimp only at hSw); have hh := hSw.1; clear hSw; obtain ⟨a0, a1⟩ := hh; go_simp; (try with_reducible rfl)
      (try simp only [Act.put, List.getElem_toArray, List.getElem_cons_zero, List.getElem_cons_succ, List.setIfInBounds_toArray, List.set_cons_zero, List.set_cons_succ])
      refine wpAnyF_take (i := 2) (v := ?_) (by kernel_rfl) (by kernel_rfl) rfl (by kernel_rfl) (by kernel_rfl) (by kernel_rfl) (fun _ _ _ h => h) (Or.inl ⟨by rfl, ?_⟩) (by assumption) ?_
      rotate_left
      · intro w' hSw; (try dsimp only at hSw); clear hSw; go_simp; (try with_reducible rfl)
      (try simp only [Act.put, List.getElem_toArray, List.getElem_cons_zero, List.getElem_cons_succ, List.setIfInBounds_toArray, List.set_cons_zero, List.set_cons_succ])
      refine wpAnyF_take (i := 3) (v := ?_) (by kernel_rfl) (by kernel_rfl) rfl (by kernel_rfl) (by kernel_rfl) (by kernel_rfl) (fun _ _ _ h => h) (Or.inl ⟨by rfl, ?_⟩) (by assumption) ?_
      rotate_left
      · intro w' hSw; (try dsimp only at hSw); have hh := hSw.2; clear hSw; obtain ⟨b0, b1, b2, b3, b4, b5, b6, b7, b8⟩ := hh; go_simp; (try with_reducible rfl)
      (try simp only [Act.put, List.getElem_toArray, List.getElem_cons_zero, List.getElem_cons_succ, List.setIfInBounds_toArray, List.set_cons_zero, List.set_cons_succ])
      refine wpAnyF_take (i := 5) (v := ?_) (by kernel_rfl) (by kernel_rfl) rfl (by kernel_rfl) (by kernel_rfl) (by kernel_rfl) (fun _ _ _ h => h) (Or.inl ⟨by rfl, ?_⟩) (by assumption) ?_
      rotate_left
      · intro w' hSw; (try dsimp only at hSw); clear hSw; go_simp; (try with_reducible rfl)
      (try simp only [Act.put, List.getElem_toArray, List.getElem_cons_zero, List.getElem_cons_succ, List.setIfInBounds_toArray, List.set_cons_zero, List.set_cons_succ])
      refine wpAnyF_take (i := 6) (v := ?_) (by kernel_rfl) (by kernel_rfl) rfl (by kernel_rfl) (by kernel_rfl) (by kernel_rfl) (fun _ _ _ h => h) (Or.inl ⟨by rfl, ?_⟩) (by assumption) ?_
      rotate_left
      · intro w' hSw; (try dsimp only at hSw); have hh := hSw.1; clear hSw; obtain ⟨a0, a1⟩ := hh; go_simp; (try with_reducible rfl)
      (try simp only [Act.put, List.getElem_toArray, List.getElem_cons_zero, List.getElem_cons_succ, List.setIfInBounds_toArray, List.set_cons_zero, List.set_cons_succ])
      refine wpAnyF_take (i := 7) (v := ?_) (by kernel_rfl) (by kernel_rfl) rfl (by kernel_rfl) (by kernel_rfl) (by kernel_rfl) (fun _ _ _ h => h) (Or.inl ⟨by rfl, ?_⟩) (by assumption) ?_
      rotate_left
      · intro w' hSw; (try dsimp only at hSw); clear hSw; go_simp; (try with_reducible rfl)
      (try simp only [Act.put, List.getElem_toArray, List.getElem_cons_zero, List.getElem_cons_succ, List.setIfInBounds_toArray, List.set_cons_zero, List.set_cons_succ])
      refine wpAnyF_take (i := 8) (v := ?_) (by kernel_rfl) (by kernel_rfl) rfl (by kernel_rfl) (by kernel_rfl) (by kernel_rfl) (fun _ _ _ h => h) (Or.inl ⟨by rfl, ?_⟩) (by assumption) ?_
      rotate_left
      · intro w' hSw; (try dsimp only at hSw); have hh := hSw.2; clear hSw; obtain ⟨b0, b1, b2, b3, b4, b5, b6, b7, b8⟩ := hh; go_simp; (try with_reducible rfl)
      (try simp only [Act.put, List.getElem_toArray, List.getElem_cons_zero, List.getElem_cons_succ, List.setIfInBounds_toArray, List.set_cons_zero, List.set_cons_succ])
      refine wpAnyF_ready (rs := [4]) (by kernel_rfl) (by simp) ?_
      refine AllReadyF.cons rfl (fun KK hKK => ?_) AllReadyF.nil
      go_simp
      ((with_reducible refine (HDO.out _ HSN.out.drew.mem).mono ?_); rintro e' w5 ⟨rfl, hm5, hk5⟩; have HS5 := hi (HSN.out.drew.mem_step hk5 hm5); clear hm5 hk5)
      (try go_simp)
      refine hKK.out _ _ ⟨CB.two (HC.out.of HS5.out.below).a, CB.cm9 (HC.out.of HS5.out.below).c⟩ (fun hHeld => ?_)
      clear hKK KK
      (try simp only [Act.put, List.getElem_toArray, List.getElem_cons_zero, List.getElem_cons_succ, List.setIfInBounds_toArray, List.set_cons_zero, List.set_cons_succ])
      refine wpAnyF_ready (rs := [9]) (by kernel_rfl) (by simp) ?_
      refine AllReadyF.cons rfl (fun KK hKK => ?_) AllReadyF.nil
      go_simp
      ((with_reducible refine (HDR.out _ HS5.out.ref).mono ?_); rintro e' w6 ⟨rfl, hm6, hk6⟩; have HS6 := hi (HS5.out.ref_step hk6 hm6); clear hm6 hk6)
      (try go_simp)
      refine hKK.out _ _ ⟨CB.two (HC.out.of HS6.out.below).a, CB.cm9 (HC.out.of HS6.out.below).c⟩ (fun hHeld => ?_)
      clear hKK KK
      (try simp only [Act.put, List.getElem_toArray, List.getElem_cons_zero, List.getElem_cons_succ, List.setIfInBounds_toArray, List.set_cons_zero, List.set_cons_succ])
      refine wpAnyF_take (i := 10) (v := ?_) (by kernel_rfl) (by kernel_rfl) rfl (by kernel_rfl) (by kernel_rfl) (by kernel_rfl) (fun _ _ _ h => h) (Or.inl ⟨by rfl, ?_⟩) (by assumption) ?_
      rotate_left
      · intro w' hSw; (try dsimp only at hSw); clear hSw; go_simp; (try with_reducible rfl)
      (try simp only [Act.put, List.getElem_toArray, List.getElem_cons_zero, List.getElem_cons_succ, List.setIfInBounds_toArray, List.set_cons_zero, List.set_cons_succ])
      refine wpAnyF_take (i := 11) (v := ?_) (by kernel_rfl) (by kernel_rfl) rfl (by kernel_rfl) (by kernel_rfl) (by kernel_rfl) (fun _ _ _ h => h) (Or.inl ⟨by rfl, ?_⟩) (by assumption) ?_
      rotate_left
      · intro w' hSw; (try dsimp only at hSw); clear hSw; go_simp; (try with_reducible rfl)
      (try simp only [Act.put, List.getElem_toArray, List.getElem_cons_zero, List.getElem_cons_succ, List.setIfInBounds_toArray, List.set_cons_zero, List.set_cons_succ])
      refine wpAnyF_take (i := 12) (v := ?_) (by kernel_rfl) (by kernel_rfl) rfl (by kernel_rfl) (by kernel_rfl) (by kernel_rfl) (fun _ _ _ h => h) (Or.inl ⟨by rfl, ?_⟩) (by assumption) ?_
      rotate_left
      · intro w' hSw; (try dsimp only at hSw); clear hSw; go_simp; (try with_reducible rfl)
      (try simp only [Act.put, List.getElem_toArray, List.getElem_cons_zero, List.getElem_cons_succ, List.setIfInBounds_toArray, List.set_cons_zero, List.set_cons_succ])
      refine wpAnyF_take (i := 13) (v := ?_) (by kernel_rfl) (by kernel_rfl) rfl (by kernel_rfl) (by kernel_rfl) (by kernel_rfl) (fun _ _ _ h => h) (Or.inl ⟨by rfl, ?_⟩) (by assumption) ?_
      rotate_left
      · intro w' hSw; (try dsimp only at hSw); clear hSw; go_simp; (try with_reducible rfl)
      (try simp only [Act.put, List.getElem_toArray, List.getElem_cons_zero, List.getElem_cons_succ, List.setIfInBounds_toArray, List.set_cons_zero, List.set_cons_succ])
      refine wpAnyF_ready (rs := [14]) (by kernel_rfl) (by simp) ?_
      refine AllReadyF.cons rfl (fun KK hKK => ?_) AllReadyF.nil
      go_simp
      ((with_reducible refine (HSA.out _ HS6.out.mem HS6.out.ref).mono ?_); rintro e' w7 ⟨rfl, hb7⟩; have HS7 := hi (HS6.out.later hb7); clear hb7)
      (try go_simp)
      refine hKK.out _ _ ⟨CB.two (HC.out.of HS7.out.below).a, CB.cm9 (HC.out.of HS7.out.below).c⟩ (fun hHeld => ?_)
      clear hKK KK
      (try simp only [Act.put, List.getElem_toArray, List.getElem_cons_zero, List.getElem_cons_succ, List.setIfInBounds_toArray, List.set_cons_zero, List.set_cons_succ])
      refine wpAnyF_take (i := 15) (v := ?_) (by kernel_rfl) (by kernel_rfl) rfl (by kernel_rfl) (by kernel_rfl) (by kernel_rfl) (fun _ _ _ h => h) (Or.inl ⟨by rfl, ?_⟩) (by assumption) ?_
      rotate_left
      · intro w' hSw; (try dsimp only at hSw); clear hSw; go_simp; (try with_reducible rfl)
      (try simp only [Act.put, List.getElem_toArray, List.getElem_cons_zero, List.getElem_cons_succ, List.setIfInBounds_toArray, List.set_cons_zero, List.set_cons_succ])
      refine wpAnyF_take (i := 16) (v := ?_) (by kernel_rfl) (by kernel_rfl) rfl (by kernel_rfl) (by kernel_rfl) (by kernel_rfl) (fun _ _ _ h => h) (Or.inl ⟨by rfl, ?_⟩) (by assumption) ?_
      rotate_left
      · intro w' hSw; (try dsimp only at hSw); clear hSw; go_simp; (try with_reducible rfl)
      (try simp only [Act.put, List.getElem_toArray, List.getElem_cons_zero, List.getElem_cons_succ, List.setIfInBounds_toArray, List.set_cons_zero, List.set_cons_succ])
      refine wpAnyF_done (by kernel_rfl) ?_ _
      refine NoPanic.normal ?_
      have HS7' := hi HS7.out
      clear hHeld
      go_wp2
      have HI0 := hi (And.intro (HS7.out.later (bal w7 (.cells #[.int .i64 off, .int .i64 at_] 3))) (CB.new w7 3 #[.int .i64 off, .int .i64 at_]))
      have hw7 : w7.heap.size = w7.heap.size := rfl
      go_loopw [76] (fun i wi => ∃ k : Nat, i = .int .i64 k ∧ Hi (k ≤ 2 ∧ Two (w2 w a s c1 c2 c3 c4 c5 c6 c7 c8 c9) p g (newN size) q h (newN size) bS bS wi ∧ CB wi w7.heap.size 3 #[.int .i64 off, .int .i64 at_])) (fun i _ => 2 - (intOf i).toNat)
      case atStart => exact ⟨0, rfl, hi ⟨by omega, HI0.out⟩⟩
      case round =>
        obtain ⟨k, rfl, HJ⟩ := hrel
        have hk2 := HJ.out.1
        have hks : k = 0 ∨ k = 1 ∨ k = 2 := by omega
        obtain ⟨e0, e1⟩ := CB.two HJ.out.2.2
        clear hk2
        rcases hks with rfl | rfl | rfl
        · have hK := HOA.out.1
          have H1 := hi (fun W (hM : MemAt 126 W p g (newN size) bS) => HLD.out p g (newN size) bS off hK W hM)
          have H2 := hi (fun W (hM : MemAt 98 W q h (newN size) bS) => HRL.out q h (newN size) bS off hK W hM)
          obtain ⟨lv, hlv⟩ : ∃ v, ldV bS a s off = v := ⟨_, rfl⟩
          obtain ⟨le, hle⟩ : ∃ v, ldE bS a s off = v := ⟨_, rfl⟩
          rw [hlv, hle] at H1 H2
          clear hlv hle hK
          obtain ⟨d1, d2, d3, d4, d5, d6, d7, d8, d9⟩ := lv
          dsimp only [Cm.v] at H1 H2
          have qc : eqCm ⟨d1, d2, d3, d4, d5, d6, d7, d8, d9⟩ ⟨d1, d2, d3, d4, d5, d6, d7, d8, d9⟩ = true := by rw [eqCm_iff]; simp
          obtain ⟨a0, a1⟩ := CB.two (HC.out.of HJ.out.2.1.below).a
          go_wp2_with (first
            | (go_at_call 24; ((with_reducible refine (H1.out _ HJ.out.2.1.mem).mono ?_); rintro e w8 ⟨rfl, hb8⟩; have hk8 := hb8.alloc hb8.size (.cells #[.int .i64 d1, .int .i64 d2, .int .i64 d3, .int .i64 d4, .int .i64 d5, .int .i64 d6, .int .i64 d7, .int .i64 d8, .bool d9] 24); have H8 := hi (And.intro (HJ.out.2.1.later hk8) (And.intro (HJ.out.2.2.below hk8) (CB.new w8 24 #[.int .i64 d1, .int .i64 d2, .int .i64 d3, .int .i64 d4, .int .i64 d5, .int .i64 d6, .int .i64 d7, .int .i64 d8, .bool d9]))); clear a0 a1 hb8 hk8; obtain ⟨a0, a1⟩ := CB.two (HC.out.of H8.out.1.below).a))
            | (go_at_call 25; ((with_reducible refine (H2.out _ H8.out.1.ref).mono ?_); rintro e w9 ⟨rfl, hb9⟩; have hk9 := hb9.alloc hb9.size (.cells #[.int .i64 d1, .int .i64 d2, .int .i64 d3, .int .i64 d4, .int .i64 d5, .int .i64 d6, .int .i64 d7, .int .i64 d8, .bool d9] 24); have H9 := hi (And.intro (H8.out.1.later hk9) (And.intro (H8.out.2.1.below hk9) (H8.out.2.2.below hk9))); obtain ⟨m0, m1, m2, m3, m4, m5, m6, m7, m8⟩ := CB.nine H9.out.2.2; clear a0 a1 hb9 hk9)))
          go_roundw
          case rel => exact ⟨1, by go_num, hi ⟨by omega, H9.out.1, H9.out.2.1⟩⟩
          case measure => simp [intOf]
        · have hK := HOA.out.2
          have H1 := hi (fun W (hM : MemAt 126 W p g (newN size) bS) => HLD.out p g (newN size) bS at_ hK W hM)
          have H2 := hi (fun W (hM : MemAt 98 W q h (newN size) bS) => HRL.out q h (newN size) bS at_ hK W hM)
          obtain ⟨lv, hlv⟩ : ∃ v, ldV bS a s at_ = v := ⟨_, rfl⟩
          obtain ⟨le, hle⟩ : ∃ v, ldE bS a s at_ = v := ⟨_, rfl⟩
          rw [hlv, hle] at H1 H2
          clear hlv hle hK
          obtain ⟨d1, d2, d3, d4, d5, d6, d7, d8, d9⟩ := lv
          dsimp only [Cm.v] at H1 H2
          have qc : eqCm ⟨d1, d2, d3, d4, d5, d6, d7, d8, d9⟩ ⟨d1, d2, d3, d4, d5, d6, d7, d8, d9⟩ = true := by rw [eqCm_iff]; simp
          obtain ⟨a0, a1⟩ := CB.two (HC.out.of HJ.out.2.1.below).a
          go_wp2_with (first
            | (go_at_call 24; ((with_reducible refine (H1.out _ HJ.out.2.1.mem).mono ?_); rintro e w8 ⟨rfl, hb8⟩; have hk8 := hb8.alloc hb8.size (.cells #[.int .i64 d1, .int .i64 d2, .int .i64 d3, .int .i64 d4, .int .i64 d5, .int .i64 d6, .int .i64 d7, .int .i64 d8, .bool d9] 24); have H8 := hi (And.intro (HJ.out.2.1.later hk8) (And.intro (HJ.out.2.2.below hk8) (CB.new w8 24 #[.int .i64 d1, .int .i64 d2, .int .i64 d3, .int .i64 d4, .int .i64 d5, .int .i64 d6, .int .i64 d7, .int .i64 d8, .bool d9]))); clear a0 a1 hb8 hk8; obtain ⟨a0, a1⟩ := CB.two (HC.out.of H8.out.1.below).a))
            | (go_at_call 25; ((with_reducible refine (H2.out _ H8.out.1.ref).mono ?_); rintro e w9 ⟨rfl, hb9⟩; have hk9 := hb9.alloc hb9.size (.cells #[.int .i64 d1, .int .i64 d2, .int .i64 d3, .int .i64 d4, .int .i64 d5, .int .i64 d6, .int .i64 d7, .int .i64 d8, .bool d9] 24); have H9 := hi (And.intro (H8.out.1.later hk9) (And.intro (H8.out.2.1.below hk9) (H8.out.2.2.below hk9))); obtain ⟨m0, m1, m2, m3, m4, m5, m6, m7, m8⟩ := CB.nine H9.out.2.2; clear a0 a1 hb9 hk9)))
          go_roundw
          case rel => exact ⟨2, by go_num, hi ⟨by omega, H9.out.1, H9.out.2.1⟩⟩
          case measure => simp [intOf]
        · have x2 : ¬ ((2 : Nat) : Int) < 2 := by omega
          go_wp2
          go_ret
          exact ⟨rfl, HB0.out.trans (HJ.out.2.1.below.mono HB0.out.size)⟩

end Go.Proofs.YtkgkfgfnhjhabaaDoor
