/-
  Package cmd: Known, Load at every call; a command stored is loaded again.
-/
import Derived.Test.YtfnokpajendlmaaCmP
namespace Go.Proofs.Ytfnokpajendlmaa
open Go.ChangeShapes Go.WideShapes Go.ChangeAt Go.RowKit
set_option linter.unusedVariables false
set_option linter.unusedSimpArgs false

theorem splice_away (bs cs : List Nat) (o k : Nat) (h : o + cs.length ≤ bs.length) (hk : k < o ∨ o + cs.length ≤ k) : (splice bs o cs)[k]? = bs[k]? := by
  have h1 : (bs.take o).length = o := by simp; omega
  simp only [splice]
  rcases hk with hk | hk
  · rw [List.getElem?_append_left (by omega), List.getElem?_take_of_lt hk]
  · rw [List.getElem?_append_right (by omega), h1, List.getElem?_append_right (by omega), List.getElem?_drop]
    congr 1
    omega
theorem rdE_lt {bs : List Nat} {a s off : Int} (hb : ∀ x ∈ bs, x < 256) (hl : bs.length ≤ 131072) : rdE bs a s off 8 < 18446744073709551616 := by
  unfold rdE
  split
  · rename_i h
    have h1 := num_lt _ (sub_mem (o := a.toNat + off.toNat) (k := (8 : Int).toNat) hb)
    have h2 : (sub bs (a.toNat + off.toNat) (8 : Int).toNat).length ≤ 8 := by simp [sub]; omega
    exact Nat.lt_of_lt_of_le h1 (Nat.le_trans (Nat.pow_le_pow_right (by decide) h2) (by decide))
  · omega
/-- The words that stand there. -/
def ldW (bs : List Nat) (A : Int) : Ws := fun k => rdE bs A 32 ((k : Int) * 8) 8
def ldV (bs : List Nat) (a s off : Int) : Cm := if entOk bs.length a s off = true then decR (ldW bs (a + off)) else Cm.zero
def ldE (bs : List Nat) (a s off : Int) : Int := if entOk bs.length a s off = true then errN (decOk (ldW bs (a + off))) else 42

theorem may8 {k : Nat} (hk : k < 4) : mayE 32 ((k : Int) * 8) 8 = 0 := by
  have : k = 0 ∨ k = 1 ∨ k = 2 ∨ k = 3 := by omega
  rcases this with rfl | rfl | rfl | rfl <;> decide +kernel
theorem acc8 {n A k : Nat} (hA : A + 32 ≤ n) (hk : k < 4) : accE n (A : Int) 32 ((k : Int) * 8) 8 = 0 := by
  have : holdsB n (A : Int) 32 = true := by simp [holdsB]; omega
  rw [accE, if_pos this, may8 hk]
theorem st_sub {bs : List Nat} {A : Nat} {ws : Ws} (hl : bs.length ≤ 131072) (hA : A + 32 ≤ bs.length) : ∀ k, k ≤ 4 → ∀ j, j < k → sub (stB bs (A : Int) ws k) (A + 8 * j) 8 = le 8 (ws j)
  | 0, _, j, h => absurd h (by omega)
  | k + 1, hk, j, hj => by
    have hlen : (stB bs (A : Int) ws k).length = bs.length := stB_len hl k
    have e : stB bs (A : Int) ws (k + 1) = splice (stB bs (A : Int) ws k) (A + 8 * k) (le 8 (ws k)) := by
      rw [stB, wrB, if_pos (by rw [hlen]; exact acc8 hA (by omega))]
      congr 1
      omega
    rw [e]
    by_cases ej : j = k
    · subst ej
      have := sub_splice (stB bs (A : Int) ws j) (le 8 (ws j)) (A + 8 * j) (by rw [le_len, hlen]; omega)
      rwa [le_len] at this
    · have ih := st_sub (ws := ws) hl hA k (by omega) j (by omega)
      rw [← ih]
      apply List.ext_getElem?
      intro i
      by_cases hi : i < 8
      · rw [sub_get hi, sub_get hi, splice_away _ _ _ _ (by rw [le_len, hlen]; omega) (by omega)]
      · rw [List.getElem?_eq_none (by simp [sub]; omega), List.getElem?_eq_none (by simp [sub]; omega)]
theorem ld_st {bs : List Nat} {A : Nat} {ws : Ws} (hl : bs.length ≤ 131072) (hA : A + 32 ≤ bs.length) (hw : ∀ j, ws j < 18446744073709551616) {j : Nat} (hj : j < 4) : ldW (stB bs (A : Int) ws 4) (A : Int) j = ws j := by
  rw [ldW, rdE, stB_len hl, if_pos (acc8 hA hj)]
  rw [show (A : Int).toNat + ((j : Int) * 8).toNat = A + 8 * j by omega, show (8 : Int).toNat = 8 from rfl, st_sub hl hA 4 (by omega) j hj, num_le]
  exact Nat.mod_eq_of_lt (hw j)

/-- What Load keeps through its loop. -/
structure LdI (w : World) (p g cap Q : Nat) (bs : List Nat) (A : Int) (ns : Ws) (W : World) : Prop where
  mem : MemAt 73 W p g cap bs
  box : CB W Q 23 #[.int .i64 A, .int .i64 32]
  ws : CB W (Q + 1) 94 (Ws.cs ns)
  r : CB W (w.heap.size + 1) 36 Cm.zero.cs
  below : Below w.heap.size w W
theorem LdI.later {w : World} {p g cap Q : Nat} {bs : List Nat} {A : Int} {ns : Ws} {W W' : World} (h : LdI w p g cap Q bs A ns W) (k : Below W.heap.size W W') : LdI w p g cap Q bs A ns W' :=
  ⟨h.mem.below k, h.box.below k, h.ws.below k, h.r.below k, h.below.trans (k.mono h.below.size)⟩
theorem LdI.put {w : World} {p g cap Q : Nat} {bs : List Nat} {A : Int} {ns : Ws} {W : World} (h : LdI w p g cap Q bs A ns W) (hp : p < Q) (hg : g < Q) (hw : w.heap.size + 1 < Q) {x : Nat} (hx : x < 4) (v : Nat) : LdI w p g cap Q bs A (fun j => if j = x then v else ns j) (W.setCell ⟨Q + 1, x, none⟩ (.int .u64 v)) :=
  ⟨h.mem.kept (kept_setCell _ _ _ _) (fun (e : p = Q + 1) => by omega) (fun (e : g = Q + 1) => by omega), h.box.other _ _ _ (by omega), by rw [← ws_set _ hx]; exact h.ws.set x _, h.r.other _ _ _ (by omega), below_set h.below (by omega) _⟩

set_option maxRecDepth 100000 in
set_option maxHeartbeats 2000000 in
theorem load_any (p g cap : Nat) (bs : List Nat) (a s off : Int) (w : World) (hM : MemAt 73 w p g cap bs) (ha : i64B a) (hs : i64B s) (ho : i64B off) :
    Calls Try.prog 34 #[.pointer (some ⟨p, 0, none⟩), win a s, .int .i64 off] w fun e w' => e = .returned (.tuple #[(ldV bs a s off).v, .int .i64 (ldE bs a s off)]) ∧ Below w.heap.size w w' := by
  have HEN := hi (fun W (hb : Below w.heap.size w W) => entry_any p g cap bs a s off W (hM.below hb) ha hs ho)
  have HM := hi hM
  have hgl : g < w.heap.size := hM.bytes.lt
  have hpl : p < w.heap.size := hM.plt
  have HC := hi (And.intro ((CB.new w 23 #[.int .i64 a, .int .i64 s]).alloc (.cells Cm.zero.cs 36)) (cb_second (w := w) (o := .cells #[.int .i64 a, .int .i64 s] 23) (cs := Cm.zero.cs) (t := 36)))
  unfold entV at HEN
  unfold win at HEN ⊢
  unfold ldV ldE
  cases heo : entOk bs.length a s off
  · rw [heo] at HEN
    have HEN2 := hi (show ∀ W, Below w.heap.size w W → Calls Try.prog 52 #[.pointer (some ⟨p, 0, none⟩), .agg #[.int .i64 a, .int .i64 s], .int .i64 off] W fun e w' => e = .returned (.tuple #[.agg #[.int .i64 0, .int .i64 0], .int .i64 42]) ∧ Below W.heap.size W w' from HEN.out)
    rw [if_neg (by decide), if_neg (by decide)]
    unfold Cm.v Cm.zero
    dsimp only
    clear HEN heo hM ha hs ho
    go_enter Try.func34, Try.ntmps34
    go_wp2_with (go_at_call 52; ((with_reducible refine (HEN2.out _ (bal_two w _ _)).mono ?_); rintro e w1 ⟨rfl, hb1⟩; have HR := hi (HC.out.2.below hb1); obtain ⟨r0, r1, r2, r3, r4, r5, r6, r7, r8⟩ := CB.nine HR.out; have rf := HR.out.frozen; have hz := HR.out.lt; have HB := hi ((bal_two w _ _).trans (hb1.mono (by simp; omega))); clear hb1))
    exact bodyPost_ret (results_cmt rfl _ _ (w.heap.size + 1) _ _ _ _ _ _ _ _ _ _ rfl rfl ((HR.out.set9 _ _ _ _ _ _ _ _ _).alloc _)) rfl ⟨rfl, (below_set9 HB.out (by omega) _ _ _ _ _ _ _ _ _).alloc (by simp; exact HB.out.size) _⟩
  · rw [heo] at HEN
    have hpo : partOk a s off 32 = true := by simp only [entOk, Bool.and_eq_true] at heo; exact heo.1
    have HEN2 := hi (show ∀ W, Below w.heap.size w W → Calls Try.prog 52 #[.pointer (some ⟨p, 0, none⟩), .agg #[.int .i64 a, .int .i64 s], .int .i64 off] W fun e w' => e = .returned (.tuple #[.agg #[.int .i64 (a + off), .int .i64 32], .int .i64 0]) ∧ Below W.heap.size W w' from HEN.out)
    obtain ⟨A, hA⟩ : ∃ A, a + off = A := ⟨_, rfl⟩
    rw [hA] at HEN2 ⊢
    have hAb : i64B A := by
      simp only [partOk, Bool.and_eq_true, decide_eq_true_eq] at hpo
      have := fairB_out hpo.1
      constructor <;> omega
    have HRD := hi (fun (k : Nat) (hk : k < 4) (W : World) (h : MemAt 73 W p g cap bs) => read_any p g cap bs A 32 ((k : Int) * 8) 8 W h hAb.1 hAb.2 (by decide) (by decide))
    have HLT := hi (fun j => show ldW bs A j < 18446744073709551616 from rdE_lt hM.bytes.2 hM.len)
    have HDE := hi (fun W => decode_any (ldW bs A) HLT.out W)
    have HLW := hi (fun k : Nat => show rdE bs A 32 ((k : Int) * 8) 8 = ldW bs A k from rfl)
    rw [if_pos rfl, if_pos rfl]
    obtain ⟨F, hF⟩ : ∃ F, ldW bs A = F := ⟨_, rfl⟩
    rw [hF] at HLT HDE HLW ⊢
    obtain ⟨D, hD⟩ : ∃ D, decR F = D := ⟨_, rfl⟩
    obtain ⟨dk, hdk⟩ : ∃ dk, decOk F = dk := ⟨_, rfl⟩
    rw [hD, hdk] at HDE ⊢
    unfold win tupU at HRD
    clear HEN heo hM ha hs ho hA hAb hpo hF hD hdk
    obtain ⟨d1, d2, d3, d4, d5, d6, d7, d8, d9⟩ := D
    dsimp only [Cm.v] at HDE ⊢
    go_enter Try.func34, Try.ntmps34
    go_wp2_with (go_at_call 52; ((with_reducible refine (HEN2.out _ (bal_two w _ _)).mono ?_); rintro e w1 ⟨rfl, hb1⟩; have HR := hi (HC.out.2.below hb1); have hz := HR.out.lt; have HB := hi ((bal_two w _ _).trans (hb1.mono (by simp; omega))); clear hb1))
    have hI0 : LdI w p g cap w1.heap.size bs A (fun j => if j < 0 then F j else 0) ((w1.alloc (.cells #[.int .i64 A, .int .i64 32] 23)).alloc (.cells #[.int .u64 0, .int .u64 0, .int .u64 0, .int .u64 0] 94)) :=
      ⟨HM.out.below (HB.out.trans ((bal_two w1 _ _).mono HB.out.size)), (CB.new w1 _ _).alloc _, cb_second, (HR.out.alloc _).alloc _, HB.out.trans ((bal_two w1 _ _).mono HB.out.size)⟩
    have HI0 := hi hI0
    clear hI0
    go_loopw [23] (fun i wr => ∃ k : Nat, k ≤ 4 ∧ i = .int .i64 k ∧ Hi (LdI w p g cap w1.heap.size bs A (fun j => if j < k then F j else 0) wr)) (fun i _ => 4 - (intOf i).toNat)
    case atStart => exact ⟨0, by omega, rfl, HI0⟩
    case round =>
      obtain ⟨k, hk, rfl, HP⟩ := hrel
      by_cases hlt : k < 4
      · have x1 : (k : Int) < 4 := by omega
        obtain ⟨q0, q1⟩ := CB.two HP.out.box
        have hrk := HRD.out k hlt wr HP.out.mem
        have HRK := hi hrk
        have hk8 : (k : Int) * 8 ≤ 24 := by omega
        have HLK := hi (HLW.out k)
        clear hrk
        go_wp2_with (go_at_call 53; ((with_reducible refine HRK.out.mono ?_); rintro e w3 ⟨rfl, hb3⟩; have HI3 := hi (HP.out.later hb3); have nc := HI3.out.ws.ws hlt; have nf := HI3.out.ws.frozen; clear hb3))
        go_roundw
        case rel =>
          refine ⟨k + 1, by omega, by go_num, hi ?_⟩
          have h := HI3.out.put (by omega) (by omega) hz hlt (F k)
          rw [HLK.out]
          have e : (fun j => if j < k + 1 then F j else 0) = fun j => if j = k then F k else if j < k then F j else 0 := by
            funext j
            by_cases e1 : j = k
            · subst e1; simp
            · by_cases e2 : j < k
              · rw [if_pos (by omega), if_neg e1, if_pos e2]
              · rw [if_neg (by omega), if_neg e1, if_neg e2]
          rw [e]
          exact h
        case measure => simp [intOf]; omega
      · obtain rfl : k = 4 := by omega
        have HP2 := hi (show LdI w p g cap w1.heap.size bs A F wr from by
          have h := HP.out
          exact ⟨h.mem, h.box, h.ws, h.r, h.below⟩)
        have hw := HP2.out.ws
        obtain ⟨c0, c1, c2, c3⟩ := CB.four hw
        clear hw HP
        go_wp2_with (go_at_call 54; ((with_reducible refine (HDE.out _).mono ?_); rintro e w4 ⟨rfl, hb4⟩; have HI4 := hi (HP2.out.later hb4); obtain ⟨r0, r1, r2, r3, r4, r5, r6, r7, r8⟩ := CB.nine HI4.out.r; have rf := HI4.out.r.frozen; have hz4 := HI4.out.r.lt; clear hb4))
        exact bodyPost_ret (results_cmt rfl _ _ (w.heap.size + 1) _ _ _ _ _ _ _ _ _ _ rfl rfl (HI4.out.r.set9 _ _ _ _ _ _ _ _ _)) rfl ⟨rfl, below_set9 HI4.out.below (by omega) _ _ _ _ _ _ _ _ _⟩

end Go.Proofs.Ytfnokpajendlmaa
