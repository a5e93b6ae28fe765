/-
  Queues, plain: a queue's state, what each act makes of it and of the bytes, which commands wait.
-/
import Derived.Test.YtfnokpajendlmaaCmU
import Derived.Test.YtfnokpajendlmaaMjE
namespace Go.Proofs.Ytfnokpajendlmaa
open Go.ChangeShapes Go.WideShapes Go.ChangeAt Go.RowKit
set_option linter.unusedVariables false
set_option linter.unusedSimpArgs false

/-! ### Rings: one more, one less -/
theorem leftR_zero {s t a v : Int} (h : mayB s t a = true) (g : mayB s t v = true) (e : leftR s t a v = 0) : a = v := by
  by_cases x : a = v
  · exact x
  · have := left_pos h g x; omega
theorem seq_left {s t r v : Int} (h : mayB s t r = true) (g : mayB s t v = true) : seqR s t r (leftR s t r v).toNat = v := by
  have hb := leftR_bd h g
  have := left_seq h g (leftR s t r v).toNat (by omega)
  exact leftR_zero (seqR_may h _) g (by omega)
theorem seq_next (s t r : Int) : ∀ k, seqR s t (nextR s t r) k = seqR s t r (k + 1)
  | 0 => rfl
  | k + 1 => by
    have ih := seq_next s t r k
    show nextR s t (seqR s t (nextR s t r) k) = nextR s t (seqR s t r (k + 1))
    rw [ih]
theorem xs_yes {s t r v : Int} (h : mayB s t r = true) (g : mayB s t v = true) : xsR s t r v = (List.range (leftR s t r v).toNat).map (seqR s t r) := by rw [xsR, if_pos (by rw [h, g]; rfl)]; rfl
/-- A place more. -/
theorem xs_snoc {s t r v : Int} (h : mayB s t r = true) (g : mayB s t v = true) (hr : 1 ≤ s / t - 1 - leftR s t r v) : xsR s t r (nextR s t v) = xsR s t r v ++ [v] := by
  have hb := leftR_bd h g
  have hl := left_to h g
  rw [if_neg (by omega)] at hl
  rw [xs_yes h (next_may g), xs_yes h g, hl, show (leftR s t r v + 1).toNat = (leftR s t r v).toNat + 1 by omega, List.range_succ, List.map_append]
  simp [seq_left h g]
/-- A place less. -/
theorem xs_tail {s t r v : Int} (h : mayB s t r = true) (g : mayB s t v = true) (hr : 1 ≤ leftR s t r v) : xsR s t r v = r :: xsR s t (nextR s t r) v := by
  have hl := left_from h g
  rw [if_neg (by omega)] at hl
  rw [xs_yes (next_may h) g, xs_yes h g, hl, show (leftR s t r v).toNat = (leftR s t r v - 1).toNat + 1 by omega, List.range_succ_eq_map, List.map_cons, List.map_map]
  congr 1
  apply List.map_congr_left
  intro k _
  exact (seq_next s t r k).symm
theorem xs_may {s t r v : Int} (h : mayB s t r = true) (g : mayB s t v = true) {p : Int} (hp : p ∈ xsR s t r v) : mayB s t p = true ∧ p ≠ v := by
  rw [xs_yes h g, List.mem_map] at hp
  obtain ⟨k, hk, rfl⟩ := hp
  rw [List.mem_range] at hk
  refine ⟨seqR_may h k, fun e => ?_⟩
  have := left_seq h g k (by omega)
  rw [e, leftR_self] at this
  omega
theorem xs_length {s t r v : Int} (h : mayB s t r = true) (g : mayB s t v = true) : (xsR s t r v).length = (leftR s t r v).toNat := by rw [xs_yes h g]; simp
theorem may_apart {s a b : Int} (h : mayB s 32 a = true) (g : mayB s 32 b = true) (hne : a ≠ b) : a + 32 ≤ b ∨ b + 32 ≤ a := by
  obtain ⟨_, h1, h2, h3⟩ := mayB_out h
  obtain ⟨_, g1, g2, g3⟩ := mayB_out g
  omega

/-! ### Queues -/
structure Qu where
  at_ : Int
  size : Int
  read : Int
  write : Int
deriving DecidableEq
abbrev Qu.cs (q : Qu) : Array Value := #[.int .i64 q.at_, .int .i64 q.size, .int .i64 q.read, .int .i64 q.write]
abbrev Qu.v (q : Qu) : Value := .agg #[.int .i64 q.at_, .int .i64 q.size, .int .i64 q.read, .int .i64 q.write]
structure Qu.Fair (q : Qu) : Prop where
  a : i64B q.at_
  s : i64B q.size
  r : i64B q.read
  w : i64B q.write
def okQ (q : Qu) : Bool := mayB q.size 32 q.read && mayB q.size 32 q.write
def lefN (q : Qu) : Int := if okQ q = true then leftR q.size 32 q.read q.write else 0
def rooN (q : Qu) : Int := if okQ q = true then q.size / 32 - 1 - leftR q.size 32 q.read q.write else 0
def newOk (a s : Int) : Bool := decide (0 ≤ a) && rightB s 32
def newQ (a s : Int) : Qu := if newOk a s = true then ⟨a, s, 0, 0⟩ else ⟨0, 0, 0, 0⟩
def quE (n : Nat) (q : Qu) (c : Cm) : Int := if rooN q < 1 then 2 else stE n q.at_ q.size q.write (validC c)
def quL (bs : List Nat) (q : Qu) (c : Cm) : List Nat := if rooN q < 1 then bs else stL bs q.at_ q.size q.write c
def quQ (n : Nat) (q : Qu) (c : Cm) : Qu := if quE n q c = 0 then { q with write := nextR q.size 32 q.write } else q
def headV (bs : List Nat) (q : Qu) : Cm := if lefN q < 1 then Cm.zero else ldV bs q.at_ q.size q.read
def headE (bs : List Nat) (q : Qu) : Int := if lefN q < 1 then 170 else ldE bs q.at_ q.size q.read
def passE (q : Qu) : Int := if lefN q < 1 then 170 else 0
def passQ (q : Qu) : Qu := if lefN q < 1 then q else { q with read := nextR q.size 32 q.read }
def setE (q : Qu) (x : Int) : Int := if mayB q.size 32 x = true then 0 else 1
def setQ (q : Qu) (x : Int) : Qu := if mayB q.size 32 x = true then { q with write := x } else q
/-- What waits. -/
def eachL (bs : List Nat) (q : Qu) : List (Cm × Int) := (xsR q.size 32 q.read q.write).map fun p => (ldV bs q.at_ q.size p, ldE bs q.at_ q.size p)
/-- As many are put as can be: how many, the error, the queue, the bytes. -/
def fillS : List Cm → List Nat → Qu → Nat × Int × Qu × List Nat
  | [], bs, q => (0, 0, q, bs)
  | c :: cs, bs, q => if quE bs.length q c = 0 then ((fillS cs (quL bs q c) (quQ bs.length q c)).1 + 1, (fillS cs (quL bs q c) (quQ bs.length q c)).2) else (0, quE bs.length q c, quQ bs.length q c, quL bs q c)

theorem okQ_out {q : Qu} (h : okQ q = true) : mayB q.size 32 q.read = true ∧ mayB q.size 32 q.write = true := by simpa [okQ] using h
theorem room_ok {q : Qu} (h : ¬ rooN q < 1) : okQ q = true := by
  cases e : okQ q
  · exfalso; apply h; simp [rooN, e]
  · rfl
theorem left_ok {q : Qu} (h : ¬ lefN q < 1) : okQ q = true := by
  cases e : okQ q
  · exfalso; apply h; simp [lefN, e]
  · rfl
theorem lefN_bd (q : Qu) : 0 ≤ lefN q ∧ lefN q ≤ 1023 := by
  unfold lefN
  split
  · rename_i h
    obtain ⟨h1, h2⟩ := okQ_out h
    have := leftR_bd h1 h2
    omega
  · omega
theorem rooN_bd (q : Qu) : 0 ≤ rooN q ∧ rooN q ≤ 1023 := by
  unfold rooN
  split
  · rename_i h
    obtain ⟨h1, h2⟩ := okQ_out h
    have := leftR_bd h1 h2
    omega
  · omega
theorem each_len (bs : List Nat) (q : Qu) : ((eachL bs q).length : Int) = lefN q := by
  unfold eachL lefN
  rw [List.length_map]
  split
  · rename_i h
    obtain ⟨h1, h2⟩ := okQ_out h
    have := leftR_bd h1 h2
    rw [xs_length h1 h2]; omega
  · rename_i h
    have : xsR q.size 32 q.read q.write = [] := by rw [xsR, if_neg (by simpa [okQ] using h)]
    rw [this]; rfl
theorem stL_len' {bs : List Nat} {a s off : Int} {c : Cm} (hl : bs.length ≤ 131072) : (stL bs a s off c).length = bs.length := by
  unfold stL; split
  · exact stB_len hl 4
  · rfl
theorem quL_len {bs : List Nat} {q : Qu} {c : Cm} (hl : bs.length ≤ 131072) : (quL bs q c).length = bs.length := by
  unfold quL; split
  · rfl
  · exact stL_len' hl

/-! ### What is stored is read, and nothing else changes -/
theorem splice_aw (bs cs : List Nat) (o k : Nat) (h : o + cs.length ≤ bs.length) (hk : k < o ∨ o + cs.length ≤ k) : (splice bs o cs)[k]? = bs[k]? := by
  have h1 : (bs.take o).length = o := by simp; omega
  simp only [splice]
  rcases hk with hk | hk
  · rw [List.getElem?_append_left (by omega), List.getElem?_take_of_lt hk]
  · rw [List.getElem?_append_right (by omega), h1, List.getElem?_append_right (by omega), List.getElem?_drop]
    congr 1
    omega
theorem sub_aw {bs cs : List Nat} {o k n : Nat} (h : o + cs.length ≤ bs.length) (hk : k + n ≤ o ∨ o + cs.length ≤ k) : sub (splice bs o cs) k n = sub bs k n := by
  apply List.ext_getElem?
  intro i
  by_cases hi : i < n
  · rw [sub_get hi, sub_get hi]
    exact splice_aw _ _ _ _ h (by omega)
  · rw [List.getElem?_eq_none (by simp [sub]; omega), List.getElem?_eq_none (by simp [sub]; omega)]
theorem st_aw {bs : List Nat} {A B : Nat} {ws : Ws} (hl : bs.length ≤ 131072) (hA : A + 32 ≤ bs.length) (hd : A + 32 ≤ B ∨ B + 32 ≤ A) {o : Nat} (ho : B ≤ o ∧ o + 8 ≤ B + 32) : ∀ k, k ≤ 4 → sub (stB bs (A : Int) ws k) o 8 = sub bs o 8
  | 0, _ => rfl
  | k + 1, hk => by
    have hlen : (stB bs (A : Int) ws k).length = bs.length := stB_len hl k
    have e : stB bs (A : Int) ws (k + 1) = splice (stB bs (A : Int) ws k) (A + 8 * k) (le 8 (ws k)) := by
      rw [stB, wrB, if_pos (by rw [hlen]; exact acc8 hA (by omega))]
      congr 1
      omega
    rw [e, sub_aw (by rw [le_len, hlen]; omega) (by rw [le_len]; omega)]
    exact st_aw hl hA hd ho k (by omega)
theorem ldW_aw {bs : List Nat} {A B : Nat} {ws : Ws} (hl : bs.length ≤ 131072) (hA : A + 32 ≤ bs.length) (hd : A + 32 ≤ B ∨ B + 32 ≤ A) : ldW (stB bs (A : Int) ws 4) (B : Int) = ldW bs (B : Int) := by
  funext k
  rw [ldW, ldW, rdE, rdE, stB_len hl]
  by_cases h : accE bs.length (B : Int) 32 ((k : Int) * 8) 8 = 0
  · rw [if_pos h, if_pos h]
    obtain ⟨A', S', o', n', e1, e2, e3, e4, _, _, e5, e6⟩ := accE_out hl h
    have hk : k < 4 := by omega
    rw [show (B : Int).toNat + ((k : Int) * 8).toNat = B + 8 * k by omega, show (8 : Int).toNat = 8 from rfl]
    rw [st_aw hl hA hd (by omega) 4 (by omega)]
  · rw [if_neg h, if_neg h]
theorem decC_eq {a b : Ws} (h : sameW a b = true) : decC a = decC b := by
  simp only [sameW, Bool.and_eq_true, decide_eq_true_eq] at h
  obtain ⟨⟨⟨h0, h1⟩, h2⟩, h3⟩ := h
  have hp : ∀ f, a (pw f) = b (pw f) := fun f => by
    have : pw f = 0 ∨ pw f = 1 ∨ pw f = 2 ∨ pw f = 3 := by unfold pw; split <;> omega
    rcases this with e | e | e | e <;> rw [e] <;> assumption
  have ho : opW a = opW b := by rw [opW, opW, h0]
  have hd : decN a = decN b := by funext f; rw [decN, decN, hp f]
  rw [decC, decC, ho, hd]
theorem sameW_symm {a b : Ws} (h : sameW a b = true) : sameW b a = true := by
  simp only [sameW, Bool.and_eq_true, decide_eq_true_eq] at h ⊢
  obtain ⟨⟨⟨h0, h1⟩, h2⟩, h3⟩ := h
  exact ⟨⟨⟨h0.symm, h1.symm⟩, h2.symm⟩, h3.symm⟩
theorem dec_same {c : Cm} {ws : Ws} (h : validC c = true) (hs : sameW ws (wordsC c) = true) : decR ws = c ∧ decOk ws = true := by
  have e : decC ws = c := by rw [decC_eq hs]; exact dec_words h
  have e2 : decOk ws = true := by rw [decOk, e, h, sameW_symm hs]; rfl
  exact ⟨by rw [decR, if_pos e2, e], e2⟩
/-- A place of 32 bytes that lies in the bytes. -/
theorem ent_nat {n : Nat} {a s p : Int} (hn : n ≤ 131072) (h : entOk n a s p = true) : ∃ A : Nat, a + p = A ∧ A + 32 ≤ n := by
  simp only [entOk, partOk, fairB, holdsB, Bool.and_eq_true, decide_eq_true_eq] at h
  exact ⟨(a + p).toNat, by omega, by omega⟩
/-- What was stored at a place is what stands there. -/
theorem ld_here {bs : List Nat} {a s p : Int} {c : Cm} (hl : bs.length ≤ 131072) (h : entOk bs.length a s p = true) (hc : validC c = true) : ldV (stL bs a s p c) a s p = c ∧ ldE (stL bs a s p c) a s p = 0 := by
  obtain ⟨A, hA, hA2⟩ := ent_nat hl h
  have e : stL bs a s p c = stB bs (A : Int) (wordsC c) 4 := by rw [stL, hc, h, hA]; rfl
  have hlen : (stB bs (A : Int) (wordsC c) 4).length = bs.length := stB_len hl 4
  have hw := words_lt hc
  have hs : sameW (ldW (stB bs (A : Int) (wordsC c) 4) (A : Int)) (wordsC c) = true := by
    simp only [sameW, Bool.and_eq_true, decide_eq_true_eq]
    exact ⟨⟨⟨ld_st hl hA2 hw (by omega), ld_st hl hA2 hw (by omega)⟩, ld_st hl hA2 hw (by omega)⟩, ld_st hl hA2 hw (by omega)⟩
  obtain ⟨d1, d2⟩ := dec_same hc hs
  refine ⟨?_, ?_⟩
  · rw [e, ldV, hlen, if_pos h, hA, d1]
  · rw [e, ldE, hlen, if_pos h, hA, d2]; rfl
/-- And at another place what stood there. -/
theorem ld_there {bs : List Nat} {a s p x : Int} {c : Cm} (hl : bs.length ≤ 131072) (h : entOk bs.length a s p = true) (g : entOk bs.length a s x = true) (hd : p + 32 ≤ x ∨ x + 32 ≤ p) : ldV (stL bs a s p c) a s x = ldV bs a s x ∧ ldE (stL bs a s p c) a s x = ldE bs a s x := by
  obtain ⟨A, hA, hA2⟩ := ent_nat hl h
  obtain ⟨B, hB, hB2⟩ := ent_nat hl g
  cases hc : validC c
  · have e : stL bs a s p c = bs := by rw [stL, hc]; rfl
    rw [e]; exact ⟨rfl, rfl⟩
  · have e : stL bs a s p c = stB bs (A : Int) (wordsC c) 4 := by rw [stL, hc, h, hA]; rfl
    have hlen : (stB bs (A : Int) (wordsC c) 4).length = bs.length := stB_len hl 4
    have hw := ldW_aw (ws := wordsC c) hl hA2 (B := B) (by omega)
    refine ⟨?_, ?_⟩
    · rw [e, ldV, ldV, hlen, hB, hw]
    · rw [e, ldE, ldE, hlen, hB, hw]
/-- A queue whose window lies in the bytes, on 8. -/
structure Lies (bs : List Nat) (q : Qu) : Prop where
  len : bs.length ≤ 131072
  a0 : 0 ≤ q.at_
  fit : q.at_ + q.size ≤ bs.length
  ok : okQ q = true
theorem Lies.ent {bs : List Nat} {q : Qu} (h : Lies bs q) {p : Int} (hp : mayB q.size 32 p = true) : entOk bs.length q.at_ q.size p = true := by
  obtain ⟨hr, p0, p1, p2⟩ := mayB_out hp
  obtain ⟨_, r1, r2, r3⟩ := rightB_out hr
  have := h.fit
  have := h.a0
  have := h.len
  simp only [entOk, partOk, fairB, holdsB, Bool.and_eq_true, decide_eq_true_eq]
  rw [Int.tmod_eq_emod_of_nonneg p0]
  omega
theorem Lies.quE {bs : List Nat} {q : Qu} (h : Lies bs q) (c : Cm) : quE bs.length q c = if rooN q < 1 then 2 else if validC c = true then 0 else 160 := by
  unfold Go.Proofs.Ytfnokpajendlmaa.quE
  split
  · rfl
  · rw [stE, h.ent (okQ_out h.ok).2]
    cases validC c <;> rfl
/-- A COMMAND MORE. -/
theorem Lies.put {bs : List Nat} {q : Qu} (h : Lies bs q) {c : Cm} (e : Go.Proofs.Ytfnokpajendlmaa.quE bs.length q c = 0) :
    eachL (quL bs q c) (quQ bs.length q c) = eachL bs q ++ [(c, 0)] ∧ Lies (quL bs q c) (quQ bs.length q c) ∧ rooN (quQ bs.length q c) = rooN q - 1 ∧ validC c = true ∧ 1 ≤ rooN q := by
  have e2 := h.quE c
  rw [e] at e2
  have hr : ¬ rooN q < 1 := fun x => by rw [if_pos x] at e2; omega
  rw [if_neg hr] at e2
  have hv : validC c = true := by
    cases hv : validC c
    · rw [hv] at e2; simp at e2
    · rfl
  obtain ⟨h1, h2⟩ := okQ_out h.ok
  have hroo : rooN q = q.size / 32 - 1 - leftR q.size 32 q.read q.write := by rw [rooN, if_pos h.ok]
  have hq : quQ bs.length q c = { q with write := nextR q.size 32 q.write } := by rw [quQ, if_pos e]
  have hl : quL bs q c = stL bs q.at_ q.size q.write c := by rw [quL, if_neg hr]
  have hent := h.ent h2
  have hlen : (stL bs q.at_ q.size q.write c).length = bs.length := stL_len' h.len
  have hok : okQ { q with write := nextR q.size 32 q.write } = true := by simp only [okQ, h1, next_may h2]; rfl
  have hb := leftR_bd h1 h2
  have hlt := left_to h1 h2
  rw [if_neg (by omega)] at hlt
  refine ⟨?_, ?_, ?_, hv, by omega⟩
  · rw [hq, hl, eachL, eachL]
    dsimp only
    rw [xs_snoc h1 h2 (by omega), List.map_append]
    congr 1
    · apply List.map_congr_left
      intro p hp
      obtain ⟨p1, p2⟩ := xs_may h1 h2 hp
      obtain ⟨d1, d2⟩ := ld_there (c := c) h.len hent (h.ent p1) (by have := may_apart h2 p1 (Ne.symm p2); omega)
      rw [d1, d2]
    · obtain ⟨d1, d2⟩ := ld_here h.len hent hv
      simp [d1, d2]
  · rw [hq, hl]
    exact ⟨by rw [hlen]; exact h.len, h.a0, by rw [hlen]; exact h.fit, hok⟩
  · rw [hq, rooN, if_pos hok]
    dsimp only
    rw [hlt]
    omega
theorem Lies.putNo {bs : List Nat} {q : Qu} (h : Lies bs q) {c : Cm} (e : Go.Proofs.Ytfnokpajendlmaa.quE bs.length q c ≠ 0) : quL bs q c = bs ∧ quQ bs.length q c = q := by
  refine ⟨?_, by rw [quQ, if_neg e]⟩
  have e2 := h.quE c
  unfold quL
  split
  · rfl
  · rename_i hr
    rw [if_neg hr] at e2
    cases hv : validC c
    · rw [stL, hv]; rfl
    · rw [hv] at e2; simp at e2; exact absurd e2 e
/-- A COMMAND LESS. -/
theorem Lies.pass {bs : List Nat} {q : Qu} (h : Lies bs q) (hl : ¬ lefN q < 1) : eachL bs q = (headV bs q, headE bs q) :: eachL bs (passQ q) ∧ Lies bs (passQ q) ∧ passE q = 0 := by
  obtain ⟨h1, h2⟩ := okQ_out h.ok
  have hle : lefN q = leftR q.size 32 q.read q.write := by rw [lefN, if_pos h.ok]
  have hok : okQ { q with read := nextR q.size 32 q.read } = true := by simp only [okQ, next_may h1, h2]; rfl
  rw [passQ, if_neg hl, headV, headE, if_neg hl, if_neg hl, passE, if_neg hl]
  refine ⟨?_, ⟨h.len, h.a0, h.fit, hok⟩, rfl⟩
  rw [eachL, xs_tail h1 h2 (by omega), List.map_cons]
  rfl
/-- MANY COMMANDS. -/
structure Filled (cs : List Cm) (bs : List Nat) (q : Qu) (n : Nat) (e : Int) (q' : Qu) (bs' : List Nat) : Prop where
  each : eachL bs' q' = eachL bs q ++ (cs.take n).map fun c => (c, (0 : Int))
  lies : Lies bs' q'
  room : rooN q' = rooN q - n
  le : n ≤ cs.length
  all : e = 0 → n = cs.length
  full : e = 2 → rooN q' = 0 ∧ n < cs.length
  bad : e ≠ 0 → e ≠ 2 → e = 160 ∧ ∃ c, cs[n]? = some c ∧ validC c = false
  len : bs'.length = bs.length
theorem Lies.fill : ∀ (cs : List Cm) {bs : List Nat} {q : Qu}, Lies bs q → Filled cs bs q (fillS cs bs q).1 (fillS cs bs q).2.1 (fillS cs bs q).2.2.1 (fillS cs bs q).2.2.2
  | [], bs, q, h => ⟨by simp [fillS], h, by simp [fillS], by simp [fillS], fun _ => rfl, fun e => by simp [fillS] at e, fun e => absurd rfl e, rfl⟩
  | c :: cs, bs, q, h => by
    by_cases e : Go.Proofs.Ytfnokpajendlmaa.quE bs.length q c = 0
    · obtain ⟨h1, h2, h3, h4, h5⟩ := h.put e
      have ih := Lies.fill cs h2
      rw [fillS, if_pos e]
      refine ⟨?_, ih.lies, ?_, ?_, ?_, ?_, ?_, ?_⟩
      · rw [ih.each, h1]; simp
      · have := ih.room; rw [this, h3]; push_cast; omega
      · have := ih.le; simp; omega
      · intro x; have := ih.all x; simp; omega
      · intro x; have := ih.full x; exact ⟨this.1, by have := this.2; simp; omega⟩
      · intro x y; obtain ⟨b1, c', b2, b3⟩ := ih.bad x y; exact ⟨b1, c', by simpa using b2, b3⟩
      · rw [ih.len]; exact quL_len h.len
    · obtain ⟨h1, h2⟩ := h.putNo e
      have hE := h.quE c
      have hb := rooN_bd q
      rw [fillS, if_neg e]
      dsimp only
      rw [h1, h2]
      refine ⟨by simp, h, by simp, by simp, fun x => absurd x e, fun x => ?_, fun x y => ?_, rfl⟩
      · rw [hE] at x
        by_cases hr : rooN q < 1
        · exact ⟨by omega, by simp⟩
        · rw [if_neg hr] at x
          cases hv : validC c <;> rw [hv] at x <;> simp at x
      · rw [hE] at x y ⊢
        by_cases hr : rooN q < 1
        · rw [if_pos hr] at y; exact absurd rfl y
        · rw [if_neg hr] at x ⊢
          cases hv : validC c
          · exact ⟨by simp, c, by simp, hv⟩
          · rw [hv] at x; simp at x
/-- A new queue in bytes that hold its window. -/
theorem Lies.fresh {bs : List Nat} {a s : Int} (hl : bs.length ≤ 131072) (ha : 0 ≤ a) (hr : rightB s 32 = true) (hf : a + s ≤ bs.length) : Lies bs ⟨a, s, 0, 0⟩ ∧ eachL bs ⟨a, s, 0, 0⟩ = [] ∧ lefN ⟨a, s, 0, 0⟩ = 0 ∧ rooN ⟨a, s, 0, 0⟩ = s / 32 - 1 := by
  obtain ⟨_, r1, r2, r3⟩ := rightB_out hr
  have hm : mayB s 32 0 = true := mayB_mk hr (by omega) (by omega) rfl
  have hok : okQ ⟨a, s, 0, 0⟩ = true := by simp only [okQ, hm]; rfl
  have hl0 : lefN ⟨a, s, 0, 0⟩ = 0 := by rw [lefN, if_pos hok]; exact leftR_self
  refine ⟨⟨hl, ha, hf, hok⟩, ?_, hl0, ?_⟩
  · have := each_len bs ⟨a, s, 0, 0⟩
    rw [hl0] at this
    exact List.eq_nil_of_length_eq_zero (by omega)
  · rw [rooN, if_pos hok]
    show s / 32 - 1 - leftR s 32 0 0 = _
    rw [leftR_self]; omega

end Go.Proofs.Ytfnokpajendlmaa
