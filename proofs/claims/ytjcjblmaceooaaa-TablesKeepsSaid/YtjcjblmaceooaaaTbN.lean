/-
  The document's tables: entry, get, put, power, Right, Events, an event's place; table, told.
-/
import Derived.Test.YtjcjblmaceooaaaMjC
import Derived.Test.YtjcjblmaceooaaaTbJ
namespace Go.Proofs.Ytjcjblmaceooaaa
open Go.ChangeShapes Go.WideShapes Go.ChangeAt Go.RowKit
set_option linter.unusedVariables false
set_option linter.unusedSimpArgs false

/-- What the document's places answer. -/
def plV (o : Option Nat) : Value := match o with
  | some P => .tuple #[.int .i64 (P : Int), .bool true]
  | none => .tuple #[.int .i64 0, .bool false]
def renV (n : Nat) (a s k : Int) : Value := if nthB n a s k = true then .tuple #[.int .i64 (a + 8 * k), .bool true] else .tuple #[.int .i64 0, .bool false]
theorem renV_pl (n : Nat) (a s k : Int) : renV n a s k = plV (nthP n a s k) := by
  cases hp : nthP n a s k with
  | none => rw [renV, if_neg (by rw [nthP_none hp]; decide)]; rfl
  | some P =>
    obtain ⟨h1, h2, _⟩ := nthP_some hp
    rw [renV, if_pos h1, plV, h2]
set_option maxRecDepth 100000 in
set_option maxHeartbeats 4000000 in
theorem rentry_any (q h c : Nat) (bs : List Nat) (a s k : Int) (w : World) (hM : MemAt 72 w q h c bs) (ha : i64B a) (hs : i64B s) :
    Calls Try.prog 61 #[.pointer (some ⟨q, 0, none⟩), .agg #[.int .i64 a, .int .i64 s], .int .i64 k] w fun e w' => e = .returned (renV bs.length a s k) ∧ Below w.heap.size w w' := by
  have HH := Hi.mk (rholds_any q h c bs a s (w.alloc (.cells #[.int .i64 a, .int .i64 s] 30)) (hM.below (bal w _)) ha.1 ha.2 hs.1 hs.2)
  have HC0 := Hi.mk (And.intro (CB.new w 30 #[.int .i64 a, .int .i64 s]) (bal w (.cells #[.int .i64 a, .int .i64 s] 30)))
  have hlen := hM.len
  unfold win at HH
  have HR := Hi.mk (show renV bs.length a s k = if nthB bs.length a s k = true then .tuple #[.int .i64 (a + 8 * k), .bool true] else .tuple #[.int .i64 0, .bool false] from rfl)
  obtain ⟨rv, hrv⟩ : ∃ v, renV bs.length a s k = v := ⟨_, rfl⟩
  rw [hrv] at HR ⊢
  cases h1 : holdsB bs.length a s
  · have e : rv = .tuple #[.int .i64 0, .bool false] := by
      have hn : nthB bs.length a s k = false := by rw [nthB, h1]; simp
      have := HR.out; rw [hn] at this; simpa using this
    subst e
    rw [h1] at HH
    clear HR hrv h1 hM ha hs hlen
    go_enter Try.func61, Try.ntmps61
    go_wp2_with (go_at_call 60; ((with_reducible refine HH.out.mono ?_); rintro e w1 ⟨rfl, hb1⟩; have HB1 := Hi.mk (HC0.out.2.more hb1); clear hb1))
    go_ret2
    exact ⟨rfl, HB1.out⟩
  · rw [h1] at HH
    have hbd : 0 ≤ a ∧ 0 ≤ s ∧ a + s ≤ 131072 := by
      simp only [holdsB, decide_eq_true_eq] at h1
      omega
    clear ha hs
    by_cases h2 : k < 0
    · skip
      have e : rv = .tuple #[.int .i64 0, .bool false] := by
        have hn : nthB bs.length a s k = false := by simp [nthB]; omega
        have := HR.out; rw [hn] at this; simpa using this
      subst e
      clear HR hrv h1 hM hlen hbd
      go_enter Try.func61, Try.ntmps61
      go_wp2_with (go_at_call 60; ((with_reducible refine HH.out.mono ?_); rintro e w1 ⟨rfl, hb1⟩; have HC1 := Hi.mk (HC0.out.1.below hb1); have HB1 := Hi.mk (HC0.out.2.more hb1); clear hb1; obtain ⟨q0, q1⟩ := CB.two HC1.out))
      go_ret2
      exact ⟨rfl, HB1.out⟩
    · by_cases h3 : 131072 ≤ k
      · skip
        have e : rv = .tuple #[.int .i64 0, .bool false] := by
          have hn : nthB bs.length a s k = false := by simp [nthB]; omega
          have := HR.out; rw [hn] at this; simpa using this
        subst e
        clear HR hrv h1 hM hlen hbd
        go_enter Try.func61, Try.ntmps61
        go_wp2_with (go_at_call 60; ((with_reducible refine HH.out.mono ?_); rintro e w1 ⟨rfl, hb1⟩; have HC1 := Hi.mk (HC0.out.1.below hb1); have HB1 := Hi.mk (HC0.out.2.more hb1); clear hb1; obtain ⟨q0, q1⟩ := CB.two HC1.out))
        go_ret2
        exact ⟨rfl, HB1.out⟩
      · by_cases h4 : s < 8 * k + 8
        · skip
          have e : rv = .tuple #[.int .i64 0, .bool false] := by
            have hn : nthB bs.length a s k = false := by simp [nthB]; omega
            have := HR.out; rw [hn] at this; simpa using this
          subst e
          obtain ⟨y1, y2, y3⟩ := hbd
          have y4 : 0 ≤ k := by omega
          have y5 : k < 131072 := by omega
          clear HR hrv h1 hM hlen h2 h3 y3
          go_enter Try.func61, Try.ntmps61
          go_wp2_with (go_at_call 60; ((with_reducible refine HH.out.mono ?_); rintro e w1 ⟨rfl, hb1⟩; have HC1 := Hi.mk (HC0.out.1.below hb1); have HB1 := Hi.mk (HC0.out.2.more hb1); clear hb1; obtain ⟨q0, q1⟩ := CB.two HC1.out))
          go_ret2
          exact ⟨rfl, HB1.out⟩
        · have e : rv = .tuple #[.int .i64 (a + 8 * k), .bool true] := by
            have hn : nthB bs.length a s k = true := by rw [nthB, h1]; simp; omega
            have := HR.out; rw [hn] at this; simpa using this
          subst e
          obtain ⟨y1, y2, y3⟩ := hbd
          have y4 : 0 ≤ k := by omega
          have y5 : k < 131072 := by omega
          have y6 : a ≤ 131072 := by omega
          have y7 : 8 * k + 8 ≤ s := by omega
          clear HR hrv h1 hM hlen h2 h3 h4 y3
          go_enter Try.func61, Try.ntmps61
          go_wp2_with (go_at_call 60; ((with_reducible refine HH.out.mono ?_); rintro e w1 ⟨rfl, hb1⟩; have HC1 := Hi.mk (HC0.out.1.below hb1); have HB1 := Hi.mk (HC0.out.2.more hb1); clear hb1; obtain ⟨q0, q1⟩ := CB.two HC1.out))
          go_ret2
          exact ⟨rfl, HB1.out⟩

theorem sub_cons {bs : List Nat} {o k : Nat} (h : o < bs.length) : sub bs o (k + 1) = bs[o]?.getD 0 :: sub bs (o + 1) k := by
  simp only [sub]
  rw [List.drop_eq_getElem_cons h, List.take_succ_cons, List.getElem?_eq_getElem h]
  rfl
theorem pow256_le {k : Nat} (h : k ≤ 7) : 256 ^ k ≤ 72057594037927936 := Nat.le_trans (Nat.pow_le_pow_right (n := 256) (by decide) h) (by decide)
set_option maxRecDepth 100000 in
set_option maxHeartbeats 4000000 in
theorem rget_any (q h c : Nat) (bs : List Nat) (P : Nat) (a : Int) (hPa : (P : Int) = a) (hP : P + 8 ≤ bs.length) (w : World) (hM : MemAt 72 w q h c bs) :
    Calls Try.prog 67 #[.pointer (some ⟨q, 0, none⟩), .int .i64 a] w fun e w' => e = .returned (.tuple #[.int .u64 (w8 bs P), .bool (valB (w8 bs P))]) ∧ w = w' := by
  subst hPa
  have hc := hM.cell
  have hlen := hM.len
  have HM := Hi.mk hM
  have HV := Hi.mk (show ∀ N : Nat, valB N = decide (9223372036854775808 ≤ N) from fun N => rfl)
  have HPL := Hi.mk hP
  have hPl : (P : Int) ≤ 131064 := by omega
  have HW := Hi.mk (show w8 bs P = num (sub bs P 8) from rfl)
  obtain ⟨W8, hW8⟩ : ∃ v, w8 bs P = v := ⟨_, rfl⟩
  rw [hW8] at HW ⊢
  obtain ⟨n, hn⟩ : ∃ n, bs.length = n := ⟨_, rfl⟩
  rw [hn] at hc hlen hP
  have HN := Hi.mk hn
  clear hM hn hW8
  go_enter Try.func67, Try.ntmps67
  go_wp2
  go_loop [6, 7] (fun u i => ∃ (k N : Nat), i = .int .i64 (7 - (k : Int)) ∧ u = .int .u64 (N : Int) ∧ Hi (k ≤ 8 ∧ N = num (sub bs (P + (8 - k)) k))) (fun _ i => (intOf i + 1).toNat)
  case atStart => exact ⟨0, 0, rfl, rfl, Hi.mk ⟨by omega, by simp [sub, num]⟩⟩
  case round =>
    obtain ⟨k, N, rfl, rfl, HK⟩ := hrel
    have hk := HK.out.1
    by_cases hlt : k < 8
    · have hN : N < 72057594037927936 := by
        rw [HK.out.2]
        have h1 := num_lt (sub bs (P + (8 - k)) k) (sub_mem HM.out.bytes.2)
        have h2 : (sub bs (P + (8 - k)) k).length ≤ k := by simp [sub]; omega
        have h3 := pow256_le (k := k) (by omega)
        have h4 : 256 ^ (sub bs (P + (8 - k)) k).length ≤ 256 ^ k := Nat.pow_le_pow_right (by decide) h2
        omega
      have hcell := HM.out.bytes.cell (P + (7 - k)) (by have := HPL.out; omega)
      obtain ⟨x, hx⟩ : ∃ x, bs[P + (7 - k)]?.getD 0 = x := ⟨_, rfl⟩
      have hxl : x < 256 := by
        rw [← hx, List.getElem?_eq_getElem (by have := HPL.out; omega), Option.getD_some]
        exact HM.out.bytes.2 _ (List.getElem_mem _)
      have HS := Hi.mk (show 256 * N + x = num (sub bs (P + (8 - (k + 1))) (k + 1)) by
        rw [sub_cons (by have := HPL.out; omega), num, show P + (8 - (k + 1)) = P + (7 - k) by omega, hx, show P + (7 - k) + 1 = P + (8 - k) by omega, ← HK.out.2]; omega)
      rw [hx] at hcell
      obtain ⟨m, hm⟩ : ∃ m : Nat, 7 - k = m := ⟨_, rfl⟩
      rw [hm] at hcell
      have hmi : 7 - (k : Int) = (m : Int) := by omega
      have hml : m ≤ 7 := by omega
      rw [hmi]
      have HMI := Hi.mk hmi
      have hnl : P + m < n := by omega
      clear hx hm hmi hk hlt
      go_wp2
      go_round
      case rel =>
        have e0 : (7 - ((k + 1 : Nat) : Int)) = (m : Int) - 1 := by have := HMI.out; omega
        have e1 : k + 1 ≤ 8 := by have := HMI.out; omega
        refine ⟨k + 1, 256 * N + x, ?_, ?_, Hi.mk ⟨e1, HS.out⟩⟩
        · rw [e0]
        · go_num
      case measure => first | (simp [intOf]; done) | (simp [intOf]; omega)
    · have hk7 : 7 - (k : Int) = -1 := by omega
      have hk8 : k = 8 := by omega
      rw [hk7]
      have HF := Hi.mk (show N = W8 by rw [HK.out.2, HW.out, hk8]; rfl)
      clear hlt hk hk7 hk8
      go_wp2
      all_goals go_ret2
      all_goals exact ⟨by rw [← HF.out, HV.out N]; simp; omega, rfl⟩

set_option maxRecDepth 100000 in
set_option maxHeartbeats 4000000 in
theorem rput_any (q h c : Nat) (bs : List Nat) (P v : Nat) (a n : Int) (hPa : (P : Int) = a) (hvn : (v : Int) = n) (hP : P + 8 ≤ bs.length) (hv : v < 18446744073709551616) (w : World) (hM : MemAt 72 w q h c bs) :
    Calls Try.prog 62 #[.pointer (some ⟨q, 0, none⟩), .int .i64 a, .int .u64 n] w fun e w' => (∃ r, e = .returned r) ∧ MemAt 72 w' q h c (s8 bs P v) ∧ Kept (· = h) w w' := by
  subst hPa hvn
  have hl := hM.len
  have HM := Hi.mk hM
  have HL := Hi.mk hP
  have hPl : (P : Int) ≤ 131064 := by omega
  have HG := Hi.mk (And.intro hM.bytes.lt hM.plt)
  obtain ⟨m, hn2⟩ : ∃ m, bs.length = m := ⟨_, rfl⟩
  have HN2 := Hi.mk hn2
  have h0 := Hi.mk (show BytesAt w h (splice bs P (le 0 v)) by rw [show le 0 v = [] from rfl, splice_nil]; exact hM.bytes)
  clear hn2 hM hl hP
  go_enter Try.func62, Try.ntmps62
  go_wp2
  go_loopw [2, 6] (fun u i wr => ∃ j : Nat, i = .int .i64 j ∧ u = .int .u64 ((v / 256 ^ j : Nat) : Int) ∧ Hi (j ≤ 8 ∧ BytesAt wr h (splice bs P (le j v)) ∧ Kept (· = h) w wr)) (fun _ i _ => 8 - (intOf i).toNat)
  case atStart => exact ⟨0, rfl, by simp, Hi.mk ⟨Nat.zero_le _, h0.out, Kept.refl _ _⟩⟩
  case round =>
    obtain ⟨j, rfl, rfl, HJ⟩ := hrel
    have hj := HJ.out.1
    by_cases hlt : j < 8
    · have hsl := splice_len bs (le j v) P (by rw [le_len]; have := HL.out; omega)
      have hcell := HJ.out.2.1.cell (P + j) (by rw [hsl]; have := HL.out; omega)
      have hfr := HJ.out.2.1.frozen (P + j)
      obtain ⟨x, hx⟩ : ∃ x, (splice bs P (le j v))[P + j]?.getD 0 = x := ⟨_, rfl⟩
      rw [hx] at hcell
      have hcp : wr.cell? ⟨q, 0, none⟩ = some (.slice (some ⟨h, 0, none⟩) m c) := by
        have := (HM.out.set HJ.out.2.2 HJ.out.2.1 hsl).cell
        rw [hsl, HN2.out] at this
        exact this
      have hin : P + j < m := by have := HL.out; have := HN2.out; omega
      have hn : m ≤ 131072 := by rw [← HN2.out]; exact HM.out.len
      have x1 : (j : Int) < 8 := by omega
      have HS := Hi.mk hsl
      obtain ⟨V, hV⟩ : ∃ V, v / 256 ^ j = V := ⟨_, rfl⟩
      rw [hV]
      have hV64 : V < 18446744073709551616 := by rw [← hV]; exact Nat.lt_of_le_of_lt (Nat.div_le_self _ _) hv
      have HV := Hi.mk hV
      clear hsl hx hV
      go_wp2
      go_roundw
      case rel =>
        refine ⟨j + 1, by go_num, ?_, Hi.mk ⟨hlt, ?_, HJ.out.2.2.trans (kept_setCell _ _ _ _)⟩⟩
        · rw [← HV.out, Nat.pow_succ, ← Nat.div_div_eq_div_mul]
          simp
        · have h2 := splice_set bs (le j v) P (v / 256 ^ j % 256) (by rw [le_len]; have := HL.out; omega)
          rw [le_len] at h2
          rw [le_succ, ← h2]
          have h1 := HJ.out.2.1.set (P + j) (v / 256 ^ j % 256) (by rw [HS.out]; have := HL.out; omega) (Nat.mod_lt _ (by omega))
          rw [show ((v / 256 ^ j % 256 : Nat) : Int) = (V : Int) % 256 by rw [HV.out]; simp] at h1
          exact h1
      case measure => first | (simp [intOf]; done) | (simp [intOf]; omega)
    · obtain rfl : j = 8 := by omega
      go_wp2
      go_end0
      exact ⟨⟨_, rfl⟩, HM.out.set HJ.out.2.2 HJ.out.2.1 (s8_len HL.out), HJ.out.2.2⟩

/-- A power of two from 8 to 131072. -/
def powB (n : Int) : Bool := (List.range 15).any fun j => n == ((2 ^ (3 + j) : Nat) : Int)
theorem powB_yes {n : Int} {j : Nat} (hj : j < 15) (h : n = ((2 ^ (3 + j) : Nat) : Int)) : powB n = true := by
  unfold powB
  rw [List.any_eq_true]
  exact ⟨j, by simpa using hj, by rw [h]; simp⟩
theorem powB_no {n : Int} (h : ∀ j : Nat, j < 15 → n ≠ ((2 ^ (3 + j) : Nat) : Int)) : powB n = false := by
  unfold powB
  rw [List.any_eq_false]
  intro j hj
  have := h j (by simpa using hj)
  simpa using this
theorem powB_bd {n : Int} (h : powB n = true) : 8 ≤ n ∧ n ≤ 131072 := by
  unfold powB at h
  rw [List.any_eq_true] at h
  obtain ⟨j, hj, h⟩ := h
  have hj : j < 15 := by simpa using hj
  have h : n = ((2 ^ (3 + j) : Nat) : Int) := by simpa using h
  have h1 : 2 ^ 3 ≤ 2 ^ (3 + j) := Nat.pow_le_pow_right (by decide) (by omega)
  have h2 : 2 ^ (3 + j) ≤ 2 ^ 17 := Nat.pow_le_pow_right (by decide) (by omega)
  rw [h]
  omega
set_option maxRecDepth 100000 in
set_option maxHeartbeats 4000000 in
theorem rpower_any (n : Int) (w : World) : Calls Try.prog 66 #[.int .i64 n] w fun e w' => e = .returned (.bool (powB n)) ∧ w = w' := by
  have HY := Hi.mk (fun (j : Nat) (hj : j < 15) (h : n = ((2 ^ (3 + j) : Nat) : Int)) => powB_yes hj h)
  have HN := Hi.mk (fun (h : ∀ j : Nat, j < 15 → n ≠ ((2 ^ (3 + j) : Nat) : Int)) => powB_no h)
  obtain ⟨pb, hpb⟩ : ∃ b, powB n = b := ⟨_, rfl⟩
  rw [hpb] at HY HN ⊢
  clear hpb
  go_enter Try.func66, Try.ntmps66
  go_wp2
  go_loop [3] (fun u => ∃ k i : Nat, u = .int .i64 (k : Int) ∧ Hi (k = 2 ^ (3 + i) ∧ i ≤ 15 ∧ ∀ j : Nat, j < i → n ≠ ((2 ^ (3 + j) : Nat) : Int))) (fun u => 262144 - (intOf u).toNat)
  case atStart => exact ⟨8, 0, rfl, Hi.mk ⟨rfl, by omega, fun j h => absurd h (by omega)⟩⟩
  case round =>
    obtain ⟨k, i, rfl, HK⟩ := hrel
    have hk1 : k ≤ 262144 := by rw [HK.out.1]; exact Nat.pow_le_pow_right (n := 2) (by decide) (show 3 + i ≤ 18 by have := HK.out.2.1; omega)
    have hk2 : 8 ≤ k := by rw [HK.out.1]; exact Nat.pow_le_pow_right (n := 2) (by decide) (show 3 ≤ 3 + i by omega)
    by_cases hi15 : i < 15
    · have hk3 : k ≤ 131072 := by rw [HK.out.1]; exact Nat.pow_le_pow_right (n := 2) (by decide) (show 3 + i ≤ 17 by omega)
      have x1 : (k : Int) ≤ 131072 := by omega
      by_cases he : (k : Int) = n
      · have HT := Hi.mk (HY.out i hi15 (by rw [← he, HK.out.1]))
        subst he
        clear hi15
        go_wp2
        go_ret
        exact ⟨by rw [HT.out]; rfl, rfl⟩
      · have he2 : ((k : Int) == n) = false := by simpa using he
        have HE := Hi.mk he
        have HI := Hi.mk hi15
        clear he hi15
        go_wp2
        go_round
        case rel => exact ⟨2 * k, i + 1, by go_num, Hi.mk ⟨by rw [HK.out.1, show 3 + (i + 1) = (3 + i) + 1 by omega, Nat.pow_succ, Nat.mul_comm], HI.out, fun j hj => by
          by_cases hji : j = i
          · subst hji; rw [← HK.out.1]; exact fun e => HE.out e.symm
          · exact HK.out.2.2 j (by omega)⟩⟩
        case measure => first | (simp [intOf]; done) | (simp [intOf]; omega)
    · have hi : i = 15 := by have := HK.out.2.1; omega
      have hk4 : k = 262144 := by rw [HK.out.1, hi]
      have HF := Hi.mk (HN.out (fun j hj => HK.out.2.2 j (by omega)))
      have x1 : (131072 : Int) < (k : Int) := by omega
      clear hi15 hi hk4 hk1 hk2
      go_wp2
      go_ret
      exact ⟨by rw [HF.out]; rfl, rfl⟩

def rrightE (n : Nat) (t : Tb) : Int := if holdsB n t.at_ t.size = true then (if t.page ≠ 0 ∧ powB t.page = false then 1 else 0) else 42
theorem rrightE_zero {n : Nat} {t : Tb} (h : rrightE n t = 0) : t.page = 0 ∨ (8 ≤ t.page ∧ t.page ≤ 131072) := by
  unfold rrightE at h
  split at h
  · split at h
    · cases h
    · rename_i h1
      by_cases h0 : t.page = 0
      · exact .inl h0
      · cases hp : powB t.page
        · exact absurd ⟨h0, hp⟩ h1
        · exact .inr (powB_bd hp)
  · cases h
set_option maxRecDepth 100000 in
set_option maxHeartbeats 4000000 in
theorem rright_any (q h c : Nat) (bs : List Nat) (t : Tb) (hF : t.Fair) (w : World) (hM : MemAt 72 w q h c bs) : Calls Try.prog 59 #[t.v, .pointer (some ⟨q, 0, none⟩)] w fun e w' => e = .returned (.int .i64 (rrightE bs.length t)) ∧ Below w.heap.size w w' := by
  have H0 := Hi.mk (And.intro (CB.new w 103 (Tb.cs t)) (bal w (.cells (Tb.cs t) 103)))
  have HH := Hi.mk (rholds_any q h c bs t.at_ t.size (w.alloc (.cells (Tb.cs t) 103)) (hM.below (bal w _)) hF.a.1 hF.a.2 hF.s.1 hF.s.2)
  have HP := Hi.mk (fun W => rpower_any t.page W)
  have HR := Hi.mk (show rrightE bs.length t = if holdsB bs.length t.at_ t.size = true then (if t.page ≠ 0 ∧ powB t.page = false then 1 else 0) else 42 from rfl)
  unfold win at HH
  obtain ⟨hb, hhb⟩ : ∃ v, holdsB bs.length t.at_ t.size = v := ⟨_, rfl⟩
  obtain ⟨pb, hpb⟩ : ∃ v, powB t.page = v := ⟨_, rfl⟩
  obtain ⟨re, hre⟩ : ∃ v, rrightE bs.length t = v := ⟨_, rfl⟩
  rw [hhb] at HH HR
  rw [hpb] at HP HR
  rw [hre] at HR ⊢
  obtain ⟨a, s, pg⟩ := t
  dsimp only at H0 HH HP HR ⊢
  clear hhb hM hF hpb hre
  cases hb
  · obtain rfl : re = 42 := by have := HR.out; simpa using this
    clear HR
    go_enter Try.func59, Try.ntmps59
    go_wp2_with (go_at_call 60; ((with_reducible refine HH.out.mono ?_); rintro e w1 ⟨rfl, hb1⟩; have H1 := Hi.mk (H0.out.2.more hb1); clear hb1))
    go_ret
    exact ⟨rfl, H1.out⟩
  · by_cases h0 : pg = 0
    · obtain rfl : re = 0 := by have := HR.out; simpa [h0] using this
      subst h0
      clear HR
      go_enter Try.func59, Try.ntmps59
      go_wp2_with (go_at_call 60; ((with_reducible refine HH.out.mono ?_); rintro e w1 ⟨rfl, hb1⟩; have H1 := Hi.mk (H0.out.2.more hb1); obtain ⟨c0, c1, c2⟩ := CB.three (H0.out.1.below hb1); clear hb1))
      go_ret
      exact ⟨rfl, H1.out⟩
    · have g0 : (pg != 0) = true := by simpa using h0
      cases pb
      · obtain rfl : re = 1 := by have := HR.out; simpa [h0] using this
        clear HR h0
        go_enter Try.func59, Try.ntmps59
        go_wp2_with (first
          | (go_at_call 60; ((with_reducible refine HH.out.mono ?_); rintro e w1 ⟨rfl, hb1⟩; have H1 := Hi.mk (H0.out.2.more hb1); obtain ⟨c0, c1, c2⟩ := CB.three (H0.out.1.below hb1); clear hb1))
          | (go_at_call 66; ((with_reducible refine (HP.out _).mono ?_); rintro e w2 ⟨rfl, rfl⟩)))
        go_ret
        exact ⟨rfl, H1.out⟩
      · obtain rfl : re = 0 := by have := HR.out; simpa [h0] using this
        clear HR h0
        go_enter Try.func59, Try.ntmps59
        go_wp2_with (first
          | (go_at_call 60; ((with_reducible refine HH.out.mono ?_); rintro e w1 ⟨rfl, hb1⟩; have H1 := Hi.mk (H0.out.2.more hb1); obtain ⟨c0, c1, c2⟩ := CB.three (H0.out.1.below hb1); clear hb1))
          | (go_at_call 66; ((with_reducible refine (HP.out _).mono ?_); rintro e w2 ⟨rfl, rfl⟩)))
        go_ret
        exact ⟨rfl, H1.out⟩

end Go.Proofs.Ytjcjblmaceooaaa
