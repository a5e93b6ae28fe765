/-
  Package sgi: the small functions at every call: mayBeID, reaches, To, Decode, Encode.
-/
import Derived.Test.YtkfnelhafflimaaGnd
import Derived.Test.YtkfnelhafflimaaSgiA
import Derived.Test.YtkfnelhafflimaaHi
namespace Go.Proofs.Ytkfnelhafflimaa
open Go.ChangeShapes Go.WideShapes Go.ChangeAt Go.RowKit
set_option linter.unusedVariables false

theorem results_cl {fn : Func} {c : Tmp} (h : fn.results = #[.cell c 24]) (tmps : Array Value) (w : World) (b : Nat) (x : Cl) (hp : tmps.getD c undef = .pointer (some ⟨b, 0, none⟩)) (hb : CB w b 24 x.cs) :
    (results fn tmps).run Try.prog w = .ok x.v w := by
  have hp' : tmps[c]?.getD undef = .pointer (some ⟨b, 0, none⟩) := by simpa using hp
  have c0 := hb.cell 0
  have c1 := hb.cell 1
  have c2 := hb.cell 2
  have c3 := hb.cell 3
  simp at c0 c1 c2 c3
  simp [results, h, go_sem, hp', c0, c1, c2, c3]
theorem cb_second {w : World} {o : Obj} {cs : Array Value} {t : TypeId} : CB ((w.alloc o).alloc (.cells cs t)) (w.heap.size + 1) t cs := by
  have := CB.new (w.alloc o) t cs
  rwa [World.size_alloc] at this
theorem bal_two (w : World) (o o' : Obj) : Below w.heap.size w ((w.alloc o).alloc o') := (bal w o).alloc (by simp) o'
theorem below_set {n : Nat} {w W : World} (h : Below n w W) {b o : Nat} (hb : n ≤ b) (v : Value) : Below n w (W.setCell ⟨b, o, none⟩ v) := h.setCell (p := ⟨b, o, none⟩) hb v
theorem CB.setC {W : World} {B : Nat} {t : TypeId} {z : Cl} (h : CB W B t z.cs) (x : Cl) : CB ((((W.setCell ⟨B, 0, none⟩ (.int .i64 x.id)).setCell ⟨B, 1, none⟩ (.bool x.all)).setCell ⟨B, 2, none⟩ (.int .i64 x.tg)).setCell ⟨B, 3, none⟩ (.bool x.odd)) B t x.cs :=
  (((h.set 0 _).set 1 _).set 2 _).set 3 _
theorem below_setC {n : Nat} {w W : World} (h : Below n w W) {b : Nat} (hb : n ≤ b) (x : Cl) : Below n w ((((W.setCell ⟨b, 0, none⟩ (.int .i64 x.id)).setCell ⟨b, 1, none⟩ (.bool x.all)).setCell ⟨b, 2, none⟩ (.int .i64 x.tg)).setCell ⟨b, 3, none⟩ (.bool x.odd)) :=
  below_set (below_set (below_set (below_set h hb _) hb _) hb _) hb _

def mayI (x : Int) : Bool := decide (0 ≤ x) && decide (x ≤ 15)
theorem may_any (x : Int) (w : World) : Calls Try.prog 22 #[.int .i64 x] w fun e w' => e = .returned (.bool (mayI x)) ∧ w = w' := by
  by_cases h : 0 ≤ x
  · have e : mayI x = decide (x ≤ 15) := by simp [mayI, h]
    rw [e]
    clear e
    go_enter Try.func22, Try.ntmps22
    go_wp2
    go_ret
    exact ⟨rfl, rfl⟩
  · have e : mayI x = false := by simp [mayI, h]
    rw [e]
    clear e
    have hd : decide (0 ≤ x) = false := by simpa using h
    clear h
    go_enter Try.func22, Try.ntmps22
    go_wp2
    go_ret
    exact ⟨rfl, rfl⟩

theorem bit_eq (p : Int) (k : Nat) (hk : k < 64) : (bits .and .i64 (p / 2 ^ k) 1 == 1) = bt p k := by
  rw [i64_and1, bt]
  by_cases h : p / 2 ^ k % 2 = 1
  · simp [h]
  · simp [h]
set_option maxHeartbeats 1000000 in
theorem reaches_any (c : Cl) (fr : Int) (k : Nat) (hk : k < 8) (w : World) : Calls Try.prog 25 #[c.v, .int .i64 k, .int .i64 fr] w fun e w' => e = .returned (.bool (callV c fr k)) ∧ Below w.heap.size w w' := by
  obtain ⟨id, all, tg, odd⟩ := c
  have hb := bit_eq tg k (by omega)
  have hk2 : k < 64 := by omega
  have HB := hi hb
  clear hb
  cases all
  · cases odd
    · go_enter Try.func25, Try.ntmps25
      go_wp2
      go_ret
      exact ⟨by rw [HB.out]; rfl, bal w _⟩
    · go_enter Try.func25, Try.ntmps25
      go_wp2
      go_ret
      exact ⟨rfl, bal w _⟩
  · go_enter Try.func25, Try.ntmps25
    go_wp2
    go_ret
    refine ⟨?_, bal w _⟩
    by_cases h : (k : Int) = fr <;> simp [callV, h]

/-- The boxes that To's iterator has captured: the call, who calls, how many there are. -/
structure ToAt (b : Nat) (c : Cl) (fr cores : Int) (W : World) : Prop where
  c : CB W b 24 c.cs
  f : CB W (b + 1) 3 #[.int .i64 fr]
  n : CB W (b + 2) 3 #[.int .i64 cores]
def toW (c : Cl) (fr cores : Int) (w : World) : World := ((w.alloc (.cells c.cs 24)).alloc (.cells #[.int .i64 fr] 3)).alloc (.cells #[.int .i64 cores] 3)
theorem toW_at (c : Cl) (fr cores : Int) (w : World) : ToAt w.heap.size c fr cores (toW c fr cores w) ∧ Below w.heap.size w (toW c fr cores w) ∧ (toW c fr cores w).heap.size = w.heap.size + 3 := by
  refine ⟨⟨((CB.new w _ _).alloc _).alloc _, cb_second.alloc _, ?_⟩, (bal_two w _ _).alloc (by simp; omega) _, by simp [toW]⟩
  have := CB.new ((w.alloc (.cells c.cs 24)).alloc (.cells #[.int .i64 fr] 3)) 3 #[.int .i64 cores]
  rwa [World.size_alloc, World.size_alloc] at this
theorem to_any (c : Cl) (fr cores : Int) (w : World) : Calls Try.prog 21 #[c.v, .int .i64 fr, .int .i64 cores] w fun e w' =>
    e = .returned (.func (.func 24) #[] #[.pointer (some ⟨w.heap.size + 2, 0, none⟩), .pointer (some ⟨w.heap.size, 0, none⟩), .pointer (some ⟨w.heap.size + 1, 0, none⟩)]) ∧ w' = toW c fr cores w := by
  obtain ⟨id, all, tg, odd⟩ := c
  unfold toW
  go_enter Try.func21, Try.ntmps21
  go_wp2
  go_ret
  exact ⟨rfl, rfl⟩

theorem dec_parts (v : Nat) (hv : v < 18446744073709551616) :
    bits .and .u64 ((v : Int) / 16777216) 15 = ((v / 2 ^ 24 % 16 : Nat) : Int) ∧ (bits .and .u64 ((v : Int) / 1099511627776) 1 == 1) = decide (v / 2 ^ 40 % 2 = 1) ∧
    bits .and .u64 (v : Int) 65535 = ((v % 65536 : Nat) : Int) ∧ (bits .and .u64 (v : Int) 72041097085255680 != 0) = decide (v &&& 72041097085255680 ≠ 0) := by
  refine ⟨?_, ?_, ?_, ?_⟩
  · rw [show (v : Int) / 16777216 = ((v / 2 ^ 24 : Nat) : Int) by omega, show (15 : Int) = ((15 : Nat) : Int) from rfl, u64_and_nat _ _ (by omega) (by decide), nat_mask4]
  · rw [show (v : Int) / 1099511627776 = ((v / 2 ^ 40 : Nat) : Int) by omega, show (1 : Int) = ((1 : Nat) : Int) from rfl, u64_and_nat _ _ (by omega) (by decide), nat_mask1]
    by_cases h : v / 2 ^ 40 % 2 = 1
    · rw [h]; rfl
    · rw [show v / 2 ^ 40 % 2 = 0 by omega]; rfl
  · rw [show (65535 : Int) = ((65535 : Nat) : Int) from rfl, u64_and_nat _ _ hv (by decide), nat_mask16]
  · rw [show (72041097085255680 : Int) = ((72041097085255680 : Nat) : Int) from rfl, u64_and_nat _ _ hv (by decide)]
    by_cases h : v &&& 72041097085255680 = 0
    · rw [h]; rfl
    · have h2 : ((v &&& 72041097085255680 : Nat) : Int) ≠ 0 := by omega
      simp [h]
set_option maxHeartbeats 1000000 in
theorem decode_any (v : Nat) (hv : v < 18446744073709551616) (w : World) : Calls Try.prog 9 #[.int .u64 v] w fun e w' => e = .returned (decV v).v ∧ Below w.heap.size w w' := by
  obtain ⟨h1, h2, h3, h4⟩ := dec_parts v hv
  have hd : decV v = ⟨bits .and .u64 ((v : Int) / 16777216) 15, (bits .and .u64 ((v : Int) / 1099511627776) 1 == 1), bits .and .u64 (v : Int) 65535, (bits .and .u64 (v : Int) 72041097085255680 != 0)⟩ := by
    rw [h1, h2, h3, h4]; rfl
  have b1 : 0 ≤ bits .and .u64 ((v : Int) / 16777216) 15 ∧ bits .and .u64 ((v : Int) / 16777216) 15 < 16 := by rw [h1]; omega
  have b3 : 0 ≤ bits .and .u64 (v : Int) 65535 ∧ bits .and .u64 (v : Int) 65535 < 65536 := by rw [h3]; omega
  obtain ⟨x1, x2⟩ := b1
  obtain ⟨x3, x4⟩ := b3
  rw [hd]
  clear hd h1 h2 h3 h4
  go_enter Try.func9, Try.ntmps9
  go_wp2
  generalize bits .and .u64 ((v : Int) / 16777216) 15 = p
  generalize (bits .and .u64 ((v : Int) / 1099511627776) 1 == 1) = q
  generalize (bits .and .u64 (v : Int) 72041097085255680 != 0) = o
  generalize bits .and .u64 (v : Int) 65535 = t
  clear x1 x2 x3 x4
  exact bodyPost_ret (results_cl rfl _ _ w.heap.size ⟨p, q, t, o⟩ rfl (CB.new w _ _)) rfl ⟨rfl, bal w _⟩

/-! ### Encode -/
def mayC (c : Cl) : Bool := mayI c.id && decide (0 ≤ c.tg) && decide (c.tg ≤ 65535) && !c.odd
def encN (c : Cl) : Nat := c.id.toNat * 2 ^ 24 + c.tg.toNat + (if c.all then 2 ^ 40 else 0)
def encV (c : Cl) : Value := if mayC c then .tuple #[.int .u64 (encN c : Nat), .int .i64 0] else .tuple #[.int .u64 0, .int .i64 1]
theorem enc_parts (id tg : Nat) (h1 : id ≤ 15) (h2 : tg ≤ 65535) : bits .or .u64 ((id : Int) * 16777216) tg = ((id * 2 ^ 24 + tg : Nat) : Int) ∧ bits .or .u64 ((id * 2 ^ 24 + tg : Nat) : Int) 1099511627776 = ((id * 2 ^ 24 + tg + 2 ^ 40 : Nat) : Int) := by
  constructor
  · rw [show (id : Int) * 16777216 = ((id * 2 ^ 24 : Nat) : Int) by omega, u64_or_nat _ _ (by omega) (by omega), nat_join 24 _ _ (by omega) (by omega)]
  · rw [show (1099511627776 : Int) = ((2 ^ 40 : Nat) : Int) by rfl, u64_or_nat _ _ (by omega) (by decide), Nat.or_comm, nat_join 40 _ _ (by omega) (by omega), Nat.add_comm]
theorem encV_yes {i t : Nat} {all : Bool} (h1 : i ≤ 15) (h2 : t ≤ 65535) : encV ⟨i, all, t, false⟩ = .tuple #[.int .u64 ((i * 2 ^ 24 + t + (if all then 2 ^ 40 else 0) : Nat) : Int), .int .i64 0] := by
  have h : mayC ⟨i, all, t, false⟩ = true := by simp [mayC, mayI]; omega
  rw [encV, if_pos h, encN]
  simp
theorem encV_no {c : Cl} (h : mayC c = false) : encV c = .tuple #[.int .u64 0, .int .i64 1] := by rw [encV, h]; rfl
set_option maxHeartbeats 2000000 in
theorem encode_any (c : Cl) (w : World) : Calls Try.prog 17 #[c.v] w fun e w' => e = .returned (encV c) ∧ Below w.heap.size w w' := by
  obtain ⟨id, all, tg, odd⟩ := c
  have HM := hi (fun W => may_any id W)
  obtain ⟨m, hm⟩ : ∃ m, mayI id = m := ⟨_, rfl⟩
  rw [hm] at HM
  cases m
  · rw [encV_no (by simp [mayC, hm])]
    clear hm
    go_enter Try.func17, Try.ntmps17
    go_wp2_with (go_at_call 22; ((with_reducible refine (HM.out _).mono ?_); rintro e' w1 ⟨rfl, rfl⟩))
    go_ret2
    exact ⟨rfl, bal w _⟩
  · by_cases h0 : 0 ≤ tg
    · have d1 : decide (tg < 0) = false := by simpa using h0
      by_cases h1 : tg ≤ 65535
      · have d2 : decide ((65535 : Int) < tg) = false := by simpa using h1
        cases odd
        · obtain ⟨t, rfl⟩ : ∃ t : Nat, tg = t := ⟨tg.toNat, by omega⟩
          obtain ⟨i, rfl⟩ : ∃ i : Nat, id = i := ⟨id.toNat, by simp [mayI] at hm; omega⟩
          have hi15 : i ≤ 15 := by simp [mayI] at hm; omega
          obtain ⟨e1, e2⟩ := enc_parts i t hi15 (by omega)
          rw [encV_yes hi15 (by omega)]
          have HE := hi (And.intro e1 e2)
          have H1 := hi h1
          clear hm h0 e1 e2
          cases all
          · go_enter Try.func17, Try.ntmps17
            go_wp2_with (go_at_call 22; ((with_reducible refine (HM.out _).mono ?_); rintro e' w1 ⟨rfl, rfl⟩))
            go_ret2
            exact ⟨by rw [HE.out.1]; rfl, bal w _⟩
          · go_enter Try.func17, Try.ntmps17
            go_wp2_with (go_at_call 22; ((with_reducible refine (HM.out _).mono ?_); rintro e' w1 ⟨rfl, rfl⟩))
            go_ret2
            exact ⟨by rw [HE.out.1, HE.out.2]; rfl, bal w _⟩
        · rw [encV_no (by simp [mayC])]
          clear hm h0 h1
          go_enter Try.func17, Try.ntmps17
          go_wp2_with (go_at_call 22; ((with_reducible refine (HM.out _).mono ?_); rintro e' w1 ⟨rfl, rfl⟩))
          go_ret2
          exact ⟨rfl, bal w _⟩
      · rw [encV_no (by simp [mayC]; omega)]
        have d2 : decide ((65535 : Int) < tg) = true := by simpa using h1
        clear hm h0 h1
        go_enter Try.func17, Try.ntmps17
        go_wp2_with (go_at_call 22; ((with_reducible refine (HM.out _).mono ?_); rintro e' w1 ⟨rfl, rfl⟩))
        go_ret2
        exact ⟨rfl, bal w _⟩
    · rw [encV_no (by simp [mayC]; omega)]
      have d1 : decide (tg < 0) = true := by simpa using h0
      clear hm h0
      go_enter Try.func17, Try.ntmps17
      go_wp2_with (go_at_call 22; ((with_reducible refine (HM.out _).mono ?_); rintro e' w1 ⟨rfl, rfl⟩))
      go_ret2
      exact ⟨rfl, bal w _⟩

end Go.Proofs.Ytkfnelhafflimaa
