/-
  The iterator of sets.From: for every loop body: the members from there on, in increasing order; or a first part of them where the body stops.
  The laws' List: all members in increasing order, in a slice of its own.
  sets.Of at every slice of ints; sets.Same at every two sets.
  Plain reckoning of sets: who is a member behind Put and Take, and that sets with the same members have the same words, number and list.
-/
import Derived.Test.YtobhdjepfhbgaaaDoorIter
namespace Go.Proofs.YtobhdjepfhbgaaaDoor
open Go.ChangeShapes Go.WideShapes Go.ChangeAt Go.RowKit Go.Shelf
set_option linter.unusedVariables false
attribute [local go_sem] Oper.semAt_some

/-- l lists the members from m on, in increasing order. -/
def MemFrom (S : Words) : Nat → List Int → Prop
  | m, [] => IsNx (memS S) m 16384
  | m, x :: r => ∃ k : Nat, x = (k : Int) ∧ k < 16384 ∧ IsNx (memS S) m k ∧ MemFrom S (k + 1) r
theorem memFrom_ex (S : Words) : ∀ (n m : Nat), m ≤ 16384 → 16384 - m ≤ n → ∃ l, MemFrom S m l
  | 0, m, h, hn => ⟨[], by omega, Nat.le_refl _, fun j h1 h2 => by omega, fun h => by omega⟩
  | n + 1, m, h, hn => by
    have hx := nx_spec (memS S) h
    by_cases hk : nx (memS S) m < 16384
    · obtain ⟨l, hl⟩ := memFrom_ex S n (nx (memS S) m + 1) (by omega) (by have := hx.1; omega)
      exact ⟨_ :: l, _, rfl, hk, hx, hl⟩
    · have e : nx (memS S) m = 16384 := by have := hx.2.1; omega
      rw [e] at hx
      exact ⟨[], hx⟩

theorem TabW.stays {W W' : World} (h : TabW W) (k : Stays 0 1 W W') : TabW W' := fun j hj => by
  have := h j hj
  rw [← this]
  exact World.cell?_of_block (w := W) (k 0 (Nat.le_refl _) (by omega))
theorem TabW.lt {W : World} (h : TabW W) : 0 < W.heap.size := World.block_lt_of_cell? W _ (h 0 (by decide))
theorem TabW.below {W W' : World} (h : TabW W) (k : Below W.heap.size W W') : TabW W' := h.stays (fun i _ h2 => k.block i (by have := h.lt; omega))
theorem FromAt.stays {W W' : World} {b : Nat} {S : Words} {f : Int} (h : FromAt W b S f) (k : Stays b (b + 2) W W') : FromAt W' b S f :=
  ⟨⟨(k b (Nat.le_refl _) (by omega)).trans h.1.1, h.1.2⟩, (k (b + 1) (by omega) (by omega)).trans h.2⟩
theorem FromAt.lt {W : World} {b : Nat} {S : Words} {f : Int} (h : FromAt W b S f) : b + 2 ≤ W.heap.size := (Array.getElem?_eq_some_iff.1 h.2).1
theorem FromAt.below {W W' : World} {b : Nat} {S : Words} {f : Int} (h : FromAt W b S f) (k : Below W.heap.size W W') : FromAt W' b S f := h.stays (fun i _ h2 => k.block i (by have := h.lt; omega))

/-- What a round keeps: the library's table, and the iterator's own two blocks. -/
def KpS (b : Nat) (W W' : World) : Prop := Stays 0 1 W W' ∧ Stays b (b + 2) W W'

/-- Where the loop stands: k is the next one. -/
def AtM (S : Words) (k : Nat) (rest : List Int) : Prop := (rest = [] ∧ k = 16384) ∨ ∃ r, rest = (k : Int) :: r ∧ k < 16384 ∧ MemFrom S (k + 1) r
theorem atM_of {S : Words} {m : Nat} {l : List Int} (h : MemFrom S m l) : ∃ k, IsNx (memS S) m k ∧ AtM S k l := by
  cases l with
  | nil => exact ⟨16384, h, .inl ⟨rfl, rfl⟩⟩
  | cons x r => obtain ⟨k, rfl, h1, h2, h3⟩ := h; exact ⟨k, h2, .inr ⟨r, rfl, h1, h3⟩⟩

set_option maxRecDepth 100000 in
set_option maxHeartbeats 1000000 in
theorem from1_in (n : Nat) (hn : 1 ≤ n) (l b : Nat) (S : Words) (f : Nat) (xs : List Int) (hf : f ≤ 16384) (hxs : MemFrom S f xs) (J Jx : List Int → World → Prop) (W : World) (hJ : AbidesFrom W.heap.size J)
    (hY : ∀ pre x W1, J pre W1 → pre.length < xs.length → YieldAt Fence.wide (n - 1) Tryd.prog l #[.int .i64 x] W1 fun e W' =>
      (e = .returned (.bool true) ∧ J (pre ++ [x]) W' ∧ KpS b W1 W') ∨ (e = .returned (.bool false) ∧ Jx (pre ++ [x]) W'))
    (hB : FromAt W b S f) (hT : TabW W) (h0 : J [] W) :
    CallsIn Fence.wide n Tryd.prog 90 #[.func (.yield l) #[] #[], .pointer (some ⟨b, 0, none⟩), .pointer (some ⟨b + 1, 0, none⟩)] W fun e W' => (∃ v, e = .returned v) ∧
      ((∃ ys, ys = xs ∧ J ys W') ∨ (∃ pre, pre <+: xs ∧ Jx pre W')) := by
  obtain ⟨k0, hk0, ha0⟩ := atM_of hxs
  have c1 := cell_of_box hB.2 0
  simp at c1
  have hnx := next_near _ b S f k0 W hB.1 hT hf hk0
  have HNX := Lib.hid hnx
  have HB := Lib.hid hB
  have HT := Lib.hid hT
  have HX := Lib.hid hxs
  have HK := Lib.hid hk0
  have HA := Lib.hid ha0
  clear hnx hB hT hxs hk0 ha0
  refine callsIn_of_wp Tryd.func90 rfl trivial ?_ rfl
  simp only [Tryd.ntmps90, List.size_toArray, List.length_cons, List.length_nil, Nat.reduceAdd, Nat.reduceSub, Array.replicate_succ, Array.replicate_zero, List.push_toArray, List.append_toArray, List.nil_append, List.cons_append]
  gi_wp2_with (first
    | (refine ⟨trivial, ?_⟩; gi_at_call 91; ((with_reducible refine (callsIn_wide.2 HNX.out).mono ?_); rintro e w1 ⟨rfl, rfl⟩))
    | gi_in)
  gi_loopw [4] (fun p wr => ∃ (k : Nat) (pre rest : List Int), p = .int .i64 k ∧ Hid (xs = pre ++ rest ∧ AtM S k rest ∧ FromAt wr b S f ∧ TabW wr) ∧ J pre wr)
    (fun p _ => 16384 - (intOf p).toNat)
  case atStart => exact ⟨k0, [], xs, rfl, Lib.hid ⟨rfl, HA.out, HB.out, HT.out⟩, h0⟩
  case round =>
    obtain ⟨k, pre, rest, rfl, HH, hJs⟩ := hrel
    obtain ⟨hx, ha, hFr, hTr⟩ := HH.out
    rcases ha with ⟨rfl, rfl⟩ | ⟨r, rfl, hlt, hm⟩
    · have HE := Lib.hid hx
      clear hx hFr hTr
      gi_wp2
      go_end0
      exact ⟨⟨_, rfl⟩, .inl ⟨pre, by rw [HE.out]; simp, hJs⟩⟩
    · obtain ⟨k2, hk2, ha2⟩ := atM_of hm
      obtain ⟨fn, tmps, assign, body, hy, hR⟩ := hY pre (k : Int) wr hJs (by rw [hx]; simp)
      have hki : (k : Int) < 16384 := by omega
      have HE := Lib.hid hx
      have HFR := Lib.hid hFr
      have HTR := Lib.hid hTr
      have HK2 := Lib.hid hk2
      have HA2 := Lib.hid ha2
      have HLT := Lib.hid hlt
      clear hx hFr hTr hm hk2 ha2 hlt
      gi_wp2
      refine hR.mono ?_
      rintro e W3 (⟨rfl, hJ3, hk3⟩ | ⟨rfl, hJx3⟩)
      · have hF3 := HFR.out.stays hk3.2
        have hT3 := HTR.out.stays hk3.1
        have hnx2 := next_near _ b S (k + 1) k2 W3 hF3.1 hT3 (by have := HLT.out; omega) HK2.out
        rw [show ((k + 1 : Nat) : Int) = (k : Int) + 1 by simp] at hnx2
        have HNX2 := Lib.hid hnx2
        have HF3 := Lib.hid hF3
        have HT3 := Lib.hid hT3
        clear hF3 hT3 hnx2
        gi_wp2_with (first
          | (refine ⟨trivial, ?_⟩; gi_at_call 91; ((with_reducible refine (callsIn_wide.2 HNX2.out).mono ?_); rintro e w4 ⟨rfl, rfl⟩))
          | gi_in)
        go_roundw
        case rel => exact ⟨k2, pre ++ [(k : Int)], r, rfl, Lib.hid ⟨by rw [HE.out]; simp, HA2.out, HF3.out, HT3.out⟩, hJ3⟩
        case measure =>
          have h1 := HLT.out
          have h2 := HK2.out.1
          simp only [intOf]; omega
      · gi_wp2
        refine bodyPost_ret (results_none rfl _ _ _) rfl ?_
        exact ⟨⟨_, rfl⟩, .inr ⟨pre ++ [(k : Int)], ⟨r, by rw [HE.out]; simp⟩, hJx3⟩⟩

end Go.Proofs.YtobhdjepfhbgaaaDoor

namespace Go.Proofs.YtobhdjepfhbgaaaDoor
open Go.ChangeShapes Go.WideShapes Go.ChangeAt Go.RowKit Go.Shelf
set_option linter.unusedVariables false
attribute [local go_sem] Oper.semAt_some

theorem info_int : (Tryd.prog.info? 3).map (fun i => (i.zero, i.size, i.bytes)) = some (some (.int .i64 0), 1, 8) := by kernel_rfl
def OwnsInts (w W' : World) (v : Value) (xs : List Int) : Prop := W'.ownsRow w.heap.size 3 1 v xs.length (xs.map (Value.int .i64)) ∧ (v = .slice none 0 0 ↔ xs = [])

theorem RowAt.below {T : TypeId} {W W' : World} {b : Nat} {S : Words} (h : RowAt T W b S) (k : Below W.heap.size W W') : RowAt T W' b S := ⟨(k.block b h.lt).trans h.1, h.2⟩

theorem memFrom_len {S : Words} : ∀ {l : List Int} {m : Nat}, MemFrom S m l → l.length ≤ 16384 - m
  | [], _, _ => Nat.zero_le _
  | x :: r, m, h => by
    obtain ⟨k, _, hk, h1, h2⟩ := h
    have := memFrom_len h2
    have := h1.1
    simp only [List.length_cons]; omega

theorem from_stops (n : Nat) (hn : 1 ≤ n) (b : Nat) (S : Words) (f : Nat) (xs : List Int) (hf : f ≤ 16384) (hxs : MemFrom S f xs) (w : World) (hB : FromAt w b S f) (hT : TabW w) :
    SeqStopsK Fence.wide n Tryd.prog 90 #[.pointer (some ⟨b, 0, none⟩), .pointer (some ⟨b + 1, 0, none⟩)] (fun x : Int => #[Value.int .i64 x]) (KpS b) (fun ys => ys = xs) (fun pre => pre <+: xs) xs.length w := fun l J Jx W hW hJ hJx hY h0 =>
  from1_in n hn l b S f xs hf hxs J Jx W hJ hY (hB.below hW) (hT.below hW) h0

theorem kpS_t {b : Nat} {A B C : World} (h : KpS b A B) (k : KpS b B C) : KpS b A C := ⟨h.1.trans k.1, h.2.trans k.2⟩
theorem kpS_b {b : Nat} {w : World} (h0 : 1 ≤ w.heap.size) (hn : b + 2 ≤ w.heap.size) (W : World) (l : Nat) (o o' : Obj) (hl : w.heap.size ≤ l) (h : W.heap[l]? = some o) (h1 : o.isCells = false) (h2 : o.isWalk = false) : KpS b W (W.putObj l o') :=
  ⟨stays_b h0 W l o o' hl h h1 h2, stays_b hn W l o o' hl h h1 h2⟩

end Go.Proofs.YtobhdjepfhbgaaaDoor

namespace Go.Proofs.YtobhdjepfhbgaaaDoor
open Go.ChangeShapes Go.WideShapes Go.ChangeAt Go.RowKit Go.Shelf
set_option linter.unusedVariables false

def S0 : Words := fun _ => 0
def putAll (S : Words) (xs : List Int) : Words := xs.foldl putS S
theorem putAll_snoc (S : Words) (xs : List Int) (x : Int) : putAll S (xs ++ [x]) = putS (putAll S xs) x := by simp [putAll]
theorem take_snoc (xs : List Int) {k : Nat} (h : k < xs.length) : xs.take (k + 1) = xs.take k ++ [xs[k]?.getD 0] := by
  rw [List.take_succ_eq_append_getElem h]; simp [h]

/-- A new set: it lies in a block of the call's own. -/
def NewSet (S : Words) (w : World) (e : Ending) (w' : World) : Prop := e = .returned (.pointer (some ⟨w.heap.size, 0, none⟩)) ∧ RowAt 120 w' w.heap.size S ∧ Below w.heap.size w w'

set_option maxRecDepth 100000 in
set_option maxHeartbeats 1000000 in
theorem sof_any (xs : List Int) (a : Option Addr) (cap : Nat) (w : World) (hv : IntsAt w (.slice a xs.length cap) xs) (hl : xs.length ≤ 9223372036854775806) :
    Calls Tryd.prog 51 #[.slice a xs.length cap] w (NewSet (putAll S0 xs) w) := by
  obtain ⟨Z, eZ⟩ : ∃ Z, zeroRow = Z := ⟨_, rfl⟩
  have hR0 : RowAt 120 (w.alloc (.cells Z 120)) w.heap.size S0 := ⟨(World.alloc_heap_new w _).trans (by rw [← eZ]; rfl), fun i => by simp [S0]⟩
  have hB0 : Below w.heap.size w (w.alloc (.cells Z 120)) := (Below.refl _ w).alloc (Nat.le_refl _) _
  have HR0 := Lib.hid hR0
  have HV := Lib.hid hv
  have EZ := Lib.hid eZ
  clear hR0 hv eZ
  go_enter Tryd.func51, Tryd.ntmps51
  go_wp2_with (refine wpList_build_zero rfl rfl ?_; rw [EZ.out])
  go_loopw [10] (fun i wr => ∃ k : Nat, i = .int .i64 k ∧ Hid (k ≤ xs.length ∧ RowAt 120 wr w.heap.size (putAll S0 (xs.take k)) ∧ Below w.heap.size w wr)) (fun i _ => xs.length - (intOf i).toNat)
  case atStart => exact ⟨0, rfl, Lib.hid ⟨Nat.zero_le _, HR0.out, hB0⟩⟩
  case round =>
    obtain ⟨k, rfl, HH⟩ := hrel
    obtain ⟨hk, hR, hB⟩ := HH.out
    by_cases hlt : k < xs.length
    · obtain ⟨a', cap', e, hcap, hcs⟩ := HV.out
      simp only [Value.slice.injEq, true_and] at e
      obtain ⟨rfl, rfl⟩ := e
      obtain ⟨b, off, rfl, hcs2⟩ := hcs (fun e => by simp [e] at hlt)
      have hx := hcs2 k hlt
      have hbl := World.block_lt_of_cell? w _ hx
      have hx' := (hB.cell (p := ⟨b, off + k, none⟩) hbl).trans hx
      obtain ⟨x, ex⟩ : ∃ x, xs[k]?.getD 0 = x := ⟨_, rfl⟩
      rw [ex] at hx'
      have EX := Lib.hid ex
      have hki : (k : Int) < (xs.length : Int) := by omega
      have HLT := Lib.hid hlt
      have HR := Lib.hid hR
      have HB := Lib.hid hB
      clear hcs hcs2 hx ex hlt hR hB hB0 hbl hk
      go_wp2_with (go_at_call 48; refine (sput_any _ w.heap.size _ x _ HR.out).mono ?_; rintro e w1 ⟨rfl, hR1, hg1⟩)
      go_roundw
      case rel => exact ⟨k + 1, by go_num, Lib.hid ⟨HLT.out, by rw [take_snoc xs HLT.out, putAll_snoc, EX.out]; exact hR1, Below.grown HB.out hg1 HB.out.size (fun j e => by cases e; exact Nat.le_refl _)⟩⟩
      case measure => have := HLT.out; simp only [intOf]; omega
    · have ek : k = xs.length := by omega
      subst ek
      rw [List.take_length] at hR
      have HR := Lib.hid hR
      have HB := Lib.hid hB
      clear hR hB hlt hk HH
      go_wp2
      go_ret
      exact ⟨rfl, HR.out, HB.out⟩

end Go.Proofs.YtobhdjepfhbgaaaDoor

namespace Go.Proofs.YtobhdjepfhbgaaaDoor
set_option linter.unusedVariables false

theorem mem_flip (S : Words) (m j : Nat) (hm : m < 16384) : memS (flipS S m) j = (memS S j ^^ (m == j)) := by
  unfold memS flipS
  by_cases h : j / 64 = m / 64
  · rw [if_pos h, Nat.testBit_xor, Nat.testBit_two_pow]
    congr 1
    by_cases e : m = j
    · subst e; rw [decide_eq_true rfl, beq_self_eq_true]
    · have h2 : ¬ m % 64 = j % 64 := by omega
      have e' : (m == j) = false := by simpa using e
      rw [e', decide_eq_false h2]
  · rw [if_neg h]
    have e : ¬ m = j := fun e => h (by rw [e])
    have e' : (m == j) = false := by simpa using e
    rw [e', Bool.xor_false]

theorem mem_put (S : Words) (m : Int) (j : Nat) : memS (putS S m) j = (memS S j || (okM m && m.toNat == j)) := by
  unfold putS
  cases ho : okM m
  · simp
  · have hok := okM_out ho
    cases hm : memS S m.toNat
    · simp only [and_self, if_true]
      rw [mem_flip S _ j (by omega)]
      by_cases e : m.toNat = j
      · subst e; simp [hm]
      · have e' : (m.toNat == j) = false := by simpa using e
        rw [e']; simp
    · simp
      intro e; subst e; exact hm

theorem mem_take (S : Words) (m : Int) (j : Nat) : memS (takeS S m) j = (memS S j && !(okM m && m.toNat == j)) := by
  unfold takeS
  cases ho : okM m
  · simp
  · have hok := okM_out ho
    cases hm : memS S m.toNat
    · simp
      intro h e; subst e; rw [hm] at h; cases h
    · simp only [and_self, if_true]
      rw [mem_flip S _ j (by omega)]
      by_cases e : m.toNat = j
      · subst e; simp [hm]
      · have e' : (m.toNat == j) = false := by simpa using e
        rw [e']; simp

/-- Is j among the numbers that may be members? -/
def among (xs : List Int) (j : Nat) : Bool := xs.any fun m => okM m && m.toNat == j
theorem mem_zero (j : Nat) : memS S0 j = false := by simp [memS, S0]
theorem mem_putAll : ∀ (xs : List Int) (S : Words) (j : Nat), memS (putAll S xs) j = (memS S j || among xs j)
  | [], S, j => by simp [putAll, among]
  | x :: r, S, j => by
    show memS (putAll (putS S x) r) j = _
    rw [mem_putAll r, mem_put]
    simp [among, Bool.or_assoc]
theorem among_rev (xs : List Int) (j : Nat) : among xs.reverse j = among xs j := by simp [among]

/-- Those of the numbers that are no members of S are taken out. -/
def takeAll (S : Words) : Words → List Int → Words
  | T, [] => T
  | T, x :: r => takeAll S (if memZ S x = true then T else takeS T x) r
theorem takeAll_snoc (S : Words) : ∀ (xs : List Int) (T : Words) (x : Int), takeAll S T (xs ++ [x]) = if memZ S x = true then takeAll S T xs else takeS (takeAll S T xs) x
  | [], T, x => rfl
  | y :: r, T, x => by simp only [List.cons_append, takeAll]; exact takeAll_snoc S r _ x
theorem mem_takeAll (S : Words) : ∀ (xs : List Int) (T : Words) (j : Nat), memS (takeAll S T xs) j = (memS T j && (memS S j || !among xs j))
  | [], T, j => by simp [takeAll, among]
  | x :: r, T, j => by
    rw [takeAll, mem_takeAll S r]
    cases hz : memZ S x
    · simp only [Bool.false_eq_true, if_false]
      rw [mem_take]
      simp only [among, List.any_cons]
      by_cases e : (okM x && x.toNat == j) = true
      · have h1 : okM x = true ∧ x.toNat = j := by simpa using e
        have : memS S j = false := by simp [memZ, h1.1, h1.2] at hz; exact hz
        simp [e, this]
      · have e' : (okM x && x.toNat == j) = false := by simpa using e
        simp [e']
    · have h1 : okM x = true ∧ memS S x.toNat = true := by simpa [memZ] using hz
      simp only [if_true, among, List.any_cons]
      by_cases e : x.toNat = j
      · subst e; simp [h1.2]
      · have e' : (x.toNat == j) = false := by simpa using e
        simp [e']

theorem words_ext {S S' : Words} (h : ∀ j, j < 16384 → memS S j = memS S' j) (hS : ∀ i, S i < 18446744073709551616) (hS' : ∀ i, S' i < 18446744073709551616) : ∀ i, i < 256 → S i = S' i := fun i hi => by
  apply Nat.eq_of_testBit_eq
  intro k
  by_cases hk : k < 64
  · have := h (64 * i + k) (by omega)
    unfold memS at this
    rwa [show (64 * i + k) / 64 = i by omega, show (64 * i + k) % 64 = k by omega] at this
  · have e : ∀ x, x < 18446744073709551616 → x.testBit k = false := fun x hx => Nat.testBit_lt_two_pow (Nat.lt_of_lt_of_le hx (Nat.pow_le_pow_right (n := 2) (i := 64) (by omega) (by omega)))
    rw [e _ (hS i), e _ (hS' i)]

theorem isNx_congr {p q : Nat → Bool} (h : ∀ j, j < 16384 → p j = q j) {m k : Nat} (hx : IsNx p m k) : IsNx q m k :=
  ⟨hx.1, hx.2.1, fun j h1 h2 => by rw [← h j (by have := hx.2.1; omega)]; exact hx.2.2.1 j h1 h2, fun hk => by rw [← h k hk]; exact hx.2.2.2 hk⟩
theorem memFrom_congr {S S' : Words} (h : ∀ j, j < 16384 → memS S j = memS S' j) : ∀ {l : List Int} {m : Nat}, MemFrom S m l → MemFrom S' m l
  | [], _, hx => isNx_congr h hx
  | _ :: _, _, ⟨k, e, hk, hx, hr⟩ => ⟨k, e, hk, isNx_congr h hx, memFrom_congr h hr⟩

/-- The statement's own reckoning: both ways lead to the same members. -/
theorem any_members (ms odd : List Int) (j : Nat) : memS (takeAll (putAll S0 ms) (putAll (putAll S0 odd) ms.reverse) odd) j = memS (putAll S0 ms) j := by
  rw [mem_takeAll, mem_putAll, mem_putAll, mem_putAll, mem_zero, among_rev]
  cases among ms j <;> cases among odd j <;> rfl

end Go.Proofs.YtobhdjepfhbgaaaDoor
