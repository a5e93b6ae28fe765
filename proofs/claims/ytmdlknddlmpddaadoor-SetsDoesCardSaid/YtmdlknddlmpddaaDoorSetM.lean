/-
  Package sets: Runs: the row's copy that it lays, and its iterator: the rows of neighbours, in increasing order, each from its first to its last number; or a first part of them where the body stops.
-/
import Derived.Test.YtmdlknddlmpddaaDoorSetF
import Derived.Test.YtmdlknddlmpddaaDoorHi
namespace Go.Proofs.YtmdlknddlmpddaaDoor
open Go.ChangeShapes Go.WideShapes Go.ChangeAt Go.RowKit Go.Shelf
set_option linter.unusedVariables false
attribute [local go_sem] Oper.semAt_some

/-- A row of neighbours: its first and its last number. -/
abbrev Rn := { x : Int × Int // 0 ≤ x.1 ∧ x.1 ≤ x.2 ∧ x.2 < 16384 }
/-- l lists the rows of neighbours from m on. -/
def RunFrom (S : Words) : Nat → List Rn → Prop
  | m, [] => IsNx (memS S) m 16384
  | m, x :: r => ∃ k g : Nat, x.1 = ((k : Int), (g : Int) - 1) ∧ k < 16384 ∧ k < g ∧ IsNx (memS S) m k ∧ IsNx (fun j => !memS S j) k g ∧ RunFrom S g r
theorem gap_lt {S : Words} {k g : Nat} (hk : memS S k = true) (h : IsNx (fun j => !memS S j) k g) (hlt : k < 16384) : k < g := by
  rcases Nat.lt_or_ge k g with x | x
  · exact x
  · have e : g = k := by have := h.1; omega
    have h4 : (!memS S g) = true := h.2.2.2 (by omega)
    rw [e, hk] at h4
    cases h4
theorem runFrom_ex (S : Words) : ∀ (n m : Nat), m ≤ 16384 → 16384 - m ≤ n → ∃ l, RunFrom S m l
  | 0, m, h, hn => ⟨[], by omega, Nat.le_refl _, fun j h1 h2 => by omega, fun h => by omega⟩
  | n + 1, m, h, hn => by
    have hx := nx_spec (memS S) h
    by_cases hk : nx (memS S) m < 16384
    · have hg := nx_spec (fun j => !memS S j) (Nat.le_of_lt hk)
      have hlt := gap_lt (hx.2.2.2 hk) hg hk
      obtain ⟨l, hl⟩ := runFrom_ex S n _ hg.2.1 (by have := hx.1; omega)
      exact ⟨⟨(_, _), by simp; have := hg.2.1; omega⟩ :: l, _, _, rfl, hk, hlt, hx, hg, hl⟩
    · have e : nx (memS S) m = 16384 := by have := hx.2.1; omega
      rw [e] at hx
      exact ⟨[], hx⟩
theorem isNx_shift {p : Nat → Bool} {g k : Nat} (h : IsNx p g k) (hg : p g = false) (hlt : g < 16384) : IsNx p (g + 1) k := by
  refine ⟨?_, h.2.1, fun j h1 h2 => h.2.2.1 j (by omega) h2, h.2.2.2⟩
  have h1 := h.1
  rcases Nat.lt_or_ge g k with x | x
  · exact x
  · have e : k = g := by omega
    have := h.2.2.2 (by omega)
    rw [e, hg] at this
    cases this
theorem runFrom_shift {S : Words} {g : Nat} : ∀ {l : List Rn}, RunFrom S g l → memS S g = false → g < 16384 → RunFrom S (g + 1) l
  | [], h, hg, hlt => isNx_shift h hg hlt
  | x :: r, ⟨k, g', e, h1, h2, h3, h4, h5⟩, hg, hlt => ⟨k, g', e, h1, h2, isNx_shift h3 hg hlt, h4, h5⟩
theorem runFrom_len {S : Words} : ∀ {l : List Rn} {m : Nat}, RunFrom S m l → 2 * l.length ≤ 16385 - m
  | [], _, _ => Nat.zero_le _
  | x :: r, m, h => by
    obtain ⟨k, g, _, hk, hlt, h1, h2, h3⟩ := h
    have := h1.1
    simp only [List.length_cons]
    by_cases e : g < 16384
    · have h4 : (!memS S g) = true := h2.2.2.2 e
      have := runFrom_len (runFrom_shift h3 (by simpa using h4) e)
      omega
    · have := runFrom_len h3
      omega

/-- What Runs lays: the row's copy. -/
abbrev RunAt (W : World) (b : Nat) (S : Words) : Prop := RowAt 56 W b S

theorem laid_one (w : World) (Z : Array Value) (cs : List Value) (hZ : Z.size = cs.length) :
    (w.alloc (.cells Z 56)).there w.heap.size 0 cs.toArray.size ∧
    ((w.alloc (.cells Z 56)).setCells w.heap.size 0 cs).heap[w.heap.size]? = some (.cells cs.toArray 56 (0, 0)) ∧
    ((w.alloc (.cells Z 56)).setCells w.heap.size 0 cs).heap.size = w.heap.size + 1 ∧
    Below w.heap.size w ((w.alloc (.cells Z 56)).setCells w.heap.size 0 cs) := by
  have h0 : (w.alloc (.cells Z 56)).heap[w.heap.size]? = some (.cells Z 56 (0, 0)) := World.alloc_heap_new w _
  refine ⟨fun j hj => ?_, ?_, ?_, ?_⟩
  · have hj' : j < Z.size := by rw [hZ]; simpa using hj
    obtain ⟨W1, hW1⟩ : ∃ W1, w.alloc (.cells Z 56) = W1 := ⟨_, rfl⟩
    rw [hW1] at h0 ⊢
    constructor
    · simp [World.cell?, h0, hj']
    · simp [World.frozen?, h0]
  · rw [heap_setCells _ _ _ cs 0 _ _ h0, ow_all cs Z hZ]
  · rw [size_setCells]; simp
  · have hb : Below w.heap.size w (w.alloc (.cells Z 56)) := (Below.refl _ w).alloc (Nat.le_refl _) _
    exact hb.trans ⟨os_setCells _ _ _ _, tape_setCells _ _ _ _, output_setCells _ _ _ _, by rw [size_setCells]; exact Nat.le_refl _, fun k hk => heap_setCells_other _ cs 0 _ k (by omega)⟩

set_option maxRecDepth 100000 in
set_option maxHeartbeats 1000000 in
theorem runs_any (b : Nat) (S : Words) (w : World) (hR : RowAt 58 w b S) :
    Calls Tryd.prog 35 #[.pointer (some ⟨b, 0, none⟩)] w fun e w' =>
      e = .returned (.func (.func 51) #[] #[.pointer (some ⟨w.heap.size, 0, none⟩)]) ∧ RunAt w' w.heap.size S ∧ Below w.heap.size w w' ∧ w'.heap.size = w.heap.size + 1 := by
  have hl := hR.range
  have hc := hR.cell 0 (by omega)
  have hn := rowList_len S
  have h1 := rowList_one S
  obtain ⟨cs, ecs⟩ : ∃ cs, rowList S = cs := ⟨_, rfl⟩
  obtain ⟨Z, eZ⟩ : ∃ Z, zeroRow = Z := ⟨_, rfl⟩
  rw [ecs] at hl hn h1
  have HL := Lib.hid hl
  have HN := Lib.hid hn
  have H1 := Lib.hid h1
  have ECS := Lib.hid ecs
  have hln := laid_one w Z cs (by rw [← eZ, hn]; exact zeroRow_size)
  obtain ⟨W2, hW2⟩ : ∃ W2, (w.alloc (.cells Z 56)).setCells w.heap.size 0 cs = W2 := ⟨_, rfl⟩
  rw [hW2] at hln
  have LN := Lib.hid hln
  have HW2 := Lib.hid hW2
  have EZ := Lib.hid eZ
  have HR := Lib.hid hR
  clear hln hW2
  clear hl hn h1 ecs hR eZ
  go_enter Tryd.func35, Tryd.ntmps35
  go_wp2_with (first
    | (refine wpList_load_mid rfl 56 (.tmp 6) rfl b 0 rfl cs _ HL.out under_row rfl (by rw [HN.out]; exact size_row) ?_)
    | (refine wpList_alloc_row rfl rfl ?_; rw [EZ.out])
    | (refine wpList_store_mid rfl 56 (.tmp 3) (.tmp 7) rfl w.heap.size 0 cs.toArray rfl rfl LN.out.1 (by simp only [List.size_toArray]; rw [HN.out]; exact size_row) H1.out ?_; simp only [List.toList_toArray]; rw [HW2.out]))
  go_ret
  exact ⟨rfl, ⟨LN.out.2.1.trans (by rw [← ECS.out]; rfl), HR.out.2⟩, LN.out.2.2.2, LN.out.2.2.1⟩

theorem RowAt.stays {T : TypeId} {W W' : World} {b : Nat} {S : Words} (h : RowAt T W b S) (k : Stays b (b + 1) W W') : RowAt T W' b S := ⟨(k b (Nat.le_refl _) (by omega)).trans h.1, h.2⟩

/-- What a round keeps: the library's table, and the iterator's own block. -/
def KpR (b : Nat) (W W' : World) : Prop := Stays 0 1 W W' ∧ Stays b (b + 1) W W'
theorem kpR_t {b : Nat} {A B C : World} (h : KpR b A B) (k : KpR b B C) : KpR b A C := ⟨h.1.trans k.1, h.2.trans k.2⟩
theorem kpR_b {b : Nat} {w : World} (h0 : 1 ≤ w.heap.size) (hn : b + 1 ≤ w.heap.size) (W : World) (l : Nat) (o o' : Obj) (hl : w.heap.size ≤ l) (h : W.heap[l]? = some o) (h1 : o.isCells = false) (h2 : o.isWalk = false) : KpR b W (W.putObj l o') :=
  ⟨stays_b h0 W l o o' hl h h1 h2, stays_b hn W l o o' hl h h1 h2⟩

def AtR (S : Words) (k : Nat) (rest : List Rn) : Prop := (rest = [] ∧ k = 16384) ∨ ∃ (g : Nat) (x : Rn) (r : List Rn), rest = x :: r ∧ x.1 = ((k : Int), (g : Int) - 1) ∧ k < 16384 ∧ k < g ∧ IsNx (fun j => !memS S j) k g ∧ RunFrom S g r
theorem atR_of {S : Words} {m : Nat} {l : List Rn} (h : RunFrom S m l) : ∃ k, IsNx (memS S) m k ∧ AtR S k l := by
  cases l with
  | nil => exact ⟨16384, h, .inl ⟨rfl, rfl⟩⟩
  | cons x r => obtain ⟨k, g, e, h1, h2, h3, h4, h5⟩ := h; exact ⟨k, h3, .inr ⟨g, x, r, rfl, e, h1, h2, h4, h5⟩⟩

set_option maxRecDepth 100000 in
set_option maxHeartbeats 1000000 in
theorem runs1_in (n : Nat) (hn : 1 ≤ n) (l b : Nat) (S : Words) (xs : List Rn) (hxs : RunFrom S 0 xs) (J Jx : List Rn → World → Prop) (W : World) (hJ : AbidesFrom W.heap.size J)
    (hY : ∀ pre x W1, J pre W1 → pre.length < xs.length → YieldAt Fence.wide (n - 1) Tryd.prog l #[.int .i64 x.1.1, .int .i64 x.1.2] W1 fun e W' =>
      (e = .returned (.bool true) ∧ J (pre ++ [x]) W' ∧ KpR b W1 W') ∨ (e = .returned (.bool false) ∧ Jx (pre ++ [x]) W'))
    (hB : RunAt W b S) (hT : TabW W) (h0 : J [] W) :
    CallsIn Fence.wide n Tryd.prog 51 #[.func (.yield l) #[] #[], .pointer (some ⟨b, 0, none⟩)] W fun e W' => (∃ v, e = .returned v) ∧
      ((∃ ys, ys = xs ∧ J ys W') ∨ (∃ pre, pre <+: xs ∧ Jx pre W')) := by
  obtain ⟨k0, hk0, ha0⟩ := atR_of hxs
  have hnx := next_near _ b S 0 k0 W hB hT (by omega) hk0
  rw [show ((0 : Nat) : Int) = 0 from rfl] at hnx
  have HNX := Lib.hid hnx
  have HB := Lib.hid hB
  have HT := Lib.hid hT
  have HK := Lib.hid hk0
  have HA := Lib.hid ha0
  clear hnx hB hT hxs hk0 ha0
  refine callsIn_of_wp Tryd.func51 rfl trivial ?_ rfl
  simp only [Tryd.ntmps51, List.size_toArray, List.length_cons, List.length_nil, Nat.reduceAdd, Nat.reduceSub, Array.replicate_succ, Array.replicate_zero, List.push_toArray, List.append_toArray, List.nil_append, List.cons_append]
  gi_wp2_with (first
    | (refine ⟨trivial, ?_⟩; gi_at_call 50; ((with_reducible refine (callsIn_wide.2 HNX.out).mono ?_); rintro e w1 ⟨rfl, rfl⟩))
    | gi_in)
  gi_loopw [3] (fun p wr => ∃ (k : Nat) (pre rest : List Rn), p = .int .i64 k ∧ Hi (xs = pre ++ rest ∧ AtR S k rest ∧ RunAt wr b S ∧ TabW wr) ∧ J pre wr)
    (fun p _ => 16384 - (intOf p).toNat)
  case atStart => exact ⟨k0, [], xs, rfl, hi ⟨rfl, HA.out, HB.out, HT.out⟩, h0⟩
  case round =>
    obtain ⟨k, pre, rest, rfl, HH, hJs⟩ := hrel
    obtain ⟨hx, ha, hFr, hTr⟩ := HH.out
    rcases ha with ⟨rfl, rfl⟩ | ⟨g, x, r, rfl, ex, hlt, hkg, hg, hm⟩
    · have HE := hi hx
      clear hx hFr hTr
      gi_wp2
      go_end0
      exact ⟨⟨_, rfl⟩, .inl ⟨pre, by rw [HE.out]; simp, hJs⟩⟩
    · obtain ⟨k2, hk2, ha2⟩ := atR_of hm
      obtain ⟨fn, tmps, assign, body, hy, hR⟩ := hY pre x wr hJs (by rw [hx]; simp)
      rw [ex] at hy
      dsimp only at hy
      clear ex
      have hki : (k : Int) < 16384 := by omega
      have hgl : (g : Int) ≤ 16384 := by have := hg.2.1; omega
      have hg1 : 1 ≤ (g : Int) := by omega
      have HGAP := hi (gap_near _ b S k g wr hFr hTr (by omega) hg)
      have HE := hi hx
      have HFR := hi hFr
      have HTR := hi hTr
      have HK2 := hi hk2
      have HA2 := hi ha2
      have HLT := hi hlt
      have HKG := hi hkg
      clear hx hFr hTr hm hk2 ha2 hlt hg hkg HH
      gi_wp2_with (first
        | (refine ⟨trivial, ?_⟩; gi_at_call 52; ((with_reducible refine (callsIn_wide.2 HGAP.out).mono ?_); rintro e w4 ⟨rfl, rfl⟩))
        | gi_in)
      refine hR.mono ?_
      rintro e W3 (⟨rfl, hJ3, hk3⟩ | ⟨rfl, hJx3⟩)
      · have hF3 := HFR.out.stays hk3.2
        have hT3 := HTR.out.stays hk3.1
        have HNX2 := hi (next_near _ b S g k2 W3 hF3 hT3 (by have := hgl; omega) HK2.out)
        have HF3 := hi hF3
        have HT3 := hi hT3
        clear hF3 hT3
        gi_wp2_with (first
          | (refine ⟨trivial, ?_⟩; gi_at_call 50; ((with_reducible refine (callsIn_wide.2 HNX2.out).mono ?_); rintro e w4 ⟨rfl, rfl⟩))
          | gi_in)
        go_roundw
        case rel => exact ⟨k2, pre ++ [x], r, rfl, hi ⟨by rw [HE.out]; simp, HA2.out, HF3.out, HT3.out⟩, hJ3⟩
        case measure =>
          have h1 := HLT.out
          have h2 := HK2.out.1
          have h3 := HKG.out
          simp only [intOf]; omega
      · gi_wp2
        refine bodyPost_ret (results_none rfl _ _ _) rfl ?_
        exact ⟨⟨_, rfl⟩, .inr ⟨pre ++ [x], ⟨r, by rw [HE.out]; simp⟩, hJx3⟩⟩

theorem runs_stops (n : Nat) (hn : 1 ≤ n) (b : Nat) (S : Words) (xs : List Rn) (hxs : RunFrom S 0 xs) (w : World) (hB : RunAt w b S) (hT : TabW w) :
    SeqStopsK Fence.wide n Tryd.prog 51 #[.pointer (some ⟨b, 0, none⟩)] (fun x : Rn => #[Value.int .i64 x.1.1, Value.int .i64 x.1.2]) (KpR b) (fun ys => ys = xs) (fun pre => pre <+: xs) xs.length w := fun l J Jx W hW hJ hJx hY h0 =>
  runs1_in n hn l b S xs hxs J Jx W hJ hY (hB.below hW) (hT.below hW) h0

/-- The numbers of the rows: first, last, first, last .. -/
def flat (xs : List Rn) : List Int := xs.flatMap fun x => [x.1.1, x.1.2]
theorem flat_snoc (xs : List Rn) (x : Rn) : flat (xs ++ [x]) = flat xs ++ [x.1.1, x.1.2] := by simp [flat]
theorem flat_len : ∀ xs : List Rn, (flat xs).length = 2 * xs.length
  | [] => rfl
  | x :: r => by
    have := flat_len r
    simp only [flat, List.flatMap_cons, List.length_append, List.length_cons, List.length_nil] at this ⊢
    omega

end Go.Proofs.YtmdlknddlmpddaaDoor
