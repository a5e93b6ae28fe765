/-
  Laws for bytes: a slice that reads as bytes; copy, clear and append onto nothing; slices.Clone of bytes.
  Clone, Bytes, Put, Wipe, New, Size and Copy, by the program.
  Put, Wipe, New, Size and Copy, by the program.
  New and Copy, by the program.
  The document's examples: awake answers true wherever it is called, and what lay lies.
-/
import Derived.Test.YtobhdjepfhbgaaaDoorMjD
namespace Go.Proofs.YtobhdjepfhbgaaaDoor
open Go.ChangeShapes Go.WideShapes Go.ChangeAt Go.RowKit
set_option linter.unusedVariables false

theorem add_mid_ (b o j : Nat) : (⟨b, o, none⟩ : Addr).add j = ⟨b, o + j, none⟩ := by unfold Addr.add; split <;> simp_all

/-- The slice value v reads as the bytes ys. -/
def BytesIn (W : World) (v : Value) (ys : List Nat) : Prop :=
  ∃ a cap, v = .slice a ys.length cap ∧ ys.length ≤ cap ∧ (∀ x ∈ ys, x < 256) ∧ (ys ≠ [] → ∃ b off : Nat, a = some ⟨b, off, none⟩ ∧ ∀ j, j < ys.length → W.cell? ⟨b, off + j, none⟩ = some (.int .u8 (ys[j]?.getD 0 : Nat)))
theorem BytesIn.of {W : World} {g o n : Nat} {bs : List Nat} {v : Value} (h : BytesAt W g bs) (hs : SlOf g o n v) (hn : o + n ≤ bs.length) : BytesIn W v (sub bs o n) := by
  obtain ⟨ad, c, rfl, had, hc, _⟩ := hs
  have hl := sub_len hn
  refine ⟨ad, c, by rw [hl], by rw [hl]; exact hc, sub_mem h.2, fun hne => ?_⟩
  have hpos : 0 < n := by
    rcases Nat.eq_zero_or_pos n with e | e
    · exact absurd (List.length_eq_zero_iff.1 (by rw [hl, e])) hne
    · exact e
  refine ⟨g, o, had hpos, fun j hj => ?_⟩
  rw [hl] at hj
  rw [sub_get hj]
  exact h.cell (o + j) (by omega)
theorem BytesIn.kept {A W : World} {v : Value} {ys : List Nat} (h : BytesIn A v ys) {xs : Nat → Prop} (k : Kept xs A W) (hb : ∀ b off cap, v = .slice (some ⟨b, off, none⟩) ys.length cap → ys ≠ [] → ¬ xs b) : BytesIn W v ys := by
  obtain ⟨a, cap, rfl, hc, hm, hr⟩ := h
  refine ⟨a, cap, rfl, hc, hm, fun hne => ?_⟩
  obtain ⟨b, off, rfl, hcell⟩ := hr hne
  refine ⟨b, off, rfl, fun j hj => ?_⟩
  have h1 := hcell j hj
  have hlt := World.block_lt_of_cell? A _ h1
  exact (World.cell?_of_block (w := A) (k.block b hlt (hb b off cap rfl hne))).trans h1
theorem BytesIn.below {A W : World} {v : Value} {ys : List Nat} (h : BytesIn A v ys) (k : Below A.heap.size A W) : BytesIn W v ys :=
  h.kept (xs := fun _ => False) (Kept.of k) (fun _ _ _ _ _ x => x)

/-- The slice value v holds the bytes ys in a block of its own. -/
def OwnB (W : World) (base g : Nat) (v : Value) (ys : List Nat) : Prop :=
  ∃ cap, v = .slice (some ⟨g, 0, none⟩) ys.length cap ∧ base ≤ g ∧ BytesAt W g ys ∧ ys.length ≤ cap ∧ cap ≤ maxLen
theorem OwnB.slOf {W : World} {base g : Nat} {v : Value} {ys : List Nat} (h : OwnB W base g v ys) : SlOf g 0 ys.length v := by
  obtain ⟨cap, rfl, _, _, hc, _⟩ := h
  exact ⟨_, _, rfl, fun _ => rfl, hc, _, rfl⟩
theorem sub_all (bs : List Nat) : sub bs 0 bs.length = bs := by simp [sub]
theorem OwnB.bytesIn {W : World} {base g : Nat} {v : Value} {ys : List Nat} (h : OwnB W base g v ys) : BytesIn W v ys := by
  have h1 := BytesIn.of (o := 0) h.choose_spec.2.2.1 h.slOf (by omega)
  rwa [sub_all] at h1
theorem OwnB.of_row {W : World} {base : Nat} {v : Value} {ys : List Nat} (h : W.ownsRow base 5 1 v ys.length (u8s ys)) (hm : ∀ x ∈ ys, x < 256) (hne : v ≠ .slice none 0 0) : ∃ g, OwnB W base g v ys := by
  rcases h.2 with ⟨e, _⟩ | ⟨g, cap, cur, rfl, hb, hg, h1, h2, h3, h4⟩
  · exact absurd e hne
  · refine ⟨g, cap, rfl, hb, ⟨⟨cur.toList.drop ys.length, ?_⟩, hm⟩, h1, h2⟩
    rw [hg]
    congr 2
    rw [Nat.mul_one] at h4
    rw [← h4, List.take_append_drop]

theorem info_u8 : (Tryd.prog.info? 5).map (fun i => (i.zero, i.size, i.bytes)) = some (some (.int .u8 0), 1, 1) := by kernel_rfl
theorem size_u8 : (Tryd.prog.info? 5).map (·.size) = some 1 := by kernel_rfl
theorem zero_u8 (w : World) : (zeroValue 5).run Tryd.prog w = .ok (.int .u8 0) w := by kernel_rfl

theorem kept_setRow (w : World) (g : Nat) (cs : Array Value) : Kept (· = g) w (w.setRow g cs) :=
  ⟨rfl, rfl, rfl, by simp [World.setRow], fun k _ hn => setRow_other w g k cs (fun e => hn e)⟩

theorem wpList_copy_bytes {ops : Array Oper} {rest : List Oper} {o : Oper} {a : Act} {w : World} {Q : Exit → Act → World → Prop} (hgd : o.guard = none) (d s : Operand)
    (ho : o.op = .call { callee := .builtin .copy, args := #[d, s], argTypes := #[22, 22] })
    (g off n : Nat) (bs ys : List Nat) (dv sv : Value) (hd : a.eval d = dv) (hs : a.eval s = sv) (hdv : SlOf g off n dv) (hsv : BytesIn w sv ys) (hB : BytesAt w g bs) (hfit : off + n ≤ bs.length) (hl : ys.length ≤ n)
    (h : ∀ w', BytesAt w' g (splice bs off ys) → Kept (· = g) w w' → wpList Tryd.prog ops Q rest (a.put o.dst (goInt ys.length)) w') : wpList Tryd.prog ops Q (o :: rest) a w := by
  obtain ⟨ad, c, rfl, had, hc, _⟩ := hdv
  obtain ⟨sa, sc, rfl, hsc, hm, hcell⟩ := hsv
  by_cases hy : ys = []
  · subst hy
    refine wpList_copy_nothing hgd d s _ _ ho 5 Tryd.underlying22 size_u8 ad sa n c _ sc hd hs (by simp) ?_
    exact h w (by rw [splice_nil]; exact hB) (Kept.refl _ _)
  · have hpos : 0 < ys.length := List.length_pos_iff.2 hy
    obtain ⟨b, so, rfl, hcs⟩ := hcell hy
    obtain rfl := had (by omega)
    obtain ⟨⟨r, hg⟩, hm0⟩ := hB
    have hmin : (u8s ys).length = Nat.min ys.length n := by rw [u8s_len]; exact (Nat.min_eq_left hl).symm
    refine wpList_copy_own hgd d s _ _ ho 5 Tryd.underlying22 size_u8 g off n c ⟨b, so, none⟩ ys.length sc hd hs _ 5 hg (u8s ys) hmin ?_ ?_ (u8s_one ys) ?_
    · intro j v hv
      have hj : j < ys.length := by
        have := (List.getElem?_eq_some_iff.1 hv).1
        rwa [u8s_len] at this
      rw [u8s_get ys j hj] at hv
      rw [show (⟨b, so, none⟩ : Addr).add j = ⟨b, so + j, none⟩ from add_mid_ b so j, hcs j hj]
      exact hv
    · simp only [List.size_toArray, List.length_append, u8s_len]; omega
    · rw [u8s_len]
      refine h _ ⟨⟨r, ?_⟩, splice_mem hm0 hm⟩ (kept_setRow _ _ _)
      rw [setRow_heap w g _ _ _ _ hg]
      congr 2
      rw [List.toList_toArray, ← splice_u8s bs off ys r (by omega)]
      simp [splice, u8s_len]

theorem splice_cons (bs cs : List Nat) (o x : Nat) (h : o < bs.length) : splice bs o (x :: cs) = splice (bs.set o x) (o + 1) cs := by
  have e1 : (bs.set o x).take (o + 1) = bs.take o ++ [x] := by
    rw [List.take_add_one, List.take_set_of_le (Nat.le_refl _), List.getElem?_set_self h]
    rfl
  have e2 : (bs.set o x).drop (o + 1 + cs.length) = bs.drop (o + 1 + cs.length) := List.drop_set_of_lt (by omega)
  simp only [splice, List.length_cons, e1, e2]
  rw [List.append_assoc, show o + (cs.length + 1) = o + 1 + cs.length by omega]
  rfl
theorem BytesAt.sets : ∀ (cs bs : List Nat) (W : World) (g o : Nat), BytesAt W g bs → (∀ x ∈ cs, x < 256) → o + cs.length ≤ bs.length → BytesAt (W.setCells g o (u8s cs)) g (splice bs o cs) ∧ Kept (· = g) W (W.setCells g o (u8s cs))
  | [], bs, W, g, o, h, _, _ => by rw [splice_nil]; exact ⟨h, Kept.refl _ _⟩
  | x :: cs, bs, W, g, o, h, hm, hl => by
    simp only [List.length_cons] at hl
    have h1 := h.set o x (by omega) (hm x (by simp))
    obtain ⟨h2, h3⟩ := BytesAt.sets cs (bs.set o x) _ g (o + 1) h1 (fun y hy => hm y (by simp [hy])) (by rw [List.length_set]; omega)
    rw [splice_cons bs cs o x (by omega)]
    exact ⟨h2, (kept_setCell W g o _).trans h3⟩

theorem run_clear_none (w : World) (ad : Option Addr) (c : Nat) (ty : TypeId) : (Builtin.clear_ #[22] ty #[.slice ad 0 c]).run Tryd.prog w = .ok (.tuple #[]) w := by
  cases ad <;> simp [Builtin.clear_, run_underlying Tryd.underlying22, zero_u8, Builtin.zeroCells, storeCells]

theorem wpList_clear_bytes {ops : Array Oper} {rest : List Oper} {o : Oper} {a : Act} {w : World} {Q : Exit → Act → World → Prop} (hgd : o.guard = none) (d : Operand)
    (ho : o.op = .call { callee := .builtin .clear, args := #[d], argTypes := #[22] })
    (g off n : Nat) (bs : List Nat) (dv : Value) (hd : a.eval d = dv) (hdv : SlOf g off n dv) (hB : BytesAt w g bs) (hfit : off + n ≤ bs.length)
    (h : ∀ w', BytesAt w' g (splice bs off (List.replicate n 0)) → Kept (· = g) w w' → wpList Tryd.prog ops Q rest (a.put o.dst (.tuple #[])) w') : wpList Tryd.prog ops Q (o :: rest) a w := by
  obtain ⟨ad, c, rfl, had, hc, _⟩ := hdv
  refine wpList_plain hgd fun K hK => ?_
  by_cases hn : n = 0
  · subst hn
    have hrun := run_clear_none w ad c o.type
    unfold Oper.wp
    simp [execOp, ho, resolve, invoke, builtin, hd, hrun, Result.andThen]
    exact hK _ _ (h w (by rw [show List.replicate 0 0 = ([] : List Nat) from rfl, splice_nil]; exact hB) (Kept.refl _ _))
  · obtain rfl := had (by omega)
    have hrun := Lib.run_clear_slice (P := Tryd.prog) w 22 5 o.type (.int .u8 0) Tryd.underlying22 zero_u8 rfl rfl g off n c (by omega)
      (fun j hj => by rw [hB.cell (off + j) (by omega)]; rfl) (fun j hj => hB.frozen (off + j))
    unfold Oper.wp
    simp [execOp, ho, resolve, invoke, builtin, hd, hrun, Result.andThen]
    have e : List.replicate n (Value.int .u8 0) = u8s (List.replicate n 0) := by simp [u8s]
    rw [e]
    obtain ⟨h1, h2⟩ := BytesAt.sets (List.replicate n 0) bs w g off hB (fun x hx => by rw [List.eq_of_mem_replicate hx]; omega) (by simp; omega)
    exact hK _ _ (h _ h1 h2)

end Go.Proofs.YtobhdjepfhbgaaaDoor

namespace Go.Proofs.YtobhdjepfhbgaaaDoor
open Go.ChangeShapes Go.WideShapes Go.ChangeAt Go.RowKit
set_option linter.unusedVariables false

set_option maxHeartbeats 1000000 in
theorem clone_any (ad : Addr) (c : Nat) (ys : List Nat) (w : World) (h : BytesIn w (.slice (some ad) ys.length c) ys) (hl : ys.length ≤ 131072) :
    Calls Tryd.prog 45 #[.slice (some ad) ys.length c] w fun e w' => ∃ g v, e = .returned v ∧ OwnB w' w.heap.size g v ys ∧ Below w.heap.size w w' := by
  have H := hi h
  have hm := h.choose_spec.choose_spec.2.2.1
  have hcells : ∀ j u, (u8s ys)[j]? = some u → w.cell? (ad.add j) = some u := by
    intro j u hu
    have hj : j < ys.length := by
      have := (List.getElem?_eq_some_iff.1 hu).1
      rwa [u8s_len] at this
    obtain ⟨a, cap, e, _, _, hr⟩ := h
    simp only [Value.slice.injEq] at e
    obtain ⟨rfl, _, rfl⟩ := e
    obtain ⟨b, off, e2, hc⟩ := hr (fun e => by rw [e] at hj; simp at hj)
    simp only [Option.some.injEq] at e2
    rw [e2, add_mid_, hc j hj]
    rw [u8s_get ys j hj] at hu
    exact hu
  have HC := hi hcells
  have HM := hi hm
  clear h hcells hm
  obtain ⟨i0, hi', hz0, hz1, hz2⟩ := info_parts info_u8
  have HI := hi hi'
  have HZ := hi (And.intro hz0 (And.intro hz1 hz2))
  clear hi' hz0 hz1 hz2
  have q31 : ∀ (w : World) (a : Option Addr) (n c n' c' : Nat), (binOp .eql 22 (.slice a n c) (.slice none n' c')).run Tryd.prog w = .ok (.bool a.isNone) w := fun w a n c n' c' => Lib.run_eql_slice_nil w _ _ a n c n' c' Tryd.underlying22
  go_enter Tryd.func45, Tryd.ntmps45
  go_wp2_with (at_builtin; refine wpList_append_own _ rfl _ _ 22 rfl w.heap.size 5 i0 (.int .u8 0) 1 1 Tryd.underlying22 HI.out HZ.out.1 HZ.out.2.1 HZ.out.2.2 rfl (by decide) _ _ _ rfl (World.ownsRow_made w #[] 0 (Nat.le_refl _) (Nat.zero_le _) (by simp)) ad ys.length c (u8s ys) rfl ?qc1 ?qc2 (u8s_one ys) ?qc4 ?qc5 ?qc6 ?_)
  case qc1 => rw [u8s_len, Nat.mul_one]
  case qc2 =>
    intro j u hj
    exact Lib.cell?_alloc_some _ (HC.out j u hj)
  case qc4 => unfold maxLen; omega
  case qc5 => omega
  case qc6 => simp
  intro v' w1 hown hgrow hnil
  go_wp2
  go_ret
  obtain ⟨g, hg⟩ := OwnB.of_row (v := v') (ys := ys) (by simpa using hown) HM.out hnil
  exact ⟨g, v', rfl, hg, ((Below.refl _ w).alloc (Nat.le_refl _) _).grown hgrow (by simp) (by intro k hk; simp [Value.ownBlock] at hk; omega)⟩

/-- Where a slice of a block's bytes is handed to Clone. -/
theorem clone_sl (g o n : Nat) (bs : List Nat) (v : Value) (w : World) (hB : BytesAt w g bs) (hs : SlOf g o n v) (hn : o + n ≤ bs.length) (hl : bs.length ≤ 131072) :
    Calls Tryd.prog 45 #[v] w fun e w' => ∃ g v, e = .returned v ∧ OwnB w' w.heap.size g v (sub bs o n) ∧ Below w.heap.size w w' := by
  have h := BytesIn.of hB hs hn
  obtain ⟨ad, c, rfl, _, hc, x, rfl⟩ := hs
  have e := sub_len hn
  have := clone_any x c (sub bs o n) w (by rw [e]; exact h) (by omega)
  rwa [e] at this

/-- What Bytes returns: the value and the error. -/
def bytesE (n : Nat) (a s : Int) : Int := if holdsB n a s = true then 0 else 42
def bytesL (bs : List Nat) (a s : Int) : List Nat := if holdsB bs.length a s = true then sub bs a.toNat s.toNat else []

set_option maxHeartbeats 1000000 in
theorem bytes_any (p g cap : Nat) (bs : List Nat) (a s : Int) (w : World) (hM : MemAt 96 w p g cap bs)
    (ha0 : -9223372036854775808 ≤ a) (ha1 : a ≤ 9223372036854775807) (hs0 : -9223372036854775808 ≤ s) (hs1 : s ≤ 9223372036854775807) :
    Calls Tryd.prog 76 #[.pointer (some ⟨p, 0, none⟩), win a s] w fun e w' => ∃ v, e = .returned (tup v (bytesE bs.length a s)) ∧ ((v = .slice none 0 0 ∧ bytesL bs a s = []) ∨ ∃ h, OwnB w' w.heap.size h v (bytesL bs a s)) ∧ Below w.heap.size w w' := by
  have HM := hi hM
  have HH := hi (holds_any p g cap bs a s (w.alloc (.cells #[.int .i64 a, .int .i64 s] 49)) (hM.below (bal w _)) ha0 ha1 hs0 hs1)
  clear hM ha0 ha1 hs0 hs1
  unfold tup
  cases hh : holdsB bs.length a s
  · rw [hh] at HH
    have e : bytesE bs.length a s = 42 := by simp [bytesE, hh]
    have HE := hi (show bytesL bs a s = [] by simp [bytesL, hh])
    rw [e]
    clear e hh
    unfold win at HH ⊢
    go_enter Tryd.func76, Tryd.ntmps76
    go_wp2_with (go_at_call 72; ((with_reducible refine HH.out.mono ?_); rintro e w1 ⟨rfl, hb1⟩; obtain ⟨hc1, hc2⟩ := bcell hb1))
    go_ret2
    exact ⟨_, rfl, .inl ⟨rfl, HE.out⟩, (bal w _).trans (hb1.mono (by simp))⟩
  · have e : bytesE bs.length a s = 0 := by simp [bytesE, hh]
    have e2 : bytesL bs a s = sub bs a.toNat s.toNat := by simp [bytesL, hh]
    rw [e, e2]
    rw [hh] at HH
    obtain ⟨A, S, rfl, rfl, hA⟩ := holdsB_out hh
    have HA := hi hA
    have HI := hi (fun W hW => in_any p g cap bs A S W hW hA)
    clear e e2 hh hA
    simp only [Int.toNat_natCast]
    unfold win at HH HI ⊢
    go_enter Tryd.func76, Tryd.ntmps76
    go_wp2_with (first
      | (go_at_call 72; ((with_reducible refine HH.out.mono ?_); rintro e w1 ⟨rfl, hb1⟩; obtain ⟨hc1, hc2⟩ := bcell hb1))
      | (go_at_call 73; ((with_reducible refine (HI.out _ (HM.out.below ((bal w _).trans (hb1.mono (by simp))))).mono ?_); rintro e w2 ⟨v, rfl, hv, hb2⟩))
      | (go_at_call 45; ((with_reducible refine (clone_sl g A S bs _ _ (HM.out.bytes.of_block (((bal w _).trans ((hb1.mono (by simp)).trans (hb2.mono (by have := hb1.size; simp at this; omega)))).block g HM.out.bytes.lt)) hv HA.out HM.out.len).mono ?_); rintro e w3 ⟨h, v2, rfl, hv2, hb3⟩)))
    go_ret2
    have s1 : w.heap.size ≤ w1.heap.size := by have := hb1.size; simp at this; omega
    have s2 : w.heap.size ≤ w2.heap.size := by have := hb2.size; omega
    refine ⟨_, rfl, .inr ⟨h, ?_⟩, (bal w _).trans ((hb1.mono (by simp)).trans ((hb2.mono s1).trans (hb3.mono s2)))⟩
    obtain ⟨cp, e1, e2, e3⟩ := hv2
    exact ⟨cp, e1, by omega, e3⟩

end Go.Proofs.YtobhdjepfhbgaaaDoor

namespace Go.Proofs.YtobhdjepfhbgaaaDoor
open Go.ChangeShapes Go.WideShapes Go.ChangeAt Go.RowKit
set_option linter.unusedVariables false

def putOk (n : Nat) (a s : Int) (m : Nat) : Bool := holdsB n a s && decide ((m : Int) ≤ s)
def putE (n : Nat) (a s : Int) (m : Nat) : Int := if putOk n a s m = true then 0 else 42
def putL (bs : List Nat) (a s : Int) (ys : List Nat) : List Nat := if putOk bs.length a s ys.length = true then splice bs a.toNat ys else bs

set_option maxHeartbeats 1000000 in
theorem put_any (p g cap : Nat) (bs : List Nat) (a s : Int) (sv : Value) (ys : List Nat) (w : World) (hM : MemAt 96 w p g cap bs) (hy : BytesIn w sv ys) (hyl : ys.length ≤ 9223372036854775807)
    (ha0 : -9223372036854775808 ≤ a) (ha1 : a ≤ 9223372036854775807) (hs0 : -9223372036854775808 ≤ s) (hs1 : s ≤ 9223372036854775807) :
    Calls Tryd.prog 37 #[.pointer (some ⟨p, 0, none⟩), win a s, sv] w fun e w' => e = .returned (.int .i64 (putE bs.length a s ys.length)) ∧ MemAt 96 w' p g cap (putL bs a s ys) ∧ Kept (· = g) w w' := by
  have HM := hi hM
  have HY := hi hy
  have HH := hi (holds_any p g cap bs a s (w.alloc (.cells #[.int .i64 a, .int .i64 s] 49)) (hM.below (bal w _)) ha0 ha1 hs0 hs1)
  obtain ⟨sa, sc, rfl, _, _, _⟩ := hy
  clear hM
  cases hh : holdsB bs.length a s
  · rw [hh] at HH
    have e : putE bs.length a s ys.length = 42 := by simp [putE, putOk, hh]
    have e2 : putL bs a s ys = bs := by simp [putL, putOk, hh]
    rw [e, e2]
    clear e e2 hh
    unfold win at HH ⊢
    go_enter Tryd.func37, Tryd.ntmps37
    go_wp2_with (go_at_call 72; ((with_reducible refine HH.out.mono ?_); rintro e w1 ⟨rfl, hb1⟩; obtain ⟨hc1, hc2⟩ := bcell hb1))
    go_ret
    have hb := (bal w (.cells #[.int .i64 a, .int .i64 s] 49)).trans (hb1.mono (by simp))
    exact ⟨rfl, HM.out.below hb, Kept.of hb⟩
  · by_cases hm : (ys.length : Int) ≤ s
    · have e : putE bs.length a s ys.length = 0 := by simp [putE, putOk, hh, hm]
      have e2 : putL bs a s ys = splice bs a.toNat ys := by simp [putL, putOk, hh, hm]
      rw [e, e2]
      rw [hh] at HH
      obtain ⟨A, S, rfl, rfl, hA⟩ := holdsB_out hh
      have HA := hi hA
      have HI := hi (fun W hW => in_any p g cap bs A S W hW hA)
      have hm' : ys.length ≤ S := by omega
      clear e e2 hh hA hm
      simp only [Int.toNat_natCast]
      unfold win at HH HI ⊢
      go_enter Tryd.func37, Tryd.ntmps37
      go_wp2_with (first
        | (go_at_call 72; ((with_reducible refine HH.out.mono ?_); rintro e w1 ⟨rfl, hb1⟩; obtain ⟨hc1, hc2⟩ := bcell hb1))
        | (go_at_call 73; ((with_reducible refine (HI.out _ (HM.out.below ((bal w _).trans (hb1.mono (by simp))))).mono ?_); rintro e w2 ⟨v, rfl, hv, hb2⟩))
        | (refine wpList_copy_bytes rfl _ _ rfl g A S bs ys v _ rfl rfl hv (HY.out.below ((bal w _).trans ((hb1.mono (by simp)).trans (hb2.mono (by have := hb1.size; simp at this; omega))))) (HM.out.bytes.of_block (((bal w _).trans ((hb1.mono (by simp)).trans (hb2.mono (by have := hb1.size; simp at this; omega)))).block g HM.out.bytes.lt)) HA.out hm' ?_; intro w3 hB3 hk3))
      go_ret
      have hb := (bal w (.cells #[.int .i64 A, .int .i64 S] 49)).trans ((hb1.mono (by simp)).trans (hb2.mono (by have := hb1.size; simp at this; omega)))
      exact ⟨rfl, HM.out.set ((Kept.of hb).trans hk3) hB3 (splice_len _ _ _ (by have := HA.out; omega)), (Kept.of hb).trans hk3⟩
    · have e : putE bs.length a s ys.length = 42 := by simp [putE, putOk, hm]
      have e2 : putL bs a s ys = bs := by simp [putL, putOk, hm]
      rw [e, e2]
      rw [hh] at HH
      have hm' : s < (ys.length : Int) := by omega
      clear e e2 hh hm
      unfold win at HH ⊢
      go_enter Tryd.func37, Tryd.ntmps37
      go_wp2_with (go_at_call 72; ((with_reducible refine HH.out.mono ?_); rintro e w1 ⟨rfl, hb1⟩; obtain ⟨hc1, hc2⟩ := bcell hb1))
      go_ret
      have hb := (bal w (.cells #[.int .i64 a, .int .i64 s] 49)).trans (hb1.mono (by simp))
      exact ⟨rfl, HM.out.below hb, Kept.of hb⟩

def wipeL (bs : List Nat) (a s : Int) : List Nat := if holdsB bs.length a s = true then splice bs a.toNat (List.replicate s.toNat 0) else bs

set_option maxHeartbeats 1000000 in
theorem size_any (p g cap : Nat) (bs : List Nat) (w : World) (hM : MemAt 96 w p g cap bs) :
    Calls Tryd.prog 77 #[.pointer (some ⟨p, 0, none⟩)] w fun e w' => e = .returned (.int .i64 bs.length) ∧ w = w' := by
  have hc := hM.cell
  clear hM
  go_enter Tryd.func77, Tryd.ntmps77
  go_wp2
  go_ret
  exact ⟨rfl, rfl⟩

end Go.Proofs.YtobhdjepfhbgaaaDoor

namespace Go.Proofs.YtobhdjepfhbgaaaDoor
open Go.ChangeShapes Go.WideShapes Go.ChangeAt Go.RowKit
set_option linter.unusedVariables false

theorem heap_new (w : World) (o : Obj) : (w.alloc o).heap[w.heap.size]? = some o := by show (w.heap.push o)[w.heap.size]? = some o; simp

def ptr (p : Nat) : Value := .pointer (some ⟨p, 0, none⟩)
theorem made_u8 (n : Nat) : (madeCells (Value.int .u8 0).cells (n * 1)).toList = u8s (List.replicate n 0) := by
  simp [madeCells, Value.cells, u8s]
  apply List.ext_getElem
  · simp
  · intro i h1 h2; simp [Nat.mod_one]
theorem bytes_made {W : World} {base : Nat} {b n : Nat} (h : W.ownsRow base 5 1 (.slice (some ⟨b, 0, none⟩) n n) n (madeCells (Value.int .u8 0).cells (n * 1)).toList) : BytesAt W b (List.replicate n 0) := by
  rw [made_u8] at h
  obtain ⟨g, hg⟩ := OwnB.of_row (W := W) (base := base) (v := .slice (some ⟨b, 0, none⟩) n n) (ys := List.replicate n 0) (by simpa using h) (fun x hx => by rw [List.eq_of_mem_replicate hx]; omega) (by simp)
  obtain ⟨cap, e, _, h1, _⟩ := hg
  simp only [Value.slice.injEq, Option.some.injEq, Addr.mk.injEq] at e
  rw [e.1.1]
  exact h1

set_option maxHeartbeats 1000000 in
theorem new_yes (n : Nat) (w : World) (hn : n ≤ 131072) :
    Calls Tryd.prog 34 #[.int .i64 n] w fun e w' => ∃ p g, e = .returned (tup (ptr p) 0) ∧ MemAt 96 w' p g n (List.replicate n 0) ∧ w.heap.size ≤ p ∧ w.heap.size ≤ g ∧ Below w.heap.size w w' := by
  obtain ⟨i0, hi', hz0, hz1, hz2⟩ := info_parts info_u8
  have HI := hi hi'
  have HZ := hi (And.intro hz0 (And.intro hz1 hz2))
  clear hi' hz0 hz1 hz2
  unfold tup ptr
  go_enter Tryd.func34, Tryd.ntmps34
  go_wp2_with (refine wpList_make_full _ rfl _ _ _ rfl w.heap.size 5 i0 (.int .u8 0) 1 Tryd.underlying22 HI.out HZ.out.1 HZ.out.2.1 .i64 .i64 _ _ n rfl rfl rfl rfl (by rw [HZ.out.2.2]; omega) (by unfold maxLen; omega) (Nat.le_refl _) ?_; intro w1 hown hg1)
  go_ret2
  have hb := bytes_made hown
  refine ⟨w1.heap.size, w.heap.size, rfl, ⟨?_, ?_, by simp, by unfold maxLen; omega, by simp; exact hn, by decide⟩, hg1.size, Nat.le_refl _, ?_⟩
  · rw [List.length_replicate]; exact heap_new _ _
  · exact hb.of_block (Below.heap_alloc _ _ _ hb.lt)
  · exact ⟨hg1.os, hg1.tape, hg1.output, Nat.le_trans hg1.size (by simp), fun k hk => (Below.heap_alloc _ _ _ (Nat.lt_of_lt_of_le hk hg1.size)).trans (hg1.block k hk (by simp))⟩

set_option maxHeartbeats 1000000 in
theorem copy_any (p g cap : Nat) (bs : List Nat) (w : World) (hM : MemAt 96 w p g cap bs) :
    Calls Tryd.prog 12 #[.pointer (some ⟨p, 0, none⟩)] w fun e w' => ∃ q h c, e = .returned (ptr q) ∧ MemAt 96 w' q h c bs ∧ w.heap.size ≤ q ∧ w.heap.size ≤ h ∧ Below w.heap.size w w' := by
  have hc := hM.cell
  have HM := hi hM
  have HC := hi (clone_any ⟨g, 0, none⟩ cap bs w (by
    have := BytesIn.of (v := .slice (some ⟨g, 0, none⟩) bs.length cap) (o := 0) (n := bs.length) hM.bytes ⟨_, _, rfl, fun _ => rfl, hM.le, _, rfl⟩ (by omega)
    rwa [sub_all] at this) hM.len)
  clear hM
  unfold ptr
  go_enter Tryd.func12, Tryd.ntmps12
  go_wp2_with (go_at_call 45; ((with_reducible refine HC.out.mono ?_); rintro e w1 ⟨h, v, rfl, ⟨c, rfl, hge, hB, hle, hcap⟩, hb1⟩))
  go_ret
  refine ⟨w1.heap.size, h, c, rfl, ⟨?_, ?_, hle, hcap, HM.out.len, by decide⟩, hb1.size, hge, ?_⟩
  · exact heap_new _ _
  · exact hB.of_block (Below.heap_alloc _ _ _ hB.lt)
  · exact hb1.alloc (by simpa using hb1.size) _

end Go.Proofs.YtobhdjepfhbgaaaDoor

namespace Go.Proofs.YtobhdjepfhbgaaaDoor
open Go.ChangeShapes Go.WideShapes Go.ChangeAt Go.RowKit
set_option linter.unusedVariables false

/-- What lies since w, and a memory that was made since. -/
structure Since (w : World) (p g cap : Nat) (bs : List Nat) (W : World) : Prop where
  mem : MemAt 96 W p g cap bs
  p : w.heap.size ≤ p
  g : w.heap.size ≤ g
  below : Below w.heap.size w W
theorem Since.sz {w : World} {p g cap : Nat} {bs : List Nat} {W : World} (h : Since w p g cap bs W) : w.heap.size ≤ W.heap.size := h.below.size
theorem Since.later {w : World} {p g cap : Nat} {bs : List Nat} {W W' : World} (h : Since w p g cap bs W) (k : Below W.heap.size W W') : Since w p g cap bs W' :=
  ⟨h.mem.below k, h.p, h.g, h.below.trans (k.mono h.sz)⟩
theorem Since.wrote {w : World} {p g cap : Nat} {bs cs : List Nat} {W W' : World} (h : Since w p g cap bs W) (k : Kept (· = g) W W') (m : MemAt 96 W' p g cap cs) : Since w p g cap cs W' :=
  ⟨m, h.p, h.g, h.below.trans (k.toBelow h.sz (fun _ e => by subst e; exact h.g))⟩

theorem kept_new {w1 w2 : World} {g : Nat} {cs : Array Value} {T : TypeId} (hg : g < w1.heap.size) (k : Kept (· = g) (w1.alloc (.cells cs T)) w2) :
    w1.heap.size < w2.heap.size ∧ ∀ o, w2.cell? ⟨w1.heap.size, o, none⟩ = cs[o]? := by
  have h0 : (w1.alloc (.cells cs T)).heap.size = w1.heap.size + 1 := by simp
  refine ⟨by have := k.size; omega, fun o => ?_⟩
  have h1 := k.block w1.heap.size (by omega) (fun (e : w1.heap.size = g) => by omega)
  rw [heap_new] at h1
  simp [World.cell?, h1]

end Go.Proofs.YtobhdjepfhbgaaaDoor
