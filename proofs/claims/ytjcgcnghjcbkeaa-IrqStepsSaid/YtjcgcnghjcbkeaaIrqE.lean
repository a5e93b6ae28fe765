/-
  strings.Contains at one byte; the letters that a text holds, and the state that it may be; Parse, the program's.
-/
import Derived.Test.YtjcgcnghjcbkeaaIrqD
import Derived.Lib.Bytealg
import Derived.Lib.Strings
import Derived.Laws.Strings3
import Derived.BigCall
import Derived.Lib.Walk
namespace Go.Proofs.Ytjcgcnghjcbkeaa
open Go.ChangeShapes Go.WideShapes Go.ChangeAt Go.RowKit
set_option linter.unusedVariables false

set_option maxHeartbeats 1000000 in
theorem idxByte_any (s : ByteArray) (c : Int) (w : World) :
    Calls Try.prog 31 #[.string s, .int .u8 c] w fun e w' => e = .returned (.int .i64 (Lib.indexByte s.data.toList c.toNat.toUInt8)) ∧ w = w' := by
  go_enter Try.func31, Try.ntmps31
  go_wp2
  rw [run_callFunc_extern Try.func35 (by kernel_rfl) (by kernel_rfl) (by kernel_rfl) (e := Extern.BytealgIndexByte.indexByte) (by kernel_rfl), Lib.run_indexByteString]
  simp only [Result.andThen]
  rw [Oper.upon_value]
  go_wp2
  go_ret
  exact ⟨rfl, rfl⟩

def hasB (l : List UInt8) (c : UInt8) : Bool := decide (0 ≤ Lib.indexByte l c)
theorem hasB_nil (c : UInt8) : hasB [] c = false := rfl
theorem hasB_cons (b : UInt8) (l : List UInt8) (c : UInt8) : hasB (b :: l) c = (b == c || hasB l c) := by
  have := Lib.indexByte_ge l c
  unfold hasB
  rw [Lib.indexByte]
  by_cases h : b == c
  · simp [h]
  · by_cases h1 : Lib.indexByte l c == -1
    · have h2 : Lib.indexByte l c = -1 := by simpa using h1
      simp [h, h2]
    · have h2 : Lib.indexByte l c ≠ -1 := by simpa using h1
      simp [h, h1]
      omega

theorem u8_back (c : UInt8) : ((c.toNat : Int).toNat.toUInt8) = c := by simp

set_option maxHeartbeats 1000000 in
theorem contains_one (s : ByteArray) (c : UInt8) (w : World) :
    Calls Try.prog 28 #[.string s, .string ⟨#[c]⟩] w fun e w' => e = .returned (.bool (hasB s.data.toList c)) ∧ w = w' := by
  have HI := hi (fun W => idxByte_any s (c.toNat : Int) W)
  rw [u8_back] at HI
  obtain ⟨r, hr⟩ : ∃ r, Lib.indexByte s.data.toList c = r := ⟨_, rfl⟩
  have hh : hasB s.data.toList c = decide (0 ≤ r) := by unfold hasB; rw [hr]
  rw [hh]
  rw [hr] at HI
  clear hh
  have hz : s.data.toList = [c] → r = 0 := fun e => by rw [← hr, e]; simp [Lib.indexByte]
  have HZ := hi hz
  clear hz hr
  have H2 : Hi (∀ W, Calls Try.prog 30 #[.string s, .string ⟨#[c]⟩] W fun e w' => e = .returned (.int .i64 r) ∧ W = w') := hi fun W => by
    by_cases hc : s.data.toList = [c]
    · have q1 : ([c] == s.toList) = true := by rw [ByteArray.toList_eq, hc]; simp
      rw [HZ.out hc]
      clear hc
      go_enter Try.func30, Try.ntmps30
      go_wp2_with (go_at_call 31; (refine (HI.out _).mono ?_; rintro e w1 ⟨rfl, rfl⟩))
      go_ret
      exact ⟨rfl, rfl⟩
    · have q1 : ([c] == s.toList) = false := by rw [ByteArray.toList_eq]; simpa using fun e => hc e.symm
      clear hc
      go_enter Try.func30, Try.ntmps30
      go_wp2_with (go_at_call 31; (refine (HI.out _).mono ?_; rintro e w1 ⟨rfl, rfl⟩))
      go_ret
      exact ⟨rfl, rfl⟩
  have H1 : Hi (∀ W, Calls Try.prog 29 #[.string s, .string ⟨#[c]⟩] W fun e w' => e = .returned (.int .i64 r) ∧ W = w') := hi fun W => by
    go_enter Try.func29, Try.ntmps29
    go_wp2_with (go_at_call 30; ((with_reducible refine (H2.out _).mono ?_); rintro e w1 ⟨rfl, rfl⟩))
    go_ret
    exact ⟨rfl, rfl⟩
  go_enter Try.func28, Try.ntmps28
  go_wp2_with (go_at_call 29; ((with_reducible refine (H1.out _).mono ?_); rintro e w1 ⟨rfl, rfl⟩))
  go_ret
  exact ⟨rfl, rfl⟩

/-- The state that a text may be. -/
def stOf (l : List UInt8) : St := ⟨hasB l 101, hasB l 104, hasB l 119, hasB l 97⟩
theorem stOf_txt (x : St) : stOf x.txt = x := by
  obtain ⟨e, l, q, a⟩ := x
  cases e <;> cases l <;> cases q <;> cases a <;> decide
/-- Whose text it is. -/
def parseS (l : List UInt8) : Option St := if (stOf l).txt = l then some (stOf l) else none
theorem parseS_txt (x : St) : parseS x.txt = some x := by unfold parseS; rw [stOf_txt, if_pos rfl]
theorem parseS_some {l : List UInt8} {x : St} (h : parseS l = some x) : l = x.txt := by
  unfold parseS at h
  split at h
  · rename_i e
    cases h
    exact e.symm
  · cases h
def parseV (l : List UInt8) : Value := match parseS l with
  | some x => .tuple #[x.v, .int .i64 0]
  | none => .tuple #[St.zero.v, .int .i64 1]

theorem results_parse {fn : Func} {c t : Tmp} (h : fn.results = #[.cell c 23, .tmp t]) (tmps : Array Value) (w : World) (b : Nat) (x : St) (v : Value) (hp : tmps.getD c undef = .pointer (some ⟨b, 0, none⟩)) (ht : tmps.getD t undef = v) (hb : CB w b 23 x.cs) :
    (results fn tmps).run Try.prog w = .ok (.tuple #[x.v, v]) w := by
  have hp' : tmps[c]?.getD undef = .pointer (some ⟨b, 0, none⟩) := by simpa using hp
  have ht' : tmps[t]?.getD undef = v := by simpa using ht
  obtain ⟨c0, c1, c2, c3⟩ := hb.cells
  simp [results, h, go_sem, hp', ht', c0, c1, c2, c3]

set_option maxHeartbeats 2000000 in
theorem parse_any (s : ByteArray) (w : World) : Calls Try.prog 22 #[.string s] w fun e w' => e = .returned (parseV s.data.toList) ∧ Below w.heap.size w w' := by
  have CE := hi (fun W => contains_one s 101 W)
  have CH := hi (fun W => contains_one s 104 W)
  have CW := hi (fun W => contains_one s 119 W)
  have CA := hi (fun W => contains_one s 97 W)
  have CT := hi (text_any (stOf s.data.toList))
  obtain ⟨x, hx⟩ : ∃ x, stOf s.data.toList = x := ⟨_, rfl⟩
  have e1 : hasB s.data.toList 101 = x.e := by rw [← hx]; rfl
  have e2 : hasB s.data.toList 104 = x.l := by rw [← hx]; rfl
  have e3 : hasB s.data.toList 119 = x.h := by rw [← hx]; rfl
  have e4 : hasB s.data.toList 97 = x.a := by rw [← hx]; rfl
  rw [e1] at CE
  rw [e2] at CH
  rw [e3] at CW
  rw [e4] at CA
  rw [hx] at CT
  by_cases ht : x.txt = s.data.toList
  · have hv : parseV s.data.toList = .tuple #[x.v, .int .i64 0] := by
      unfold parseV parseS
      rw [hx, if_pos ht]
    rw [hv]
    have hs : (⟨x.txt.toArray⟩ : ByteArray) = s := by rw [ht]
    rw [hs] at CT
    obtain ⟨e, l, q, a⟩ := x
    clear ht hx hv e1 e2 e3 e4 hs
    dsimp only [St.v] at *
    go_enter Try.func22, Try.ntmps22
    go_wp2_with (first
      | (go_at_call 28; ((with_reducible refine (CE.out _).mono ?_); rintro e' w1 ⟨rfl, rfl⟩))
      | (go_at_call 28; ((with_reducible refine (CH.out _).mono ?_); rintro e' w1 ⟨rfl, rfl⟩))
      | (go_at_call 28; ((with_reducible refine (CW.out _).mono ?_); rintro e' w1 ⟨rfl, rfl⟩))
      | (go_at_call 28; ((with_reducible refine (CA.out _).mono ?_); rintro e' w1 ⟨rfl, rfl⟩))
      | (go_at_call 19; ((with_reducible refine (CT.out _).mono ?_); rintro e' w1 ⟨rfl, hb1⟩; obtain ⟨hB, hB2, hK⟩ := box_call2 hb1; obtain ⟨c0, c1, c2, c3⟩ := CB.cells (x := ⟨e, l, q, a⟩) hB2; obtain ⟨d0, d1, d2, d3⟩ := CB.cells (x := St.zero) hB; have f := hB.frozen; have HB := hi hB; have HK := hi hK; clear hb1 hB hB2 hK)))
    exact bodyPost_ret (results_parse rfl _ _ w.heap.size ⟨_, _, _, _⟩ _ rfl rfl (CB.set4 (z := St.zero) HB.out ⟨e, l, q, a⟩)) rfl ⟨rfl, below_set4 HK.out (by omega) ⟨e, l, q, a⟩⟩
  · have hv : parseV s.data.toList = .tuple #[St.zero.v, .int .i64 1] := by
      unfold parseV parseS
      rw [hx, if_neg ht]
    rw [hv]
    obtain ⟨t, htt⟩ : ∃ t : ByteArray, ⟨x.txt.toArray⟩ = t := ⟨_, rfl⟩
    have hq : (t.toList == s.toList) = false := by
      rw [ByteArray.toList_eq, ByteArray.toList_eq, ← htt]
      simpa using ht
    rw [htt] at CT
    obtain ⟨e, l, q, a⟩ := x
    clear ht hx hv e1 e2 e3 e4 htt
    dsimp only [St.v] at *
    go_enter Try.func22, Try.ntmps22
    go_wp2_with (first
      | (go_at_call 28; ((with_reducible refine (CE.out _).mono ?_); rintro e' w1 ⟨rfl, rfl⟩))
      | (go_at_call 28; ((with_reducible refine (CH.out _).mono ?_); rintro e' w1 ⟨rfl, rfl⟩))
      | (go_at_call 28; ((with_reducible refine (CW.out _).mono ?_); rintro e' w1 ⟨rfl, rfl⟩))
      | (go_at_call 28; ((with_reducible refine (CA.out _).mono ?_); rintro e' w1 ⟨rfl, rfl⟩))
      | (go_at_call 19; ((with_reducible refine (CT.out _).mono ?_); rintro e' w1 ⟨rfl, hb1⟩; obtain ⟨hB, hB2, hK⟩ := box_call2 hb1; obtain ⟨c0, c1, c2, c3⟩ := CB.cells (x := ⟨e, l, q, a⟩) hB2; obtain ⟨d0, d1, d2, d3⟩ := CB.cells (x := St.zero) hB; have f := hB.frozen; have HB := hi hB; have HK := hi hK; clear hb1 hB hB2 hK)))
    exact bodyPost_ret (results_parse rfl _ _ w.heap.size ⟨_, _, _, _⟩ _ rfl rfl (CB.set4 (z := St.zero) HB.out St.zero)) rfl ⟨rfl, below_set4 HK.out (by omega) St.zero⟩

end Go.Proofs.Ytjcgcnghjcbkeaa
