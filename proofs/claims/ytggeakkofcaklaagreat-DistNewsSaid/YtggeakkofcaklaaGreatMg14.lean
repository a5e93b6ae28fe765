import Derived.Test.YtggeakkofcaklaaGreatMg08
import Derived.Test.YtggeakkofcaklaaGreatMg02
import Derived.Test.YtggeakkofcaklaaGreatMg03
namespace Go.Proofs.YtggeakkofcaklaaGreat
open Go.ChangeShapes Go.WideShapes Go.ChangeAt Go.RowKit Go.Shelf
set_option linter.unusedVariables false
attribute [local go_sem] Oper.semAt_some
structure Rr where
  fr : Int
  to : Int
  wd : Int
  r : Int
  f : Int
  o : Int
  p : Int
deriving Inhabited
def Rr.cs (x : Rr) : List Value := [.int .i64 x.fr, .int .i64 x.to, .int .i64 x.wd, .int .i64 x.r, .int .i64 x.f, .int .i64 x.o, .int .i64 x.p]
abbrev Rr.ca (x : Rr) : Array Value := #[.int .i64 x.fr, .int .i64 x.to, .int .i64 x.wd, .int .i64 x.r, .int .i64 x.f, .int .i64 x.o, .int .i64 x.p]
theorem rr_len (x : Rr) : x.cs.length = 7 := rfl
abbrev flR (xs : List Rr) : List Value := flat Rr.cs xs
theorem flR_len (xs : List Rr) : (flR xs).length = xs.length * 7 := flat_len rr_len xs
theorem rr_one (x : Rr) : ∀ v ∈ x.cs, v.oneCell' = true := by
  intro v hv
  simp only [Rr.cs, List.mem_cons, List.not_mem_nil, or_false] at hv
  rcases hv with rfl | rfl | rfl | rfl | rfl | rfl | rfl <;> rfl
theorem info_rr : (Tryz.prog.info? 184).map (fun i => (i.zero, i.size, i.bytes)) = some (some (.agg #[.int .i64 0, .int .i64 0, .int .i64 0, .int .i64 0, .int .i64 0, .int .i64 0, .int .i64 0]), 7, 56) := by kernel_rfl
theorem own_later {W W' : World} {base sz : Nat} {te : TypeId} {v : Value} {n : Nat} {cs : List Value} (h : W.ownsRow base te sz v n cs) (k : Below W.heap.size W W') : W'.ownsRow base te sz v n cs :=
  h.kept (Below.grew k) (by cases ho : v.ownBlock with
    | none => exact .inl rfl
    | some b => exact .inr (by simp))
theorem cells_new (w : World) (cs : List Value) (t : TypeId) : ∀ j u, cs[j]? = some u → (w.alloc (.cells cs.toArray t)).cell? ((⟨w.heap.size, 0, none⟩ : Addr).add j) = some u := by
  intro j u h
  rw [addr_add, Nat.zero_add, (CB.new w t _).cell]
  simpa using h
def bitRow (k : Nat) : Rr := ⟨128 + 128 * k, 128 + 128 * k + 128, 4, 4 + k, 0, 8, 1⟩
def bitRows (k : Nat) : List Rr := (List.range k).map bitRow
theorem bitRows_len (k : Nat) : (bitRows k).length = k := by simp [bitRows]
theorem flR_bits (k : Nat) : flR (bitRows (k + 1)) = flR (bitRows k) ++ (bitRow k).cs := by
  rw [bitRows, List.range_succ, List.map_append, flR, flat_append]
  rfl
abbrev regsA : Array Value := #[.int .i64 4, .int .i64 5, .int .i64 6, .int .i64 7, .int .i64 8, .int .i64 9, .int .i64 10]
theorem regs_at {W : World} {B : Nat} {t : TypeId} (h : CB W B t regsA) {k : Nat} (hk : k < 7) : W.cell? ⟨B, k, none⟩ = some (.int .i64 (4 + k)) := by
  rw [h.cell]
  match k, hk with
  | 0, _ => rfl
  | 1, _ => rfl
  | 2, _ => rfl
  | 3, _ => rfl
  | 4, _ => rfl
  | 5, _ => rfl
  | 6, _ => rfl
  | k + 7, hk => omega
structure BW (w : World) (k : Nat) (v : Value) (W : World) : Prop where
  rg : CB W w.heap.size 68 regsA
  o : W.ownsRow (w.heap.size + 1) 184 7 v k (flR (bitRows k))
  below : Below w.heap.size w W
theorem BW.next {w W w9 : World} {k : Nat} {v v' : Value} {tmp : Obj} (h : BW w k v W) (ho : w9.ownsRow (w.heap.size + 1) 184 7 v' (k + 1) (flR (bitRows k) ++ (bitRow k).cs)) (hg : (W.alloc tmp).grownBy w9 v.ownBlock) : BW w (k + 1) v' w9 :=
  ⟨CB.kept (h.rg.alloc tmp) hg (own_above h.o (by omega)), by rw [flR_bits]; exact ho, (h.below.alloc h.below.size tmp).grown hg (by have := h.below.size; simp; omega) (fun j e => by have := (h.o.lt j e).1; omega)⟩
def Rowed (w : World) (n : Nat) (xs : List Rr) (e : Ending) (w' : World) : Prop := ∃ v, e = .returned v ∧ w'.ownsRow w.heap.size 184 7 v n (flR xs) ∧ Below w.heap.size w w'
set_option maxRecDepth 100000 in
set_option maxHeartbeats 4000000 in
theorem bits_any (w : World) : Calls Tryz.prog 130 #[.int .i64 128, .int .i64 128, .int .i64 128] w (Rowed w 7 (bitRows 7)) := by
  obtain ⟨i0, hi2, hz0, hz1, hz2⟩ := info_parts info_rr
  have H0 := hi (show BW w 0 (.slice none 0 0) (w.alloc (.cells regsA 68)) from ⟨CB.new _ _ _, World.ownsRow_nil _ _ _ _, bal w _⟩)
  go_enter Tryz.func130, Tryz.ntmps130
  go_wp2
  go_loopw [8, 9] (fun o i wr => ∃ k : Nat, k ≤ 7 ∧ i = .int .i64 k ∧ Hi (BW w k o wr)) (fun _ i _ => 7 - (intOf i).toNat)
  case atStart => exact ⟨0, Nat.zero_le _, rfl, H0⟩
  case round =>
    obtain ⟨k, hk, rfl, HX⟩ := hrel
    clear H0
    by_cases hlt : k < 7
    · have hX := HX.out
      have hl := hX.o
      have hbs := hX.below.size
      have hrg := regs_at hX.rg hlt
      have hwl := hX.rg.lt
      have hw1 : IntKind.i64.wrap (128 * (k : Int)) = 128 * k := by rw [IntKind.wrap_i64]; omega
      have hw2 : IntKind.i64.wrap (128 + 128 * (k : Int)) = 128 + 128 * k := by rw [IntKind.wrap_i64]; omega
      have hw3 : IntKind.i64.wrap (128 + 128 * (k : Int) + 128) = 128 + 128 * k + 128 := by rw [IntKind.wrap_i64]; omega
      obtain ⟨va, vc, rfl⟩ := own_slice hl
      clear hX
      go_wp2_with (first
        | (at_builtin; refine wpList_append_own _ rfl _ _ 147 rfl (w.heap.size + 1) 184 i0 (.agg #[.int .i64 0, .int .i64 0, .int .i64 0, .int .i64 0, .int .i64 0, .int .i64 0, .int .i64 0]) 7 56 Tryz.underlying147 hi2 hz0 hz1 hz2 rfl (by decide) _ _ _ rfl (hl.alloc _) ⟨wr.heap.size, 0, none⟩ 1 1 (bitRow k).cs rfl rfl (cells_new _ _ _) (rr_one _) (by unfold maxLen; omega) (by omega) (by simp; omega) ?_; intro v' w9 hown' hgrow _; have HM := hi (HX.out.next hown' hgrow)))
      go_roundw
      case rel => exact ⟨k + 1, by omega, by go_num, HM⟩
      case measure => simp only [intOf]; omega
    · obtain rfl : k = 7 := by omega
      go_wp2
      go_ret
      exact ⟨_, rfl, own_base HX.out.o (by omega), HX.out.below⟩
def rowsA : List Rr := [⟨0, 4, 4, 1, 0, 0, 1⟩, ⟨4, 8, 4, 2, 0, 0, 1⟩]
def rowsB : List Rr := [⟨1024, 2048, 4, 11, 0, 1, 1⟩, ⟨3072, 3328, 4, 12, 0, 4, 1⟩, ⟨24832, 32768, 8, 13, 32, 1, 8⟩]
def distRows : List Rr := (rowsA ++ bitRows 7) ++ rowsB
theorem flR_one (xs : List Rr) : ∀ v ∈ flR xs, v.oneCell' = true := flat_one_cell rr_one xs
theorem own_cells {W : World} {base n : Nat} {g cap : Nat} {xs : List Rr} (h : W.ownsRow base 184 7 (.slice (some ⟨g, 0, none⟩) n cap) n (flR xs)) : ∀ j u, (flR xs)[j]? = some u → W.cell? ((⟨g, 0, none⟩ : Addr).add j) = some u := by
  intro j u hu
  rw [addr_add, Nat.zero_add, (Row.own h).cell (List.getElem?_eq_some_iff.1 hu).1, hu]
theorem own_new (w : World) (xs : List Rr) (n : Nat) (hn : xs.length = n) (h2 : n ≤ maxLen) : (w.alloc (.cells (flR xs).toArray 184)).ownsRow w.heap.size 184 7 (.slice (some ⟨w.heap.size, 0, none⟩) n n) n (flR xs) :=
  ⟨by rw [flR_len, hn], .inr ⟨w.heap.size, n, (flR xs).toArray, rfl, Nat.le_refl _, World.alloc_heap_new w _, Nat.le_refl _, h2, by rw [List.size_toArray, flR_len, hn], by rw [List.take_of_length_le]; rw [flR_len, hn]; exact Nat.le_refl _⟩⟩
theorem bits7_len : (bitRows 7).length = 7 := bitRows_len 7
set_option maxRecDepth 100000 in
set_option maxHeartbeats 4000000 in
theorem dist_any (w : World) : Calls Tryz.prog 127 #[] w (Rowed w 12 distRows) := by
  obtain ⟨i0, hi2, hz0, hz1, hz2⟩ := info_parts info_rr
  have CB0 := hi (fun W => bits_any W)
  have HA := hi (own_new w rowsA 2 rfl (by unfold maxLen; omega))
  have HBA := hi (bal w (.cells (flR rowsA).toArray 184))
  have HFA : (flR rowsA).toArray = #[.int .i64 0, .int .i64 4, .int .i64 4, .int .i64 1, .int .i64 0, .int .i64 0, .int .i64 1, .int .i64 4, .int .i64 8, .int .i64 4, .int .i64 2, .int .i64 0, .int .i64 0, .int .i64 1] := rfl
  rw [HFA] at HA HBA
  clear HFA
  go_enter Tryz.func127, Tryz.ntmps127
  go_wp2_with (first
    | (go_at_call 130; ((with_reducible refine (CB0.out _).mono ?_); rintro e w2 ⟨v7, rfl, ho7, hb7⟩; obtain ⟨g7, c7, rfl⟩ := ownsRow_succ ho7; have HO7 := hi ho7; have HA2 := hi (own_later HA.out hb7); have HB2 := hi (HBA.out.trans (hb7.mono HBA.out.size)); clear ho7 hb7))
    | (at_builtin; refine wpList_append_own _ rfl _ _ 147 rfl w.heap.size 184 i0 (.agg #[.int .i64 0, .int .i64 0, .int .i64 0, .int .i64 0, .int .i64 0, .int .i64 0, .int .i64 0]) 7 56 Tryz.underlying147 hi2 hz0 hz1 hz2 rfl (by decide) _ _ _ rfl HA2.out ⟨g7, 0, none⟩ 7 c7 (flR (bitRows 7)) rfl (by rw [flR_len, bits7_len]) (own_cells HO7.out) (flR_one _) (by unfold maxLen; omega) (by omega) HB2.out.size ?_; intro v' w9 hown' hgrow _; obtain ⟨g9, c9, rfl⟩ := ownsRow_succ hown'; have HO9 := hi hown'; have HB9 := hi (HB2.out.grown hgrow HB2.out.size (fun j e => by cases e; exact Nat.le_refl _)); clear hown' hgrow)
    | (at_builtin; refine wpList_append_own _ rfl _ _ 147 rfl w.heap.size 184 i0 (.agg #[.int .i64 0, .int .i64 0, .int .i64 0, .int .i64 0, .int .i64 0, .int .i64 0, .int .i64 0]) 7 56 Tryz.underlying147 hi2 hz0 hz1 hz2 rfl (by decide) _ _ _ rfl (HO9.out.alloc _) ⟨w9.heap.size, 0, none⟩ 3 3 (flR rowsB) rfl rfl (cells_new _ _ _) (flR_one _) (by unfold maxLen; omega) (by omega) (by have := HB9.out.size; simp; omega) ?_; intro v'' w8 hown8 hgrow8 _; have HO8 := hi hown8; have HB8 := hi ((HB9.out.alloc HB9.out.size _).grown hgrow8 (by have := HB9.out.size; simp; omega) (fun j e => (HO9.out.lt j e).1)); clear hown8 hgrow8))
  go_ret
  refine ⟨_, rfl, ?_, HB8.out⟩
  have h8 := HO8.out
  rw [show flR distRows = (flR rowsA ++ flR (bitRows 7)) ++ flR rowsB by rw [distRows, flR, flat_append, flat_append]]
  exact h8
end Go.Proofs.YtggeakkofcaklaaGreat
namespace Go.Proofs.YtggeakkofcaklaaGreat
open Go.ChangeShapes Go.WideShapes Go.ChangeAt Go.RowKit Go.Shelf
set_option linter.unusedVariables false
def Pl.zero : Pl := ⟨0, 0, 0⟩
def meets (x : Rr) (off wd : Int) : Bool := decide (off < x.to) && decide (x.fr < off + wd)
def placeV (x : Rr) (off wd : Int) : Pl := ⟨x.r, x.f + (off - x.fr) / x.p * x.o, wd / x.p * x.o⟩
def goV (off wd : Int) : List Rr → Pl × Int
  | [] => (Pl.zero, 0)
  | x :: xs => if meets x off wd then (if wd = x.wd then (placeV x off wd, 0) else (Pl.zero, 40)) else goV off wd xs
def findV (rows : List Rr) (size off wd : Int) : Pl × Int :=
  if wd ≠ 4 ∧ wd ≠ 8 then (Pl.zero, 40) else if off.tmod wd ≠ 0 then (Pl.zero, 41) else if off < 0 ∨ size - wd < off then (Pl.zero, 42) else goV off wd rows
def rowOk2 (x : Rr) : Bool := decide (0 ≤ x.fr) && (decide (x.fr < x.to) && (decide (x.to ≤ 200000) && (decide (0 ≤ x.o) && (decide (x.o ≤ 32) && (decide (0 ≤ x.f) && (decide (x.f ≤ 64) && ((x.wd == 4 && (x.p == 1 && decide (x.fr % 4 = 0))) || (x.wd == 8 && ((x.p == 8 || x.p == 1) && decide (x.fr % 8 = 0))))))))))
def nthR (xs : List Rr) (k : Nat) : Rr := xs[k]?.getD default
theorem nthR_at {xs : List Rr} {k : Nat} (h : k < xs.length) : xs[k]? = some (nthR xs k) := by simp [nthR, List.getElem?_eq_getElem h]
theorem drop_nth {xs : List Rr} {k : Nat} (h : k < xs.length) : xs.drop k = nthR xs k :: xs.drop (k + 1) := by
  rw [List.drop_eq_getElem_cons h]
  simp [nthR, h]
theorem nth_ok2 {xs : List Rr} (h : xs.all rowOk2 = true) {k : Nat} (hk : k < xs.length) : rowOk2 (nthR xs k) = true := List.all_eq_true.1 h _ (List.mem_of_getElem? (nthR_at hk))
def NoByte (x : Rr) (off : Int) (d : Nat) : Prop := ∀ e : Nat, e < d → ¬ (x.fr ≤ off + e ∧ off + (e : Int) < x.to)
theorem NoByte.zero (x : Rr) (off : Int) : NoByte x off 0 := fun e h => by omega
theorem NoByte.succ {x : Rr} {off : Int} {d : Nat} (h : NoByte x off d) (hn : ¬ (x.fr ≤ off + d ∧ off + (d : Int) < x.to)) : NoByte x off (d + 1) := fun e he => by
  by_cases y : e = d
  · subst y; exact hn
  · exact h e (by omega)
theorem NoByte.meets {x : Rr} {off : Int} {d : Nat} (h : NoByte x off d) (hx : x.fr < x.to) (hd : 0 < d) : meets x off d = false := by
  simp only [Go.Proofs.YtggeakkofcaklaaGreat.meets, Bool.and_eq_false_iff, decide_eq_false_iff_not]
  by_cases h1 : off < x.to
  · right
    intro h2
    have h3 := h (max off x.fr - off).toNat (by omega)
    omega
  · exact .inl h1
theorem meets_at {x : Rr} {off : Int} {d w : Nat} (h1 : x.fr ≤ off + d) (h2 : off + (d : Int) < x.to) (h3 : d < w) : meets x off w = true := by
  simp only [Go.Proofs.YtggeakkofcaklaaGreat.meets, Bool.and_eq_true, decide_eq_true_eq]
  omega
theorem goV_no {x : Rr} {off wd : Int} {xs : List Rr} (h : meets x off wd = false) : goV off wd (x :: xs) = goV off wd xs := by rw [goV, h]; rfl
theorem goV_yes {x : Rr} {off wd : Int} {xs : List Rr} (h : meets x off wd = true) (hw : wd = x.wd) : goV off wd (x :: xs) = (placeV x off wd, 0) := by rw [goV, if_pos h, if_pos hw]
theorem goV_bad {x : Rr} {off wd : Int} {xs : List Rr} (h : meets x off wd = true) (hw : wd ≠ x.wd) : goV off wd (x :: xs) = (Pl.zero, 40) := by rw [goV, if_pos h, if_neg hw]
structure RrC (W : World) (g o : Nat) (x : Rr) : Prop where
  c0 : W.cell? ⟨g, o, none⟩ = some (.int .i64 x.fr)
  c1 : W.cell? ⟨g, o + 1, none⟩ = some (.int .i64 x.to)
  c2 : W.cell? ⟨g, o + 2, none⟩ = some (.int .i64 x.wd)
  c3 : W.cell? ⟨g, o + 3, none⟩ = some (.int .i64 x.r)
  c4 : W.cell? ⟨g, o + 4, none⟩ = some (.int .i64 x.f)
  c5 : W.cell? ⟨g, o + 5, none⟩ = some (.int .i64 x.o)
  c6 : W.cell? ⟨g, o + 6, none⟩ = some (.int .i64 x.p)
theorem Row.rrc {W : World} {g : Nat} {t : TypeId} {xs : List Rr} (h : Row W g t (flR xs)) {k : Nat} {x : Rr} (hk : xs[k]? = some x) : RrC W g (k * 7) x := by
  have hl : k < xs.length := (List.getElem?_eq_some_iff.1 hk).1
  have K : ∀ c u, c < 7 → x.cs[c]? = some u → W.cell? ⟨g, k * 7 + c, none⟩ = some u := fun c u hc hu => by
    rw [h.cell (by rw [flR_len]; omega), flat_get rr_len xs k c x hc hk, hu]
  exact ⟨K 0 _ (by decide) rfl, K 1 _ (by decide) rfl, K 2 _ (by decide) rfl, K 3 _ (by decide) rfl, K 4 _ (by decide) rfl, K 5 _ (by decide) rfl, K 6 _ (by decide) rfl⟩
theorem CB.rrc {W : World} {B : Nat} {t : TypeId} {x : Rr} (h : CB W B t x.ca) : RrC W B 0 x := ⟨h.cell 0, h.cell 1, h.cell 2, h.cell 3, h.cell 4, h.cell 5, h.cell 6⟩
theorem results_pl {fn : Func} {c t : Tmp} (h : fn.results = #[.cell c 70, .tmp t]) (tmps : Array Value) (w : World) (b : Nat) (x : Pl) (v : Value) (hp : tmps.getD c undef = .pointer (some ⟨b, 0, none⟩)) (ht : tmps.getD t undef = v)
    (hb : CB w b 70 x.cs) : (results fn tmps).run Tryz.prog w = .ok (.tuple #[x.v, v]) w := by
  have hp' : tmps[c]?.getD undef = .pointer (some ⟨b, 0, none⟩) := by simpa using hp
  have ht' : tmps[t]?.getD undef = v := by simpa using ht
  have c0 := hb.cell 0
  have c1 := hb.cell 1
  have c2 := hb.cell 2
  simp at c0 c1 c2
  simp [results, h, go_sem, hp', ht', c0, c1, c2]
theorem CB.put3 {W : World} {B : Nat} {t : TypeId} {a0 a1 a2 : Value} (h : CB W B t #[a0, a1, a2]) (v0 v1 v2 : Value) : CB (((W.setCell ⟨B, 0, none⟩ v0).setCell ⟨B, 1, none⟩ v1).setCell ⟨B, 2, none⟩ v2) B t #[v0, v1, v2] := by
  have := ((h.set 0 v0).set 1 v1).set 2 v2
  simpa only [List.setIfInBounds_toArray, List.set_cons_zero, List.set_cons_succ] using this
theorem CB.set3m {W : World} {B : Nat} {t : TypeId} {a0 a1 a2 : Value} (h : CB W B t #[a0, a1, a2]) (v1 : Value) : CB (W.setCell ⟨B, 1, none⟩ v1) B t #[a0, v1, a2] := by
  have := h.set 1 v1
  simpa only [List.setIfInBounds_toArray, List.set_cons_zero, List.set_cons_succ] using this
theorem below_put3 {n : Nat} {w W : World} (h : Below n w W) {B : Nat} (hb : n ≤ B) (v0 v1 v2 : Value) : Below n w (((W.setCell ⟨B, 0, none⟩ v0).setCell ⟨B, 1, none⟩ v1).setCell ⟨B, 2, none⟩ v2) := below_set (below_set (below_set h hb _) hb _) hb _
structure FA (w : World) (g : Nat) (xs : List Rr) (W : World) : Prop where
  z : CB W w.heap.size 70 #[.int .i64 0, .int .i64 0, .int .i64 0]
  row : Row W g 184 (flR xs)
  below : Below w.heap.size w W
theorem FA.later {w W W' : World} {g : Nat} {xs : List Rr} (h : FA w g xs W) (k : Below W.heap.size W W') : FA w g xs W' := ⟨h.z.below k, h.row.below k, h.below.trans (k.mono h.below.size)⟩
structure FZ (w W : World) : Prop where
  z : CB W w.heap.size 70 #[.int .i64 0, .int .i64 0, .int .i64 0]
  below : Below w.heap.size w W
theorem FZ.later {w W W' : World} (h : FZ w W) (k : Below W.heap.size W W') : FZ w W' := ⟨h.z.below k, h.below.trans (k.mono h.below.size)⟩
theorem FZ.drew {w W : World} (h : FZ w W) : FZ w W.drew := ⟨h.z, Below.drewN (m := 1) h.below⟩
theorem FZ.set1 {w W : World} (h : FZ w W) {N o : Nat} (hN : w.heap.size < N) (v : Value) : FZ w (W.setCell ⟨N, o, none⟩ v) := ⟨h.z.other _ _ _ (by omega), below_set h.below (by omega) _⟩
theorem FZ.put3 {w W : World} (h : FZ w W) {N : Nat} (hN : w.heap.size < N) (v0 v1 v2 : Value) : FZ w (((W.setCell ⟨N, 0, none⟩ v0).setCell ⟨N, 1, none⟩ v1).setCell ⟨N, 2, none⟩ v2) := ((h.set1 hN v0).set1 hN v1).set1 hN v2
theorem CB.other3 {W : World} {B : Nat} {t : TypeId} {cs : Array Value} (h : CB W B t cs) {N : Nat} (hn : B ≠ N) (v0 v1 v2 : Value) : CB (((W.setCell ⟨N, 0, none⟩ v0).setCell ⟨N, 1, none⟩ v1).setCell ⟨N, 2, none⟩ v2) B t cs := ((h.other N _ _ hn).other N _ _ hn).other N _ _ hn
theorem FA.fz {w W : World} {g : Nat} {xs : List Rr} (h : FA w g xs W) : FZ w W := ⟨h.z, h.below⟩
def Finds (w : World) (r : Pl × Int) (e : Ending) (w' : World) : Prop := e = .returned (.tuple #[r.1.v, .int .i64 r.2]) ∧ Below w.heap.size w w'
end Go.Proofs.YtggeakkofcaklaaGreat
