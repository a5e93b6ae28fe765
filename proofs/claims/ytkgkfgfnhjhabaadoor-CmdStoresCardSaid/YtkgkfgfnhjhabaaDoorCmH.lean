/-
  Package cmd: Print at every call.
-/
import Derived.Test.YtkgkfgfnhjhabaaDoorCmG
import Derived.Test.YtkgkfgfnhjhabaaDoorShf
import Derived.Lib.AppendIntMem
import Derived.Lib.LaidTab
import Derived.Lib.ItoaLen
namespace Go.Proofs.YtkgkfgfnhjhabaaDoor
open Go.ChangeShapes Go.WideShapes Go.ChangeAt Go.RowKit Go.Shelf
set_option linter.unusedVariables false
set_option linter.unusedSimpArgs false
attribute [local go_sem] Oper.semAt_some

/-- The table of the powers of ten lies as the program's text lays it. -/
def TabW (w : World) : Prop := Lib.TabIs Tryd.prog w "internal/strconv.uint64pow10" .u64 Lib.pow10Tab
theorem TabW.below {w w' : World} (h : TabW w) (k : Below w.heap.size w w') : TabW w' := by
  unfold TabW Lib.TabIs World.var? at *
  cases hg : Tryd.prog.globalNamed "internal/strconv.uint64pow10" with
  | none => simp [hg] at h
  | some g =>
    simp only [hg, Option.bind_some] at h ⊢
    have hlt : g < w.heap.size := by
      rcases Nat.lt_or_ge g w.heap.size with h' | h'
      · exact h'
      · rw [Array.getElem?_eq_none h'] at h; simp at h
    rw [k.block g hlt]
    exact h
theorem itoa_any (n : Int) (h : i64B n) (w : World) (hT : TabW w) : Calls Tryd.prog 51 #[.int .i64 n] w fun e w' => e = .returned (.string ⟨(Lib.itoa n).toArray⟩) ∧ Below w.heap.size w w' :=
  (Tryd.strconv_Itoa n h.1 h.2 w hT).mono fun e w' ⟨he, k, os, hw⟩ => ⟨he, by rw [hw]; exact Lib.below_grow _ _ (Nat.le_refl _) k os⟩

theorem ba_append (a b : List UInt8) : (⟨a.toArray⟩ : ByteArray) ++ ⟨b.toArray⟩ = ⟨(a ++ b).toArray⟩ := by
  apply ByteArray.ext
  simp
/-- What Print keeps through its loop. -/
structure PrI (w : World) (m g : Nat) (ow : Ns) (tx : ByteArray) (V : World) : Prop where
  t : CB V m 9 #[.string tx]
  n : CB V g 73 (Ns.cs ow)
  tab : TabW V
  below : Below w.heap.size w V
theorem PrI.later {w : World} {m g : Nat} {ow : Ns} {tx : ByteArray} {V V' : World} (h : PrI w m g ow tx V) (k : Below V.heap.size V V') : PrI w m g ow tx V' := ⟨h.t.below k, h.n.below k, h.tab.below k, h.below.trans (k.mono h.below.size)⟩
theorem PrI.held {w : World} {m g : Nat} {ow : Ns} {tx : ByteArray} {V : World} {x : Nat} (hx : x < 9) (h : PrI w m g ow tx V) : V.cell? ⟨m, 0, none⟩ = some (.string tx) ∧ V.cell? ⟨g, x, none⟩ = some (.int .i64 (ow x)) ∧ PrI w m g ow tx V := ⟨h.t.cell 0, h.n.ns hx, h⟩
theorem PrI.of {w : World} {m g : Nat} {ow : Ns} {tx : ByteArray} {V : World} (h0 : TabW w) (h1 : CB V m 9 #[.string tx]) (h2 : CB V g 73 (Ns.cs ow)) (h3 : Below w.heap.size w V) : PrI w m g ow tx V := ⟨h1, h2, h0.below h3, h3⟩
theorem PrI.abl {w : World} {m g B : Nat} {ow : Ns} {tx : List Nat → ByteArray} (h0 : TabW w) (hm : m < B) (hg' : g < B) (hw : w.heap.size ≤ B) : AbL B 0 (fun pre V => PrI w m g ow (tx pre) V) := fun s A A' row h hg hr => by
  have ne : ∀ b, b < B → some b ≠ row := fun b hb e => by rcases hr b e.symm with ⟨h1, _⟩ | ⟨h1, h2⟩ <;> omega
  exact PrI.of h0 (h.t.kept hg (ne _ (by omega))) (h.n.kept hg (ne _ (by omega))) (h.below.grown hg h.below.size (fun r e => by rcases hr r e with ⟨h1, _⟩ | ⟨h1, h2⟩ <;> omega))
theorem results_tt {fn : Func} {t u : Tmp} (h : fn.results = #[.tmp t, .tmp u]) (tmps : Array Value) (w : World) : (results fn tmps).run Tryd.prog w = .ok (.tuple #[tmps.getD t undef, tmps.getD u undef]) w := by
  simp [results, h, go_sem]

theorem text_len {n : Ns} : ∀ (L : List Nat) (name : List UInt8), (∀ f ∈ L, i64B (n f)) → (textN name n L).length ≤ name.length + 22 * L.length
  | [], name, _ => by simp [textN]
  | x :: L, name, h => by
    have h1 := text_len L (name ++ (32 :: Lib.itoa (n x))) (fun f hf => h f (List.mem_cons_of_mem _ hf))
    have h2 := Lib.itoa_length_le (n x) (h x List.mem_cons_self).1 (h x List.mem_cons_self).2
    simp only [textN, List.foldl_cons] at h1 ⊢
    simp only [List.length_append, List.length_cons] at h1 ⊢
    omega
theorem fieldsL_len (op : Int) : (fieldsL op).length ≤ 4 := by
  cases hk : known op
  · rw [fieldsL_no hk]; simp
  · rcases known_cases hk with rfl | rfl | rfl | rfl | rfl | rfl | rfl | rfl | rfl | rfl | rfl | rfl <;> decide
theorem nameL_len (op : Int) : (nameL op).length ≤ 7 := by
  cases hk : known op
  · rw [nameL_no hk]; simp
  · rcases known_cases hk with rfl | rfl | rfl | rfl | rfl | rfl | rfl | rfl | rfl | rfl | rfl | rfl <;> decide
theorem size_of (l : List UInt8) : (⟨l.toArray⟩ : ByteArray).size = l.length := by simp [ByteArray.size]
theorem fits_i64 {f : Nat} (hf : f < 9) {n : Int} (h : fits f n = true) : i64B n := by
  have h1 := fits_iff.1 h
  have : f = 0 ∨ f = 1 ∨ f = 2 ∨ f = 3 ∨ f = 4 ∨ f = 5 ∨ f = 6 ∨ f = 7 ∨ f = 8 := by omega
  have h2 : pr f ≤ 1099511627776 := by rcases this with rfl | rfl | rfl | rfl | rfl | rfl | rfl | rfl | rfl <;> decide
  constructor <;> omega

def txB (c : Cm) : ByteArray := if validC c = true then ⟨(textC c).toArray⟩ else ⟨#[]⟩
set_option maxRecDepth 100000 in
set_option maxHeartbeats 4000000 in
theorem print_any (c : Cm) (hc : i64B c.addr) (w : World) (hT : TabW w) : Calls Tryd.prog 26 #[c.v] w fun e w' => e = .returned (.tuple #[.string (txB c), .int .i64 (errN (validC c))]) ∧ Below w.heap.size w w' := by
  have HSP := hi (fun W => split_any c hc W)
  have HAL := hi (fun W => all_any (kop c.op) (nmB c.op) (hasN c.op) W)
  have HV := hi (fun h : validC c = true => validC_fits h)
  have HE := hi (show txB c = if validC c = true then (⟨(textC c).toArray⟩ : ByteArray) else ⟨#[]⟩ from rfl)
  obtain ⟨nums, hn⟩ : ∃ n, numC c = n := ⟨_, rfl⟩
  obtain ⟨vd, hvd⟩ : ∃ vd, validC c = vd := ⟨_, rfl⟩
  unfold textC at HE
  rw [hn] at HSP HV HE
  rw [hvd] at HSP HV HE ⊢
  obtain ⟨en, hen⟩ : ∃ en, txB c = en := ⟨_, rfl⟩
  rw [hen] at HE ⊢
  have HTW := hi hT
  clear hn hvd hen hc hT
  obtain ⟨op, dev, ev, num, coll, tgt, bit, addr, valid⟩ := c
  dsimp only [Cm.v] at HSP HAL HV HE ⊢
  obtain ⟨o, ho⟩ : ∃ o, kop op = o := ⟨_, rfl⟩
  obtain ⟨nm, hnm⟩ : ∃ nm, nmB op = nm := ⟨_, rfl⟩
  obtain ⟨hs, hhs⟩ : ∃ hs, hasN op = hs := ⟨_, rfl⟩
  rw [ho, hnm, hhs] at HSP HAL
  have HO := hi (And.intro ho (And.intro hnm hhs))
  obtain ⟨ow, how⟩ : ∃ ow, ownF nums (fieldsL op) = ow := ⟨_, rfl⟩
  rw [how] at HSP
  have HOW := hi how
  clear ho hnm hhs how
  cases vd
  · have he : en = ⟨#[]⟩ := by have := HE.out; simpa using this
    subst he
    clear HV HE HOW HO HAL
    go_enter Tryd.func26, Tryd.ntmps26
    go_wp2_with (first
      | (go_at_call 30; ((with_reducible refine (HSP.out _).mono ?_); rintro e w1 ⟨rfl, hb1⟩; have HB1 := hi ((bal w _).trans (hb1.mono (by simp))); clear hb1)))
    exact bodyPost_ret (results_tt rfl _ _) rfl ⟨rfl, (HB1.out.alloc HB1.out.size _).alloc (by have := HB1.out.size; simp; omega) _⟩
  · have HF := hi (HV.out rfl)
    have HEN := hi (show en = ⟨(textN (nameL op) nums (fieldsL op)).toArray⟩ by have := HE.out; rwa [if_pos rfl] at this)
    clear HV HE
    obtain ⟨L, hL⟩ : ∃ L, fieldsL op = L := ⟨_, rfl⟩
    rw [hL] at HOW HF HEN
    have HL := hi hL
    clear hL
    refine (callsIn_wide (n := 6)).1 ?_
    refine callsIn_of_wp_marks Tryd.func26 rfl trivial ?_ rfl
    simp only [Tryd.ntmps26, List.size_toArray, List.length_cons, List.length_nil, Nat.reduceAdd, Nat.reduceSub, Array.replicate_succ, Array.replicate_zero, List.push_toArray, List.append_toArray, List.nil_append, List.cons_append]
    refine wpIn_wide.2 ?_
    go_wp2_with (first
      | (go_at_call 30; ((with_reducible refine (HSP.out _).mono ?_); rintro e w1 ⟨rfl, hb1⟩; have HB1 := hi ((bal w _).trans (hb1.mono (by simp))); have hlt : w.heap.size < w1.heap.size := ((CB.new w 24 (Cm.cs ⟨op, dev, ev, num, coll, tgt, bit, addr, valid⟩)).below hb1).lt; clear hb1))
      | (go_at_call 31; ((with_reducible refine (HAL.out _).mono ?_); rintro e w3 ⟨rfl, rfl⟩)))
    obtain ⟨W3, hW3⟩ : ∃ W3, (((w1.alloc (.cells (Kd.cs o nm hs) 71)).alloc (.cells (Ns.cs ow) 73)).alloc (.cells #[.string nm] 9)).alloc (.cells (Kd.cs o nm hs) 71) = W3 := ⟨_, rfl⟩
    have hz3 : W3.heap.size = w1.heap.size + 4 := by rw [← hW3]; simp
    have H3 : PrI w (w1.heap.size + 1 + 1) (w1.heap.size + 1) ow nm W3 ∧ CB W3 (w1.heap.size + 1 + 1 + 1) 71 (Kd.cs o nm hs) := by
      rw [← hW3]
      have b3 := (bal_three w1 (.cells (Kd.cs o nm hs) 71) (.cells (Ns.cs ow) 73) (.cells #[.string nm] 9)).alloc (by simp; omega) (.cells (Kd.cs o nm hs) 71)
      refine ⟨PrI.of HTW.out (cb_third.alloc _) ((cb_second.alloc _).alloc _) (HB1.out.trans (b3.mono HB1.out.size)), ?_⟩
      have := CB.new (((w1.alloc (.cells (Kd.cs o nm hs) 71)).alloc (.cells (Ns.cs ow) 73)).alloc (.cells #[.string nm] 9)) 71 (Kd.cs o nm hs)
      rwa [World.size_alloc, World.size_alloc, World.size_alloc] at this
    have HW3 := hi hW3
    clear hW3
    change Code.wp _ _ _ _ ((((w1.alloc (.cells (Kd.cs o nm hs) 71)).alloc (.cells (Ns.cs ow) 73)).alloc (.cells #[.string nm] 9)).alloc (.cells (Kd.cs o nm hs) 71))
    rw [HW3.out]
    have hst := all_stops (w1.heap.size + 1 + 1 + 1) op W3 (by have := H3.2; unfold kdBox; rw [HO.out.1, HO.out.2.1, HO.out.2.2]; exact this)
    have H3 := hi H3.1
    rw [HL.out] at hst
    have HL9 := hi (fun x (hx : x ∈ L) => fieldsL_lt op x (by rw [HL.out]; exact hx))
    refine (wpIn_wide (n := 6)).1 ?_
    refine range_win (n := 6) (by omega) (gf := 60) (lb := #[.pointer (some ⟨w1.heap.size + 1 + 1 + 1, 0, none⟩)]) rfl (enters_of Tryd.func60 (by kernel_rfl) rfl)
      hst (fun a b => Stays.trans a b) (fun W l o o' h1 h2 h3 h4 => stays_put (by omega)) (Below.refl _ _) (fun _ => rfl)
      (fun pre V => PrI w (w1.heap.size + 1 + 1) (w1.heap.size + 1) ow ⟨(textN (nameL op) nums pre).toArray⟩ V)
      (fun cd pre V => False)
      (PrI.abl HTW.out (by omega) (by omega) (by omega))
      (fun _ _ _ _ _ hs _ _ => hs)
      (show PrI w (w1.heap.size + 1 + 1) (w1.heap.size + 1) ow (nmB op) W3 by rw [HO.out.2.1]; exact H3.out)
      (fun x a' V => a' = { tmps := #[.agg #[.int .i64 op, .int .i64 dev, .int .i64 ev, .int .i64 num, .int .i64 coll, .int .i64 tgt, .int .i64 bit, .int .i64 addr, .bool valid], .pointer (some ⟨w.heap.size, 0, none⟩), .string ⟨#[]⟩, .int .i64 0, .pointer (some ⟨w1.heap.size, 0, none⟩), .pointer (some ⟨w1.heap.size + 1, 0, none⟩), .bool true, .pointer (some ⟨w1.heap.size + 1 + 1, 0, none⟩), .int .i64 x, .tuple #[Kd.v o nm hs, Nv ow, .bool true], .agg #[.int .i64 op, .int .i64 dev, .int .i64 ev, .int .i64 num, .int .i64 coll, .int .i64 tgt, .int .i64 bit, .int .i64 addr, .bool valid], .tuple #[Kd.v o nm hs, Nv ow, .bool true], Kd.v o nm hs, Nv ow, .bool true, .bool true, .bool false, .pointer (some ⟨w1.heap.size, 1, none⟩), .string nm, .agg #[.int .i64 o, .string nm, .int .i64 hs], .func (.func 60) #[] #[.pointer (some ⟨w1.heap.size + 1 + 1 + 1, 0, none⟩)], .int .i64 x, undef, undef, undef, undef, undef, undef, undef, undef], defers := [] })
      (fun x a' => AbL.pure _ _ _)
      ?assign ?body ?done ?stop
    case assign =>
      rintro l' pre x V K h hsz hK
      rw [zip_one]
      gi_wp2
      exact hK _ _ (KW.refl _ _) (Stays.refl _ _ _) h rfl
    case body =>
      rintro l' pre x a' V hsz hI rfl hpx
      have hxL : x ∈ L := hpx.subset (by simp)
      have hx9 : x < 9 := HL9.out x hxL
      have hfx := fits_iff.1 (HF.out x hxL)
      have hox : ow x = nums x := by rw [← HOW.out]; simp [ownF, hxL]
      have hi64 := fits_i64 hx9 (HF.out x hxL)
      have HIT := hi (fun W hW => itoa_any (ow x) (by rw [hox]; exact hi64) W hW)
      have hs1 := Lib.itoa_length_le (nums x) hi64.1 hi64.2
      have hs2 := text_len (n := nums) pre (nameL op) (fun f hf => fits_i64 (HL9.out f (hpx.subset (by simp [hf]))) (HF.out f (hpx.subset (by simp [hf]))))
      have hs3 := nameL_len op
      have hs4 : pre.length ≤ 4 := by
        have h1 := hpx.length_le
        have h2 := fieldsL_len op
        rw [HL.out] at h2
        simp at h1
        omega
      obtain ⟨tx, htx⟩ : ∃ tx : ByteArray, ⟨(textN (nameL op) nums pre).toArray⟩ = tx := ⟨_, rfl⟩
      have HNX := hi (show (⟨(textN (nameL op) nums (pre ++ [x])).toArray⟩ : ByteArray) = tx ++ (⟨#[32]⟩ ++ ⟨(Lib.itoa (ow x)).toArray⟩) by
        rw [← htx, hox, textN_snoc]
        have e : (⟨#[32]⟩ : ByteArray) = ⟨[(32 : UInt8)].toArray⟩ := rfl
        rw [e, ba_append, ba_append]; rfl)
      rw [htx] at hI
      have HI := hi hI
      have HX := hi (And.intro hx9 (And.intro hfx hox))
      obtain ⟨it, hit⟩ : ∃ it : ByteArray, ⟨(Lib.itoa (ow x)).toArray⟩ = it := ⟨_, rfl⟩
      rw [hit] at HIT HNX
      have ns1 : ¬ 9223372036854775807 < 1 + it.size := by rw [← hit, size_of, hox]; omega
      have ns2 : ¬ 9223372036854775807 < tx.size + (1 + it.size) := by rw [← hit, ← htx, size_of, size_of, hox]; omega
      clear hI hpx hxL hx9 hfx hox htx hit hi64 hs1 hs2 hs3 hs4
      have hwz : w1.heap.size + 1 + 1 < V.heap.size := by omega
      have x1 : (x : Int) < 9 := by have := HX.out.1; omega
      gi_wp2
      refine region_last_r (S := (fun w' => w'.cell? ⟨w1.heap.size + 1 + 1, 0, none⟩ = some (.string tx) ∧ w'.cell? ⟨w1.heap.size + 1, x, none⟩ = some (.int .i64 (ow x)) ∧ PrI w (w1.heap.size + 1 + 1) (w1.heap.size + 1) ow tx w')) [7] (by kernel_rfl) (by rfl) (PrI.held HX.out.1 (HI.out.later (below_drew V))) (fun hHeld => ?_)
      (try simp only [Array.replicate_succ, Array.replicate_zero, List.push_toArray, List.nil_append, List.cons_append])
      refine wpAnyF_take (i := 0) (v := ?_) (by kernel_rfl) (by kernel_rfl) rfl (by kernel_rfl) (by kernel_rfl) (by kernel_rfl) (fun _ _ _ h => h) (Or.inl ⟨by rfl, ?_⟩) (by assumption) ?_
      rotate_left
      · intro w' hSw; (try dsimp only at hSw); obtain ⟨tc, nc, jj⟩ := hSw; clear jj; go_simp; (try with_reducible rfl)
      (try simp only [Act.put, List.getElem_toArray, List.getElem_cons_zero, List.getElem_cons_succ, List.setIfInBounds_toArray, List.set_cons_zero, List.set_cons_succ])
      refine wpAnyF_take (i := 1) (v := ?_) (by kernel_rfl) (by kernel_rfl) rfl (by kernel_rfl) (by kernel_rfl) (by kernel_rfl) (fun _ _ _ h => h) (Or.inl ⟨by rfl, ?_⟩) (by assumption) ?_
      rotate_left
      · intro w' hSw; (try dsimp only at hSw); go_simp; (try with_reducible rfl)
      (try simp only [Act.put, List.getElem_toArray, List.getElem_cons_zero, List.getElem_cons_succ, List.setIfInBounds_toArray, List.set_cons_zero, List.set_cons_succ])
      refine wpAnyF_take (i := 2) (v := ?_) (by kernel_rfl) (by kernel_rfl) rfl (by kernel_rfl) (by kernel_rfl) (by kernel_rfl) (fun _ _ _ h => h) (Or.inl ⟨by rfl, ?_⟩) (by assumption) ?_
      rotate_left
      · intro w' hSw; (try dsimp only at hSw); go_simp; (try with_reducible rfl)
      (try simp only [Act.put, List.getElem_toArray, List.getElem_cons_zero, List.getElem_cons_succ, List.setIfInBounds_toArray, List.set_cons_zero, List.set_cons_succ])
      refine wpAnyF_take (i := 3) (v := ?_) (by kernel_rfl) (by kernel_rfl) rfl (by kernel_rfl) (by kernel_rfl) (by kernel_rfl) (fun _ _ _ h => h) (Or.inl ⟨by rfl, ?_⟩) (by assumption) ?_
      rotate_left
      · intro w' hSw; (try dsimp only at hSw); obtain ⟨tc, nc, jj⟩ := hSw; clear jj; go_simp; (try with_reducible rfl)
      (try simp only [Act.put, List.getElem_toArray, List.getElem_cons_zero, List.getElem_cons_succ, List.setIfInBounds_toArray, List.set_cons_zero, List.set_cons_succ])
      refine wpAnyF_ready (rs := [4]) (by kernel_rfl) (by simp) ?_
      refine AllReadyF.cons rfl (fun KK hKK => ?_) AllReadyF.nil
      go_simp
      ((with_reducible refine (HIT.out _ hHeld.2.2.tab).mono ?_); rintro e' w5 ⟨rfl, hb5⟩; have HB5 := hi hb5; have hH5 := PrI.held (ow := ow) HX.out.1 (hHeld.2.2.later hb5); clear hb5)
      (try go_simp)
      refine hKK.out _ _ hH5 (fun hHeld => ?_)
      clear hKK KK
      (try simp only [Act.put, List.getElem_toArray, List.getElem_cons_zero, List.getElem_cons_succ, List.setIfInBounds_toArray, List.set_cons_zero, List.set_cons_succ])
      refine wpAnyF_take (i := 5) (v := ?_) (by kernel_rfl) (by kernel_rfl) rfl (by kernel_rfl) (by kernel_rfl) (by kernel_rfl) (fun _ _ _ h => h) (Or.inl ⟨by rfl, ?_⟩) (by assumption) ?_
      rotate_left
      · intro w' hSw; (try dsimp only at hSw); go_simp; (try with_reducible rfl)
      (try simp only [Act.put, List.getElem_toArray, List.getElem_cons_zero, List.getElem_cons_succ, List.setIfInBounds_toArray, List.set_cons_zero, List.set_cons_succ])
      refine wpAnyF_take (i := 6) (v := ?_) (by kernel_rfl) (by kernel_rfl) rfl (by kernel_rfl) (by kernel_rfl) (by kernel_rfl) (fun _ _ _ h => h) (Or.inl ⟨by rfl, ?_⟩) (by assumption) ?_
      rotate_left
      · intro w' hSw; (try dsimp only at hSw); go_simp; (try with_reducible rfl)
      (try simp only [Act.put, List.getElem_toArray, List.getElem_cons_zero, List.getElem_cons_succ, List.setIfInBounds_toArray, List.set_cons_zero, List.set_cons_succ])
      refine wpAnyF_ready (rs := [7]) (by kernel_rfl) (by simp) ?_
      refine AllReadyF.last (by kernel_rfl) rfl (fun KK hKK => ?_) AllReadyF.nil
      have tc := hH5.1
      have tf := hH5.2.2.t.frozen
      go_simp
      refine hKK.out _ _ ?_
      clear hKK KK
      (try simp only [Act.put, List.getElem_toArray, List.getElem_cons_zero, List.getElem_cons_succ, List.setIfInBounds_toArray, List.set_cons_zero, List.set_cons_succ])
      refine wpAnyF_done (by kernel_rfl) ?_ _
      refine normQ_in ?_
      refine ⟨((kw_drew V).trans (KW.of_below HB5.out)).trans (KW.set _ _ _), ((stays_drew V).trans (Stays.below HB5.out (by show _ ≤ V.heap.size; omega))).trans (stays_set (by omega)), ?_⟩
      show PrI w (w1.heap.size + 1 + 1) (w1.heap.size + 1) ow ⟨(textN (nameL op) nums (pre ++ [x])).toArray⟩ _
      rw [HNX.out]
      exact PrI.of HTW.out (hH5.2.2.t.set 0 _) (hH5.2.2.n.other _ _ _ (by omega)) (below_set hH5.2.2.below (by omega) _)
    case done =>
      rintro ys V rfl hI hK hs2
      have q0 := hI.t.cell 0
      have HI := hi hI
      have HDM := hi hK
      have hEN := HEN.out
      obtain ⟨tx, htx⟩ : ∃ tx : ByteArray, ⟨(textN (nameL op) nums ys).toArray⟩ = tx := ⟨_, rfl⟩
      rw [htx] at q0 hEN
      subst hEN
      clear hK hI htx
      go_wp2
      refine ⟨by simp, .inl ⟨_, _, rfl, run_takeDeferred HDM.out, ?_⟩⟩
      exact ⟨_, results_tt rfl _ _, rfl, below_put HI.out.below _ HI.out.below.size (by omega)⟩
    case stop =>
      rintro cd pre V hpre h _ _
      exact h.elim

end Go.Proofs.YtkgkfgfnhjhabaaDoor
