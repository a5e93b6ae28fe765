/-
  Package queue: Wrong at every call.
-/
import Derived.Test.YtfnokpajendlmaaQuE
import Derived.Test.YtfnokpajendlmaaQuF
namespace Go.Proofs.Ytfnokpajendlmaa
open Go.ChangeShapes Go.WideShapes Go.ChangeAt Go.RowKit Go.Shelf
set_option linter.unusedVariables false
set_option linter.unusedSimpArgs false
attribute [local go_sem] Oper.semAt_some

def wrongN (L : List (Cm × Int)) : Nat := L.countP fun x => x.2 != 0
theorem wrongN_snoc (L : List (Cm × Int)) (x : Cm × Int) : wrongN (L ++ [x]) = wrongN L + (if (x.2 != 0) = true then 1 else 0) := by
  simp [wrongN, List.countP_append, List.countP_cons]
theorem wrongN_le (L : List (Cm × Int)) : wrongN L ≤ L.length := List.countP_le_length
theorem zip_two (i j : Nat) (u v : Value) (t : Array Value) : Array.foldl (fun t x => t.setIfInBounds x.fst x.snd) t ((#[i, j] : Array Nat).zip #[u, v]) = (t.setIfInBounds i u).setIfInBounds j v := by simp
theorem results_1 {fn : Func} {t : Tmp} (h : fn.results = #[.tmp t]) (tmps : Array Value) (w : World) : (results fn tmps).run Try.prog w = .ok (tmps.getD t undef) w := by
  simp [results, h, go_sem]
/-- What Wrong keeps. -/
structure WrI (w : World) (p g cap : Nat) (bs : List Nat) (q : Qu) (n : Nat) (V : World) : Prop where
  n : CB V (w.heap.size + 1) 3 #[.int .i64 n]
  q : CB V (w.heap.size + 1 + 1) 25 (Qu.cs q)
  m : CB V (w.heap.size + 1 + 1 + 1) 28 #[.pointer (some ⟨p, 0, none⟩)]
  mem : MemAt 73 V p g cap bs
  below : Below w.heap.size w V

set_option maxRecDepth 100000 in
set_option maxHeartbeats 4000000 in
theorem wrong_any (p g cap : Nat) (bs : List Nat) (q : Qu) (w : World) (hM : MemAt 73 w p g cap bs) (hF : q.Fair) :
    Calls Try.prog 17 #[q.v, .pointer (some ⟨p, 0, none⟩)] w fun e w' => e = .returned (.int .i64 (wrongN (eachL bs q))) ∧ Below w.heap.size w w' := by
  have HEQ := hi (fun V => eachq_any q p V)
  have hpl : p < w.heap.size := hM.plt
  have hgl : g < w.heap.size := hM.bytes.lt
  have HST := hi (fun (V : World) (hc : w.heap.size + 1 + 1 + 2 ≤ V.heap.size) b0 b1 hV => eachq_stops (w.heap.size + 1 + 1) p g cap bs q hF V hc b0 b1 hV)
  have hln := each_len bs q
  have hbd := lefN_bd q
  have H0 := hi (show WrI w p g cap bs q 0 ((((w.alloc (.cells (Qu.cs q) 25)).alloc (.cells #[.int .i64 0] 3)).alloc (.cells (Qu.cs q) 25)).alloc (.cells #[.pointer (some ⟨p, 0, none⟩)] 28)) from
    ⟨(cb_second.alloc _).alloc _, cb_third.alloc _, by have := CB.new (((w.alloc (.cells (Qu.cs q) 25)).alloc (.cells #[.int .i64 0] 3)).alloc (.cells (Qu.cs q) 25)) 28 #[.pointer (some ⟨p, 0, none⟩)]; simp only [World.size_alloc] at this; exact this, (((hM.below (bal _ _)).below (bal _ _)).below (bal _ _)).below (bal _ _), (bal_three w _ _ _).alloc (by simp <;> omega) _⟩)
  obtain ⟨E, hE⟩ : ∃ E, eachL bs q = E := ⟨_, rfl⟩
  rw [hE] at HST hln ⊢
  clear hE hF hM
  obtain ⟨a, s, r, v⟩ := q
  (try dsimp only at HEQ)
  (try dsimp only at H0)
  refine (callsIn_wide (n := 6)).1 ?_
  refine callsIn_of_wp_marks Try.func17 rfl trivial ?_ rfl
  simp only [Try.ntmps17, List.size_toArray, List.length_cons, List.length_nil, Nat.reduceAdd, Nat.reduceSub, Array.replicate_succ, Array.replicate_zero, List.push_toArray, List.append_toArray, List.nil_append, List.cons_append]
  refine wpIn_wide.2 ?_
  go_wp2_with (go_at_call 29; ((with_reducible refine (HEQ.out _).mono ?_); rintro e' w5 ⟨rfl, rfl⟩))
  obtain ⟨V0, hV0⟩ : ∃ V0, ((((w.alloc (.cells #[.int .i64 a, .int .i64 s, .int .i64 r, .int .i64 v] 25)).alloc (.cells #[.int .i64 0] 3)).alloc (.cells #[.int .i64 a, .int .i64 s, .int .i64 r, .int .i64 v] 25)).alloc (.cells #[.pointer (some ⟨p, 0, none⟩)] 28)) = V0 := ⟨_, rfl⟩
  have hz0 : V0.heap.size = w.heap.size + 4 := by rw [← hV0]; simp
  have H1 := hi (show WrI w p g cap bs ⟨a, s, r, v⟩ 0 V0 by rw [← hV0]; exact H0.out)
  have hst := HST.out V0 (by omega) H1.out.q H1.out.m H1.out.mem
  have HV0 := hi hV0
  clear hV0
  change Code.wp _ _ _ _ ((((w.alloc (.cells #[.int .i64 a, .int .i64 s, .int .i64 r, .int .i64 v] 25)).alloc (.cells #[.int .i64 0] 3)).alloc (.cells #[.int .i64 a, .int .i64 s, .int .i64 r, .int .i64 v] 25)).alloc (.cells #[.pointer (some ⟨p, 0, none⟩)] 28))
  rw [HV0.out]
  refine (wpIn_wide (n := 6)).1 ?_
  refine range_win (n := 6) (by omega) (gf := 47) (lb := #[.pointer (some ⟨w.heap.size + 1 + 1, 0, none⟩), .pointer (some ⟨w.heap.size + 1 + 1 + 1, 0, none⟩)]) rfl (enters_of Try.func47 (by kernel_rfl) rfl)
    hst (fun a b => KpQ.trans a b) (fun W l o o' h1 h2 h3 h4 => ⟨by simp, fun i hi => World.putObj_heap_other (by omega)⟩) (Below.refl _ _) (fun _ => rfl)
    (fun pre V => WrI w p g cap bs ⟨a, s, r, v⟩ (wrongN pre) V)
    (fun cd pre V => False)
    (fun s A A' row h hg hr => by
      have ne : ∀ k, k < w.heap.size + 4 → some k ≠ row := fun k hk e => by rcases hr k e.symm with ⟨h1, h2, _⟩ | ⟨h1, h2⟩ <;> omega
      exact ⟨h.n.kept hg (ne _ (by omega)), h.q.kept hg (ne _ (by omega)), h.m.kept hg (ne _ (by omega)), ⟨(hg.block p h.mem.plt (ne _ (by omega))).trans h.mem.box, h.mem.bytes.of_block (hg.block g h.mem.bytes.lt (ne _ (by omega))), h.mem.le, h.mem.cap, h.mem.len, h.mem.type⟩, h.below.grown hg h.below.size (fun k e => by have := ne k; by_cases hk : k < w.heap.size + 4; exact absurd e.symm (ne k hk); omega)⟩)
    (fun _ _ _ _ _ hs _ _ => hs)
    H1.out
    (fun x a' V => ∃ (d1 d2 d3 d4 d5 d6 d7 d8 : Int) (d9 : Bool), a' = { tmps := #[.agg #[.int .i64 a, .int .i64 s, .int .i64 r, .int .i64 v], .pointer (some ⟨p, 0, none⟩), .pointer (some ⟨w.heap.size, 0, none⟩), undef, .int .i64 0, .pointer (some ⟨w.heap.size + 1, 0, none⟩), undef, .int .i64 x.2, .agg #[.int .i64 a, .int .i64 s, .int .i64 r, .int .i64 v], .pointer (some ⟨p, 0, none⟩), .func (.func 47) #[] #[.pointer (some ⟨w.heap.size + 1 + 1, 0, none⟩), .pointer (some ⟨w.heap.size + 1 + 1 + 1, 0, none⟩)], .agg #[.int .i64 d1, .int .i64 d2, .int .i64 d3, .int .i64 d4, .int .i64 d5, .int .i64 d6, .int .i64 d7, .int .i64 d8, .bool d9], .int .i64 x.2, undef, undef, undef, undef, undef], defers := [] })
    (fun x a' => AbL.pure _ _ _)
    ?assign ?body ?done ?stop
  case assign =>
    rintro l' pre ⟨⟨d1, d2, d3, d4, d5, d6, d7, d8, d9⟩, le⟩ V K h hsz hK
    rw [zip_two]
    gi_wp2
    exact hK _ _ (KW.refl _ _) (KpQ.refl _ _ _ _ _) h ⟨d1, d2, d3, d4, d5, d6, d7, d8, d9, rfl⟩
  case body =>
    rintro l' pre ⟨dc, le⟩ a' V hsz hW ⟨d1, d2, d3, d4, d5, d6, d7, d8, d9, rfl⟩ hpx
    have hlen : pre.length + 1 ≤ 1023 := by have h1 := hpx.length_le; simp at h1; omega
    have hwn := wrongN_le pre
    have hsn := wrongN_snoc pre (dc, le)
    have c0 := hW.n.cell 0
    have cf := hW.n.frozen
    have cz := hW.n.lt
    have HWI := hi hW
    by_cases hz : le = 0
    · subst hz
      have HSN := hi (show wrongN (pre ++ [(dc, 0)]) = wrongN pre by rw [hsn]; rfl)
      clear hsn hW hpx
      gi_wp2
      refine ⟨KW.refl _ _, KpQ.refl _ _ _ _ _, ?_⟩
      show WrI w p g cap bs ⟨a, s, r, v⟩ (wrongN (pre ++ [(dc, 0)])) V
      rw [HSN.out]; exact HWI.out
    · have hne : (le != 0) = true := by simpa using hz
      have HSN := hi (show wrongN (pre ++ [(dc, le)]) = wrongN pre + 1 by rw [hsn]; simp [hz])
      clear hsn hW hpx hz
      gi_wp2
      refine ⟨KW.set _ _ _, ⟨by simp, fun i hi => Below.heap_setCell V ⟨w.heap.size + 1, 0, none⟩ _ i (show i ≠ w.heap.size + 1 by omega)⟩, ?_⟩
      show WrI w p g cap bs ⟨a, s, r, v⟩ (wrongN (pre ++ [(dc, le)])) _
      rw [HSN.out]
      exact ⟨by have := HWI.out.n.set 0 (.int .i64 ((wrongN pre + 1 : Nat) : Int)); simpa using this, HWI.out.q.other _ _ _ (by omega), HWI.out.m.other _ _ _ (by omega), HWI.out.mem.kept (kept_setCell V _ _ _) (by omega) (by omega), below_set HWI.out.below (by omega) _⟩
  case done =>
    rintro ys V rfl hW hK hs2
    have c0 := hW.n.cell 0
    have HWI := hi hW
    have HK := hi hK
    clear hW hK
    go_wp2
    refine ⟨by simp, .inl ⟨_, _, rfl, run_takeDeferred HK.out, ?_⟩⟩
    exact ⟨_, results_1 rfl _ _, rfl, below_put HWI.out.below _ HWI.out.below.size (by omega)⟩
  case stop =>
    rintro cd pre V hpre h _ _
    exact h.elim

end Go.Proofs.Ytfnokpajendlmaa
