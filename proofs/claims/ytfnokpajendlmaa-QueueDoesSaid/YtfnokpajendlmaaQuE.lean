/-
  Package queue: Each and its iterator, for every loop body that leaves the memory as it is.
-/
import Derived.Test.YtfnokpajendlmaaQuD
import Derived.Test.YtfnokpajendlmaaRgC
import Derived.Test.YtfnokpajendlmaaLstG
namespace Go.Proofs.Ytfnokpajendlmaa
open Go.ChangeShapes Go.WideShapes Go.ChangeAt Go.RowKit Go.Shelf
set_option linter.unusedVariables false
set_option linter.unusedSimpArgs false
attribute [local go_sem] Oper.semAt_some

abbrev encE (x : Cm × Int) : Array Value := #[x.1.v, .int .i64 x.2]
def ldP2 (bs : List Nat) (q : Qu) (p : Int) : Cm × Int := (ldV bs q.at_ q.size p, ldE bs q.at_ q.size p)
theorem each_map (bs : List Nat) (q : Qu) : eachL bs q = (xsR q.size 32 q.read q.write).map (ldP2 bs q) := rfl
theorem map_pre {α β : Type} (f : α → β) {a b : List α} (h : a <+: b) : a.map f <+: b.map f := by
  obtain ⟨r, rfl⟩ := h
  rw [List.map_append]
  exact List.prefix_append _ _
/-- ring, with the world that it leaves. -/
theorem ring_x (q : Qu) (w : World) : Calls Try.prog 31 #[q.v] w fun e w' => e = .returned (.agg #[.int .i64 q.size, .int .i64 32]) ∧ w' = (w.alloc (.cells (Qu.cs q) 25)).alloc (.cells #[.int .i64 q.size, .int .i64 32] 75) := by
  have HC := hi (cb_second (w := w) (o := .cells (Qu.cs q) 25) (cs := #[.int .i64 0, .int .i64 0]) (t := 75))
  obtain ⟨a, s, r, v⟩ := q
  dsimp only at HC ⊢
  obtain ⟨r0, r1⟩ := CB.two HC.out
  have rf := HC.out.frozen
  go_enter Try.func31, Try.ntmps31
  go_wp2
  exact bodyPost_ret (results_rg rfl _ _ (w.heap.size + 1) _ _ rfl cb_second) rfl ⟨rfl, rfl⟩
theorem eachq_any (q : Qu) (p : Nat) (w : World) : Calls Try.prog 29 #[q.v, .pointer (some ⟨p, 0, none⟩)] w fun e w' => e = .returned (.func (.func 47) #[] #[.pointer (some ⟨w.heap.size, 0, none⟩), .pointer (some ⟨w.heap.size + 1, 0, none⟩)]) ∧
    w' = (w.alloc (.cells (Qu.cs q) 25)).alloc (.cells #[.pointer (some ⟨p, 0, none⟩)] 28) := by
  obtain ⟨a, s, r, v⟩ := q
  go_enter Try.func29, Try.ntmps29
  go_wp2
  go_ret
  exact ⟨rfl, rfl⟩

/-- What a round over the commands keeps. -/
structure KpQ (c p g B : Nat) (W W' : World) : Prop where
  size : W.heap.size ≤ W'.heap.size
  same : ∀ i, i = c ∨ i = c + 1 ∨ i = p ∨ i = g ∨ (B ≤ i ∧ i < B + 8) → W'.heap[i]? = W.heap[i]?
theorem KpQ.trans {c p g B : Nat} {X Y Z : World} (h : KpQ c p g B X Y) (k : KpQ c p g B Y Z) : KpQ c p g B X Z := ⟨Nat.le_trans h.size k.size, fun i hi => (k.same i hi).trans (h.same i hi)⟩
theorem KpQ.refl (c p g B : Nat) (W : World) : KpQ c p g B W W := ⟨Nat.le_refl _, fun _ _ => rfl⟩
theorem KpQ.of_below {c p g B : Nat} {W W' : World} (h : Below W.heap.size W W') (hc : c + 2 ≤ W.heap.size) (hp : p < W.heap.size) (hg : g < W.heap.size) (hB : B + 8 ≤ W.heap.size) : KpQ c p g B W W' := ⟨h.size, fun i hi => h.block i (by omega)⟩
/-- The iterator's boxes and its memory. -/
structure EaB (l c B p g cap : Nat) (bs : List Nat) (q : Qu) (V : World) : Prop where
  q : CB V c 25 (Qu.cs q)
  m : CB V (c + 1) 28 #[.pointer (some ⟨p, 0, none⟩)]
  y : CB V B 90 #[.func (.yield l) #[] #[]]
  mem : MemAt 73 V p g cap bs
theorem EaB.kept {l c B p g cap : Nat} {bs : List Nat} {q : Qu} {V V' : World} (h : EaB l c B p g cap bs q V) (k : ∀ i, i = c ∨ i = c + 1 ∨ i = p ∨ i = g ∨ (B ≤ i ∧ i < B + 8) → V'.heap[i]? = V.heap[i]?) : EaB l c B p g cap bs q V' :=
  ⟨(k _ (by omega)).trans h.q, (k _ (by omega)).trans h.m, (k _ (by omega)).trans h.y, ⟨(k _ (by omega)).trans h.mem.box, h.mem.bytes.of_block (k _ (by omega)), h.mem.le, h.mem.cap, h.mem.len, h.mem.type⟩⟩
theorem EaB.later {l c B p g cap : Nat} {bs : List Nat} {q : Qu} {V V' : World} (h : EaB l c B p g cap bs q V) (k : Below V.heap.size V V') : EaB l c B p g cap bs q V' := ⟨h.q.below k, h.m.below k, h.y.below k, h.mem.below k⟩
theorem EaB.grown {l c B p g cap : Nat} {bs : List Nat} {q : Qu} {V V' : World} {row : Option Nat} (h : EaB l c B p g cap bs q V) (k : V.grownBy V' row) (hr : ∀ r, row = some r → r ≠ c ∧ r ≠ c + 1 ∧ r ≠ B ∧ r ≠ p ∧ r ≠ g) : EaB l c B p g cap bs q V' :=
  ⟨h.q.kept k (fun e => (hr _ e.symm).1 rfl), h.m.kept k (fun e => (hr _ e.symm).2.1 rfl), h.y.kept k (fun e => (hr _ e.symm).2.2.1 rfl),
   ⟨(k.block p h.mem.plt (fun e => (hr _ e.symm).2.2.2.1 rfl)).trans h.mem.box, h.mem.bytes.of_block (k.block g h.mem.bytes.lt (fun e => (hr _ e.symm).2.2.2.2 rfl)), h.mem.le, h.mem.cap, h.mem.len, h.mem.type⟩⟩

set_option maxRecDepth 100000 in
set_option maxHeartbeats 8000000 in
theorem eachq1_any (l c p g cap : Nat) (bs : List Nat) (q : Qu) (hF : q.Fair) (J Jx : List (Cm × Int) → World → Prop) (W : World) (hc : c + 2 ≤ W.heap.size) (hJ : AbW W.heap.size 8 J) (hJx : AbW W.heap.size 8 Jx)
    (hY : ∀ (pre : List (Cm × Int)) (x : Cm × Int) (W1 : World), J pre W1 → pre ++ [x] <+: eachL bs q → W.heap.size + 8 ≤ W1.heap.size → ∀ m, YieldAt Fence.wide m Try.prog l (encE x) W1 fun e W' =>
      (e = .returned (.bool true) ∧ J (pre ++ [x]) W' ∧ KpQ c p g W.heap.size W1 W') ∨ (e = .returned (.bool false) ∧ Jx (pre ++ [x]) W' ∧ KpQ c p g W.heap.size W1 W'))
    (b0 : CB W c 25 (Qu.cs q)) (b1 : CB W (c + 1) 28 #[.pointer (some ⟨p, 0, none⟩)]) (hM : MemAt 73 W p g cap bs) (h0 : J [] W) :
    Calls Try.prog 47 #[.func (.yield l) #[] #[], .pointer (some ⟨c, 0, none⟩), .pointer (some ⟨c + 1, 0, none⟩)] W fun e W' => (∃ v, e = .returned v) ∧
      ((∃ ys, ys = eachL bs q ∧ J ys W') ∨ (∃ pre, pre <+: eachL bs q ∧ Jx pre W')) := by
  have hpl : p < W.heap.size := hM.plt
  have hgl : g < W.heap.size := hM.bytes.lt
  have hss := hF.s.2
  have HLD := hi (fun (x : Int) (hx : i64B x) V (hV : MemAt 73 V p g cap bs) => load_any p g cap bs q.at_ q.size x V hV hF.a hF.s hx)
  have HRX := hi (fun V => ring_x q V)
  have HEX := hi (fun V => each_any q.size 32 q.read q.write V)
  have HE0 := hi (show EaB l c W.heap.size p g cap bs q (W.alloc (.cells #[.func (.yield l) #[] #[]] 90)) from ⟨b0.alloc _, b1.alloc _, CB.new W _ _, hM.below (bal W _)⟩)
  have HYY := hi hY
  have HJ := hi hJ
  have HJX := hi hJx
  have HJ0 := hi (hJ.alloc (.cells #[.func (.yield l) #[] #[]] 90) h0)
  have HEL := hi (each_map bs q)
  have HI64 := hi (fun (x : Int) (hx : x ∈ xsR q.size 32 q.read q.write) => show i64B x by
    cases hk : okQ q
    · rw [xsR_no hk] at hx; cases hx
    · obtain ⟨h1, h2⟩ := okQ_out hk
      obtain ⟨h3, _⟩ := xs_may h1 h2 hx
      obtain ⟨_, h4, h5, _⟩ := mayB_out h3
      exact ⟨by omega, by omega⟩)
  clear hF b0 b1 hM h0 hY hJ hJx
  obtain ⟨a, s, r, v⟩ := q
  dsimp only at HLD HRX HEX HE0 HEL HI64 hss
  refine (callsIn_wide (n := 6)).1 ?_
  refine callsIn_of_wp_marks Try.func47 rfl trivial ?_ rfl
  simp only [Try.ntmps47, List.size_toArray, List.length_cons, List.length_nil, Nat.reduceAdd, Nat.reduceSub, Array.replicate_succ, Array.replicate_zero, List.push_toArray, List.append_toArray, List.nil_append, List.cons_append]
  refine wpIn_wide.2 ?_
  go_wp2
  refine wp_region_noPanic ?_
  refine wp_region_last_drew (S := (fun V => (V.cell? ⟨c, 0, none⟩ = some (.int .i64 a) ∧ V.cell? ⟨c, 1, none⟩ = some (.int .i64 s) ∧ V.cell? ⟨c, 2, none⟩ = some (.int .i64 r) ∧ V.cell? ⟨c, 3, none⟩ = some (.int .i64 v)) ∧ EaB l c W.heap.size p g cap bs ⟨a, s, r, v⟩ V)) [] (by kernel_rfl) ⟨CB.four (HE0.out.later (below_dr _)).q, HE0.out.later (below_dr _)⟩ (fun hHeld => ?_)
  (try simp only [Array.replicate_succ, Array.replicate_zero, List.push_toArray, List.nil_append, List.cons_append])
  refine wpAnyF_take (i := 0) (v := ?_) (by kernel_rfl) (by kernel_rfl) rfl (by kernel_rfl) (by kernel_rfl) (by kernel_rfl) (fun _ _ _ h => h) (Or.inl ⟨by rfl, ?_⟩) (by assumption) ?_
  rotate_left
  · intro w' hSw; (try dsimp only at hSw); have hh := hSw.1; clear hSw; obtain ⟨a0, a1, a2, a3⟩ := hh; go_simp; (try with_reducible rfl)
  (try simp only [Act.put, List.getElem_toArray, List.getElem_cons_zero, List.getElem_cons_succ, List.setIfInBounds_toArray, List.set_cons_zero, List.set_cons_succ])
  refine wpAnyF_take (i := 2) (v := ?_) (by kernel_rfl) (by kernel_rfl) rfl (by kernel_rfl) (by kernel_rfl) (by kernel_rfl) (fun _ _ _ h => h) (Or.inl ⟨by rfl, ?_⟩) (by assumption) ?_
  rotate_left
  · intro w' hSw; (try dsimp only at hSw); clear hSw; go_simp; (try with_reducible rfl)
  (try simp only [Act.put, List.getElem_toArray, List.getElem_cons_zero, List.getElem_cons_succ, List.setIfInBounds_toArray, List.set_cons_zero, List.set_cons_succ])
  refine wpAnyF_take (i := 3) (v := ?_) (by kernel_rfl) (by kernel_rfl) rfl (by kernel_rfl) (by kernel_rfl) (by kernel_rfl) (fun _ _ _ h => h) (Or.inl ⟨by rfl, ?_⟩) (by assumption) ?_
  rotate_left
  · intro w' hSw; (try dsimp only at hSw); have hh := hSw.1; clear hSw; obtain ⟨a0, a1, a2, a3⟩ := hh; go_simp; (try with_reducible rfl)
  (try simp only [Act.put, List.getElem_toArray, List.getElem_cons_zero, List.getElem_cons_succ, List.setIfInBounds_toArray, List.set_cons_zero, List.set_cons_succ])
  refine wpAnyF_take (i := 4) (v := ?_) (by kernel_rfl) (by kernel_rfl) rfl (by kernel_rfl) (by kernel_rfl) (by kernel_rfl) (fun _ _ _ h => h) (Or.inl ⟨by rfl, ?_⟩) (by assumption) ?_
  rotate_left
  · intro w' hSw; (try dsimp only at hSw); clear hSw; go_simp; (try with_reducible rfl)
  (try simp only [Act.put, List.getElem_toArray, List.getElem_cons_zero, List.getElem_cons_succ, List.setIfInBounds_toArray, List.set_cons_zero, List.set_cons_succ])
  refine wpAnyF_take (i := 5) (v := ?_) (by kernel_rfl) (by kernel_rfl) rfl (by kernel_rfl) (by kernel_rfl) (by kernel_rfl) (fun _ _ _ h => h) (Or.inl ⟨by rfl, ?_⟩) (by assumption) ?_
  rotate_left
  · intro w' hSw; (try dsimp only at hSw); have hh := hSw.1; clear hSw; obtain ⟨a0, a1, a2, a3⟩ := hh; go_simp; (try with_reducible rfl)
  (try simp only [Act.put, List.getElem_toArray, List.getElem_cons_zero, List.getElem_cons_succ, List.setIfInBounds_toArray, List.set_cons_zero, List.set_cons_succ])
  refine wpAnyF_ready (rs := [1]) (by kernel_rfl) (by simp) ?_
  refine AllReadyF.cons rfl (fun KK hKK => ?_) AllReadyF.nil
  go_simp
  ((with_reducible refine (HRX.out _).mono ?_); rintro e' w1 ⟨rfl, rfl⟩; have HE1 := hi (HE0.out.later ((below_dr _).trans ((bal_two _ (.cells #[.int .i64 a, .int .i64 s, .int .i64 r, .int .i64 v] 25) (.cells #[.int .i64 s, .int .i64 32] 75)).mono (Nat.le_refl _)))))
  (try go_simp)
  refine hKK.out _ _ ⟨CB.four HE1.out.q, HE1.out⟩ (fun hHeld => ?_)
  clear hKK KK
  (try simp only [Act.put, List.getElem_toArray, List.getElem_cons_zero, List.getElem_cons_succ, List.setIfInBounds_toArray, List.set_cons_zero, List.set_cons_succ])
  refine wpAnyF_ready (rs := [6]) (by kernel_rfl) (by simp) ?_
  refine AllReadyF.cons rfl (fun KK hKK => ?_) AllReadyF.nil
  go_simp
  ((with_reducible refine (HEX.out _).mono ?_); rintro e' w2 ⟨rfl, rfl⟩; have HE2 := hi (((HE1.out.later (bal _ (.cells #[.int .i64 s, .int .i64 32] 75))).later (bal _ (.cells #[.int .i64 r] 3))).later (bal _ (.cells #[.int .i64 v] 3))))
  (try go_simp)
  refine hKK.out _ _ ⟨CB.four HE2.out.q, HE2.out⟩ (fun hHeld => ?_)
  clear hKK KK
  (try simp only [Act.put, List.getElem_toArray, List.getElem_cons_zero, List.getElem_cons_succ, List.setIfInBounds_toArray, List.set_cons_zero, List.set_cons_succ])
  refine wpAnyF_done (by kernel_rfl) ?_ _
  refine NoPanic.normal ?_
  clear hHeld
  obtain ⟨V0, hV0⟩ : ∃ V0, (((((((W.alloc (.cells #[.func (.yield l) #[] #[]] 90)).alloc (.cells #[.int .i64 a, .int .i64 s, .int .i64 r, .int .i64 v] 25)).alloc (.cells #[.int .i64 s, .int .i64 32] 75)).alloc (.cells #[.int .i64 s, .int .i64 32] 75)).alloc (.cells #[.int .i64 r] 3)).alloc (.cells #[.int .i64 v] 3)).drew) = V0 := ⟨_, rfl⟩
  have hz0 : V0.heap.size = W.heap.size + 6 := by rw [← hV0]; simp
  have hbx : Box3 V0 (W.heap.size + 1 + 1 + 1) s 32 r v := by
    rw [← hV0]
    have h3 := (box3_new (((W.alloc (.cells #[.func (.yield l) #[] #[]] 90)).alloc (.cells #[.int .i64 a, .int .i64 s, .int .i64 r, .int .i64 v] 25)).alloc (.cells #[.int .i64 s, .int .i64 32] 75)) s 32 r v).below (below_dr _)
    simp only [World.size_alloc] at h3
    exact h3
  have HE3 := hi (show EaB l c W.heap.size p g cap bs ⟨a, s, r, v⟩ V0 by rw [← hV0]; exact HE2.out)
  have HJ3 := hi (show J [] V0 by
    rw [← hV0]
    exact HJ.out.grow HJ0.out (below_gr ((((((bal _ _).alloc (by simp) _).alloc (by simp <;> omega) _).alloc (by simp <;> omega) _).alloc (by simp <;> omega) _).trans (below_dr _ |>.mono (by simp <;> omega)))))
  have hst := each_stops (W.heap.size + 1 + 1 + 1) s 32 r v hss V0 hbx
  have HV0 := hi hV0
  clear hbx hV0
  go_wp2
  change Code.wp _ _ _ _ (((((((W.alloc (.cells #[.func (.yield l) #[] #[]] 90)).alloc (.cells #[.int .i64 a, .int .i64 s, .int .i64 r, .int .i64 v] 25)).alloc (.cells #[.int .i64 s, .int .i64 32] 75)).alloc (.cells #[.int .i64 s, .int .i64 32] 75)).alloc (.cells #[.int .i64 r] 3)).alloc (.cells #[.int .i64 v] 3)).drew)
  rw [HV0.out]
  refine (wpIn_wide (n := 6)).1 ?_
  refine range_win (n := 6) (by omega) (gf := 63) (lb := #[.pointer (some ⟨W.heap.size + 1 + 1 + 1, 0, none⟩), .pointer (some ⟨W.heap.size + 1 + 1 + 1 + 1, 0, none⟩), .pointer (some ⟨W.heap.size + 1 + 1 + 1 + 2, 0, none⟩)]) rfl (enters_of Try.func63 (by kernel_rfl) rfl)
    hst (fun a b => Stays.trans a b) (fun W l o o' h1 h2 h3 h4 => stays_put (by omega)) (Below.refl _ _) (fun _ => rfl)
    (fun pre V => J (pre.map (ldP2 bs ⟨a, s, r, v⟩)) V ∧ EaB l c W.heap.size p g cap bs ⟨a, s, r, v⟩ V)
    (fun cd pre V => cd = .ret ∧ ∃ gs, gs <+: eachL bs ⟨a, s, r, v⟩ ∧ Jx gs V)
    (fun s A A' row h hg hr => ⟨HJ.out _ A A' row h.1 hg (fun r e => by rcases hr r e with ⟨h1, h2, _⟩ | ⟨h1, h2⟩ <;> omega), h.2.grown hg (fun r e => by rcases hr r e with ⟨h1, h2, _⟩ | ⟨h1, h2⟩ <;> omega)⟩)
    (fun cd s A A' row h hg hr => ⟨h.1, by obtain ⟨gs, e1, e2⟩ := h.2; exact ⟨gs, e1, HJX.out _ A A' row e2 hg (fun r e => by rcases hr r e with ⟨h1, h2, _⟩ | ⟨h1, h2⟩ <;> omega)⟩⟩)
    ⟨HJ3.out, HE3.out⟩
    (fun x a' V => a' = { tmps := #[.func (.yield l) #[] #[], .pointer (some ⟨c, 0, none⟩), .pointer (some ⟨c + 1, 0, none⟩), .pointer (some ⟨W.heap.size, 0, none⟩), .int .i64 x, .agg #[.int .i64 a, .int .i64 s, .int .i64 r, .int .i64 v], .agg #[.int .i64 s, .int .i64 32], .pointer (some ⟨c, 2, none⟩), .int .i64 r, .pointer (some ⟨c, 3, none⟩), .int .i64 v, .func (.func 63) #[] #[.pointer (some ⟨W.heap.size + 1 + 1 + 1, 0, none⟩), .pointer (some ⟨W.heap.size + 1 + 1 + 1 + 1, 0, none⟩), .pointer (some ⟨W.heap.size + 1 + 1 + 1 + 2, 0, none⟩)], .int .i64 x, undef, undef, undef, undef, undef, undef, undef, undef, undef, undef], defers := [] })
    (fun x a' => AbL.pure _ _ _)
    ?assign ?body ?done ?stop
  case assign =>
    rintro l' pre x V K h hsz hK
    gi_wp2
    exact hK _ _ (KW.refl _ _) (Stays.refl _ _ _) h rfl
  case body =>
    rintro l' pre x a' V hsz ⟨hj, hE⟩ rfl hpx
    have hxm : x ∈ xsR s 32 r v := hpx.subset (by simp)
    have HLX := hi (HLD.out x (HI64.out x hxm))
    have hpm := map_pre (ldP2 bs ⟨a, s, r, v⟩) hpx
    rw [List.map_append, List.map_cons, List.map_nil] at hpm
    obtain ⟨lv, hlv⟩ : ∃ y, ldV bs a s x = y := ⟨_, rfl⟩
    obtain ⟨le, hle⟩ : ∃ y, ldE bs a s x = y := ⟨_, rfl⟩
    rw [hlv, hle] at HLX
    have hpv : ldP2 bs ⟨a, s, r, v⟩ x = (lv, le) := by rw [← hlv, ← hle]; rfl
    rw [hpv] at hpm
    have HPM := hi (show pre.map (ldP2 bs ⟨a, s, r, v⟩) ++ [(lv, le)] <+: eachL bs ⟨a, s, r, v⟩ by rw [HEL.out]; exact hpm)
    have HSN := hi (show (pre ++ [x]).map (ldP2 bs ⟨a, s, r, v⟩) = pre.map (ldP2 bs ⟨a, s, r, v⟩) ++ [(lv, le)] by rw [List.map_append, List.map_cons, List.map_nil, hpv])
    obtain ⟨d1, d2, d3, d4, d5, d6, d7, d8, d9⟩ := lv
    unfold win at HLX
    dsimp only [Cm.v] at HLX
    have HJV := hi hj
    have HEV := hi hE
    have hVs : W.heap.size + 8 ≤ V.heap.size := by omega
    clear hxm hpm hlv hle hpv hpx hj hE
    gi_wp2
    refine region_held_g (S := (fun V => (V.cell? ⟨c, 0, none⟩ = some (.int .i64 a) ∧ V.cell? ⟨c, 1, none⟩ = some (.int .i64 s) ∧ V.cell? ⟨c, 2, none⟩ = some (.int .i64 r) ∧ V.cell? ⟨c, 3, none⟩ = some (.int .i64 v)) ∧ V.cell? ⟨c + 1, 0, none⟩ = some (.pointer (some ⟨p, 0, none⟩)) ∧ V.cell? ⟨W.heap.size, 0, none⟩ = some (.func (.yield l) #[] #[]) ∧ EaB l c W.heap.size p g cap bs ⟨a, s, r, v⟩ V)) rfl (by kernel_rfl) (by kernel_rfl) ⟨CB.four (HEV.out.later (below_dr V)).q, (HEV.out.later (below_dr V)).m.cell 0, (HEV.out.later (below_dr V)).y.cell 0, (HEV.out.later (below_dr V))⟩ (fun hHeld => ?_)
    (try simp only [Array.replicate_succ, Array.replicate_zero, List.push_toArray, List.nil_append, List.cons_append])
    refine wpAnyG_take (i := 0) (v := ?_) rfl rfl (by kernel_rfl) (by kernel_rfl) (by kernel_rfl) (fun _ _ _ h => h) (Or.inl ⟨by rfl, ?_⟩) (fun _ => rfl) (by assumption) ?_
    rotate_left
    · intro w' hSw; (try dsimp only at hSw); obtain ⟨⟨a0, a1, a2, a3⟩, km, ky, kj⟩ := hSw; clear kj; go_simp; (try with_reducible rfl)
    (try simp only [Act.put, List.getElem_toArray, List.getElem_cons_zero, List.getElem_cons_succ, List.setIfInBounds_toArray, List.set_cons_zero, List.set_cons_succ])
    refine wpAnyG_take (i := 1) (v := ?_) rfl rfl (by kernel_rfl) (by kernel_rfl) (by kernel_rfl) (fun _ _ _ h => h) (Or.inl ⟨by rfl, ?_⟩) (fun _ => rfl) (by assumption) ?_
    rotate_left
    · intro w' hSw; (try dsimp only at hSw); obtain ⟨⟨a0, a1, a2, a3⟩, km, ky, kj⟩ := hSw; clear kj; go_simp; (try with_reducible rfl)
    (try simp only [Act.put, List.getElem_toArray, List.getElem_cons_zero, List.getElem_cons_succ, List.setIfInBounds_toArray, List.set_cons_zero, List.set_cons_succ])
    refine wpAnyG_take (i := 2) (v := ?_) rfl rfl (by kernel_rfl) (by kernel_rfl) (by kernel_rfl) (fun _ _ _ h => h) (Or.inl ⟨by rfl, ?_⟩) (fun _ => rfl) (by assumption) ?_
    rotate_left
    · intro w' hSw; (try dsimp only at hSw); obtain ⟨⟨a0, a1, a2, a3⟩, km, ky, kj⟩ := hSw; clear kj; go_simp; (try with_reducible rfl)
    (try simp only [Act.put, List.getElem_toArray, List.getElem_cons_zero, List.getElem_cons_succ, List.setIfInBounds_toArray, List.set_cons_zero, List.set_cons_succ])
    refine wpAnyG_take (i := 3) (v := ?_) rfl rfl (by kernel_rfl) (by kernel_rfl) (by kernel_rfl) (fun _ _ _ h => h) (Or.inl ⟨by rfl, ?_⟩) (fun _ => rfl) (by assumption) ?_
    rotate_left
    · intro w' hSw; (try dsimp only at hSw); obtain ⟨⟨a0, a1, a2, a3⟩, km, ky, kj⟩ := hSw; clear kj; go_simp; (try with_reducible rfl)
    (try simp only [Act.put, List.getElem_toArray, List.getElem_cons_zero, List.getElem_cons_succ, List.setIfInBounds_toArray, List.set_cons_zero, List.set_cons_succ])
    refine wpAnyG_take (i := 4) (v := ?_) rfl rfl (by kernel_rfl) (by kernel_rfl) (by kernel_rfl) (fun _ _ _ h => h) (Or.inl ⟨by rfl, ?_⟩) (fun _ => rfl) (by assumption) ?_
    rotate_left
    · intro w' hSw; (try dsimp only at hSw); obtain ⟨⟨a0, a1, a2, a3⟩, km, ky, kj⟩ := hSw; clear kj; go_simp; (try with_reducible rfl)
    (try simp only [Act.put, List.getElem_toArray, List.getElem_cons_zero, List.getElem_cons_succ, List.setIfInBounds_toArray, List.set_cons_zero, List.set_cons_succ])
    refine wpAnyG_one (i := 5) (by kernel_rfl) rfl (fun KK hKK => ?_)
    go_simp
    (try refine ⟨trivial, ?_⟩)
    ((with_reducible refine (callsIn_wide.2 (HLX.out _ hHeld.2.2.2.mem)).mono ?_); rintro e' V4 ⟨rfl, hb⟩; have HBN := hi (show Below V.heap.size V V4 from (below_dr V).trans hb); have HE4 := hi (hHeld.2.2.2.later hb); clear hb)
    (try go_simp)
    refine hKK.out _ _ ⟨CB.four HE4.out.q, HE4.out.m.cell 0, HE4.out.y.cell 0, HE4.out⟩ (fun hHeld => ?_)
    clear hKK KK
    (try simp only [Act.put, List.getElem_toArray, List.getElem_cons_zero, List.getElem_cons_succ, List.setIfInBounds_toArray, List.set_cons_zero, List.set_cons_succ])
    refine wpAnyG_take (i := 6) (v := ?_) rfl rfl (by kernel_rfl) (by kernel_rfl) (by kernel_rfl) (fun _ _ _ h => h) (Or.inl ⟨by rfl, ?_⟩) (fun _ => rfl) (by assumption) ?_
    rotate_left
    · intro w' hSw; (try dsimp only at hSw); obtain ⟨⟨a0, a1, a2, a3⟩, km, ky, kj⟩ := hSw; clear kj; go_simp; (try with_reducible rfl)
    (try simp only [Act.put, List.getElem_toArray, List.getElem_cons_zero, List.getElem_cons_succ, List.setIfInBounds_toArray, List.set_cons_zero, List.set_cons_succ])
    refine wpAnyG_take (i := 7) (v := ?_) rfl rfl (by kernel_rfl) (by kernel_rfl) (by kernel_rfl) (fun _ _ _ h => h) (Or.inl ⟨by rfl, ?_⟩) (fun _ => rfl) (by assumption) ?_
    rotate_left
    · intro w' hSw; (try dsimp only at hSw); obtain ⟨⟨a0, a1, a2, a3⟩, km, ky, kj⟩ := hSw; clear kj; go_simp; (try with_reducible rfl)
    (try simp only [Act.put, List.getElem_toArray, List.getElem_cons_zero, List.getElem_cons_succ, List.setIfInBounds_toArray, List.set_cons_zero, List.set_cons_succ])
    obtain ⟨fn, tmps, assign, body, hy, hRd⟩ := HYY.out _ _ V4 (HJ.out.grow HJV.out (below_gr HBN.out)) HPM.out (by have := HBN.out.size; omega) (6 - 1 - 1 - 1)
    dsimp only [encE, Cm.v] at hy
    refine wpAnyG_one (i := 8) (by kernel_rfl) rfl (fun KK hKK => ?_)
    go_simp
    (first | refine hRd.mono ?_ | (refine ⟨trivial, ?_⟩; refine hRd.mono ?_))
    rintro e3 W3 (⟨rfl, hJ3, hk3⟩ | ⟨rfl, hJx3, hk3⟩)
    · have hE3 := HE4.out.kept hk3.same
      have hbn := HBN.out.size
      have hk3s := hk3.size
      have hKW : KW V0.heap.size V W3 := ⟨by omega, fun i o a b h h' => ((hk3.same i (by omega)).trans (HBN.out.block i (Array.getElem?_eq_some_iff.1 h).1)).trans h⟩
      have hST : Stays (W.heap.size + 1 + 1 + 1) (W.heap.size + 1 + 1 + 1 + 3) V W3 := ⟨by omega, fun i h1 h2 => (hk3.same i (by omega)).trans (HBN.out.block i (by omega))⟩
      (try go_simp)
      refine hKK.out _ _ ⟨CB.four hE3.q, hE3.m.cell 0, hE3.y.cell 0, hE3⟩ (fun hHeld => ?_)
      clear hKK KK
      (try simp only [Act.put, List.getElem_toArray, List.getElem_cons_zero, List.getElem_cons_succ, List.setIfInBounds_toArray, List.set_cons_zero, List.set_cons_succ])
      refine wpAnyG_take (i := 9) (v := ?_) rfl rfl (by kernel_rfl) (by kernel_rfl) (by kernel_rfl) (fun _ _ _ h => h) (Or.inl ⟨by rfl, ?_⟩) (fun _ => rfl) (by assumption) ?_
      rotate_left
      · intro w' hSw; (try dsimp only at hSw); obtain ⟨⟨a0, a1, a2, a3⟩, km, ky, kj⟩ := hSw; clear kj; go_simp; (try with_reducible rfl)
      (try simp only [Act.put, List.getElem_toArray, List.getElem_cons_zero, List.getElem_cons_succ, List.setIfInBounds_toArray, List.set_cons_zero, List.set_cons_succ])
      refine wpAnyG_done (by kernel_rfl) ?_ _
      gi_wp2
      refine ⟨hKW, hST, ?_, hE3⟩
      rw [HSN.out]
      exact hJ3
    · have hE3 := HE4.out.kept hk3.same
      have hbn := HBN.out.size
      have hk3s := hk3.size
      have hKW : KW V0.heap.size V W3 := ⟨by omega, fun i o a b h h' => ((hk3.same i (by omega)).trans (HBN.out.block i (Array.getElem?_eq_some_iff.1 h).1)).trans h⟩
      have hST : Stays (W.heap.size + 1 + 1 + 1) (W.heap.size + 1 + 1 + 1 + 3) V W3 := ⟨by omega, fun i h1 h2 => (hk3.same i (by omega)).trans (HBN.out.block i (by omega))⟩
      (try go_simp)
      refine hKK.out _ _ ⟨CB.four hE3.q, hE3.m.cell 0, hE3.y.cell 0, hE3⟩ (fun hHeld => ?_)
      clear hKK KK
      (try simp only [Act.put, List.getElem_toArray, List.getElem_cons_zero, List.getElem_cons_succ, List.setIfInBounds_toArray, List.set_cons_zero, List.set_cons_succ])
      refine wpAnyG_take (i := 9) (v := ?_) rfl rfl (by kernel_rfl) (by kernel_rfl) (by kernel_rfl) (fun _ _ _ h => h) (Or.inl ⟨by rfl, ?_⟩) (fun _ => rfl) (by assumption) ?_
      rotate_left
      · intro w' hSw; (try dsimp only at hSw); obtain ⟨⟨a0, a1, a2, a3⟩, km, ky, kj⟩ := hSw; clear kj; go_simp; (try with_reducible rfl)
      (try simp only [Act.put, List.getElem_toArray, List.getElem_cons_zero, List.getElem_cons_succ, List.setIfInBounds_toArray, List.set_cons_zero, List.set_cons_succ])
      refine wpAnyG_done (by kernel_rfl) ?_ _
      gi_wp2
      exact ⟨hKW, hST, rfl, _, HPM.out, hJx3⟩
  case done =>
    rintro ys V rfl ⟨hj, hE⟩ hK hs2
    rw [← HEL.out] at hj
    have HJV := hi hj
    have HK := hi hK
    clear hj hE hK
    gi_wp2
    refine ⟨by simp, .inl ⟨_, _, rfl, run_takeDeferred HK.out, ?_⟩⟩
    exact ⟨_, results_none rfl _ _ _, ⟨_, rfl⟩, .inl ⟨_, rfl, HJ.out.put _ HJV.out (by omega) (by omega)⟩⟩
  case stop =>
    rintro cd pre V hpre ⟨rfl, gs, hg, hx⟩ hK _
    have HG := hi (And.intro hg hx)
    have HK := hi hK
    clear hg hx hK
    gi_wp2
    refine ⟨by simp, .inl ⟨_, _, rfl, run_takeDeferred HK.out, ?_⟩⟩
    exact ⟨_, results_none rfl _ _ _, ⟨_, rfl⟩, .inr ⟨gs, HG.out.1, HJX.out.put _ HG.out.2 (by omega) (by omega)⟩⟩

/-- THE ITERATOR's CONTRACT. -/
theorem eachq_stops (c p g cap : Nat) (bs : List Nat) (q : Qu) (hF : q.Fair) (w : World) (hc : c + 2 ≤ w.heap.size) (b0 : CB w c 25 (Qu.cs q)) (b1 : CB w (c + 1) 28 #[.pointer (some ⟨p, 0, none⟩)]) (hM : MemAt 73 w p g cap bs) :
    SeqW 8 Try.prog 47 #[.pointer (some ⟨c, 0, none⟩), .pointer (some ⟨c + 1, 0, none⟩)] encE (KpQ c p g) (fun ys => ys = eachL bs q) (fun pre => pre <+: eachL bs q) (fun pre x => pre ++ [x] <+: eachL bs q) w := fun l J Jx W hW hJ hJx hY h0 =>
  eachq1_any l c p g cap bs q hF J Jx W (by have := hW.size; omega) hJ hJx hY (b0.below hW) (b1.below hW) (hM.below hW) h0

end Go.Proofs.Ytfnokpajendlmaa
