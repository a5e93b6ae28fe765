import Derived.Test.YtggeakkofcaklaaGreatMg48
namespace Go.Proofs.YtggeakkofcaklaaGreat
open Go.ChangeShapes Go.WideShapes Go.ChangeAt Go.RowKit Go.Shelf
set_option linter.unusedVariables false
attribute [local go_sem] Oper.semAt_some
theorem own_belowW {W W' : World} {base sz n : Nat} {te : TypeId} {v : Value} {cs : List Value} (h : W.ownsRow base te sz v n cs) (k : Below W.heap.size W W') : W'.ownsRow base te sz v n cs := own_heap h (fun g e => k.block g (h.lt g e).2)
structure OneI (w : World) (p q : Nat) (b c : Nat → Nat) (D : Ds) (db : Nat) (k kb : Nat) (rs : List Nat) (W : World) : Prop where
  di : DiAt W p q b c D
  rb : CB W w.heap.size 4 #[.bool false]
  bd : CB W db 24 #[(.pointer (some ⟨b 0, 0, none⟩))]
  bk : CB W kb 3 #[.int .i64 k]
  gr : GrJ (db + 3) (db + 1) (oneL D k) (fun i => i = kb ∨ i ∈ rs) W
  ms : Marks (db + 3) rs W
  below : Below w.heap.size w W
  rp : w.heap.size < p
  qd : q ≤ db
  kl : db + 2 ≤ kb
theorem OneI.later {w : World} {p q : Nat} {b c : Nat → Nat} {D : Ds} {db k kb : Nat} {rs : List Nat} {W W' : World} (h : OneI w p q b c D db k kb rs W) (j : Below W.heap.size W W') : OneI w p q b c D db k kb rs W' :=
  ⟨h.di.below j, h.rb.below j, h.bd.below j, h.bk.below j, (FrOk.grJ (db + 3) (db + 1) id).st _ _ _ _ h.gr (Kept.of j), h.ms.below j, h.below.trans (j.mono h.below.size), h.rp, h.qd, h.kl⟩
def OneJ (w : World) (p q : Nat) (b c : Nat → Nat) (D : Ds) (db : Nat) (k kb : Nat) (rs : List Nat) (X : Nat → Prop) (pre : List It) (G : Nat → Prop) (V : World) : Prop :=
  GrJ (db + 3) (db + 1) (oneL D k ++ shd pre) (fun i => G i ∨ X i) V ∧ OwnB kb 3 (fun _ : List It => #[.int .i64 k]) pre G V ∧ OwnB w.heap.size 4 (fun _ : List It => #[.bool false]) pre G V ∧
    OwnB db 24 (fun _ : List It => #[(.pointer (some ⟨b 0, 0, none⟩))]) pre G V ∧ DK w.heap.size w p q b c D (db + 3) G V ∧ ((∀ i, i ∈ rs → ¬ G i) ∧ Marks (db + 3) rs V)
theorem OneJ.fr (w : World) (p q : Nat) (b c : Nat → Nat) (D : Ds) (db : Nat) (k kb : Nat) (rs : List Nat) (X : Nat → Prop) : FrOk (OneJ w p q b c D db k kb rs X) :=
  ((FrOk.grJ (db + 3) (db + 1) (fun pre : List It => oneL D k ++ shd pre)).with_ X).and ((FrOk.ownB _ _ _).and ((FrOk.ownB _ _ _).and ((FrOk.ownB _ _ _).and ((FrOk.dk _ _ _ _ _ _ _ _).and
    (FrOk.reads (· ∈ rs) (fun _ V => Marks (db + 3) rs V) (fun s A h => h.lt) (fun s A A' h _ e => h.heap e))))))
theorem OneI.begin {w : World} {p q : Nat} {b c : Nat → Nat} {D : Ds} {db k kb : Nat} {rs : List Nat} {W W' : World} {R : Nat → Prop} (h : OneI w p q b c D db k kb rs W) (j : Below W.heap.size W W') (hR : ∀ i, R i → InR p q i ∨ W.heap.size ≤ i) :
    OneJ w p q b c D db k kb rs (fun i => R i ∨ i = kb ∨ i ∈ rs) [] (fun _ => False) W' := by
  have h' := h.later j
  obtain ⟨v, h1, h2, h3, h4⟩ := h.gr
  have k3 := own_belowW h3 j
  have hz : db + 3 ≤ W'.heap.size := by have := h2.lt; have := h.bk.lt; have := h.kl; have := j.size; omega
  refine ⟨⟨v, fun x => ?_, h2.below j, by simpa [shd, idsOf] using k3, fun g e x => ?_⟩, ⟨fun x => x, h'.bk⟩, ⟨fun x => x, h'.rb⟩, ⟨fun x => x, h'.bd⟩, ⟨h'.di, by have := h.qd; omega, fun i x => x.elim, h'.below, by have := h.rp; have := h.qd; have := h.di.rng 0 (by omega); omega, hz⟩, fun i hi x => x, h'.ms⟩
  · rcases x with x | x | x
    · exact x
    · rcases hR _ x with ⟨_, y⟩ | y
      · have := h.qd; omega
      · have := h2.lt; omega
    · exact h1 x
  · rcases x with x | x | x
    · exact x
    · have := h3.lt g e
      rcases hR _ x with ⟨_, y⟩ | y
      · have := h.qd; omega
      · omega
    · exact h4 g e x
theorem OneJ.over {w : World} {p q : Nat} {b c : Nat → Nat} {D : Ds} {db k kb : Nat} {rs : List Nat} {V W' : World} {X G : Nat → Prop} {ys : List It} {r : Nat} (h : OneJ w p q b c D db k kb rs X ys G V) (hy : ys = readyL D k) (hX : ∀ i, i = kb ∨ i ∈ rs → X i) (hr : V.heap[r]? = some (.deferred (some []))) (hr1 : db + 3 ≤ r) (hr2 : r ∉ rs)
    (j : Below V.heap.size V W') (hk : CB W' V.heap.size 3 #[.int .i64 (k + 1 : Nat)]) (rp : w.heap.size < p) (qd : q ≤ db) : OneI w p q b c D db (k + 1) V.heap.size (r :: rs) W' := by
  obtain ⟨⟨v, h1, h2, h3, h4⟩, _, ⟨_, hrb⟩, ⟨_, hdb⟩, hdk, _, hm⟩ := h
  subst hy
  have hm' := hm.below j
  refine ⟨hdk.di.below j, hrb.below j, hdb.below j, hk, ⟨v, fun x => ?_, h2.below j, own_belowW h3 j, fun g e x => ?_⟩, hm'.cons hr1 ((j.block r (Array.getElem?_eq_some_iff.1 hr).1).trans hr) hr2, hdk.below.trans (j.mono hdk.below.size), rp, qd, ?_⟩
  · rcases x with x | x
    · have := h2.lt; omega
    · rcases List.mem_cons.1 x with x | x
      · omega
      · exact h1 (.inr (hX _ (.inr x)))
  · rcases x with x | x
    · have := (h3.lt g e).2; omega
    · rcases List.mem_cons.1 x with x | x
      · subst x
        obtain ⟨q1, q2 | ⟨g', cap, cur, q3, q4, q5, _⟩⟩ := h3
        · rw [q2.1] at e; simp [Value.ownBlock] at e
        · subst q3
          simp only [Value.ownBlock, Option.some.injEq] at e
          subst e
          rw [hr] at q5
          simp at q5
      · exact h4 g e (.inr (hX _ (.inr x)))
  · have := hdk.lz; omega
theorem OneJ.grow {w : World} {p q : Nat} {b c : Nat → Nat} {D : Ds} {db k kb : Nat} {rs : List Nat} {V V' : World} {R X G : Nat → Prop} {pre : List It} {x : It} (h : OneJ w p q b c D db k kb rs X pre G V) (hX : ∀ i, R i ∨ i = kb ∨ i ∈ rs → X i) (rp : w.heap.size < p) (qd : q ≤ db) (h32 : 32 ≤ x.1)
    (hg : GrJ (db + 3) (db + 1) (oneL D k ++ shd pre ++ [x.1]) (fun i => G i ∨ X i) V') (hk : KF (fun i => G i ∨ X i) (fun _ => False) V V') (hb : Below (db + 1) V V') : OneJ w p q b c D db k kb rs X (pre ++ [x]) G V' ∧ KF G R V V' := by
  obtain ⟨_, ⟨h1, h2⟩, ⟨h3, h4⟩, ⟨h5, h6⟩, hdk, h7, h8⟩ := h
  have hpb := hdk.pb
  refine ⟨⟨?_, ⟨h1, h2.heap (hk.same kb (.inl (.inr (hX _ (.inr (.inl rfl))))))⟩, ⟨h3, h4.heap (hb.block _ (by omega))⟩, ⟨h5, h6.heap (hb.block _ (by omega))⟩, ⟨hdk.di.same hb.size (fun i y z => hb.block i (by omega)), hdk.ql, hdk.ge, hdk.below.trans (hb.mono (by omega)), hdk.nl, Nat.le_trans hdk.lz hb.size⟩, h7, h8.heap (fun r hr => hk.same r (.inl (.inr (hX _ (.inr (.inr hr))))))⟩, hk.mono (fun i y => ?_)⟩
  · rw [shd_yes h32, ← List.append_assoc]
    exact hg
  · rcases y with y | y
    · exact .inl (.inl y)
    · exact .inl (.inr (hX _ (.inl y)))
def kOf (a : Act) (W : World) : Nat := match a.tmps.getD 10 undef with
  | .pointer (some p) => match W.cell? p with
    | some (.int _ i) => i.toNat
    | _ => 0
  | _ => 0
def OneA (f n : Int) (v : Value) (w w2 : World) (n9 p q : Nat) (b c : Nat → Nat) (D : Ds) (a : Act) (W : World) : Prop := ∃ (k kb : Nat) (rs : List Nat) (e25 e26 e27 e28 e29 e30 e31 e32 e33 e56 : Value), a = { tmps := #[.int .u8 f, .int .u8 n, v, undef, undef, undef, .pointer (some ⟨w.heap.size, 0, none⟩), .bool true, .pointer (some ⟨w2.heap.size, 0, none⟩), .pointer (some ⟨w2.heap.size + 1, 0, none⟩), .pointer (some ⟨kb, 0, none⟩), undef, .bool true, .bool true, .bool false, .int .u8 f, .int .u8 n, v, .pointer (some ⟨b 0, 0, none⟩), .bool true, .bool false, .bool false, .pointer (some ⟨b 0, 0, none⟩), .bool false, .bool false, e25, e26, e27, e28, e29, e30, e31, e32, e33, undef, undef, undef, undef, undef, undef, undef, undef, undef, undef, undef, undef, undef, undef, undef, undef, undef, undef, undef, undef, undef, undef, e56], defers := rs.map markD } ∧ k ≤ n9 ∧ OneI w p q b c D w2.heap.size k kb rs W
set_option maxRecDepth 100000 in
set_option maxHeartbeats 16000000 in
theorem one_law (f n : Int) (v : Value) (xs : List Xa) (w : World) (hf0 : 0 ≤ f) (hf1 : f < 256) (hn0 : 0 ≤ n) (hn1 : n < 256) (h : ActsAt w v xs) (hl : xs.length ≤ 9223372036854775806) :
    Calls Tryz.prog 5 #[.int .u8 f, .int .u8 n, v] w fun e w' => e = .returned (.bool true) ∧ Below w.heap.size w w' := by
  obtain ⟨i0, hi2, hz0, hz1, hz2⟩ := info_parts info_i
  have HP := hi (fun W (k : Below w.heap.size w W) => played_any f n v xs W hf0 hf1 hn0 hn1 (h.below k) hl)
  clear h hl
  have HB0 := hi (bal w (.cells #[.bool false] 4))
  have HR0 := hi (CB.new w 4 #[.bool false])
  refine (callsIn_wide (n := 6)).1 ?_
  refine callsIn_of_wp_marks Tryz.func5 rfl trivial ?_ rfl
  simp only [Tryz.ntmps5, List.size_toArray, List.length_cons, List.length_nil, Nat.reduceAdd, Nat.reduceSub, Array.replicate_succ, Array.replicate_zero, List.push_toArray, List.append_toArray, List.nil_append, List.cons_append]
  refine wpIn_wide.2 ?_
  go_wp2_with (first
    | (go_at_call 10; ((with_reducible refine (awake_any _).mono ?_); rintro e w1 ⟨rfl, hb⟩; have HB1 := hi (HB0.out.trans (hb.mono HB0.out.size)); have HR1 := hi (HR0.out.below hb); clear hb))
    | (go_at_call 20; ((with_reducible refine (HP.out _ HB1.out).mono ?_); rintro e w2 ⟨p, q, b, c, D, rfl, hd⟩; have HD := hi hd; have hcd := (CB.new w2 24 #[(.pointer (some ⟨b 0, 0, none⟩))]).cell 0; clear hd)))
  have hok := HD.out.ok
  have HOK := hi hok
  obtain ⟨n9, hn9⟩ : ∃ n9, D.cs.length = n9 := ⟨_, rfl⟩
  have hn1' : n9 ≤ 8 := by have := hok.n8; omega
  have CO := hi (fun W (z : DiAt W p q b c D) => show Calls Tryz.prog 21 #[(.pointer (some ⟨b 0, 0, none⟩))] W fun e w' => e = .returned (.int .i64 n9) ∧ W = w' from by rw [← hn9]; exact cores_any z)
  have RDY := hi (fun W (k : Nat) (z : DiAt W p q b c D) => ready_dist z hok (k : Int))
  have TG0 := hi (fun W (id : Int) (hid : Int64 id) (z : DiAt W p q b c D) => target_dist z hok hid)
  have HRP := hi (show w.heap.size < p from by have := HR1.out.lt; have := HD.out.lo; omega)
  have HQD := hi (show q ≤ w2.heap.size from HD.out.di.le)
  obtain ⟨W3, hW3, HI0⟩ : ∃ W, (((w2.alloc (.cells #[(.pointer (some ⟨b 0, 0, none⟩))] 24)).alloc (.cells #[.slice none 0 0] 47)).alloc (.cells #[.int .i64 0] 3)) = W ∧ OneI w p q b c D w2.heap.size 0 (w2.heap.size + 1 + 1) [] W := by
    have k1 := bal w2 (.cells #[(.pointer (some ⟨b 0, 0, none⟩))] 24)
    have k2 := k1.alloc k1.size (.cells #[.slice none 0 0] 47)
    have k3 := k2.alloc k2.size (.cells #[.int .i64 0] 3)
    refine ⟨_, rfl, HD.out.di.below k3, (HR1.out.below HD.out.below).below k3, ((CB.new w2 24 #[(.pointer (some ⟨b 0, 0, none⟩))]).alloc _).alloc _, ?_, ⟨.slice none 0 0, ?_, ?_, World.ownsRow_nil _ _ _ _, fun g e => by simp [Value.ownBlock] at e⟩, Marks.nil _ _, HB1.out.trans ((HD.out.below.mono HB1.out.size).trans (k3.mono (HB1.out.trans (HD.out.below.mono HB1.out.size)).size)), HRP.out, HQD.out, by omega⟩
    · simpa using CB.new ((w2.alloc (.cells #[(.pointer (some ⟨b 0, 0, none⟩))] 24)).alloc (.cells #[.slice none 0 0] 47)) 3 #[.int .i64 0]
    · rintro (x | x)
      · omega
      · simp at x
    · exact (cb_second (w := w2) (o := .cells #[(.pointer (some ⟨b 0, 0, none⟩))] 24) (cs := #[.slice none 0 0]) (t := 47)).alloc _
  rw [hW3]
  have HI0 := hi HI0
  clear hW3 hok hn9 hcd HP HB0 HR0 HB1 HR1 HD
  refine wp_loop (OneA f n v w w2 n9 p q b c D) (fun a W => n9 - kOf a W) ?_ ?_
  · exact ⟨0, w2.heap.size + 1 + 1, [], _, _, _, _, _, _, _, _, _, _, rfl, Nat.zero_le _, HI0.out⟩
  · rintro a W ⟨k, kb, rs, e25, e26, e27, e28, e29, e30, e31, e32, e33, e56, rfl, hk, hI⟩
    have HI := hi hI
    have HKO := hi (show ∀ t d, kOf { tmps := t, defers := d } W = k ∨ t.getD 10 undef ≠ .pointer (some ⟨kb, 0, none⟩) from fun t d => by
      by_cases ht : t.getD 10 undef = .pointer (some ⟨kb, 0, none⟩)
      · left
        unfold kOf
        simp only [ht, hI.bk.cell 0]
        simp
      · exact .inr ht)
    have HID := hi (show OneI w p q b c D w2.heap.size k kb rs W.drew from hI.later (Below.drewN (m := 1) (Below.refl _ _)))
    clear hI
    by_cases hlt : k < n9
    · have t1 : decide ((k : Int) < n9) = true := by simp; omega
      have hlt' : (k : Int) < n9 := by omega
      go_wp2
      refine wp_region_noPanic ?_
      refine wp_region_last_drew (S := (fun W' => CB W' kb 3 #[.int .i64 k] ∧ CB W' w2.heap.size 24 #[(.pointer (some ⟨b 0, 0, none⟩))] ∧ DiAt W' p q b c D)) [] (by kernel_rfl) ⟨HI.out.bk.drew, HI.out.bd.drew, HI.out.di.drew⟩ (fun hHeld => ?_)
      (try simp only [Array.replicate_succ, Array.replicate_zero, List.push_toArray, List.nil_append, List.cons_append])
      refine wpAnyF_take (i := 0) (v := ?_) (by kernel_rfl) (by kernel_rfl) rfl (by kernel_rfl) (by kernel_rfl) (by kernel_rfl) (fun _ _ _ h => h) (Or.inl ⟨by rfl, ?_⟩) (by assumption) ?_
      rotate_left
      · intro w' hSw; (try dsimp only at hSw); have k0 := hSw.1.cell 0; have d0 := hSw.2.1.cell 0; go_simp; (try with_reducible rfl)
      (try simp only [Act.put, List.getElem_toArray, List.getElem_cons_zero, List.setIfInBounds_toArray, List.set_cons_zero, List.set_cons_succ])
      refine wpAnyF_take (i := 1) (v := ?_) (by kernel_rfl) (by kernel_rfl) rfl (by kernel_rfl) (by kernel_rfl) (by kernel_rfl) (fun _ _ _ h => h) (Or.inl ⟨by rfl, ?_⟩) (by assumption) ?_
      rotate_left
      · intro w' hSw; (try dsimp only at hSw); have k0 := hSw.1.cell 0; have d0 := hSw.2.1.cell 0; go_simp; (try with_reducible rfl)
      (try simp only [Act.put, List.getElem_toArray, List.getElem_cons_zero, List.getElem_cons_succ, List.setIfInBounds_toArray, List.set_cons_zero, List.set_cons_succ])
      refine wpAnyF_ready (rs := [2]) (by kernel_rfl) (by simp) ?_
      refine AllReadyF.cons rfl (fun KK hKK => ?_) AllReadyF.nil
      go_simp
      ((with_reducible refine (CO.out _ hHeld.2.2).mono ?_); rintro e' w5 ⟨rfl, rfl⟩)
      (try go_simp)
      refine hKK.out _ _ hHeld (fun hHeld => ?_)
      clear hKK KK
      (try simp only [Act.put, List.getElem_toArray, List.getElem_cons_zero, List.getElem_cons_succ, List.setIfInBounds_toArray, List.set_cons_zero, List.set_cons_succ])
      refine wpAnyF_take (i := 3) (v := ?_) (by kernel_rfl) (by kernel_rfl) rfl (by kernel_rfl) (by kernel_rfl) (by kernel_rfl) (fun _ _ _ h => h) (Or.inl ⟨by rfl, ?_⟩) (by assumption) ?_
      rotate_left
      · intro w' hSw; (try dsimp only at hSw); have k0 := hSw.1.cell 0; have d0 := hSw.2.1.cell 0; go_simp; (try with_reducible rfl)
      (try simp only [Act.put, List.getElem_toArray, List.getElem_cons_zero, List.getElem_cons_succ, List.setIfInBounds_toArray, List.set_cons_zero, List.set_cons_succ])
      refine wpAnyF_done (by kernel_rfl) ?_ _
      refine NoPanic.normal ?_
      have HDD := hi HID.out.di
      have kd0 := HI.out.bk.cell 0
      have dd0 := HI.out.bd.cell 0
      clear hHeld
      go_wp2_with (go_at_call 22; ((with_reducible refine (RDY.out _ _ HDD.out).mono ?_); rintro e w6 ⟨R, gf, lb, rfl, hR, hit, hb⟩; have HBG := hi (HID.out.begin hb hR); have HIT := hi hit; have S6 := hi hb.size; clear hit hb hR))
      obtain ⟨gf', lb', eq9, eg, hh6, hq⟩ := HIT.out
      obtain ⟨rfl, rfl⟩ : gf = gf' ∧ lb = lb' := by simpa using eq9
      have hRw := HIT.out.lt
      have HRW := hi hRw
      have hst := hq w6 (Nat.le_refl _) (fun _ _ => rfl)
      clear hq eq9
      obtain ⟨XX, hXX⟩ : ∃ XX : Nat → Prop, XX = fun i => R i ∨ i = kb ∨ i ∈ rs := ⟨_, rfl⟩
      rw [← hXX] at HBG
      have HXX := hi (show ∀ i, R i ∨ i = kb ∨ i ∈ rs → XX i from fun i z => by rw [hXX]; exact z)
      have HXL := hi (show ∀ i, XX i → i < w6.heap.size from fun i z => by
        rw [hXX] at z
        rcases z with z | rfl | z
        · exact hRw i z
        · exact HBG.out.2.1.2.lt
        · exact HBG.out.2.2.2.2.2.2.lt i z)
      clear hXX
      refine (wpIn_wide (n := 6)).1 ?_
      refine range_fr (n := 6) (by omega) (gf := gf) (lb := lb) rfl eg hst (Below.refl _ _) (fun _ => rfl) hRw
        (fun _ => False) (fun i x => x.elim)
        (OneJ w p q b c D w2.heap.size k kb rs XX)
        (fun cd pre G V => False)
        (OneJ.fr w p q b c D w2.heap.size k kb rs XX)
        (fun _ => ⟨fun _ _ _ _ h _ => h, fun _ _ _ _ h _ => h⟩)
        HBG.out
        (fun x a' G V => a' = { tmps := #[.int .u8 f, .int .u8 n, v, undef, undef, undef, .pointer (some ⟨w.heap.size, 0, none⟩), .bool true, .pointer (some ⟨w2.heap.size, 0, none⟩), .pointer (some ⟨w2.heap.size + 1, 0, none⟩), .pointer (some ⟨kb, 0, none⟩), .int .i64 x.1, .bool true, .bool true, .bool false, .int .u8 f, .int .u8 n, v, .pointer (some ⟨b 0, 0, none⟩), .bool true, .bool false, .bool false, .pointer (some ⟨b 0, 0, none⟩), .bool false, .bool false, .int .i64 k, .pointer (some ⟨b 0, 0, none⟩), .int .i64 n9, .bool true, e29, e30, .pointer (some ⟨b 0, 0, none⟩), .int .i64 k, .func (.func gf) #[] lb, .int .i64 x.1, x.2.ln.v, undef, undef, undef, undef, undef, undef, undef, undef, undef, undef, undef, undef, undef, undef, undef, undef, undef, undef, undef, undef, e56], defers := [] })
        (fun x a' => ⟨fun s F A A' q _ => q, fun s F G A q _ => q⟩)
        ?assign ?body ?done ?stop
      case assign =>
        rintro l' pre x G V K h hFG hG hsz hK
        gi_wp2
        exact hK _ _ (KF.refl _ _ _) h rfl
      case body =>
        rintro l' pre ⟨id, ⟨⟨⟨e, lb', q', a⟩, en, gr, pp⟩, s⟩⟩ a' G V hFG hG hsz hJ rfl hpx
        have hJ' := hJ
        obtain ⟨⟨sv, _, hsb, hsr, _⟩, ⟨_, hkb⟩, _, ⟨_, hdb⟩, hdk, _⟩ := hJ'
        have HJ := hi hJ
        have HGG := hi hG
        have HKB := hi hkb
        have HDB := hi hdb
        have HSB := hi hsb
        have HDI := hi hdk.di
        have HFL := hi (show ∀ i, G i ∨ R i → i < V.heap.size from fun i z => by rcases z with z | z; exact (hG i z).1; have := HRW.out i z; omega)
        have HXL := hi (show ∀ i, XX i → i < V.heap.size from fun i z => by have := HXL.out i z; omega)
        have HYL := hi (show (oneL D k ++ shd pre).length ≤ 900 from by
          have h1 := oneL_len HOK.out k
          have h2 := shd_len pre
          have h3 := hpx.length_le
          have h4 := readyL_len HOK.out (k : Int)
          rw [List.length_append] at h3 ⊢
          omega)
        have hmem := hpx.subset (show (id, (⟨⟨⟨e, lb', q', a⟩, en, gr, pp⟩, s⟩ : En)) ∈ pre ++ [(id, ⟨⟨⟨e, lb', q', a⟩, en, gr, pp⟩, s⟩)] by simp)
        have hid : Int64 id := by
          have h1 := HOK.out.m
          obtain ⟨j, _, hj, ⟨i, hi, h9⟩ | ⟨i, hi, h9, _⟩⟩ := seen_mem (ready_mem hmem).1
          · have := HOK.out.own j hj
            simp only [Prod.mk.injEq] at h9
            constructor <;> show _ ≤ _ <;> omega
          · simp only [Prod.mk.injEq] at h9
            constructor <;> show _ ≤ _ <;> omega
        by_cases h32 : 32 ≤ id
        · have H32 := hi (show (32 : Int) ≤ ((id, (⟨⟨⟨e, lb', q', a⟩, en, gr, pp⟩, s⟩ : En)) : It).1 from h32)
          have d32 : decide ((32 : Int) ≤ id) = true := decide_eq_true h32
          obtain ⟨hnew, htg⟩ := one_new HOK.out k hpx h32
          have HAS := hi (fun W (z : IntsAt W sv (oneL D k ++ shd pre)) => show Calls Tryz.prog 23 #[sv, .int .i64 id] W fun e w' => e = .returned (.bool false) ∧ W = w' from by
            have := ints_has (oneL D k ++ shd pre) id sv W z (by have := HYL.out; omega)
            rw [show isIn (oneL D k ++ shd pre) id = false from hnew] at this
            exact this)
          have TG := hi (fun W (z : DiAt W p q b c D) => show Calls Tryz.prog 24 #[(.pointer (some ⟨b 0, 0, none⟩)), .int .i64 id] W fun e w' => e = .returned (.int .i64 k) ∧ Below W.heap.size W w' from by
            have := TG0.out W id hid z
            rw [show targetV D id = k from htg] at this
            exact this)
          have IVB := hi (show ∀ W', Below V.heap.size V W' → IntsAt W' sv (oneL D k ++ shd pre) from fun W' z => intsAt_row (own_belowW hsr z))
          clear hJ hsb hsr hkb hdb hdk hpx hmem hid hnew htg hG
          gi_wp2
          refine region_last_r (S := (fun W' => Below V.heap.size V W')) [] (by kernel_rfl) (by rfl) (Below.drewN (m := 1) (Below.refl _ _)) (fun hHeld => ?_)
          (try simp only [Array.replicate_succ, Array.replicate_zero, List.push_toArray, List.nil_append, List.cons_append])
          refine wpAnyF_take (i := 0) (v := ?_) (by kernel_rfl) (by kernel_rfl) rfl (by kernel_rfl) (by kernel_rfl) (by kernel_rfl) (fun _ _ _ h => h) (Or.inl ⟨by rfl, ?_⟩) (by assumption) ?_
          rotate_left
          · intro w' hSw; (try dsimp only at hSw); have k0 := (HKB.out.below hSw).cell 0; have d0 := (HDB.out.below hSw).cell 0; have s0 := (HSB.out.below hSw).cell 0; go_simp; (try with_reducible rfl)
          (try simp only [Act.put, List.getElem_toArray, List.getElem_cons_zero, List.setIfInBounds_toArray, List.set_cons_zero, List.set_cons_succ])
          refine wpAnyF_take (i := 1) (v := ?_) (by kernel_rfl) (by kernel_rfl) rfl (by kernel_rfl) (by kernel_rfl) (by kernel_rfl) (fun _ _ _ h => h) (Or.inl ⟨by rfl, ?_⟩) (by assumption) ?_
          rotate_left
          · intro w' hSw; (try dsimp only at hSw); have k0 := (HKB.out.below hSw).cell 0; have d0 := (HDB.out.below hSw).cell 0; have s0 := (HSB.out.below hSw).cell 0; go_simp; (try with_reducible rfl)
          (try simp only [Act.put, List.getElem_toArray, List.getElem_cons_zero, List.getElem_cons_succ, List.setIfInBounds_toArray, List.set_cons_zero, List.set_cons_succ])
          refine wpAnyF_take (i := 2) (v := ?_) (by kernel_rfl) (by kernel_rfl) rfl (by kernel_rfl) (by kernel_rfl) (by kernel_rfl) (fun _ _ _ h => h) (Or.inl ⟨by rfl, ?_⟩) (by assumption) ?_
          rotate_left
          · intro w' hSw; (try dsimp only at hSw); have k0 := (HKB.out.below hSw).cell 0; have d0 := (HDB.out.below hSw).cell 0; have s0 := (HSB.out.below hSw).cell 0; go_simp; (try with_reducible rfl)
          (try simp only [Act.put, List.getElem_toArray, List.getElem_cons_zero, List.getElem_cons_succ, List.setIfInBounds_toArray, List.set_cons_zero, List.set_cons_succ])
          refine wpAnyF_take (i := 3) (v := ?_) (by kernel_rfl) (by kernel_rfl) rfl (by kernel_rfl) (by kernel_rfl) (by kernel_rfl) (fun _ _ _ h => h) (Or.inl ⟨by rfl, ?_⟩) (by assumption) ?_
          rotate_left
          · intro w' hSw; (try dsimp only at hSw); have k0 := (HKB.out.below hSw).cell 0; have d0 := (HDB.out.below hSw).cell 0; have s0 := (HSB.out.below hSw).cell 0; go_simp; (try with_reducible rfl)
          (try simp only [Act.put, List.getElem_toArray, List.getElem_cons_zero, List.getElem_cons_succ, List.setIfInBounds_toArray, List.set_cons_zero, List.set_cons_succ])
          refine wpAnyF_take (i := 4) (v := ?_) (by kernel_rfl) (by kernel_rfl) rfl (by kernel_rfl) (by kernel_rfl) (by kernel_rfl) (fun _ _ _ h => h) (Or.inl ⟨by rfl, ?_⟩) (by assumption) ?_
          rotate_left
          · intro w' hSw; (try dsimp only at hSw); have k0 := (HKB.out.below hSw).cell 0; have d0 := (HDB.out.below hSw).cell 0; have s0 := (HSB.out.below hSw).cell 0; go_simp; (try with_reducible rfl)
          (try simp only [Act.put, List.getElem_toArray, List.getElem_cons_zero, List.getElem_cons_succ, List.setIfInBounds_toArray, List.set_cons_zero, List.set_cons_succ])
          refine wpAnyF_ready (rs := [5]) (by kernel_rfl) (by simp) ?_
          refine AllReadyF.cons rfl (fun KK hKK => ?_) AllReadyF.nil
          go_simp
          ((with_reducible refine (HAS.out _ (IVB.out _ hHeld)).mono ?_); rintro e' w5 ⟨rfl, rfl⟩)
          (try go_simp)
          refine hKK.out _ _ hHeld (fun hHeld => ?_)
          clear hKK KK
          (try simp only [Act.put, List.getElem_toArray, List.getElem_cons_zero, List.getElem_cons_succ, List.setIfInBounds_toArray, List.set_cons_zero, List.set_cons_succ])
          refine wpAnyF_take (i := 6) (v := ?_) (by kernel_rfl) (by kernel_rfl) rfl (by kernel_rfl) (by kernel_rfl) (by kernel_rfl) (fun _ _ _ h => h) (Or.inl ⟨by rfl, ?_⟩) (by assumption) ?_
          rotate_left
          · intro w' hSw; (try dsimp only at hSw); have k0 := (HKB.out.below hSw).cell 0; have d0 := (HDB.out.below hSw).cell 0; have s0 := (HSB.out.below hSw).cell 0; go_simp; (try with_reducible rfl)
          (try simp only [Act.put, List.getElem_toArray, List.getElem_cons_zero, List.getElem_cons_succ, List.setIfInBounds_toArray, List.set_cons_zero, List.set_cons_succ])
          refine wpAnyF_take (i := 7) (v := ?_) (by kernel_rfl) (by kernel_rfl) rfl (by kernel_rfl) (by kernel_rfl) (by kernel_rfl) (fun _ _ _ h => h) (Or.inl ⟨by rfl, ?_⟩) (by assumption) ?_
          rotate_left
          · intro w' hSw; (try dsimp only at hSw); have k0 := (HKB.out.below hSw).cell 0; have d0 := (HDB.out.below hSw).cell 0; have s0 := (HSB.out.below hSw).cell 0; go_simp; (try with_reducible rfl)
          (try simp only [Act.put, List.getElem_toArray, List.getElem_cons_zero, List.getElem_cons_succ, List.setIfInBounds_toArray, List.set_cons_zero, List.set_cons_succ])
          refine wpAnyF_take (i := 8) (v := ?_) (by kernel_rfl) (by kernel_rfl) rfl (by kernel_rfl) (by kernel_rfl) (by kernel_rfl) (fun _ _ _ h => h) (Or.inl ⟨by rfl, ?_⟩) (by assumption) ?_
          rotate_left
          · intro w' hSw; (try dsimp only at hSw); have k0 := (HKB.out.below hSw).cell 0; have d0 := (HDB.out.below hSw).cell 0; have s0 := (HSB.out.below hSw).cell 0; go_simp; (try with_reducible rfl)
          (try simp only [Act.put, List.getElem_toArray, List.getElem_cons_zero, List.getElem_cons_succ, List.setIfInBounds_toArray, List.set_cons_zero, List.set_cons_succ])
          refine wpAnyF_take (i := 10) (v := ?_) (by kernel_rfl) (by kernel_rfl) rfl (by kernel_rfl) (by kernel_rfl) (by kernel_rfl) (fun _ _ _ h => h) (Or.inl ⟨by rfl, ?_⟩) (by assumption) ?_
          rotate_left
          · intro w' hSw; (try dsimp only at hSw); have k0 := (HKB.out.below hSw).cell 0; have d0 := (HDB.out.below hSw).cell 0; have s0 := (HSB.out.below hSw).cell 0; go_simp; (try with_reducible rfl)
          (try simp only [Act.put, List.getElem_toArray, List.getElem_cons_zero, List.getElem_cons_succ, List.setIfInBounds_toArray, List.set_cons_zero, List.set_cons_succ])
          refine wpAnyF_ready (rs := [9]) (by kernel_rfl) (by simp) ?_
          refine AllReadyF.cons rfl (fun KK hKK => ?_) AllReadyF.nil
          go_simp
          ((with_reducible refine (TG.out _ (HDI.out.below hHeld)).mono ?_); rintro e' V2 ⟨rfl, hb⟩; have hh := hHeld.trans (hb.mono hHeld.size); clear hb)
          (try go_simp)
          refine hKK.out _ _ hh (fun hHeld => ?_)
          clear hKK KK
          (try simp only [Act.put, List.getElem_toArray, List.getElem_cons_zero, List.getElem_cons_succ, List.setIfInBounds_toArray, List.set_cons_zero, List.set_cons_succ])
          refine wpAnyF_take (i := 11) (v := ?_) (by kernel_rfl) (by kernel_rfl) rfl (by kernel_rfl) (by kernel_rfl) (by kernel_rfl) (fun _ _ _ h => h) (Or.inl ⟨by rfl, ?_⟩) (by assumption) ?_
          rotate_left
          · intro w' hSw; (try dsimp only at hSw); have k0 := (HKB.out.below hSw).cell 0; have d0 := (HDB.out.below hSw).cell 0; have s0 := (HSB.out.below hSw).cell 0; go_simp; (try with_reducible rfl)
          (try simp only [Act.put, List.getElem_toArray, List.getElem_cons_zero, List.getElem_cons_succ, List.setIfInBounds_toArray, List.set_cons_zero, List.set_cons_succ])
          refine wpAnyF_take (i := 12) (v := ?_) (by kernel_rfl) (by kernel_rfl) rfl (by kernel_rfl) (by kernel_rfl) (by kernel_rfl) (fun _ _ _ h => h) (Or.inl ⟨by rfl, ?_⟩) (by assumption) ?_
          rotate_left
          · intro w' hSw; (try dsimp only at hSw); have k0 := (HKB.out.below hSw).cell 0; have d0 := (HDB.out.below hSw).cell 0; have s0 := (HSB.out.below hSw).cell 0; go_simp; (try with_reducible rfl)
          (try simp only [Act.put, List.getElem_toArray, List.getElem_cons_zero, List.getElem_cons_succ, List.setIfInBounds_toArray, List.set_cons_zero, List.set_cons_succ])
          refine wpAnyF_take (i := 13) (v := ?_) (by kernel_rfl) (by kernel_rfl) rfl (by kernel_rfl) (by kernel_rfl) (by kernel_rfl) (fun _ _ _ h => h) (Or.inl ⟨by rfl, ?_⟩) (by assumption) ?_
          rotate_left
          · intro w' hSw; (try dsimp only at hSw); have k0 := (HKB.out.below hSw).cell 0; have d0 := (HDB.out.below hSw).cell 0; have s0 := (HSB.out.below hSw).cell 0; go_simp; (try with_reducible rfl)
          (try simp only [Act.put, List.getElem_toArray, List.getElem_cons_zero, List.getElem_cons_succ, List.setIfInBounds_toArray, List.set_cons_zero, List.set_cons_succ])
          refine wpAnyF_done (by kernel_rfl) ?_ _
          refine normQ_in ?_
          have HV2 := hi hHeld
          have HJ2 := hi ((OneJ.fr w p q b c D w2.heap.size k kb rs XX).st _ _ _ _ HJ.out (Kept.of hHeld))
          have hsz2 := hHeld.size
          clear hHeld
          obtain ⟨⟨v, hnb, hv, hrow, hng⟩, _⟩ := HJ2.out
          have hcv := hv.cell 0
          have HV := hi hv
          have HNB := hi hnb
          have HNG := hi hng
          obtain ⟨ys, hys⟩ : ∃ ys, oneL D k ++ shd pre = ys := ⟨_, rfl⟩
          rw [hys] at hrow HYL
          obtain ⟨m, hm⟩ : ∃ m, ys.length = m := ⟨_, rfl⟩
          have HM := hi hm
          have hmb : m + 1 ≤ 1000 := by have := HYL.out; omega
          rw [hm] at hrow
          have HYS := hi hys
          have HBZ := hi (show w2.heap.size + 3 ≤ V2.heap.size from Nat.le_trans HJ2.out.2.2.2.2.1.lz (Nat.le_refl _))
          have hbz := HBZ.out
          have HXF := hi (show ∀ i, (G i ∨ XX i) → i < V2.heap.size ∧ ¬ (fun _ : Nat => False) i from fun i z => ⟨Nat.lt_of_lt_of_le (by rcases z with z | z; exact (HGG.out i z).1; exact HXL.out i z) hsz2, fun x => x⟩)
          clear hys hm hnb hng hv
          obtain ⟨va, vc, rfl⟩ := own_slice hrow
          gi_wp2_with (first
            | (gi_at_builtin; go_loud (refine wpListIn_append_own_at _ rfl _ _ 47 rfl (w2.heap.size + 3) 3 i0 (.int .i64 0) 1 8 Tryz.underlying47 hi2 hz0 hz1 hz2 rfl (by decide) _ _ _ rfl (hrow.alloc _) ⟨V2.heap.size, 0, none⟩ 1 1 [.int .i64 id] rfl rfl (cell_one_new _ _ _) (by simp [Value.oneCell']) (by unfold maxLen; omega) (by omega) (by simp; omega) ?_; intro v' w9 hown' hgrow _ hat; obtain ⟨g', cap', rfl⟩ := ownsRow_succ hown'; obtain ⟨hv1, hgj, hkf, hbl⟩ := GrJ.step (R := fun _ => False) (x := id) HM.out (by omega) HNB.out HV.out hrow HNG.out HXF.out (fun i x => x.elim) HBZ.out hown' hgrow hat; have hc1 := hv1.cell 0; have hf1 := hv1.frozen; rw [← HYS.out] at hgj; have HGR := hi (OneJ.grow (R := R) (x := (id, (⟨⟨⟨e, lb', q', a⟩, en, gr, pp⟩, s⟩ : En))) HJ2.out HXX.out HRP.out HQD.out H32.out hgj hkf hbl); have hc2 := (hv1.set 0 (.slice (some ⟨g', 0, none⟩) (m + 1) cap')).cell 0; clear hv1 hgj hkf hbl))
            | gi_in)
          exact ⟨(KF.of_below HV2.out HFL.out).trans HGR.out.2, HGR.out.1⟩
        · have H32 := hi (show ¬ (32 : Int) ≤ ((id, (⟨⟨⟨e, lb', q', a⟩, en, gr, pp⟩, s⟩ : En)) : It).1 from h32)
          have d32 : decide ((32 : Int) ≤ id) = false := decide_eq_false h32
          clear hJ hsb hsr hkb hdb hdk hpx hmem hid hG
          gi_wp2
          refine region_last_r (S := (fun W' => Below V.heap.size V W')) [] (by kernel_rfl) (by rfl) (Below.drewN (m := 1) (Below.refl _ _)) (fun hHeld => ?_)
          (try simp only [Array.replicate_succ, Array.replicate_zero, List.push_toArray, List.nil_append, List.cons_append])
          refine wpAnyF_take (i := 0) (v := ?_) (by kernel_rfl) (by kernel_rfl) rfl (by kernel_rfl) (by kernel_rfl) (by kernel_rfl) (fun _ _ _ h => h) (Or.inl ⟨by rfl, ?_⟩) (by assumption) ?_
          rotate_left
          · intro w' hSw; (try dsimp only at hSw); have k0 := (HKB.out.below hSw).cell 0; have d0 := (HDB.out.below hSw).cell 0; have s0 := (HSB.out.below hSw).cell 0; go_simp; (try with_reducible rfl)
          (try simp only [Act.put, List.getElem_toArray, List.getElem_cons_zero, List.setIfInBounds_toArray, List.set_cons_zero, List.set_cons_succ])
          refine wpAnyF_take (i := 1) (v := ?_) (by kernel_rfl) (by kernel_rfl) rfl (by kernel_rfl) (by kernel_rfl) (by kernel_rfl) (fun _ _ _ h => h) (Or.inl ⟨by rfl, ?_⟩) (by assumption) ?_
          rotate_left
          · intro w' hSw; (try dsimp only at hSw); have k0 := (HKB.out.below hSw).cell 0; have d0 := (HDB.out.below hSw).cell 0; have s0 := (HSB.out.below hSw).cell 0; go_simp; (try with_reducible rfl)
          (try simp only [Act.put, List.getElem_toArray, List.getElem_cons_zero, List.getElem_cons_succ, List.setIfInBounds_toArray, List.set_cons_zero, List.set_cons_succ])
          refine wpAnyF_take (i := 2) (v := ?_) (by kernel_rfl) (by kernel_rfl) rfl (by kernel_rfl) (by kernel_rfl) (by kernel_rfl) (fun _ _ _ h => h) (Or.inl ⟨by rfl, ?_⟩) (by assumption) ?_
          rotate_left
          · intro w' hSw; (try dsimp only at hSw); have k0 := (HKB.out.below hSw).cell 0; have d0 := (HDB.out.below hSw).cell 0; have s0 := (HSB.out.below hSw).cell 0; go_simp; (try with_reducible rfl)
          (try simp only [Act.put, List.getElem_toArray, List.getElem_cons_zero, List.getElem_cons_succ, List.setIfInBounds_toArray, List.set_cons_zero, List.set_cons_succ])
          refine wpAnyF_take (i := 3) (v := undef) (by kernel_rfl) (by kernel_rfl) rfl (by kernel_rfl) (by kernel_rfl) (by kernel_rfl) (fun _ _ _ h => h) (Or.inr ⟨by rfl, rfl⟩) (by assumption) ?_
          (try simp only [Act.put, List.getElem_toArray, List.getElem_cons_zero, List.getElem_cons_succ, List.setIfInBounds_toArray, List.set_cons_zero, List.set_cons_succ])
          refine wpAnyF_take (i := 4) (v := undef) (by kernel_rfl) (by kernel_rfl) rfl (by kernel_rfl) (by kernel_rfl) (by kernel_rfl) (fun _ _ _ h => h) (Or.inr ⟨by rfl, rfl⟩) (by assumption) ?_
          (try simp only [Act.put, List.getElem_toArray, List.getElem_cons_zero, List.getElem_cons_succ, List.setIfInBounds_toArray, List.set_cons_zero, List.set_cons_succ])
          refine wpAnyF_take (i := 5) (v := undef) (by kernel_rfl) (by kernel_rfl) rfl (by kernel_rfl) (by kernel_rfl) (by kernel_rfl) (fun _ _ _ h => h) (Or.inr ⟨by rfl, rfl⟩) (by assumption) ?_
          (try simp only [Act.put, List.getElem_toArray, List.getElem_cons_zero, List.getElem_cons_succ, List.setIfInBounds_toArray, List.set_cons_zero, List.set_cons_succ])
          refine wpAnyF_take (i := 6) (v := undef) (by kernel_rfl) (by kernel_rfl) rfl (by kernel_rfl) (by kernel_rfl) (by kernel_rfl) (fun _ _ _ h => h) (Or.inr ⟨by rfl, rfl⟩) (by assumption) ?_
          (try simp only [Act.put, List.getElem_toArray, List.getElem_cons_zero, List.getElem_cons_succ, List.setIfInBounds_toArray, List.set_cons_zero, List.set_cons_succ])
          refine wpAnyF_take (i := 7) (v := undef) (by kernel_rfl) (by kernel_rfl) rfl (by kernel_rfl) (by kernel_rfl) (by kernel_rfl) (fun _ _ _ h => h) (Or.inr ⟨by rfl, rfl⟩) (by assumption) ?_
          (try simp only [Act.put, List.getElem_toArray, List.getElem_cons_zero, List.getElem_cons_succ, List.setIfInBounds_toArray, List.set_cons_zero, List.set_cons_succ])
          refine wpAnyF_take (i := 8) (v := undef) (by kernel_rfl) (by kernel_rfl) rfl (by kernel_rfl) (by kernel_rfl) (by kernel_rfl) (fun _ _ _ h => h) (Or.inr ⟨by rfl, rfl⟩) (by assumption) ?_
          (try simp only [Act.put, List.getElem_toArray, List.getElem_cons_zero, List.getElem_cons_succ, List.setIfInBounds_toArray, List.set_cons_zero, List.set_cons_succ])
          refine wpAnyF_take (i := 9) (v := undef) (by kernel_rfl) (by kernel_rfl) rfl (by kernel_rfl) (by kernel_rfl) (by kernel_rfl) (fun _ _ _ h => h) (Or.inr ⟨by rfl, rfl⟩) (by assumption) ?_
          (try simp only [Act.put, List.getElem_toArray, List.getElem_cons_zero, List.getElem_cons_succ, List.setIfInBounds_toArray, List.set_cons_zero, List.set_cons_succ])
          refine wpAnyF_take (i := 10) (v := undef) (by kernel_rfl) (by kernel_rfl) rfl (by kernel_rfl) (by kernel_rfl) (by kernel_rfl) (fun _ _ _ h => h) (Or.inr ⟨by rfl, rfl⟩) (by assumption) ?_
          (try simp only [Act.put, List.getElem_toArray, List.getElem_cons_zero, List.getElem_cons_succ, List.setIfInBounds_toArray, List.set_cons_zero, List.set_cons_succ])
          refine wpAnyF_take (i := 11) (v := undef) (by kernel_rfl) (by kernel_rfl) rfl (by kernel_rfl) (by kernel_rfl) (by kernel_rfl) (fun _ _ _ h => h) (Or.inr ⟨by rfl, rfl⟩) (by assumption) ?_
          (try simp only [Act.put, List.getElem_toArray, List.getElem_cons_zero, List.getElem_cons_succ, List.setIfInBounds_toArray, List.set_cons_zero, List.set_cons_succ])
          refine wpAnyF_take (i := 12) (v := undef) (by kernel_rfl) (by kernel_rfl) rfl (by kernel_rfl) (by kernel_rfl) (by kernel_rfl) (fun _ _ _ h => h) (Or.inr ⟨by rfl, rfl⟩) (by assumption) ?_
          (try simp only [Act.put, List.getElem_toArray, List.getElem_cons_zero, List.getElem_cons_succ, List.setIfInBounds_toArray, List.set_cons_zero, List.set_cons_succ])
          refine wpAnyF_take (i := 13) (v := ?_) (by kernel_rfl) (by kernel_rfl) rfl (by kernel_rfl) (by kernel_rfl) (by kernel_rfl) (fun _ _ _ h => h) (Or.inl ⟨by rfl, ?_⟩) (by assumption) ?_
          rotate_left
          · intro w' hSw; (try dsimp only at hSw); have k0 := (HKB.out.below hSw).cell 0; have d0 := (HDB.out.below hSw).cell 0; have s0 := (HSB.out.below hSw).cell 0; go_simp; (try with_reducible rfl)
          (try simp only [Act.put, List.getElem_toArray, List.getElem_cons_zero, List.getElem_cons_succ, List.setIfInBounds_toArray, List.set_cons_zero, List.set_cons_succ])
          refine wpAnyF_done (by kernel_rfl) ?_ _
          refine normQ_in ?_
          gi_wp2
          exact ⟨KF.of_below hHeld HFL.out, (by rw [show OneJ w p q b c D w2.heap.size k kb rs XX (pre ++ [(id, (⟨⟨⟨e, lb', q', a⟩, en, gr, pp⟩, s⟩ : En))]) G _ = _ from by unfold OneJ; rw [shd_no (x := (id, (⟨⟨⟨e, lb', q', a⟩, en, gr, pp⟩, s⟩ : En))) (by have := H32.out; show ¬ 32 ≤ id; omega)]]; exact (OneJ.fr w p q b c D w2.heap.size k kb rs XX).st _ _ _ _ HJ.out (Kept.of hHeld))⟩
      case done =>
        rintro ys G V hys hFG hJ hK hs2
        have hkc := hJ.2.1.2.cell 0
        have hw9 : IntKind.i64.wrap ((k : Int) + 1) = ((k + 1 : Nat) : Int) := by rw [IntKind.wrap_i64]; omega
        have HOV := hi (fun W' (j : Below V.heap.size V W') (hk : CB W' V.heap.size 3 #[.int .i64 (k + 1 : Nat)]) => hJ.over hys (fun i z => HXX.out i (.inr z)) hK (by have := HBG.out.2.2.2.2.1.lz; omega) (fun hm => by have := HI.out.ms.lt _ hm; have := S6.out; rw [show W.drew.heap.size = W.heap.size from rfl] at this; omega) j hk HRP.out HQD.out)
        clear hJ hK hst
        go_wp2
        refine ⟨⟨k + 1, V.heap.size, w6.heap.size :: rs, _, _, _, _, _, _, _, _, _, _, rfl, by omega, HOV.out _ (bal V _) (CB.new V _ _)⟩, ?_⟩
        have e1 := (HKO.out #[.int .u8 f, .int .u8 n, v, undef, undef, undef, .pointer (some ⟨w.heap.size, 0, none⟩), .bool true, .pointer (some ⟨w2.heap.size, 0, none⟩), .pointer (some ⟨w2.heap.size + 1, 0, none⟩), .pointer (some ⟨kb, 0, none⟩), undef, .bool true, .bool true, .bool false, .int .u8 f, .int .u8 n, v, .pointer (some ⟨b 0, 0, none⟩), .bool true, .bool false, .bool false, .pointer (some ⟨b 0, 0, none⟩), .bool false, .bool false, e25, e26, e27, e28, e29, e30, e31, e32, e33, undef, undef, undef, undef, undef, undef, undef, undef, undef, undef, undef, undef, undef, undef, undef, undef, undef, undef, undef, undef, undef, undef, e56] (rs.map markD)).resolve_right (fun z => z rfl)
        rw [e1]
        have e2 : ∀ (t : Array Value) (d : List Deferred), t.getD 10 undef = .pointer (some ⟨V.heap.size, 0, none⟩) → kOf { tmps := t, defers := d } (V.alloc (.cells #[.int .i64 ((k : Int) + 1)] 3)) = k + 1 := fun t d ht => by
          unfold kOf
          simp only [ht, (CB.new V 3 #[.int .i64 ((k : Int) + 1)]).cell 0]
          simp
          try omega
        rw [e2 _ _ rfl]
        omega
      case stop =>
        rintro c pre G V _ _ h _ _
        exact h.elim
    · have t1 : decide ((k : Int) < n9) = false := by simp; omega
      have hlt' : ¬ (k : Int) < n9 := by omega
      go_wp2
      refine wp_region_noPanic ?_
      refine wp_region_last_drew (S := (fun W' => CB W' kb 3 #[.int .i64 k] ∧ CB W' w2.heap.size 24 #[(.pointer (some ⟨b 0, 0, none⟩))] ∧ DiAt W' p q b c D)) [] (by kernel_rfl) ⟨HI.out.bk.drew, HI.out.bd.drew, HI.out.di.drew⟩ (fun hHeld => ?_)
      (try simp only [Array.replicate_succ, Array.replicate_zero, List.push_toArray, List.nil_append, List.cons_append])
      refine wpAnyF_take (i := 0) (v := ?_) (by kernel_rfl) (by kernel_rfl) rfl (by kernel_rfl) (by kernel_rfl) (by kernel_rfl) (fun _ _ _ h => h) (Or.inl ⟨by rfl, ?_⟩) (by assumption) ?_
      rotate_left
      · intro w' hSw; (try dsimp only at hSw); have k0 := hSw.1.cell 0; have d0 := hSw.2.1.cell 0; go_simp; (try with_reducible rfl)
      (try simp only [Act.put, List.getElem_toArray, List.getElem_cons_zero, List.setIfInBounds_toArray, List.set_cons_zero, List.set_cons_succ])
      refine wpAnyF_take (i := 1) (v := ?_) (by kernel_rfl) (by kernel_rfl) rfl (by kernel_rfl) (by kernel_rfl) (by kernel_rfl) (fun _ _ _ h => h) (Or.inl ⟨by rfl, ?_⟩) (by assumption) ?_
      rotate_left
      · intro w' hSw; (try dsimp only at hSw); have k0 := hSw.1.cell 0; have d0 := hSw.2.1.cell 0; go_simp; (try with_reducible rfl)
      (try simp only [Act.put, List.getElem_toArray, List.getElem_cons_zero, List.getElem_cons_succ, List.setIfInBounds_toArray, List.set_cons_zero, List.set_cons_succ])
      refine wpAnyF_ready (rs := [2]) (by kernel_rfl) (by simp) ?_
      refine AllReadyF.cons rfl (fun KK hKK => ?_) AllReadyF.nil
      go_simp
      ((with_reducible refine (CO.out _ hHeld.2.2).mono ?_); rintro e' w5 ⟨rfl, rfl⟩)
      (try go_simp)
      refine hKK.out _ _ hHeld (fun hHeld => ?_)
      clear hKK KK
      (try simp only [Act.put, List.getElem_toArray, List.getElem_cons_zero, List.getElem_cons_succ, List.setIfInBounds_toArray, List.set_cons_zero, List.set_cons_succ])
      refine wpAnyF_take (i := 3) (v := ?_) (by kernel_rfl) (by kernel_rfl) rfl (by kernel_rfl) (by kernel_rfl) (by kernel_rfl) (fun _ _ _ h => h) (Or.inl ⟨by rfl, ?_⟩) (by assumption) ?_
      rotate_left
      · intro w' hSw; (try dsimp only at hSw); have k0 := hSw.1.cell 0; have d0 := hSw.2.1.cell 0; go_simp; (try with_reducible rfl)
      (try simp only [Act.put, List.getElem_toArray, List.getElem_cons_zero, List.getElem_cons_succ, List.setIfInBounds_toArray, List.set_cons_zero, List.set_cons_succ])
      refine wpAnyF_done (by kernel_rfl) ?_ _
      refine NoPanic.normal ?_
      have hrb := HID.out.rb
      have rb0 := HI.out.rb.cell 0
      have rbf := HI.out.rb.frozen
      go_wp2
      refine leaves_marks rs (w2.heap.size + 3) (W.drew.setCell ⟨w.heap.size, 0, none⟩ (.bool true)) (by rw [World.size_setCell]; have := HID.out.bk.lt; have := HID.out.kl; omega) ((HID.out.ms.heap (fun r hr => Below.heap_setCell _ ⟨w.heap.size, 0, none⟩ (.bool true) r (by have := (HID.out.ms.2 r hr).1; have := HRP.out; have := HQD.out; have := HID.out.di.rng 0 (by omega); show r ≠ w.heap.size; omega)))) (fun W' hb hn => ?_)
      have hlw : w.heap.size < w2.heap.size + 3 := by have := HRP.out; have := HQD.out; have := HID.out.di.rng 0 (by omega); omega
      exact ⟨_, results_cellb rfl _ _ w.heap.size true rfl ((hrb.set 0 (.bool true)).heap (hb.block _ hlw)), rfl, (HID.out.below.setCell (p := ⟨w.heap.size, 0, none⟩) (Nat.le_refl _) (.bool true)).trans (hb.mono (by omega))⟩
end Go.Proofs.YtggeakkofcaklaaGreat
