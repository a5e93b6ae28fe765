/-
  does, at every act: it ends, and both memories keep their sizes.
-/
import Derived.Test.YtjcjblmaceooaaaTbQ
namespace Go.Proofs.Ytjcjblmaceooaaa
open Go.ChangeShapes Go.WideShapes Go.ChangeAt Go.RowKit
set_option linter.unusedVariables false
set_option linter.unusedSimpArgs false

/-- What does leaves. -/
def DoesTo (w : World) (p g cap q h c n m : Nat) (e : Ending) (W : World) : Prop := (∃ b : Bool, e = .returned (.bool b)) ∧ ∃ bs bs2 : List Nat, bs.length = n ∧ bs2.length = m ∧ Two w p g cap q h c bs bs2 W
set_option maxRecDepth 100000 in
set_option maxHeartbeats 8000000 in
theorem does_any (w : World) (p g cap q h c : Nat) (bs bs2 : List Nat) (t : Tb) (hF : t.Fair) (dd id ac ev : Int) (d : Dv) (r : Rt) (wa ws : Int) (is : Bool) (vv : Nat) (hac : i64B ac) (hd : d.Fair) (hwa : i64B wa) (hws : i64B ws) (hv : vv < 18446744073709551616) (W : World) (H : Two w p g cap q h c bs bs2 W) :
    Calls Try.prog 42 #[t.v, .pointer (some ⟨p, 0, none⟩), .pointer (some ⟨q, 0, none⟩), .agg #[.int .i64 dd, .int .i64 id, .int .i64 ac, .int .i64 ev, .bool d.ok, .int .i64 d.bits, .int .i64 d.at_, .int .i64 r.num, .int .i64 r.coll, .bool r.ok, .int .i64 wa, .int .i64 ws, .bool is, .int .u64 (vv : Int)]] W (DoesTo w p g cap q h c bs.length bs2.length) := by
  have zA := And.intro H.mem.plt (And.intro H.mem.bytes.lt (And.intro H.ref.plt H.ref.bytes.lt))
  have hbl := H.mem.len
  have HT := Hi.mk (show CB ((W.alloc (.cells (Tb.cs t) 32)).alloc (.cells #[.int .i64 dd, .int .i64 id, .int .i64 ac, .int .i64 ev, .bool d.ok, .int .i64 d.bits, .int .i64 d.at_, .int .i64 r.num, .int .i64 r.coll, .bool r.ok, .int .i64 wa, .int .i64 ws, .bool is, .int .u64 (vv : Int)] 62)) W.heap.size 32 (Tb.cs t) from (CB.new W 32 (Tb.cs t)).alloc _)
  have HA := Hi.mk (show CB ((W.alloc (.cells (Tb.cs t) 32)).alloc (.cells #[.int .i64 dd, .int .i64 id, .int .i64 ac, .int .i64 ev, .bool d.ok, .int .i64 d.bits, .int .i64 d.at_, .int .i64 r.num, .int .i64 r.coll, .bool r.ok, .int .i64 wa, .int .i64 ws, .bool is, .int .u64 (vv : Int)] 62)) (W.heap.size + 1) 62 #[.int .i64 dd, .int .i64 id, .int .i64 ac, .int .i64 ev, .bool d.ok, .int .i64 d.bits, .int .i64 d.at_, .int .i64 r.num, .int .i64 r.coll, .bool r.ok, .int .i64 wa, .int .i64 ws, .bool is, .int .u64 (vv : Int)] from cb_second)
  have H1 := Hi.mk (H.later (bal_two W (.cells (Tb.cs t) 32) (.cells #[.int .i64 dd, .int .i64 id, .int .i64 ac, .int .i64 ev, .bool d.ok, .int .i64 d.bits, .int .i64 d.at_, .int .i64 r.num, .int .i64 r.coll, .bool r.ok, .int .i64 wa, .int .i64 ws, .bool is, .int .u64 (vv : Int)] 62)))
  have a0 := HA.out.cell 0
  have hsz : ((W.alloc (.cells (Tb.cs t) 32)).alloc (.cells #[.int .i64 dd, .int .i64 id, .int .i64 ac, .int .i64 ev, .bool d.ok, .int .i64 d.bits, .int .i64 d.at_, .int .i64 r.num, .int .i64 r.coll, .bool r.ok, .int .i64 wa, .int .i64 ws, .bool is, .int .u64 (vv : Int)] 62)).heap.size = W.heap.size + 1 + 1 := by simp
  clear H
  unfold DoesTo
  by_cases e1 : dd = 1
  · subst e1
    have HP := Hi.mk (fun W hM => lead_any p g cap bs t hF id ac hac W hM)
    have HR := Hi.mk (fun W hM => rlead_any q h c bs2 t hF id ac hac W hM)
    have hl' := @leadB_len bs t id ac
    obtain ⟨E, hE⟩ : ∃ E, leadE bs t id ac = E := ⟨_, rfl⟩
    obtain ⟨bs', hb'⟩ : ∃ l, leadB bs t id ac = l := ⟨_, rfl⟩
    rw [hE, hb'] at HP
    rw [hb'] at hl'
    clear hE hb'
    go_enter Try.func42, Try.ntmps42
    go_wp2
    have HB := Hi.mk (And.intro HT.out HA.out)
    refine wp_region_noPanic ?_
    refine wp_region_last_drew (S := (fun V => V.cell? ⟨W.heap.size, 0, none⟩ = some (.int .i64 t.at_) ∧ V.cell? ⟨W.heap.size, 1, none⟩ = some (.int .i64 t.size) ∧ V.cell? ⟨W.heap.size, 2, none⟩ = some (.int .i64 t.page) ∧ V.cell? ⟨W.heap.size + 1, 1, none⟩ = some (.int .i64 id) ∧ V.cell? ⟨W.heap.size + 1, 2, none⟩ = some (.int .i64 ac))) [] (by kernel_rfl) ⟨HB.out.1.cell 0, HB.out.1.cell 1, HB.out.1.cell 2, HB.out.2.cell 1, HB.out.2.cell 2⟩ (fun hHeld => ?_)
    (try simp only [Array.replicate_succ, Array.replicate_zero, List.push_toArray, List.nil_append, List.cons_append])
    refine wpAnyF_take (i := 0) (v := ?_) (by kernel_rfl) (by kernel_rfl) rfl (by kernel_rfl) (by kernel_rfl) (by kernel_rfl) (fun _ _ _ h => h) (Or.inl ⟨by rfl, ?_⟩) (by assumption) ?_
    rotate_left
    · intro w' hSw; (try dsimp only at hSw); obtain ⟨m0, m1, m2, m3, m4⟩ := hSw; go_simp; (try with_reducible rfl)
    (try simp only [Act.put, List.getElem_toArray, List.getElem_cons_zero, List.getElem_cons_succ, List.setIfInBounds_toArray, List.set_cons_zero, List.set_cons_succ])
    refine wpAnyF_take (i := 1) (v := ?_) (by kernel_rfl) (by kernel_rfl) rfl (by kernel_rfl) (by kernel_rfl) (by kernel_rfl) (fun _ _ _ h => h) (Or.inl ⟨by rfl, ?_⟩) (by assumption) ?_
    rotate_left
    · intro w' hSw; (try dsimp only at hSw); clear hSw; go_simp; (try with_reducible rfl)
    (try simp only [Act.put, List.getElem_toArray, List.getElem_cons_zero, List.getElem_cons_succ, List.setIfInBounds_toArray, List.set_cons_zero, List.set_cons_succ])
    refine wpAnyF_take (i := 2) (v := ?_) (by kernel_rfl) (by kernel_rfl) rfl (by kernel_rfl) (by kernel_rfl) (by kernel_rfl) (fun _ _ _ h => h) (Or.inl ⟨by rfl, ?_⟩) (by assumption) ?_
    rotate_left
    · intro w' hSw; (try dsimp only at hSw); clear hSw; go_simp; (try with_reducible rfl)
    (try simp only [Act.put, List.getElem_toArray, List.getElem_cons_zero, List.getElem_cons_succ, List.setIfInBounds_toArray, List.set_cons_zero, List.set_cons_succ])
    refine wpAnyF_take (i := 3) (v := ?_) (by kernel_rfl) (by kernel_rfl) rfl (by kernel_rfl) (by kernel_rfl) (by kernel_rfl) (fun _ _ _ h => h) (Or.inl ⟨by rfl, ?_⟩) (by assumption) ?_
    rotate_left
    · intro w' hSw; (try dsimp only at hSw); obtain ⟨m0, m1, m2, m3, m4⟩ := hSw; go_simp; (try with_reducible rfl)
    (try simp only [Act.put, List.getElem_toArray, List.getElem_cons_zero, List.getElem_cons_succ, List.setIfInBounds_toArray, List.set_cons_zero, List.set_cons_succ])
    refine wpAnyF_take (i := 4) (v := ?_) (by kernel_rfl) (by kernel_rfl) rfl (by kernel_rfl) (by kernel_rfl) (by kernel_rfl) (fun _ _ _ h => h) (Or.inl ⟨by rfl, ?_⟩) (by assumption) ?_
    rotate_left
    · intro w' hSw; (try dsimp only at hSw); clear hSw; go_simp; (try with_reducible rfl)
    (try simp only [Act.put, List.getElem_toArray, List.getElem_cons_zero, List.getElem_cons_succ, List.setIfInBounds_toArray, List.set_cons_zero, List.set_cons_succ])
    refine wpAnyF_take (i := 5) (v := ?_) (by kernel_rfl) (by kernel_rfl) rfl (by kernel_rfl) (by kernel_rfl) (by kernel_rfl) (fun _ _ _ h => h) (Or.inl ⟨by rfl, ?_⟩) (by assumption) ?_
    rotate_left
    · intro w' hSw; (try dsimp only at hSw); obtain ⟨m0, m1, m2, m3, m4⟩ := hSw; go_simp; (try with_reducible rfl)
    (try simp only [Act.put, List.getElem_toArray, List.getElem_cons_zero, List.getElem_cons_succ, List.setIfInBounds_toArray, List.set_cons_zero, List.set_cons_succ])
    refine wpAnyF_take (i := 7) (v := ?_) (by kernel_rfl) (by kernel_rfl) rfl (by kernel_rfl) (by kernel_rfl) (by kernel_rfl) (fun _ _ _ h => h) (Or.inl ⟨by rfl, ?_⟩) (by assumption) ?_
    rotate_left
    · intro w' hSw; (try dsimp only at hSw); obtain ⟨m0, m1, m2, m3, m4⟩ := hSw; go_simp; (try with_reducible rfl)
    (try simp only [Act.put, List.getElem_toArray, List.getElem_cons_zero, List.getElem_cons_succ, List.setIfInBounds_toArray, List.set_cons_zero, List.set_cons_succ])
    refine wpAnyF_take (i := 9) (v := ?_) (by kernel_rfl) (by kernel_rfl) rfl (by kernel_rfl) (by kernel_rfl) (by kernel_rfl) (fun _ _ _ h => h) (Or.inl ⟨by rfl, ?_⟩) (by assumption) ?_
    rotate_left
    · intro w' hSw; (try dsimp only at hSw); clear hSw; go_simp; (try with_reducible rfl)
    (try simp only [Act.put, List.getElem_toArray, List.getElem_cons_zero, List.getElem_cons_succ, List.setIfInBounds_toArray, List.set_cons_zero, List.set_cons_succ])
    refine wpAnyF_take (i := 10) (v := ?_) (by kernel_rfl) (by kernel_rfl) rfl (by kernel_rfl) (by kernel_rfl) (by kernel_rfl) (fun _ _ _ h => h) (Or.inl ⟨by rfl, ?_⟩) (by assumption) ?_
    rotate_left
    · intro w' hSw; (try dsimp only at hSw); clear hSw; go_simp; (try with_reducible rfl)
    (try simp only [Act.put, List.getElem_toArray, List.getElem_cons_zero, List.getElem_cons_succ, List.setIfInBounds_toArray, List.set_cons_zero, List.set_cons_succ])
    refine wpAnyF_take (i := 11) (v := ?_) (by kernel_rfl) (by kernel_rfl) rfl (by kernel_rfl) (by kernel_rfl) (by kernel_rfl) (fun _ _ _ h => h) (Or.inl ⟨by rfl, ?_⟩) (by assumption) ?_
    rotate_left
    · intro w' hSw; (try dsimp only at hSw); obtain ⟨m0, m1, m2, m3, m4⟩ := hSw; go_simp; (try with_reducible rfl)
    (try simp only [Act.put, List.getElem_toArray, List.getElem_cons_zero, List.getElem_cons_succ, List.setIfInBounds_toArray, List.set_cons_zero, List.set_cons_succ])
    refine wpAnyF_take (i := 12) (v := ?_) (by kernel_rfl) (by kernel_rfl) rfl (by kernel_rfl) (by kernel_rfl) (by kernel_rfl) (fun _ _ _ h => h) (Or.inl ⟨by rfl, ?_⟩) (by assumption) ?_
    rotate_left
    · intro w' hSw; (try dsimp only at hSw); clear hSw; go_simp; (try with_reducible rfl)
    (try simp only [Act.put, List.getElem_toArray, List.getElem_cons_zero, List.getElem_cons_succ, List.setIfInBounds_toArray, List.set_cons_zero, List.set_cons_succ])
    refine wpAnyF_take (i := 13) (v := ?_) (by kernel_rfl) (by kernel_rfl) rfl (by kernel_rfl) (by kernel_rfl) (by kernel_rfl) (fun _ _ _ h => h) (Or.inl ⟨by rfl, ?_⟩) (by assumption) ?_
    rotate_left
    · intro w' hSw; (try dsimp only at hSw); obtain ⟨m0, m1, m2, m3, m4⟩ := hSw; go_simp; (try with_reducible rfl)
    (try simp only [Act.put, List.getElem_toArray, List.getElem_cons_zero, List.getElem_cons_succ, List.setIfInBounds_toArray, List.set_cons_zero, List.set_cons_succ])
    refine wpAnyF_ready (rs := [6]) (by kernel_rfl) (by simp) ?_
    refine AllReadyF.cons rfl (fun KK hKK => ?_) AllReadyF.nil
    go_simp
    ((with_reducible refine (HP.out _ (H1.out.later (below_dr _)).mem).mono ?_); rintro e' w3 ⟨rfl, hm3, hk3⟩; have H2 := Hi.mk ((H1.out.later (below_dr _)).mem_step hk3 hm3); have HB2 := Hi.mk (And.intro ((HB.out.1.below (below_dr _)).keptB hk3 (fun e9 => by omega)) ((HB.out.2.below (below_dr _)).keptB hk3 (fun e9 => by omega))); clear hm3 hk3)
    (try go_simp)
    refine hKK.out _ _ ⟨HB2.out.1.cell 0, HB2.out.1.cell 1, HB2.out.1.cell 2, HB2.out.2.cell 1, HB2.out.2.cell 2⟩ (fun hHeld => ?_)
    clear hKK KK
    (try simp only [Act.put, List.getElem_toArray, List.getElem_cons_zero, List.getElem_cons_succ, List.setIfInBounds_toArray, List.set_cons_zero, List.set_cons_succ])
    refine wpAnyF_ready (rs := [8]) (by kernel_rfl) (by simp) ?_
    refine AllReadyF.cons rfl (fun KK hKK => ?_) AllReadyF.nil
    go_simp
    ((with_reducible refine (table_any t _).mono ?_); rintro e' w5 ⟨rfl, hb5⟩; replace H2 := Hi.mk (H2.out.later hb5); have HB3 := Hi.mk (And.intro (HB2.out.1.below hb5) (HB2.out.2.below hb5)); clear hb5)
    (try go_simp)
    refine hKK.out _ _ ⟨HB3.out.1.cell 0, HB3.out.1.cell 1, HB3.out.1.cell 2, HB3.out.2.cell 1, HB3.out.2.cell 2⟩ (fun hHeld => ?_)
    clear hKK KK
    (try simp only [Act.put, List.getElem_toArray, List.getElem_cons_zero, List.getElem_cons_succ, List.setIfInBounds_toArray, List.set_cons_zero, List.set_cons_succ])
    refine wpAnyF_ready (rs := [14]) (by kernel_rfl) (by simp) ?_
    refine AllReadyF.cons rfl (fun KK hKK => ?_) AllReadyF.nil
    go_simp
    ((with_reducible refine (HR.out _ H2.out.ref).mono ?_); rintro e' w4 ⟨x4, cs, rfl, hcl, hm4, hk4⟩; have H3 := Hi.mk (H2.out.ref_step hk4 hm4); have HB4 := Hi.mk (And.intro (HB3.out.1.keptB hk4 (fun e9 => by omega)) (HB3.out.2.keptB hk4 (fun e9 => by omega))); clear hm4 hk4)
    (try go_simp)
    refine hKK.out _ _ ⟨HB4.out.1.cell 0, HB4.out.1.cell 1, HB4.out.1.cell 2, HB4.out.2.cell 1, HB4.out.2.cell 2⟩ (fun hHeld => ?_)
    clear hKK KK
    (try simp only [Act.put, List.getElem_toArray, List.getElem_cons_zero, List.getElem_cons_succ, List.setIfInBounds_toArray, List.set_cons_zero, List.set_cons_succ])
    refine wpAnyF_take (i := 15) (v := ?_) (by kernel_rfl) (by kernel_rfl) rfl (by kernel_rfl) (by kernel_rfl) (by kernel_rfl) (fun _ _ _ h => h) (Or.inl ⟨by rfl, ?_⟩) (by assumption) ?_
    rotate_left
    · intro w' hSw; (try dsimp only at hSw); clear hSw; go_simp; (try with_reducible rfl)
    (try simp only [Act.put, List.getElem_toArray, List.getElem_cons_zero, List.getElem_cons_succ, List.setIfInBounds_toArray, List.set_cons_zero, List.set_cons_succ])
    refine wpAnyF_take (i := 16) (v := ?_) (by kernel_rfl) (by kernel_rfl) rfl (by kernel_rfl) (by kernel_rfl) (by kernel_rfl) (fun _ _ _ h => h) (Or.inl ⟨by rfl, ?_⟩) (by assumption) ?_
    rotate_left
    · intro w' hSw; (try dsimp only at hSw); clear hSw; go_simp; (try with_reducible rfl)
    (try simp only [Act.put, List.getElem_toArray, List.getElem_cons_zero, List.getElem_cons_succ, List.setIfInBounds_toArray, List.set_cons_zero, List.set_cons_succ])
    refine wpAnyF_done (by kernel_rfl) ?_ _
    refine NoPanic.normal ?_
    go_wp2
    go_ret
    exact ⟨⟨_, rfl⟩, bs', cs, hl', hcl, H3.out⟩
  · by_cases e2 : dd = 2
    · subst e2
      have HP := Hi.mk (fun W hM => put_any p g cap bs t hF id d hd W hM)
      have HR := Hi.mk (fun W hM => rputD_any q h c bs2 t hF id d W hM)
      have hl' := @putB_len bs t id d
      obtain ⟨E, hE⟩ : ∃ E, tputE bs t id d = E := ⟨_, rfl⟩
      obtain ⟨bs', hb'⟩ : ∃ l, putB bs t id d = l := ⟨_, rfl⟩
      rw [hE, hb'] at HP
      rw [hb'] at hl'
      clear hE hb'
      go_enter Try.func42, Try.ntmps42
      go_wp2
      have HB := Hi.mk (And.intro HT.out HA.out)
      refine wp_region_noPanic ?_
      refine wp_region_last_drew (S := (fun V => V.cell? ⟨W.heap.size, 0, none⟩ = some (.int .i64 t.at_) ∧ V.cell? ⟨W.heap.size, 1, none⟩ = some (.int .i64 t.size) ∧ V.cell? ⟨W.heap.size, 2, none⟩ = some (.int .i64 t.page) ∧ V.cell? ⟨W.heap.size + 1, 1, none⟩ = some (.int .i64 id) ∧ V.cell? ⟨W.heap.size + 1, 4, none⟩ = some (.bool d.ok) ∧ V.cell? ⟨W.heap.size + 1, 5, none⟩ = some (.int .i64 d.bits) ∧ V.cell? ⟨W.heap.size + 1, 6, none⟩ = some (.int .i64 d.at_))) [] (by kernel_rfl) ⟨HB.out.1.cell 0, HB.out.1.cell 1, HB.out.1.cell 2, HB.out.2.cell 1, HB.out.2.cell 4, HB.out.2.cell 5, HB.out.2.cell 6⟩ (fun hHeld => ?_)
      (try simp only [Array.replicate_succ, Array.replicate_zero, List.push_toArray, List.nil_append, List.cons_append])
      refine wpAnyF_take (i := 0) (v := ?_) (by kernel_rfl) (by kernel_rfl) rfl (by kernel_rfl) (by kernel_rfl) (by kernel_rfl) (fun _ _ _ h => h) (Or.inl ⟨by rfl, ?_⟩) (by assumption) ?_
      rotate_left
      · intro w' hSw; (try dsimp only at hSw); obtain ⟨m0, m1, m2, m3, m4, m5, m6⟩ := hSw; go_simp; (try with_reducible rfl)
      (try simp only [Act.put, List.getElem_toArray, List.getElem_cons_zero, List.getElem_cons_succ, List.setIfInBounds_toArray, List.set_cons_zero, List.set_cons_succ])
      refine wpAnyF_take (i := 1) (v := ?_) (by kernel_rfl) (by kernel_rfl) rfl (by kernel_rfl) (by kernel_rfl) (by kernel_rfl) (fun _ _ _ h => h) (Or.inl ⟨by rfl, ?_⟩) (by assumption) ?_
      rotate_left
      · intro w' hSw; (try dsimp only at hSw); clear hSw; go_simp; (try with_reducible rfl)
      (try simp only [Act.put, List.getElem_toArray, List.getElem_cons_zero, List.getElem_cons_succ, List.setIfInBounds_toArray, List.set_cons_zero, List.set_cons_succ])
      refine wpAnyF_take (i := 2) (v := ?_) (by kernel_rfl) (by kernel_rfl) rfl (by kernel_rfl) (by kernel_rfl) (by kernel_rfl) (fun _ _ _ h => h) (Or.inl ⟨by rfl, ?_⟩) (by assumption) ?_
      rotate_left
      · intro w' hSw; (try dsimp only at hSw); clear hSw; go_simp; (try with_reducible rfl)
      (try simp only [Act.put, List.getElem_toArray, List.getElem_cons_zero, List.getElem_cons_succ, List.setIfInBounds_toArray, List.set_cons_zero, List.set_cons_succ])
      refine wpAnyF_take (i := 3) (v := ?_) (by kernel_rfl) (by kernel_rfl) rfl (by kernel_rfl) (by kernel_rfl) (by kernel_rfl) (fun _ _ _ h => h) (Or.inl ⟨by rfl, ?_⟩) (by assumption) ?_
      rotate_left
      · intro w' hSw; (try dsimp only at hSw); obtain ⟨m0, m1, m2, m3, m4, m5, m6⟩ := hSw; go_simp; (try with_reducible rfl)
      (try simp only [Act.put, List.getElem_toArray, List.getElem_cons_zero, List.getElem_cons_succ, List.setIfInBounds_toArray, List.set_cons_zero, List.set_cons_succ])
      refine wpAnyF_take (i := 4) (v := ?_) (by kernel_rfl) (by kernel_rfl) rfl (by kernel_rfl) (by kernel_rfl) (by kernel_rfl) (fun _ _ _ h => h) (Or.inl ⟨by rfl, ?_⟩) (by assumption) ?_
      rotate_left
      · intro w' hSw; (try dsimp only at hSw); clear hSw; go_simp; (try with_reducible rfl)
      (try simp only [Act.put, List.getElem_toArray, List.getElem_cons_zero, List.getElem_cons_succ, List.setIfInBounds_toArray, List.set_cons_zero, List.set_cons_succ])
      refine wpAnyF_take (i := 5) (v := ?_) (by kernel_rfl) (by kernel_rfl) rfl (by kernel_rfl) (by kernel_rfl) (by kernel_rfl) (fun _ _ _ h => h) (Or.inl ⟨by rfl, ?_⟩) (by assumption) ?_
      rotate_left
      · intro w' hSw; (try dsimp only at hSw); obtain ⟨m0, m1, m2, m3, m4, m5, m6⟩ := hSw; go_simp; (try with_reducible rfl)
      (try simp only [Act.put, List.getElem_toArray, List.getElem_cons_zero, List.getElem_cons_succ, List.setIfInBounds_toArray, List.set_cons_zero, List.set_cons_succ])
      refine wpAnyF_take (i := 7) (v := ?_) (by kernel_rfl) (by kernel_rfl) rfl (by kernel_rfl) (by kernel_rfl) (by kernel_rfl) (fun _ _ _ h => h) (Or.inl ⟨by rfl, ?_⟩) (by assumption) ?_
      rotate_left
      · intro w' hSw; (try dsimp only at hSw); obtain ⟨m0, m1, m2, m3, m4, m5, m6⟩ := hSw; go_simp; (try with_reducible rfl)
      (try simp only [Act.put, List.getElem_toArray, List.getElem_cons_zero, List.getElem_cons_succ, List.setIfInBounds_toArray, List.set_cons_zero, List.set_cons_succ])
      refine wpAnyF_take (i := 9) (v := ?_) (by kernel_rfl) (by kernel_rfl) rfl (by kernel_rfl) (by kernel_rfl) (by kernel_rfl) (fun _ _ _ h => h) (Or.inl ⟨by rfl, ?_⟩) (by assumption) ?_
      rotate_left
      · intro w' hSw; (try dsimp only at hSw); clear hSw; go_simp; (try with_reducible rfl)
      (try simp only [Act.put, List.getElem_toArray, List.getElem_cons_zero, List.getElem_cons_succ, List.setIfInBounds_toArray, List.set_cons_zero, List.set_cons_succ])
      refine wpAnyF_take (i := 10) (v := ?_) (by kernel_rfl) (by kernel_rfl) rfl (by kernel_rfl) (by kernel_rfl) (by kernel_rfl) (fun _ _ _ h => h) (Or.inl ⟨by rfl, ?_⟩) (by assumption) ?_
      rotate_left
      · intro w' hSw; (try dsimp only at hSw); clear hSw; go_simp; (try with_reducible rfl)
      (try simp only [Act.put, List.getElem_toArray, List.getElem_cons_zero, List.getElem_cons_succ, List.setIfInBounds_toArray, List.set_cons_zero, List.set_cons_succ])
      refine wpAnyF_take (i := 11) (v := ?_) (by kernel_rfl) (by kernel_rfl) rfl (by kernel_rfl) (by kernel_rfl) (by kernel_rfl) (fun _ _ _ h => h) (Or.inl ⟨by rfl, ?_⟩) (by assumption) ?_
      rotate_left
      · intro w' hSw; (try dsimp only at hSw); obtain ⟨m0, m1, m2, m3, m4, m5, m6⟩ := hSw; go_simp; (try with_reducible rfl)
      (try simp only [Act.put, List.getElem_toArray, List.getElem_cons_zero, List.getElem_cons_succ, List.setIfInBounds_toArray, List.set_cons_zero, List.set_cons_succ])
      refine wpAnyF_take (i := 12) (v := ?_) (by kernel_rfl) (by kernel_rfl) rfl (by kernel_rfl) (by kernel_rfl) (by kernel_rfl) (fun _ _ _ h => h) (Or.inl ⟨by rfl, ?_⟩) (by assumption) ?_
      rotate_left
      · intro w' hSw; (try dsimp only at hSw); clear hSw; go_simp; (try with_reducible rfl)
      (try simp only [Act.put, List.getElem_toArray, List.getElem_cons_zero, List.getElem_cons_succ, List.setIfInBounds_toArray, List.set_cons_zero, List.set_cons_succ])
      refine wpAnyF_take (i := 13) (v := ?_) (by kernel_rfl) (by kernel_rfl) rfl (by kernel_rfl) (by kernel_rfl) (by kernel_rfl) (fun _ _ _ h => h) (Or.inl ⟨by rfl, ?_⟩) (by assumption) ?_
      rotate_left
      · intro w' hSw; (try dsimp only at hSw); obtain ⟨m0, m1, m2, m3, m4, m5, m6⟩ := hSw; go_simp; (try with_reducible rfl)
      (try simp only [Act.put, List.getElem_toArray, List.getElem_cons_zero, List.getElem_cons_succ, List.setIfInBounds_toArray, List.set_cons_zero, List.set_cons_succ])
      refine wpAnyF_ready (rs := [6]) (by kernel_rfl) (by simp) ?_
      refine AllReadyF.cons rfl (fun KK hKK => ?_) AllReadyF.nil
      go_simp
      ((with_reducible refine (HP.out _ (H1.out.later (below_dr _)).mem).mono ?_); rintro e' w3 ⟨rfl, hm3, hk3⟩; have H2 := Hi.mk ((H1.out.later (below_dr _)).mem_step hk3 hm3); have HB2 := Hi.mk (And.intro ((HB.out.1.below (below_dr _)).keptB hk3 (fun e9 => by omega)) ((HB.out.2.below (below_dr _)).keptB hk3 (fun e9 => by omega))); clear hm3 hk3)
      (try go_simp)
      refine hKK.out _ _ ⟨HB2.out.1.cell 0, HB2.out.1.cell 1, HB2.out.1.cell 2, HB2.out.2.cell 1, HB2.out.2.cell 4, HB2.out.2.cell 5, HB2.out.2.cell 6⟩ (fun hHeld => ?_)
      clear hKK KK
      (try simp only [Act.put, List.getElem_toArray, List.getElem_cons_zero, List.getElem_cons_succ, List.setIfInBounds_toArray, List.set_cons_zero, List.set_cons_succ])
      refine wpAnyF_ready (rs := [8]) (by kernel_rfl) (by simp) ?_
      refine AllReadyF.cons rfl (fun KK hKK => ?_) AllReadyF.nil
      go_simp
      ((with_reducible refine (table_any t _).mono ?_); rintro e' w5 ⟨rfl, hb5⟩; replace H2 := Hi.mk (H2.out.later hb5); have HB3 := Hi.mk (And.intro (HB2.out.1.below hb5) (HB2.out.2.below hb5)); clear hb5)
      (try go_simp)
      refine hKK.out _ _ ⟨HB3.out.1.cell 0, HB3.out.1.cell 1, HB3.out.1.cell 2, HB3.out.2.cell 1, HB3.out.2.cell 4, HB3.out.2.cell 5, HB3.out.2.cell 6⟩ (fun hHeld => ?_)
      clear hKK KK
      (try simp only [Act.put, List.getElem_toArray, List.getElem_cons_zero, List.getElem_cons_succ, List.setIfInBounds_toArray, List.set_cons_zero, List.set_cons_succ])
      refine wpAnyF_ready (rs := [14]) (by kernel_rfl) (by simp) ?_
      refine AllReadyF.cons rfl (fun KK hKK => ?_) AllReadyF.nil
      go_simp
      ((with_reducible refine (told_any d _).mono ?_); rintro e' w5 ⟨rfl, hb5⟩; replace H2 := Hi.mk (H2.out.later hb5); have HB4 := Hi.mk (And.intro (HB3.out.1.below hb5) (HB3.out.2.below hb5)); clear hb5)
      (try go_simp)
      refine hKK.out _ _ ⟨HB4.out.1.cell 0, HB4.out.1.cell 1, HB4.out.1.cell 2, HB4.out.2.cell 1, HB4.out.2.cell 4, HB4.out.2.cell 5, HB4.out.2.cell 6⟩ (fun hHeld => ?_)
      clear hKK KK
      (try simp only [Act.put, List.getElem_toArray, List.getElem_cons_zero, List.getElem_cons_succ, List.setIfInBounds_toArray, List.set_cons_zero, List.set_cons_succ])
      refine wpAnyF_ready (rs := [15]) (by kernel_rfl) (by simp) ?_
      refine AllReadyF.cons rfl (fun KK hKK => ?_) AllReadyF.nil
      go_simp
      ((with_reducible refine (HR.out _ H2.out.ref).mono ?_); rintro e' w4 ⟨x4, cs, rfl, hcl, hm4, hk4⟩; have H3 := Hi.mk (H2.out.ref_step hk4 hm4); have HB5 := Hi.mk (And.intro (HB4.out.1.keptB hk4 (fun e9 => by omega)) (HB4.out.2.keptB hk4 (fun e9 => by omega))); clear hm4 hk4)
      (try go_simp)
      refine hKK.out _ _ ⟨HB5.out.1.cell 0, HB5.out.1.cell 1, HB5.out.1.cell 2, HB5.out.2.cell 1, HB5.out.2.cell 4, HB5.out.2.cell 5, HB5.out.2.cell 6⟩ (fun hHeld => ?_)
      clear hKK KK
      (try simp only [Act.put, List.getElem_toArray, List.getElem_cons_zero, List.getElem_cons_succ, List.setIfInBounds_toArray, List.set_cons_zero, List.set_cons_succ])
      refine wpAnyF_take (i := 16) (v := ?_) (by kernel_rfl) (by kernel_rfl) rfl (by kernel_rfl) (by kernel_rfl) (by kernel_rfl) (fun _ _ _ h => h) (Or.inl ⟨by rfl, ?_⟩) (by assumption) ?_
      rotate_left
      · intro w' hSw; (try dsimp only at hSw); clear hSw; go_simp; (try with_reducible rfl)
      (try simp only [Act.put, List.getElem_toArray, List.getElem_cons_zero, List.getElem_cons_succ, List.setIfInBounds_toArray, List.set_cons_zero, List.set_cons_succ])
      refine wpAnyF_take (i := 17) (v := ?_) (by kernel_rfl) (by kernel_rfl) rfl (by kernel_rfl) (by kernel_rfl) (by kernel_rfl) (fun _ _ _ h => h) (Or.inl ⟨by rfl, ?_⟩) (by assumption) ?_
      rotate_left
      · intro w' hSw; (try dsimp only at hSw); clear hSw; go_simp; (try with_reducible rfl)
      (try simp only [Act.put, List.getElem_toArray, List.getElem_cons_zero, List.getElem_cons_succ, List.setIfInBounds_toArray, List.set_cons_zero, List.set_cons_succ])
      refine wpAnyF_done (by kernel_rfl) ?_ _
      refine NoPanic.normal ?_
      go_wp2
      go_ret
      exact ⟨⟨_, rfl⟩, bs', cs, hl', hcl, H3.out⟩
    · by_cases e3 : dd = 3
      · subst e3
        have HP := Hi.mk (fun W hM => setR_any p g cap bs d hd ev r W hM)
        have HR := Hi.mk (fun W hM => rsetR_any q h c bs2 d hd ev r W hM)
        have hl' := @setB_len bs d ev r
        obtain ⟨E, hE⟩ : ∃ E, setE bs.length d ev r = E := ⟨_, rfl⟩
        obtain ⟨bs', hb'⟩ : ∃ l, setB bs d ev r = l := ⟨_, rfl⟩
        rw [hE, hb'] at HP
        rw [hb'] at hl'
        clear hE hb'
        go_enter Try.func42, Try.ntmps42
        go_wp2
        have HB := Hi.mk (And.intro HT.out HA.out)
        refine wp_region_noPanic ?_
        refine wp_region_last_drew (S := (fun V => V.cell? ⟨W.heap.size + 1, 3, none⟩ = some (.int .i64 ev) ∧ V.cell? ⟨W.heap.size + 1, 4, none⟩ = some (.bool d.ok) ∧ V.cell? ⟨W.heap.size + 1, 5, none⟩ = some (.int .i64 d.bits) ∧ V.cell? ⟨W.heap.size + 1, 6, none⟩ = some (.int .i64 d.at_) ∧ V.cell? ⟨W.heap.size + 1, 7, none⟩ = some (.int .i64 r.num) ∧ V.cell? ⟨W.heap.size + 1, 8, none⟩ = some (.int .i64 r.coll) ∧ V.cell? ⟨W.heap.size + 1, 9, none⟩ = some (.bool r.ok))) [] (by kernel_rfl) ⟨HB.out.2.cell 3, HB.out.2.cell 4, HB.out.2.cell 5, HB.out.2.cell 6, HB.out.2.cell 7, HB.out.2.cell 8, HB.out.2.cell 9⟩ (fun hHeld => ?_)
        (try simp only [Array.replicate_succ, Array.replicate_zero, List.push_toArray, List.nil_append, List.cons_append])
        refine wpAnyF_take (i := 0) (v := ?_) (by kernel_rfl) (by kernel_rfl) rfl (by kernel_rfl) (by kernel_rfl) (by kernel_rfl) (fun _ _ _ h => h) (Or.inl ⟨by rfl, ?_⟩) (by assumption) ?_
        rotate_left
        · intro w' hSw; (try dsimp only at hSw); clear hSw; go_simp; (try with_reducible rfl)
        (try simp only [Act.put, List.getElem_toArray, List.getElem_cons_zero, List.getElem_cons_succ, List.setIfInBounds_toArray, List.set_cons_zero, List.set_cons_succ])
        refine wpAnyF_take (i := 1) (v := ?_) (by kernel_rfl) (by kernel_rfl) rfl (by kernel_rfl) (by kernel_rfl) (by kernel_rfl) (fun _ _ _ h => h) (Or.inl ⟨by rfl, ?_⟩) (by assumption) ?_
        rotate_left
        · intro w' hSw; (try dsimp only at hSw); obtain ⟨m0, m1, m2, m3, m4, m5, m6⟩ := hSw; go_simp; (try with_reducible rfl)
        (try simp only [Act.put, List.getElem_toArray, List.getElem_cons_zero, List.getElem_cons_succ, List.setIfInBounds_toArray, List.set_cons_zero, List.set_cons_succ])
        refine wpAnyF_take (i := 2) (v := ?_) (by kernel_rfl) (by kernel_rfl) rfl (by kernel_rfl) (by kernel_rfl) (by kernel_rfl) (fun _ _ _ h => h) (Or.inl ⟨by rfl, ?_⟩) (by assumption) ?_
        rotate_left
        · intro w' hSw; (try dsimp only at hSw); clear hSw; go_simp; (try with_reducible rfl)
        (try simp only [Act.put, List.getElem_toArray, List.getElem_cons_zero, List.getElem_cons_succ, List.setIfInBounds_toArray, List.set_cons_zero, List.set_cons_succ])
        refine wpAnyF_take (i := 3) (v := ?_) (by kernel_rfl) (by kernel_rfl) rfl (by kernel_rfl) (by kernel_rfl) (by kernel_rfl) (fun _ _ _ h => h) (Or.inl ⟨by rfl, ?_⟩) (by assumption) ?_
        rotate_left
        · intro w' hSw; (try dsimp only at hSw); clear hSw; go_simp; (try with_reducible rfl)
        (try simp only [Act.put, List.getElem_toArray, List.getElem_cons_zero, List.getElem_cons_succ, List.setIfInBounds_toArray, List.set_cons_zero, List.set_cons_succ])
        refine wpAnyF_take (i := 4) (v := ?_) (by kernel_rfl) (by kernel_rfl) rfl (by kernel_rfl) (by kernel_rfl) (by kernel_rfl) (fun _ _ _ h => h) (Or.inl ⟨by rfl, ?_⟩) (by assumption) ?_
        rotate_left
        · intro w' hSw; (try dsimp only at hSw); obtain ⟨m0, m1, m2, m3, m4, m5, m6⟩ := hSw; go_simp; (try with_reducible rfl)
        (try simp only [Act.put, List.getElem_toArray, List.getElem_cons_zero, List.getElem_cons_succ, List.setIfInBounds_toArray, List.set_cons_zero, List.set_cons_succ])
        refine wpAnyF_take (i := 5) (v := ?_) (by kernel_rfl) (by kernel_rfl) rfl (by kernel_rfl) (by kernel_rfl) (by kernel_rfl) (fun _ _ _ h => h) (Or.inl ⟨by rfl, ?_⟩) (by assumption) ?_
        rotate_left
        · intro w' hSw; (try dsimp only at hSw); clear hSw; go_simp; (try with_reducible rfl)
        (try simp only [Act.put, List.getElem_toArray, List.getElem_cons_zero, List.getElem_cons_succ, List.setIfInBounds_toArray, List.set_cons_zero, List.set_cons_succ])
        refine wpAnyF_take (i := 6) (v := ?_) (by kernel_rfl) (by kernel_rfl) rfl (by kernel_rfl) (by kernel_rfl) (by kernel_rfl) (fun _ _ _ h => h) (Or.inl ⟨by rfl, ?_⟩) (by assumption) ?_
        rotate_left
        · intro w' hSw; (try dsimp only at hSw); obtain ⟨m0, m1, m2, m3, m4, m5, m6⟩ := hSw; go_simp; (try with_reducible rfl)
        (try simp only [Act.put, List.getElem_toArray, List.getElem_cons_zero, List.getElem_cons_succ, List.setIfInBounds_toArray, List.set_cons_zero, List.set_cons_succ])
        refine wpAnyF_take (i := 8) (v := ?_) (by kernel_rfl) (by kernel_rfl) rfl (by kernel_rfl) (by kernel_rfl) (by kernel_rfl) (fun _ _ _ h => h) (Or.inl ⟨by rfl, ?_⟩) (by assumption) ?_
        rotate_left
        · intro w' hSw; (try dsimp only at hSw); clear hSw; go_simp; (try with_reducible rfl)
        (try simp only [Act.put, List.getElem_toArray, List.getElem_cons_zero, List.getElem_cons_succ, List.setIfInBounds_toArray, List.set_cons_zero, List.set_cons_succ])
        refine wpAnyF_take (i := 9) (v := ?_) (by kernel_rfl) (by kernel_rfl) rfl (by kernel_rfl) (by kernel_rfl) (by kernel_rfl) (fun _ _ _ h => h) (Or.inl ⟨by rfl, ?_⟩) (by assumption) ?_
        rotate_left
        · intro w' hSw; (try dsimp only at hSw); obtain ⟨m0, m1, m2, m3, m4, m5, m6⟩ := hSw; go_simp; (try with_reducible rfl)
        (try simp only [Act.put, List.getElem_toArray, List.getElem_cons_zero, List.getElem_cons_succ, List.setIfInBounds_toArray, List.set_cons_zero, List.set_cons_succ])
        refine wpAnyF_take (i := 11) (v := ?_) (by kernel_rfl) (by kernel_rfl) rfl (by kernel_rfl) (by kernel_rfl) (by kernel_rfl) (fun _ _ _ h => h) (Or.inl ⟨by rfl, ?_⟩) (by assumption) ?_
        rotate_left
        · intro w' hSw; (try dsimp only at hSw); clear hSw; go_simp; (try with_reducible rfl)
        (try simp only [Act.put, List.getElem_toArray, List.getElem_cons_zero, List.getElem_cons_succ, List.setIfInBounds_toArray, List.set_cons_zero, List.set_cons_succ])
        refine wpAnyF_take (i := 12) (v := ?_) (by kernel_rfl) (by kernel_rfl) rfl (by kernel_rfl) (by kernel_rfl) (by kernel_rfl) (fun _ _ _ h => h) (Or.inl ⟨by rfl, ?_⟩) (by assumption) ?_
        rotate_left
        · intro w' hSw; (try dsimp only at hSw); clear hSw; go_simp; (try with_reducible rfl)
        (try simp only [Act.put, List.getElem_toArray, List.getElem_cons_zero, List.getElem_cons_succ, List.setIfInBounds_toArray, List.set_cons_zero, List.set_cons_succ])
        refine wpAnyF_take (i := 13) (v := ?_) (by kernel_rfl) (by kernel_rfl) rfl (by kernel_rfl) (by kernel_rfl) (by kernel_rfl) (fun _ _ _ h => h) (Or.inl ⟨by rfl, ?_⟩) (by assumption) ?_
        rotate_left
        · intro w' hSw; (try dsimp only at hSw); obtain ⟨m0, m1, m2, m3, m4, m5, m6⟩ := hSw; go_simp; (try with_reducible rfl)
        (try simp only [Act.put, List.getElem_toArray, List.getElem_cons_zero, List.getElem_cons_succ, List.setIfInBounds_toArray, List.set_cons_zero, List.set_cons_succ])
        refine wpAnyF_take (i := 14) (v := ?_) (by kernel_rfl) (by kernel_rfl) rfl (by kernel_rfl) (by kernel_rfl) (by kernel_rfl) (fun _ _ _ h => h) (Or.inl ⟨by rfl, ?_⟩) (by assumption) ?_
        rotate_left
        · intro w' hSw; (try dsimp only at hSw); clear hSw; go_simp; (try with_reducible rfl)
        (try simp only [Act.put, List.getElem_toArray, List.getElem_cons_zero, List.getElem_cons_succ, List.setIfInBounds_toArray, List.set_cons_zero, List.set_cons_succ])
        refine wpAnyF_take (i := 15) (v := ?_) (by kernel_rfl) (by kernel_rfl) rfl (by kernel_rfl) (by kernel_rfl) (by kernel_rfl) (fun _ _ _ h => h) (Or.inl ⟨by rfl, ?_⟩) (by assumption) ?_
        rotate_left
        · intro w' hSw; (try dsimp only at hSw); obtain ⟨m0, m1, m2, m3, m4, m5, m6⟩ := hSw; go_simp; (try with_reducible rfl)
        (try simp only [Act.put, List.getElem_toArray, List.getElem_cons_zero, List.getElem_cons_succ, List.setIfInBounds_toArray, List.set_cons_zero, List.set_cons_succ])
        refine wpAnyF_ready (rs := [7]) (by kernel_rfl) (by simp) ?_
        refine AllReadyF.cons rfl (fun KK hKK => ?_) AllReadyF.nil
        go_simp
        ((with_reducible refine (HP.out _ (H1.out.later (below_dr _)).mem).mono ?_); rintro e' w3 ⟨rfl, hm3, hk3⟩; have H2 := Hi.mk ((H1.out.later (below_dr _)).mem_step hk3 hm3); have HB2 := Hi.mk (And.intro ((HB.out.1.below (below_dr _)).keptB hk3 (fun e9 => by omega)) ((HB.out.2.below (below_dr _)).keptB hk3 (fun e9 => by omega))); clear hm3 hk3)
        (try go_simp)
        refine hKK.out _ _ ⟨HB2.out.2.cell 3, HB2.out.2.cell 4, HB2.out.2.cell 5, HB2.out.2.cell 6, HB2.out.2.cell 7, HB2.out.2.cell 8, HB2.out.2.cell 9⟩ (fun hHeld => ?_)
        clear hKK KK
        (try simp only [Act.put, List.getElem_toArray, List.getElem_cons_zero, List.getElem_cons_succ, List.setIfInBounds_toArray, List.set_cons_zero, List.set_cons_succ])
        refine wpAnyF_ready (rs := [10]) (by kernel_rfl) (by simp) ?_
        refine AllReadyF.cons rfl (fun KK hKK => ?_) AllReadyF.nil
        go_simp
        ((with_reducible refine (told_any d _).mono ?_); rintro e' w5 ⟨rfl, hb5⟩; replace H2 := Hi.mk (H2.out.later hb5); have HB3 := Hi.mk (And.intro (HB2.out.1.below hb5) (HB2.out.2.below hb5)); clear hb5)
        (try go_simp)
        refine hKK.out _ _ ⟨HB3.out.2.cell 3, HB3.out.2.cell 4, HB3.out.2.cell 5, HB3.out.2.cell 6, HB3.out.2.cell 7, HB3.out.2.cell 8, HB3.out.2.cell 9⟩ (fun hHeld => ?_)
        clear hKK KK
        (try simp only [Act.put, List.getElem_toArray, List.getElem_cons_zero, List.getElem_cons_succ, List.setIfInBounds_toArray, List.set_cons_zero, List.set_cons_succ])
        refine wpAnyF_ready (rs := [16]) (by kernel_rfl) (by simp) ?_
        refine AllReadyF.cons rfl (fun KK hKK => ?_) AllReadyF.nil
        go_simp
        ((with_reducible refine (HR.out _ H2.out.ref).mono ?_); rintro e' w4 ⟨x4, cs, rfl, hcl, hm4, hk4⟩; have H3 := Hi.mk (H2.out.ref_step hk4 hm4); have HB4 := Hi.mk (And.intro (HB3.out.1.keptB hk4 (fun e9 => by omega)) (HB3.out.2.keptB hk4 (fun e9 => by omega))); clear hm4 hk4)
        (try go_simp)
        refine hKK.out _ _ ⟨HB4.out.2.cell 3, HB4.out.2.cell 4, HB4.out.2.cell 5, HB4.out.2.cell 6, HB4.out.2.cell 7, HB4.out.2.cell 8, HB4.out.2.cell 9⟩ (fun hHeld => ?_)
        clear hKK KK
        (try simp only [Act.put, List.getElem_toArray, List.getElem_cons_zero, List.getElem_cons_succ, List.setIfInBounds_toArray, List.set_cons_zero, List.set_cons_succ])
        refine wpAnyF_take (i := 17) (v := ?_) (by kernel_rfl) (by kernel_rfl) rfl (by kernel_rfl) (by kernel_rfl) (by kernel_rfl) (fun _ _ _ h => h) (Or.inl ⟨by rfl, ?_⟩) (by assumption) ?_
        rotate_left
        · intro w' hSw; (try dsimp only at hSw); clear hSw; go_simp; (try with_reducible rfl)
        (try simp only [Act.put, List.getElem_toArray, List.getElem_cons_zero, List.getElem_cons_succ, List.setIfInBounds_toArray, List.set_cons_zero, List.set_cons_succ])
        refine wpAnyF_take (i := 18) (v := ?_) (by kernel_rfl) (by kernel_rfl) rfl (by kernel_rfl) (by kernel_rfl) (by kernel_rfl) (fun _ _ _ h => h) (Or.inl ⟨by rfl, ?_⟩) (by assumption) ?_
        rotate_left
        · intro w' hSw; (try dsimp only at hSw); clear hSw; go_simp; (try with_reducible rfl)
        (try simp only [Act.put, List.getElem_toArray, List.getElem_cons_zero, List.getElem_cons_succ, List.setIfInBounds_toArray, List.set_cons_zero, List.set_cons_succ])
        refine wpAnyF_done (by kernel_rfl) ?_ _
        refine NoPanic.normal ?_
        go_wp2
        go_ret
        exact ⟨⟨_, rfl⟩, bs', cs, hl', hcl, H3.out⟩
      · by_cases e4 : dd = 4
        · subst e4
          have HP := Hi.mk (fun W hM => setT_any p g cap bs wa ws id ac is W hM hwa hws)
          have HR := Hi.mk (fun W hM => rsetT_any q h c bs2 wa ws id ac is W hM hwa hws)
          have hl' := @stgB_len bs wa ws id ac is
          obtain ⟨E, hE⟩ : ∃ E, stgE bs.length wa ws id ac = E := ⟨_, rfl⟩
          obtain ⟨bs', hb'⟩ : ∃ l, stgB bs wa ws id ac is = l := ⟨_, rfl⟩
          rw [hE, hb'] at HP
          rw [hb'] at hl'
          clear hE hb'
          go_enter Try.func42, Try.ntmps42
          go_wp2
          have HB := Hi.mk (And.intro HT.out HA.out)
          refine wp_region_noPanic ?_
          refine wp_region_last_drew (S := (fun V => V.cell? ⟨W.heap.size + 1, 1, none⟩ = some (.int .i64 id) ∧ V.cell? ⟨W.heap.size + 1, 2, none⟩ = some (.int .i64 ac) ∧ V.cell? ⟨W.heap.size + 1, 10, none⟩ = some (.int .i64 wa) ∧ V.cell? ⟨W.heap.size + 1, 11, none⟩ = some (.int .i64 ws) ∧ V.cell? ⟨W.heap.size + 1, 12, none⟩ = some (.bool is))) [] (by kernel_rfl) ⟨HB.out.2.cell 1, HB.out.2.cell 2, HB.out.2.cell 10, HB.out.2.cell 11, HB.out.2.cell 12⟩ (fun hHeld => ?_)
          (try simp only [Array.replicate_succ, Array.replicate_zero, List.push_toArray, List.nil_append, List.cons_append])
          refine wpAnyF_take (i := 0) (v := ?_) (by kernel_rfl) (by kernel_rfl) rfl (by kernel_rfl) (by kernel_rfl) (by kernel_rfl) (fun _ _ _ h => h) (Or.inl ⟨by rfl, ?_⟩) (by assumption) ?_
          rotate_left
          · intro w' hSw; (try dsimp only at hSw); clear hSw; go_simp; (try with_reducible rfl)
          (try simp only [Act.put, List.getElem_toArray, List.getElem_cons_zero, List.getElem_cons_succ, List.setIfInBounds_toArray, List.set_cons_zero, List.set_cons_succ])
          refine wpAnyF_take (i := 1) (v := ?_) (by kernel_rfl) (by kernel_rfl) rfl (by kernel_rfl) (by kernel_rfl) (by kernel_rfl) (fun _ _ _ h => h) (Or.inl ⟨by rfl, ?_⟩) (by assumption) ?_
          rotate_left
          · intro w' hSw; (try dsimp only at hSw); clear hSw; go_simp; (try with_reducible rfl)
          (try simp only [Act.put, List.getElem_toArray, List.getElem_cons_zero, List.getElem_cons_succ, List.setIfInBounds_toArray, List.set_cons_zero, List.set_cons_succ])
          refine wpAnyF_take (i := 2) (v := ?_) (by kernel_rfl) (by kernel_rfl) rfl (by kernel_rfl) (by kernel_rfl) (by kernel_rfl) (fun _ _ _ h => h) (Or.inl ⟨by rfl, ?_⟩) (by assumption) ?_
          rotate_left
          · intro w' hSw; (try dsimp only at hSw); obtain ⟨m0, m1, m2, m3, m4⟩ := hSw; go_simp; (try with_reducible rfl)
          (try simp only [Act.put, List.getElem_toArray, List.getElem_cons_zero, List.getElem_cons_succ, List.setIfInBounds_toArray, List.set_cons_zero, List.set_cons_succ])
          refine wpAnyF_take (i := 3) (v := ?_) (by kernel_rfl) (by kernel_rfl) rfl (by kernel_rfl) (by kernel_rfl) (by kernel_rfl) (fun _ _ _ h => h) (Or.inl ⟨by rfl, ?_⟩) (by assumption) ?_
          rotate_left
          · intro w' hSw; (try dsimp only at hSw); clear hSw; go_simp; (try with_reducible rfl)
          (try simp only [Act.put, List.getElem_toArray, List.getElem_cons_zero, List.getElem_cons_succ, List.setIfInBounds_toArray, List.set_cons_zero, List.set_cons_succ])
          refine wpAnyF_take (i := 4) (v := ?_) (by kernel_rfl) (by kernel_rfl) rfl (by kernel_rfl) (by kernel_rfl) (by kernel_rfl) (fun _ _ _ h => h) (Or.inl ⟨by rfl, ?_⟩) (by assumption) ?_
          rotate_left
          · intro w' hSw; (try dsimp only at hSw); obtain ⟨m0, m1, m2, m3, m4⟩ := hSw; go_simp; (try with_reducible rfl)
          (try simp only [Act.put, List.getElem_toArray, List.getElem_cons_zero, List.getElem_cons_succ, List.setIfInBounds_toArray, List.set_cons_zero, List.set_cons_succ])
          refine wpAnyF_take (i := 5) (v := ?_) (by kernel_rfl) (by kernel_rfl) rfl (by kernel_rfl) (by kernel_rfl) (by kernel_rfl) (fun _ _ _ h => h) (Or.inl ⟨by rfl, ?_⟩) (by assumption) ?_
          rotate_left
          · intro w' hSw; (try dsimp only at hSw); clear hSw; go_simp; (try with_reducible rfl)
          (try simp only [Act.put, List.getElem_toArray, List.getElem_cons_zero, List.getElem_cons_succ, List.setIfInBounds_toArray, List.set_cons_zero, List.set_cons_succ])
          refine wpAnyF_take (i := 6) (v := ?_) (by kernel_rfl) (by kernel_rfl) rfl (by kernel_rfl) (by kernel_rfl) (by kernel_rfl) (fun _ _ _ h => h) (Or.inl ⟨by rfl, ?_⟩) (by assumption) ?_
          rotate_left
          · intro w' hSw; (try dsimp only at hSw); obtain ⟨m0, m1, m2, m3, m4⟩ := hSw; go_simp; (try with_reducible rfl)
          (try simp only [Act.put, List.getElem_toArray, List.getElem_cons_zero, List.getElem_cons_succ, List.setIfInBounds_toArray, List.set_cons_zero, List.set_cons_succ])
          refine wpAnyF_take (i := 7) (v := ?_) (by kernel_rfl) (by kernel_rfl) rfl (by kernel_rfl) (by kernel_rfl) (by kernel_rfl) (fun _ _ _ h => h) (Or.inl ⟨by rfl, ?_⟩) (by assumption) ?_
          rotate_left
          · intro w' hSw; (try dsimp only at hSw); clear hSw; go_simp; (try with_reducible rfl)
          (try simp only [Act.put, List.getElem_toArray, List.getElem_cons_zero, List.getElem_cons_succ, List.setIfInBounds_toArray, List.set_cons_zero, List.set_cons_succ])
          refine wpAnyF_take (i := 8) (v := ?_) (by kernel_rfl) (by kernel_rfl) rfl (by kernel_rfl) (by kernel_rfl) (by kernel_rfl) (fun _ _ _ h => h) (Or.inl ⟨by rfl, ?_⟩) (by assumption) ?_
          rotate_left
          · intro w' hSw; (try dsimp only at hSw); obtain ⟨m0, m1, m2, m3, m4⟩ := hSw; go_simp; (try with_reducible rfl)
          (try simp only [Act.put, List.getElem_toArray, List.getElem_cons_zero, List.getElem_cons_succ, List.setIfInBounds_toArray, List.set_cons_zero, List.set_cons_succ])
          refine wpAnyF_take (i := 10) (v := ?_) (by kernel_rfl) (by kernel_rfl) rfl (by kernel_rfl) (by kernel_rfl) (by kernel_rfl) (fun _ _ _ h => h) (Or.inl ⟨by rfl, ?_⟩) (by assumption) ?_
          rotate_left
          · intro w' hSw; (try dsimp only at hSw); clear hSw; go_simp; (try with_reducible rfl)
          (try simp only [Act.put, List.getElem_toArray, List.getElem_cons_zero, List.getElem_cons_succ, List.setIfInBounds_toArray, List.set_cons_zero, List.set_cons_succ])
          refine wpAnyF_take (i := 11) (v := ?_) (by kernel_rfl) (by kernel_rfl) rfl (by kernel_rfl) (by kernel_rfl) (by kernel_rfl) (fun _ _ _ h => h) (Or.inl ⟨by rfl, ?_⟩) (by assumption) ?_
          rotate_left
          · intro w' hSw; (try dsimp only at hSw); clear hSw; go_simp; (try with_reducible rfl)
          (try simp only [Act.put, List.getElem_toArray, List.getElem_cons_zero, List.getElem_cons_succ, List.setIfInBounds_toArray, List.set_cons_zero, List.set_cons_succ])
          refine wpAnyF_take (i := 12) (v := ?_) (by kernel_rfl) (by kernel_rfl) rfl (by kernel_rfl) (by kernel_rfl) (by kernel_rfl) (fun _ _ _ h => h) (Or.inl ⟨by rfl, ?_⟩) (by assumption) ?_
          rotate_left
          · intro w' hSw; (try dsimp only at hSw); obtain ⟨m0, m1, m2, m3, m4⟩ := hSw; go_simp; (try with_reducible rfl)
          (try simp only [Act.put, List.getElem_toArray, List.getElem_cons_zero, List.getElem_cons_succ, List.setIfInBounds_toArray, List.set_cons_zero, List.set_cons_succ])
          refine wpAnyF_take (i := 13) (v := ?_) (by kernel_rfl) (by kernel_rfl) rfl (by kernel_rfl) (by kernel_rfl) (by kernel_rfl) (fun _ _ _ h => h) (Or.inl ⟨by rfl, ?_⟩) (by assumption) ?_
          rotate_left
          · intro w' hSw; (try dsimp only at hSw); clear hSw; go_simp; (try with_reducible rfl)
          (try simp only [Act.put, List.getElem_toArray, List.getElem_cons_zero, List.getElem_cons_succ, List.setIfInBounds_toArray, List.set_cons_zero, List.set_cons_succ])
          refine wpAnyF_take (i := 14) (v := ?_) (by kernel_rfl) (by kernel_rfl) rfl (by kernel_rfl) (by kernel_rfl) (by kernel_rfl) (fun _ _ _ h => h) (Or.inl ⟨by rfl, ?_⟩) (by assumption) ?_
          rotate_left
          · intro w' hSw; (try dsimp only at hSw); obtain ⟨m0, m1, m2, m3, m4⟩ := hSw; go_simp; (try with_reducible rfl)
          (try simp only [Act.put, List.getElem_toArray, List.getElem_cons_zero, List.getElem_cons_succ, List.setIfInBounds_toArray, List.set_cons_zero, List.set_cons_succ])
          refine wpAnyF_take (i := 15) (v := ?_) (by kernel_rfl) (by kernel_rfl) rfl (by kernel_rfl) (by kernel_rfl) (by kernel_rfl) (fun _ _ _ h => h) (Or.inl ⟨by rfl, ?_⟩) (by assumption) ?_
          rotate_left
          · intro w' hSw; (try dsimp only at hSw); clear hSw; go_simp; (try with_reducible rfl)
          (try simp only [Act.put, List.getElem_toArray, List.getElem_cons_zero, List.getElem_cons_succ, List.setIfInBounds_toArray, List.set_cons_zero, List.set_cons_succ])
          refine wpAnyF_take (i := 16) (v := ?_) (by kernel_rfl) (by kernel_rfl) rfl (by kernel_rfl) (by kernel_rfl) (by kernel_rfl) (fun _ _ _ h => h) (Or.inl ⟨by rfl, ?_⟩) (by assumption) ?_
          rotate_left
          · intro w' hSw; (try dsimp only at hSw); obtain ⟨m0, m1, m2, m3, m4⟩ := hSw; go_simp; (try with_reducible rfl)
          (try simp only [Act.put, List.getElem_toArray, List.getElem_cons_zero, List.getElem_cons_succ, List.setIfInBounds_toArray, List.set_cons_zero, List.set_cons_succ])
          refine wpAnyF_take (i := 17) (v := ?_) (by kernel_rfl) (by kernel_rfl) rfl (by kernel_rfl) (by kernel_rfl) (by kernel_rfl) (fun _ _ _ h => h) (Or.inl ⟨by rfl, ?_⟩) (by assumption) ?_
          rotate_left
          · intro w' hSw; (try dsimp only at hSw); clear hSw; go_simp; (try with_reducible rfl)
          (try simp only [Act.put, List.getElem_toArray, List.getElem_cons_zero, List.getElem_cons_succ, List.setIfInBounds_toArray, List.set_cons_zero, List.set_cons_succ])
          refine wpAnyF_take (i := 18) (v := ?_) (by kernel_rfl) (by kernel_rfl) rfl (by kernel_rfl) (by kernel_rfl) (by kernel_rfl) (fun _ _ _ h => h) (Or.inl ⟨by rfl, ?_⟩) (by assumption) ?_
          rotate_left
          · intro w' hSw; (try dsimp only at hSw); obtain ⟨m0, m1, m2, m3, m4⟩ := hSw; go_simp; (try with_reducible rfl)
          (try simp only [Act.put, List.getElem_toArray, List.getElem_cons_zero, List.getElem_cons_succ, List.setIfInBounds_toArray, List.set_cons_zero, List.set_cons_succ])
          refine wpAnyF_ready (rs := [9]) (by kernel_rfl) (by simp) ?_
          refine AllReadyF.cons rfl (fun KK hKK => ?_) AllReadyF.nil
          go_simp
          ((with_reducible refine (HP.out _ (H1.out.later (below_dr _)).mem).mono ?_); rintro e' w3 ⟨rfl, hm3, hk3⟩; have H2 := Hi.mk ((H1.out.later (below_dr _)).mem_step hk3 hm3); have HB2 := Hi.mk (And.intro ((HB.out.1.below (below_dr _)).keptB hk3 (fun e9 => by omega)) ((HB.out.2.below (below_dr _)).keptB hk3 (fun e9 => by omega))); clear hm3 hk3)
          (try go_simp)
          refine hKK.out _ _ ⟨HB2.out.2.cell 1, HB2.out.2.cell 2, HB2.out.2.cell 10, HB2.out.2.cell 11, HB2.out.2.cell 12⟩ (fun hHeld => ?_)
          clear hKK KK
          (try simp only [Act.put, List.getElem_toArray, List.getElem_cons_zero, List.getElem_cons_succ, List.setIfInBounds_toArray, List.set_cons_zero, List.set_cons_succ])
          refine wpAnyF_ready (rs := [19]) (by kernel_rfl) (by simp) ?_
          refine AllReadyF.cons rfl (fun KK hKK => ?_) AllReadyF.nil
          go_simp
          ((with_reducible refine (HR.out _ H2.out.ref).mono ?_); rintro e' w4 ⟨x4, cs, rfl, hcl, hm4, hk4⟩; have H3 := Hi.mk (H2.out.ref_step hk4 hm4); have HB3 := Hi.mk (And.intro (HB2.out.1.keptB hk4 (fun e9 => by omega)) (HB2.out.2.keptB hk4 (fun e9 => by omega))); clear hm4 hk4)
          (try go_simp)
          refine hKK.out _ _ ⟨HB3.out.2.cell 1, HB3.out.2.cell 2, HB3.out.2.cell 10, HB3.out.2.cell 11, HB3.out.2.cell 12⟩ (fun hHeld => ?_)
          clear hKK KK
          (try simp only [Act.put, List.getElem_toArray, List.getElem_cons_zero, List.getElem_cons_succ, List.setIfInBounds_toArray, List.set_cons_zero, List.set_cons_succ])
          refine wpAnyF_take (i := 20) (v := ?_) (by kernel_rfl) (by kernel_rfl) rfl (by kernel_rfl) (by kernel_rfl) (by kernel_rfl) (fun _ _ _ h => h) (Or.inl ⟨by rfl, ?_⟩) (by assumption) ?_
          rotate_left
          · intro w' hSw; (try dsimp only at hSw); clear hSw; go_simp; (try with_reducible rfl)
          (try simp only [Act.put, List.getElem_toArray, List.getElem_cons_zero, List.getElem_cons_succ, List.setIfInBounds_toArray, List.set_cons_zero, List.set_cons_succ])
          refine wpAnyF_take (i := 21) (v := ?_) (by kernel_rfl) (by kernel_rfl) rfl (by kernel_rfl) (by kernel_rfl) (by kernel_rfl) (fun _ _ _ h => h) (Or.inl ⟨by rfl, ?_⟩) (by assumption) ?_
          rotate_left
          · intro w' hSw; (try dsimp only at hSw); clear hSw; go_simp; (try with_reducible rfl)
          (try simp only [Act.put, List.getElem_toArray, List.getElem_cons_zero, List.getElem_cons_succ, List.setIfInBounds_toArray, List.set_cons_zero, List.set_cons_succ])
          refine wpAnyF_done (by kernel_rfl) ?_ _
          refine NoPanic.normal ?_
          go_wp2
          go_ret
          exact ⟨⟨_, rfl⟩, bs', cs, hl', hcl, H3.out⟩
        · by_cases e5 : dd = 5
          · subst e5
            have hrl := H1.out.ref.len
            have HSZ := Hi.mk (fun W hM => size_any p g cap bs W hM)
            have HP := Hi.mk (fun W hM => write_any p g cap bs 0 bs.length ac 8 vv W hM (by decide) (by decide) (by omega) (by omega) hv)
            have HR0 := Hi.mk (fun W hM => rwrite_any q h c bs2 0 bs.length ac 8 vv W hM (by decide) (by decide) (by omega) (by omega) hv)
            have HR := Hi.mk (show ∀ W, MemAt 72 W q h c bs2 → Calls Try.prog 56 #[.pointer (some ⟨q, 0, none⟩), win 0 bs.length, .int .i64 ac, .int .i64 8, .int .u64 vv] W (RefW q h c bs2.length W) from fun W hM => (HR0.out W hM).mono fun e w' ⟨h1, h2, h3⟩ => ⟨_, _, h1, wrB_len hrl, h2, h3⟩)
            clear HR0
            have hl' : (wrB bs 0 bs.length ac 8 vv).length = bs.length := wrB_len hbl
            obtain ⟨E, hE⟩ : ∃ E, accE bs.length 0 bs.length ac 8 = E := ⟨_, rfl⟩
            obtain ⟨bs', hb'⟩ : ∃ l, wrB bs 0 bs.length ac 8 vv = l := ⟨_, rfl⟩
            rw [hE, hb'] at HP
            rw [hb'] at hl'
            clear hE hb'
            unfold win at HP HR
            obtain ⟨N, hN⟩ : ∃ N, bs.length = N := ⟨_, rfl⟩
            rw [hN] at HP HR HSZ hbl hl' ⊢
            go_enter Try.func42, Try.ntmps42
            have qf := (CB.new ((W.alloc (.cells (Tb.cs t) 32)).alloc (.cells #[.int .i64 5, .int .i64 id, .int .i64 ac, .int .i64 ev, .bool d.ok, .int .i64 d.bits, .int .i64 d.at_, .int .i64 r.num, .int .i64 r.coll, .bool r.ok, .int .i64 wa, .int .i64 ws, .bool is, .int .u64 (vv : Int)] 62)) 30 #[.int .i64 0, .int .i64 0]).frozen
            go_wp2_with (go_at_call 14; ((with_reducible refine (HSZ.out _ H1.out.mem).mono ?_); rintro e' w1 ⟨rfl, rfl⟩))
            have HC := Hi.mk (H1.out.later (bal ((W.alloc (.cells (Tb.cs t) 32)).alloc (.cells #[.int .i64 5, .int .i64 id, .int .i64 ac, .int .i64 ev, .bool d.ok, .int .i64 d.bits, .int .i64 d.at_, .int .i64 r.num, .int .i64 r.coll, .bool r.ok, .int .i64 wa, .int .i64 ws, .bool is, .int .u64 (vv : Int)] 62)) (.cells #[.int .i64 0, .int .i64 N] 30)))
            have HB := Hi.mk (And.intro (HA.out.alloc (.cells #[.int .i64 0, .int .i64 N] 30)) (show CB (((W.alloc (.cells (Tb.cs t) 32)).alloc (.cells #[.int .i64 5, .int .i64 id, .int .i64 ac, .int .i64 ev, .bool d.ok, .int .i64 d.bits, .int .i64 d.at_, .int .i64 r.num, .int .i64 r.coll, .bool r.ok, .int .i64 wa, .int .i64 ws, .bool is, .int .u64 (vv : Int)] 62)).alloc (.cells #[.int .i64 0, .int .i64 N] 30)) (W.heap.size + 1 + 1) 30 #[.int .i64 0, .int .i64 N] from by have := CB.new ((W.alloc (.cells (Tb.cs t) 32)).alloc (.cells #[.int .i64 5, .int .i64 id, .int .i64 ac, .int .i64 ev, .bool d.ok, .int .i64 d.bits, .int .i64 d.at_, .int .i64 r.num, .int .i64 r.coll, .bool r.ok, .int .i64 wa, .int .i64 ws, .bool is, .int .u64 (vv : Int)] 62)) 30 #[.int .i64 0, .int .i64 N]; rwa [hsz] at this))
            refine wp_region_noPanic ?_
            refine wp_region_last_drew (S := (fun V => V.cell? ⟨W.heap.size + 1, 2, none⟩ = some (.int .i64 ac) ∧ V.cell? ⟨W.heap.size + 1, 13, none⟩ = some (.int .u64 (vv : Int)) ∧ V.cell? ⟨W.heap.size + 1 + 1, 0, none⟩ = some (.int .i64 0) ∧ V.cell? ⟨W.heap.size + 1 + 1, 1, none⟩ = some (.int .i64 N))) [] (by kernel_rfl) ⟨HB.out.1.cell 2, HB.out.1.cell 13, HB.out.2.cell 0, HB.out.2.cell 1⟩ (fun hHeld => ?_)
            (try simp only [Array.replicate_succ, Array.replicate_zero, List.push_toArray, List.nil_append, List.cons_append])
            refine wpAnyF_take (i := 0) (v := ?_) (by kernel_rfl) (by kernel_rfl) rfl (by kernel_rfl) (by kernel_rfl) (by kernel_rfl) (fun _ _ _ h => h) (Or.inl ⟨by rfl, ?_⟩) (by assumption) ?_
            rotate_left
            · intro w' hSw; (try dsimp only at hSw); clear hSw; go_simp; (try with_reducible rfl)
            (try simp only [Act.put, List.getElem_toArray, List.getElem_cons_zero, List.getElem_cons_succ, List.setIfInBounds_toArray, List.set_cons_zero, List.set_cons_succ])
            refine wpAnyF_take (i := 1) (v := ?_) (by kernel_rfl) (by kernel_rfl) rfl (by kernel_rfl) (by kernel_rfl) (by kernel_rfl) (fun _ _ _ h => h) (Or.inl ⟨by rfl, ?_⟩) (by assumption) ?_
            rotate_left
            · intro w' hSw; (try dsimp only at hSw); obtain ⟨m1, m2, m3, m4⟩ := hSw; go_simp; (try with_reducible rfl)
            (try simp only [Act.put, List.getElem_toArray, List.getElem_cons_zero, List.getElem_cons_succ, List.setIfInBounds_toArray, List.set_cons_zero, List.set_cons_succ])
            refine wpAnyF_take (i := 2) (v := ?_) (by kernel_rfl) (by kernel_rfl) rfl (by kernel_rfl) (by kernel_rfl) (by kernel_rfl) (fun _ _ _ h => h) (Or.inl ⟨by rfl, ?_⟩) (by assumption) ?_
            rotate_left
            · intro w' hSw; (try dsimp only at hSw); clear hSw; go_simp; (try with_reducible rfl)
            (try simp only [Act.put, List.getElem_toArray, List.getElem_cons_zero, List.getElem_cons_succ, List.setIfInBounds_toArray, List.set_cons_zero, List.set_cons_succ])
            refine wpAnyF_take (i := 3) (v := ?_) (by kernel_rfl) (by kernel_rfl) rfl (by kernel_rfl) (by kernel_rfl) (by kernel_rfl) (fun _ _ _ h => h) (Or.inl ⟨by rfl, ?_⟩) (by assumption) ?_
            rotate_left
            · intro w' hSw; (try dsimp only at hSw); obtain ⟨m1, m2, m3, m4⟩ := hSw; go_simp; (try with_reducible rfl)
            (try simp only [Act.put, List.getElem_toArray, List.getElem_cons_zero, List.getElem_cons_succ, List.setIfInBounds_toArray, List.set_cons_zero, List.set_cons_succ])
            refine wpAnyF_take (i := 4) (v := ?_) (by kernel_rfl) (by kernel_rfl) rfl (by kernel_rfl) (by kernel_rfl) (by kernel_rfl) (fun _ _ _ h => h) (Or.inl ⟨by rfl, ?_⟩) (by assumption) ?_
            rotate_left
            · intro w' hSw; (try dsimp only at hSw); clear hSw; go_simp; (try with_reducible rfl)
            (try simp only [Act.put, List.getElem_toArray, List.getElem_cons_zero, List.getElem_cons_succ, List.setIfInBounds_toArray, List.set_cons_zero, List.set_cons_succ])
            refine wpAnyF_take (i := 5) (v := ?_) (by kernel_rfl) (by kernel_rfl) rfl (by kernel_rfl) (by kernel_rfl) (by kernel_rfl) (fun _ _ _ h => h) (Or.inl ⟨by rfl, ?_⟩) (by assumption) ?_
            rotate_left
            · intro w' hSw; (try dsimp only at hSw); obtain ⟨m1, m2, m3, m4⟩ := hSw; go_simp; (try with_reducible rfl)
            (try simp only [Act.put, List.getElem_toArray, List.getElem_cons_zero, List.getElem_cons_succ, List.setIfInBounds_toArray, List.set_cons_zero, List.set_cons_succ])
            refine wpAnyF_take (i := 7) (v := ?_) (by kernel_rfl) (by kernel_rfl) rfl (by kernel_rfl) (by kernel_rfl) (by kernel_rfl) (fun _ _ _ h => h) (Or.inl ⟨by rfl, ?_⟩) (by assumption) ?_
            rotate_left
            · intro w' hSw; (try dsimp only at hSw); clear hSw; go_simp; (try with_reducible rfl)
            (try simp only [Act.put, List.getElem_toArray, List.getElem_cons_zero, List.getElem_cons_succ, List.setIfInBounds_toArray, List.set_cons_zero, List.set_cons_succ])
            refine wpAnyF_take (i := 8) (v := ?_) (by kernel_rfl) (by kernel_rfl) rfl (by kernel_rfl) (by kernel_rfl) (by kernel_rfl) (fun _ _ _ h => h) (Or.inl ⟨by rfl, ?_⟩) (by assumption) ?_
            rotate_left
            · intro w' hSw; (try dsimp only at hSw); obtain ⟨m1, m2, m3, m4⟩ := hSw; go_simp; (try with_reducible rfl)
            (try simp only [Act.put, List.getElem_toArray, List.getElem_cons_zero, List.getElem_cons_succ, List.setIfInBounds_toArray, List.set_cons_zero, List.set_cons_succ])
            refine wpAnyF_take (i := 9) (v := ?_) (by kernel_rfl) (by kernel_rfl) rfl (by kernel_rfl) (by kernel_rfl) (by kernel_rfl) (fun _ _ _ h => h) (Or.inl ⟨by rfl, ?_⟩) (by assumption) ?_
            rotate_left
            · intro w' hSw; (try dsimp only at hSw); clear hSw; go_simp; (try with_reducible rfl)
            (try simp only [Act.put, List.getElem_toArray, List.getElem_cons_zero, List.getElem_cons_succ, List.setIfInBounds_toArray, List.set_cons_zero, List.set_cons_succ])
            refine wpAnyF_take (i := 10) (v := ?_) (by kernel_rfl) (by kernel_rfl) rfl (by kernel_rfl) (by kernel_rfl) (by kernel_rfl) (fun _ _ _ h => h) (Or.inl ⟨by rfl, ?_⟩) (by assumption) ?_
            rotate_left
            · intro w' hSw; (try dsimp only at hSw); obtain ⟨m1, m2, m3, m4⟩ := hSw; go_simp; (try with_reducible rfl)
            (try simp only [Act.put, List.getElem_toArray, List.getElem_cons_zero, List.getElem_cons_succ, List.setIfInBounds_toArray, List.set_cons_zero, List.set_cons_succ])
            refine wpAnyF_take (i := 11) (v := ?_) (by kernel_rfl) (by kernel_rfl) rfl (by kernel_rfl) (by kernel_rfl) (by kernel_rfl) (fun _ _ _ h => h) (Or.inl ⟨by rfl, ?_⟩) (by assumption) ?_
            rotate_left
            · intro w' hSw; (try dsimp only at hSw); clear hSw; go_simp; (try with_reducible rfl)
            (try simp only [Act.put, List.getElem_toArray, List.getElem_cons_zero, List.getElem_cons_succ, List.setIfInBounds_toArray, List.set_cons_zero, List.set_cons_succ])
            refine wpAnyF_take (i := 12) (v := ?_) (by kernel_rfl) (by kernel_rfl) rfl (by kernel_rfl) (by kernel_rfl) (by kernel_rfl) (fun _ _ _ h => h) (Or.inl ⟨by rfl, ?_⟩) (by assumption) ?_
            rotate_left
            · intro w' hSw; (try dsimp only at hSw); obtain ⟨m1, m2, m3, m4⟩ := hSw; go_simp; (try with_reducible rfl)
            (try simp only [Act.put, List.getElem_toArray, List.getElem_cons_zero, List.getElem_cons_succ, List.setIfInBounds_toArray, List.set_cons_zero, List.set_cons_succ])
            refine wpAnyF_ready (rs := [6]) (by kernel_rfl) (by simp) ?_
            refine AllReadyF.cons rfl (fun KK hKK => ?_) AllReadyF.nil
            go_simp
            ((with_reducible refine (HP.out _ (HC.out.later (below_dr _)).mem).mono ?_); rintro e' w3 ⟨rfl, hm3, hk3⟩; have H2 := Hi.mk ((HC.out.later (below_dr _)).mem_step hk3 hm3); have HB2 := Hi.mk (And.intro ((HB.out.1.below (below_dr _)).keptB hk3 (fun e9 => by omega)) ((HB.out.2.below (below_dr _)).keptB hk3 (fun e9 => by omega))); clear hm3 hk3)
            (try go_simp)
            refine hKK.out _ _ ⟨HB2.out.1.cell 2, HB2.out.1.cell 13, HB2.out.2.cell 0, HB2.out.2.cell 1⟩ (fun hHeld => ?_)
            clear hKK KK
            (try simp only [Act.put, List.getElem_toArray, List.getElem_cons_zero, List.getElem_cons_succ, List.setIfInBounds_toArray, List.set_cons_zero, List.set_cons_succ])
            refine wpAnyF_ready (rs := [13]) (by kernel_rfl) (by simp) ?_
            refine AllReadyF.cons rfl (fun KK hKK => ?_) AllReadyF.nil
            go_simp
            ((with_reducible refine (HR.out _ H2.out.ref).mono ?_); rintro e' w4 ⟨x4, cs, rfl, hcl, hm4, hk4⟩; have H3 := Hi.mk (H2.out.ref_step hk4 hm4); have HB3 := Hi.mk (And.intro (HB2.out.1.keptB hk4 (fun e9 => by omega)) (HB2.out.2.keptB hk4 (fun e9 => by omega))); clear hm4 hk4)
            (try go_simp)
            refine hKK.out _ _ ⟨HB3.out.1.cell 2, HB3.out.1.cell 13, HB3.out.2.cell 0, HB3.out.2.cell 1⟩ (fun hHeld => ?_)
            clear hKK KK
            (try simp only [Act.put, List.getElem_toArray, List.getElem_cons_zero, List.getElem_cons_succ, List.setIfInBounds_toArray, List.set_cons_zero, List.set_cons_succ])
            refine wpAnyF_take (i := 14) (v := ?_) (by kernel_rfl) (by kernel_rfl) rfl (by kernel_rfl) (by kernel_rfl) (by kernel_rfl) (fun _ _ _ h => h) (Or.inl ⟨by rfl, ?_⟩) (by assumption) ?_
            rotate_left
            · intro w' hSw; (try dsimp only at hSw); clear hSw; go_simp; (try with_reducible rfl)
            (try simp only [Act.put, List.getElem_toArray, List.getElem_cons_zero, List.getElem_cons_succ, List.setIfInBounds_toArray, List.set_cons_zero, List.set_cons_succ])
            refine wpAnyF_take (i := 15) (v := ?_) (by kernel_rfl) (by kernel_rfl) rfl (by kernel_rfl) (by kernel_rfl) (by kernel_rfl) (fun _ _ _ h => h) (Or.inl ⟨by rfl, ?_⟩) (by assumption) ?_
            rotate_left
            · intro w' hSw; (try dsimp only at hSw); clear hSw; go_simp; (try with_reducible rfl)
            (try simp only [Act.put, List.getElem_toArray, List.getElem_cons_zero, List.getElem_cons_succ, List.setIfInBounds_toArray, List.set_cons_zero, List.set_cons_succ])
            refine wpAnyF_done (by kernel_rfl) ?_ _
            refine NoPanic.normal ?_
            go_wp2
            go_ret
            exact ⟨⟨_, rfl⟩, bs', cs, hl', hcl, H3.out⟩
          · have f1 : (dd == 1) = false := by simpa using e1
            have f2 : (dd == 2) = false := by simpa using e2
            have f3 : (dd == 3) = false := by simpa using e3
            have f4 : (dd == 4) = false := by simpa using e4
            have f5 : (dd == 5) = false := by simpa using e5
            go_enter Try.func42, Try.ntmps42
            go_wp2
            go_ret
            exact ⟨⟨_, rfl⟩, bs, bs2, rfl, rfl, H1.out⟩
end Go.Proofs.Ytjcjblmaceooaaa
