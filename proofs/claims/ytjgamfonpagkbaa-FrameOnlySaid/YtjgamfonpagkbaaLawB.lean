/-
  The law's does: an act of both banks.
-/
import Derived.Test.YtjgamfonpagkbaaLawA
namespace Go.Proofs.Ytjgamfonpagkbaa
open Go.ChangeShapes Go.WideShapes Go.ChangeAt Go.RowKit Go.Shelf
set_option linter.unusedVariables false
attribute [local go_sem] Oper.semAt_some

/-- An act. -/
structure Ac11 where
  d : Int
  off : Int
  id : Int
  v : Nat
  a : Int
deriving Inhabited
abbrev Ac11.w (x : Ac11) : Value := .agg #[.int .i64 x.d, .int .i64 x.off, .int .i64 x.id, .int .u64 x.v, .int .i64 x.a]
abbrev Ac11.ca (x : Ac11) : Array Value := #[.int .i64 x.d, .int .i64 x.off, .int .i64 x.id, .int .u64 x.v, .int .i64 x.a]
/-- An act of machine numbers. -/
structure AcOk (x : Ac11) : Prop where
  off : Int64 x.off
  id : Int64 x.id
  v : x.v < 18446744073709551616
/-- What an act leaves. -/
def Did (w : World) (b g cap rb lg xg : Nat) (la xa : Option Addr) (lc xc : Nat) (f : Int) (es : List En) (W : World) (e : Ending) (w' : World) : Prop :=
  ∃ es' : List En, es'.length = es.length ∧ e = .returned (.bool true) ∧ TwF w b g cap rb lg xg la xa lc xc f es' w' ∧ Kept (bs2 g lg xg es) W w'

/-- The boxes that does lays: the act, the place. -/
structure XB (W : World) (N : Nat) (x : Ac11) (p : Pl) (V : World) : Prop where
  x : CB V W.heap.size 32 x.ca
  p : CB V N 37 p.cs
theorem XB.keptB {W : World} {N : Nat} {x : Ac11} {p : Pl} {V V' : World} {bs : Nat → Prop} (h : XB W N x p V) (k : Kept bs V V') (h1 : ¬ bs W.heap.size) (h2 : ¬ bs N) : XB W N x p V' := ⟨h.x.keptB k h1, h.p.keptB k h2⟩
theorem XB.drew {W : World} {N : Nat} {x : Ac11} {p : Pl} {V : World} (h : XB W N x p V) : XB W N x p V.drew := ⟨h.x, h.p⟩
/-- A block that lies above what acts turn. -/
theorem box_over {w W : World} {b g cap rb lg xg : Nat} {la xa : Option Addr} {lc xc : Nat} {f : Int} {es : List En} (h : TwF w b g cap rb lg xg la xa lc xc f es W) {N : Nat} (hN : W.heap.size ≤ N) : ¬ bs2 g lg xg es N := fun e => by
  have h1 := h.bk.row.lt
  rcases e with e | ⟨a, e | e⟩
  · omega
  · have := (h.rf.ne0 a).2.2.1.lt; omega
  · have := (h.rf.ne0 a).2.2.2.1.lt; omega
theorem bs2_len {g lg xg : Nat} {es es' : List En} (h : es'.length = es.length) (i : Nat) : bs2 g lg xg es' i → bs2 g lg xg es i := fun q => by
  rcases q with q | ⟨a, q⟩
  · exact .inl q
  · exact .inr ⟨fun e => a (by subst e; exact List.length_eq_zero_iff.1 h), q⟩

set_option maxRecDepth 100000 in
set_option maxHeartbeats 8000000 in
theorem does_one {w W : World} {b g cap rb lg xg : Nat} {la xa : Option Addr} {lc xc : Nat} {f : Int} {es : List En} {x : Ac11} (h : TwF w b g cap rb lg xg la xa lc xc f es W) (hx : AcOk x) (hd : x.d = 1) :
    Calls Try.prog 11 #[.pointer (some ⟨b, 0, none⟩), .pointer (some ⟨rb, 0, none⟩), x.w] W (Did w b g cap rb lg xg la xa lc xc f es W) := by
  have H := hi h
  have CD := hi (fun V => distD_any x.off V hx.off)
  have HID := hi hx.id
  have HVL := hi hx.v
  obtain ⟨d, off, id, v, a⟩ := x
  clear h hx
  dsimp only at CD HID HVL
  dsimp only [Ac11.w]
  have HXN := hi (CB.new W 32 #[.int .i64 d, .int .i64 off, .int .i64 id, .int .u64 v, .int .i64 a])
  have HXB := hi (bal W (.cells #[.int .i64 d, .int .i64 off, .int .i64 id, .int .u64 v, .int .i64 a] 32))
  obtain rfl : d = 1 := hd
  go_enter Try.func11, Try.ntmps11
  go_wp2_with (go_at_call 13; ((with_reducible refine (CD.out _).mono ?_); rintro e' V1 ⟨⟨r, fp, pc⟩, c, er, rfl, hok, hb⟩; have HOK := hi hok; have HX1 := hi (HXN.out.below hb); have HB1 := hi (HXB.out.trans (hb.mono HXB.out.size)); have hx0 := HX1.out.cell 0; have hx0' : V1.cell? ⟨W.heap.size, 0, none⟩ = some (.int .i64 1) := hx0; have hxl := HX1.out.lt; clear hok hb hx0))
  · have he0 : er = 0 := by have h9 := ‹(er == 0) = true›; simpa using h9
    have HX2 := hi (HX1.out.below (bal V1 (.cells #[.int .i64 r, .int .i64 fp, .int .i64 pc] 37)))
    have HP2 := hi (CB.new V1 37 #[.int .i64 r, .int .i64 fp, .int .i64 pc])
    have HB2 := hi (HB1.out.alloc HB1.out.size (.cells #[.int .i64 r, .int .i64 fp, .int .i64 pc] 37))
    obtain ⟨N, hN⟩ : ∃ N, V1.heap.size = N := ⟨_, rfl⟩
    have hNW : W.heap.size ≤ N := by rw [← hN]; exact HB1.out.size
    obtain ⟨V2, hV2⟩ : ∃ V2, V1.alloc (.cells #[.int .i64 r, .int .i64 fp, .int .i64 pc] 37) = V2 := ⟨_, rfl⟩
    rw [hV2] at HX2 HP2 HB2 ⊢
    rw [hN] at HP2 ⊢
    clear hV2 hN HX1 HB1 hx0' hxl
    have HT2 := hi (H.out.later HB2.out)
    have HS0 := hi (show XB W N ⟨1, off, id, v, a⟩ ⟨r, fp, pc⟩ V2 from ⟨HX2.out, HP2.out⟩)
    have HTD := hi (HT2.out.later (Below.drewN (m := 1) (Below.refl _ _)))
    have HSD := hi HS0.out.drew
    have HN1 := hi (box_over H.out (Nat.le_refl W.heap.size))
    have HN2 := hi (box_over H.out hNW)
    have hpok := HOK.out he0
    have C1 := hi (fun V (hV : BkAt V b g cap f es) => write_any (v := v) hV H.out.fit H.out.fine hpok HVL.out)
    have C2 := hi (fun V (hV : RfAt V rb lg xg la xa lc xc f es) => rwrite_any (v := v) hV H.out.fit H.out.fine hpok HVL.out)
    have HLEN := hi (writeV_len ⟨r, fp, pc⟩ c f v es)
    have HFN := hi (writeV_fine (p := ⟨r, fp, pc⟩) (c := c) (f0 := f) (v := v) H.out.fine)
    obtain ⟨r1, hr1⟩ : ∃ r1, (writeV ⟨r, fp, pc⟩ c f v es).1 = r1 := ⟨_, rfl⟩
    obtain ⟨r2, hr2⟩ : ∃ r2, (writeV ⟨r, fp, pc⟩ c f v es).2 = r2 := ⟨_, rfl⟩
    rw [hr1, hr2] at C1 C2
    rw [hr1] at HLEN HFN
    clear hr1 hr2
    refine wp_region_noPanic ?_
    refine wp_region_last_drew (S := (XB W N ⟨1, off, id, v, a⟩ ⟨r, fp, pc⟩)) [] (by kernel_rfl) HSD.out (fun hHeld => ?_)
    obtain ⟨V3, hV3⟩ : ∃ V3, V2.drewN 1 = V3 := ⟨_, rfl⟩
    have hV3' : V2.drew = V3 := hV3
    have HKD := hi (show Kept (bs2 g lg xg es) W V3 from by rw [← hV3]; exact Kept.drewN (Kept.of HB2.out) 1)
    rw [hV3] at HTD
    rw [hV3'] at hHeld ⊢
    clear hV3 hV3'
    (try simp only [Array.replicate_succ, Array.replicate_zero, List.push_toArray, List.nil_append, List.cons_append])
    refine wpAnyF_take (i := 0) (v := ?_) (by kernel_rfl) (by kernel_rfl) rfl (by kernel_rfl) (by kernel_rfl) (by kernel_rfl) (fun _ _ _ h => h) (Or.inl ⟨by rfl, ?_⟩) (by assumption) ?_
    rotate_left
    · intro w' hSw; (try dsimp only at hSw); obtain ⟨hs1, hs2⟩ := hSw; have q0 := hs1.cell 0; have q1 := hs1.cell 1; have q2 := hs1.cell 2; have q3 := hs1.cell 3; have q4 := hs1.cell 4; have y0 := hs2.cell 0; have y1 := hs2.cell 1; have y2 := hs2.cell 2; dsimp only [Ac11.ca, Pl.cs] at q0 q1 q2 q3 q4 y0 y1 y2; go_simp; (try with_reducible rfl)
    (try simp only [Act.put, List.getElem_toArray, List.getElem_cons_zero, List.setIfInBounds_toArray, List.set_cons_zero, List.set_cons_succ])
    refine wpAnyF_take (i := 1) (v := ?_) (by kernel_rfl) (by kernel_rfl) rfl (by kernel_rfl) (by kernel_rfl) (by kernel_rfl) (fun _ _ _ h => h) (Or.inl ⟨by rfl, ?_⟩) (by assumption) ?_
    rotate_left
    · intro w' hSw; (try dsimp only at hSw); obtain ⟨hs1, hs2⟩ := hSw; have q0 := hs1.cell 0; have q1 := hs1.cell 1; have q2 := hs1.cell 2; have q3 := hs1.cell 3; have q4 := hs1.cell 4; have y0 := hs2.cell 0; have y1 := hs2.cell 1; have y2 := hs2.cell 2; dsimp only [Ac11.ca, Pl.cs] at q0 q1 q2 q3 q4 y0 y1 y2; go_simp; (try with_reducible rfl)
    (try simp only [Act.put, List.getElem_toArray, List.getElem_cons_zero, List.getElem_cons_succ, List.setIfInBounds_toArray, List.set_cons_zero, List.set_cons_succ])
    refine wpAnyF_take (i := 2) (v := ?_) (by kernel_rfl) (by kernel_rfl) rfl (by kernel_rfl) (by kernel_rfl) (by kernel_rfl) (fun _ _ _ h => h) (Or.inl ⟨by rfl, ?_⟩) (by assumption) ?_
    rotate_left
    · intro w' hSw; (try dsimp only at hSw); obtain ⟨hs1, hs2⟩ := hSw; have q0 := hs1.cell 0; have q1 := hs1.cell 1; have q2 := hs1.cell 2; have q3 := hs1.cell 3; have q4 := hs1.cell 4; have y0 := hs2.cell 0; have y1 := hs2.cell 1; have y2 := hs2.cell 2; dsimp only [Ac11.ca, Pl.cs] at q0 q1 q2 q3 q4 y0 y1 y2; go_simp; (try with_reducible rfl)
    (try simp only [Act.put, List.getElem_toArray, List.getElem_cons_zero, List.getElem_cons_succ, List.setIfInBounds_toArray, List.set_cons_zero, List.set_cons_succ])
    refine wpAnyF_take (i := 3) (v := ?_) (by kernel_rfl) (by kernel_rfl) rfl (by kernel_rfl) (by kernel_rfl) (by kernel_rfl) (fun _ _ _ h => h) (Or.inl ⟨by rfl, ?_⟩) (by assumption) ?_
    rotate_left
    · intro w' hSw; (try dsimp only at hSw); obtain ⟨hs1, hs2⟩ := hSw; have q0 := hs1.cell 0; have q1 := hs1.cell 1; have q2 := hs1.cell 2; have q3 := hs1.cell 3; have q4 := hs1.cell 4; have y0 := hs2.cell 0; have y1 := hs2.cell 1; have y2 := hs2.cell 2; dsimp only [Ac11.ca, Pl.cs] at q0 q1 q2 q3 q4 y0 y1 y2; go_simp; (try with_reducible rfl)
    (try simp only [Act.put, List.getElem_toArray, List.getElem_cons_zero, List.getElem_cons_succ, List.setIfInBounds_toArray, List.set_cons_zero, List.set_cons_succ])
    refine wpAnyF_take (i := 5) (v := ?_) (by kernel_rfl) (by kernel_rfl) rfl (by kernel_rfl) (by kernel_rfl) (by kernel_rfl) (fun _ _ _ h => h) (Or.inl ⟨by rfl, ?_⟩) (by assumption) ?_
    rotate_left
    · intro w' hSw; (try dsimp only at hSw); obtain ⟨hs1, hs2⟩ := hSw; have q0 := hs1.cell 0; have q1 := hs1.cell 1; have q2 := hs1.cell 2; have q3 := hs1.cell 3; have q4 := hs1.cell 4; have y0 := hs2.cell 0; have y1 := hs2.cell 1; have y2 := hs2.cell 2; dsimp only [Ac11.ca, Pl.cs] at q0 q1 q2 q3 q4 y0 y1 y2; go_simp; (try with_reducible rfl)
    (try simp only [Act.put, List.getElem_toArray, List.getElem_cons_zero, List.getElem_cons_succ, List.setIfInBounds_toArray, List.set_cons_zero, List.set_cons_succ])
    refine wpAnyF_take (i := 6) (v := ?_) (by kernel_rfl) (by kernel_rfl) rfl (by kernel_rfl) (by kernel_rfl) (by kernel_rfl) (fun _ _ _ h => h) (Or.inl ⟨by rfl, ?_⟩) (by assumption) ?_
    rotate_left
    · intro w' hSw; (try dsimp only at hSw); obtain ⟨hs1, hs2⟩ := hSw; have q0 := hs1.cell 0; have q1 := hs1.cell 1; have q2 := hs1.cell 2; have q3 := hs1.cell 3; have q4 := hs1.cell 4; have y0 := hs2.cell 0; have y1 := hs2.cell 1; have y2 := hs2.cell 2; dsimp only [Ac11.ca, Pl.cs] at q0 q1 q2 q3 q4 y0 y1 y2; go_simp; (try with_reducible rfl)
    (try simp only [Act.put, List.getElem_toArray, List.getElem_cons_zero, List.getElem_cons_succ, List.setIfInBounds_toArray, List.set_cons_zero, List.set_cons_succ])
    refine wpAnyF_take (i := 7) (v := ?_) (by kernel_rfl) (by kernel_rfl) rfl (by kernel_rfl) (by kernel_rfl) (by kernel_rfl) (fun _ _ _ h => h) (Or.inl ⟨by rfl, ?_⟩) (by assumption) ?_
    rotate_left
    · intro w' hSw; (try dsimp only at hSw); obtain ⟨hs1, hs2⟩ := hSw; have q0 := hs1.cell 0; have q1 := hs1.cell 1; have q2 := hs1.cell 2; have q3 := hs1.cell 3; have q4 := hs1.cell 4; have y0 := hs2.cell 0; have y1 := hs2.cell 1; have y2 := hs2.cell 2; dsimp only [Ac11.ca, Pl.cs] at q0 q1 q2 q3 q4 y0 y1 y2; go_simp; (try with_reducible rfl)
    (try simp only [Act.put, List.getElem_toArray, List.getElem_cons_zero, List.getElem_cons_succ, List.setIfInBounds_toArray, List.set_cons_zero, List.set_cons_succ])
    refine wpAnyF_take (i := 8) (v := ?_) (by kernel_rfl) (by kernel_rfl) rfl (by kernel_rfl) (by kernel_rfl) (by kernel_rfl) (fun _ _ _ h => h) (Or.inl ⟨by rfl, ?_⟩) (by assumption) ?_
    rotate_left
    · intro w' hSw; (try dsimp only at hSw); obtain ⟨hs1, hs2⟩ := hSw; have q0 := hs1.cell 0; have q1 := hs1.cell 1; have q2 := hs1.cell 2; have q3 := hs1.cell 3; have q4 := hs1.cell 4; have y0 := hs2.cell 0; have y1 := hs2.cell 1; have y2 := hs2.cell 2; dsimp only [Ac11.ca, Pl.cs] at q0 q1 q2 q3 q4 y0 y1 y2; go_simp; (try with_reducible rfl)
    (try simp only [Act.put, List.getElem_toArray, List.getElem_cons_zero, List.getElem_cons_succ, List.setIfInBounds_toArray, List.set_cons_zero, List.set_cons_succ])
    refine wpAnyF_ready (rs := [4]) (by kernel_rfl) (by simp) ?_
    refine AllReadyF.cons rfl (fun KK hKK => ?_) AllReadyF.nil
    go_simp
    ((with_reducible refine (C1.out _ HTD.out.bk).mono ?_); rintro e' V4 ⟨rfl, hA⟩; have HA := hi hA; have HH := hi (HTD.out.half hA); have HS3 := hi (hHeld.keptB HH.out.2 HN1.out HN2.out); clear hA)
    (try go_simp)
    refine hKK.out _ _ HS3.out (fun hHeld => ?_)
    clear hKK KK
    (try simp only [Act.put, List.getElem_toArray, List.getElem_cons_zero, List.getElem_cons_succ, List.setIfInBounds_toArray, List.set_cons_zero, List.set_cons_succ])
    refine wpAnyF_ready (rs := [9]) (by kernel_rfl) (by simp) ?_
    refine AllReadyF.cons rfl (fun KK hKK => ?_) AllReadyF.nil
    go_simp
    ((with_reducible refine (C2.out _ HH.out.1).mono ?_); rintro e' V5 ⟨rfl, hA2⟩; have HFIN := hi (HTD.out.done HA.out hA2 HLEN.out HFN.out); have HS4 := hi (HS3.out.keptB hA2.kept (fun q => HN1.out (.inr ⟨fun e => q.1 (by subst e; exact List.length_eq_zero_iff.1 HLEN.out), q.2⟩)) (fun q => HN2.out (.inr ⟨fun e => q.1 (by subst e; exact List.length_eq_zero_iff.1 HLEN.out), q.2⟩))); clear hA2)
    (try go_simp)
    refine hKK.out _ _ HS4.out (fun hHeld => ?_)
    clear hKK KK
    (try simp only [Act.put, List.getElem_toArray, List.getElem_cons_zero, List.getElem_cons_succ, List.setIfInBounds_toArray, List.set_cons_zero, List.set_cons_succ])
    refine wpAnyF_take (i := 10) (v := ?_) (by kernel_rfl) (by kernel_rfl) rfl (by kernel_rfl) (by kernel_rfl) (by kernel_rfl) (fun _ _ _ h => h) (Or.inl ⟨by rfl, ?_⟩) (by assumption) ?_
    rotate_left
    · intro w' hSw; (try dsimp only at hSw); obtain ⟨hs1, hs2⟩ := hSw; have q0 := hs1.cell 0; have q1 := hs1.cell 1; have q2 := hs1.cell 2; have q3 := hs1.cell 3; have q4 := hs1.cell 4; have y0 := hs2.cell 0; have y1 := hs2.cell 1; have y2 := hs2.cell 2; dsimp only [Ac11.ca, Pl.cs] at q0 q1 q2 q3 q4 y0 y1 y2; go_simp; (try with_reducible rfl)
    (try simp only [Act.put, List.getElem_toArray, List.getElem_cons_zero, List.getElem_cons_succ, List.setIfInBounds_toArray, List.set_cons_zero, List.set_cons_succ])
    refine wpAnyF_take (i := 11) (v := ?_) (by kernel_rfl) (by kernel_rfl) rfl (by kernel_rfl) (by kernel_rfl) (by kernel_rfl) (fun _ _ _ h => h) (Or.inl ⟨by rfl, ?_⟩) (by assumption) ?_
    rotate_left
    · intro w' hSw; (try dsimp only at hSw); obtain ⟨hs1, hs2⟩ := hSw; have q0 := hs1.cell 0; have q1 := hs1.cell 1; have q2 := hs1.cell 2; have q3 := hs1.cell 3; have q4 := hs1.cell 4; have y0 := hs2.cell 0; have y1 := hs2.cell 1; have y2 := hs2.cell 2; dsimp only [Ac11.ca, Pl.cs] at q0 q1 q2 q3 q4 y0 y1 y2; go_simp; (try with_reducible rfl)
    (try simp only [Act.put, List.getElem_toArray, List.getElem_cons_zero, List.getElem_cons_succ, List.setIfInBounds_toArray, List.set_cons_zero, List.set_cons_succ])
    refine wpAnyF_done (by kernel_rfl) ?_ _
    refine NoPanic.normal ?_
    go_wp2
    go_ret
    exact ⟨r1, HLEN.out, rfl, HFIN.out.1, HKD.out.trans HFIN.out.2⟩
  · go_ret
    have hb9 := HB1.out.alloc HB1.out.size (.cells #[.int .i64 r, .int .i64 fp, .int .i64 pc] 37)
    exact ⟨es, rfl, rfl, H.out.later hb9, Kept.of hb9⟩

set_option maxRecDepth 100000 in
set_option maxHeartbeats 8000000 in
theorem does_two {w W : World} {b g cap rb lg xg : Nat} {la xa : Option Addr} {lc xc : Nat} {f : Int} {es : List En} {x : Ac11} (h : TwF w b g cap rb lg xg la xa lc xc f es W) (hx : AcOk x) (hd : x.d = 2) :
    Calls Try.prog 11 #[.pointer (some ⟨b, 0, none⟩), .pointer (some ⟨rb, 0, none⟩), x.w] W (Did w b g cap rb lg xg la xa lc xc f es W) := by
  have H := hi h
  have CD := hi (fun V => distD_any x.off V hx.off)
  have HID := hi hx.id
  have HVL := hi hx.v
  obtain ⟨d, off, id, v, a⟩ := x
  clear h hx
  dsimp only at CD HID HVL
  dsimp only [Ac11.w]
  have HXN := hi (CB.new W 32 #[.int .i64 d, .int .i64 off, .int .i64 id, .int .u64 v, .int .i64 a])
  have HXB := hi (bal W (.cells #[.int .i64 d, .int .i64 off, .int .i64 id, .int .u64 v, .int .i64 a] 32))
  obtain rfl : d = 2 := hd
  go_enter Try.func11, Try.ntmps11
  go_wp2_with (go_at_call 13; ((with_reducible refine (CD.out _).mono ?_); rintro e' V1 ⟨⟨r, fp, pc⟩, c, er, rfl, hok, hb⟩; have HOK := hi hok; have HX1 := hi (HXN.out.below hb); have HB1 := hi (HXB.out.trans (hb.mono HXB.out.size)); have hx0 := HX1.out.cell 0; have hx0' : V1.cell? ⟨W.heap.size, 0, none⟩ = some (.int .i64 2) := hx0; have hxl := HX1.out.lt; clear hok hb hx0))
  have HX2 := hi (HX1.out.below (bal V1 (.cells #[.int .i64 r, .int .i64 fp, .int .i64 pc] 37)))
  have HP2 := hi (CB.new V1 37 #[.int .i64 r, .int .i64 fp, .int .i64 pc])
  have HB2 := hi (HB1.out.alloc HB1.out.size (.cells #[.int .i64 r, .int .i64 fp, .int .i64 pc] 37))
  obtain ⟨N, hN⟩ : ∃ N, V1.heap.size = N := ⟨_, rfl⟩
  have hNW : W.heap.size ≤ N := by rw [← hN]; exact HB1.out.size
  obtain ⟨V2, hV2⟩ : ∃ V2, V1.alloc (.cells #[.int .i64 r, .int .i64 fp, .int .i64 pc] 37) = V2 := ⟨_, rfl⟩
  rw [hV2] at HX2 HP2 HB2 ⊢
  rw [hN] at HP2 ⊢
  clear hV2 hN HX1 HB1 hx0' hxl
  have HT2 := hi (H.out.later HB2.out)
  have HS0 := hi (show XB W N ⟨2, off, id, v, a⟩ ⟨r, fp, pc⟩ V2 from ⟨HX2.out, HP2.out⟩)
  have HTD := hi (HT2.out.later (Below.drewN (m := 1) (Below.refl _ _)))
  have HSD := hi HS0.out.drew
  have HN1 := hi (box_over H.out (Nat.le_refl W.heap.size))
  have HN2 := hi (box_over H.out hNW)
  have C1 := hi (fun V (hV : BkAt V b g cap f es) => do_any (a := a) hV H.out.fit HID.out)
  have C2 := hi (fun V (hV : RfAt V rb lg xg la xa lc xc f es) => rdo_any (id := id) (a := a) hV H.out.fit)
  have HLEN := hi (doR_len f es id a)
  have HFN := hi (doR_fine (f := f) (id := id) (a := a) H.out.fine)
  obtain ⟨r1, hr1⟩ : ∃ r1, (doR f es id a).1 = r1 := ⟨_, rfl⟩
  obtain ⟨r2, hr2⟩ : ∃ r2, (doR f es id a).2 = r2 := ⟨_, rfl⟩
  rw [hr1, hr2] at C1 C2
  rw [hr1] at HLEN HFN
  clear hr1 hr2
  refine wp_region_noPanic ?_
  refine wp_region_last_drew (S := (XB W N ⟨2, off, id, v, a⟩ ⟨r, fp, pc⟩)) [] (by kernel_rfl) HSD.out (fun hHeld => ?_)
  obtain ⟨V3, hV3⟩ : ∃ V3, V2.drewN 1 = V3 := ⟨_, rfl⟩
  have hV3' : V2.drew = V3 := hV3
  have HKD := hi (show Kept (bs2 g lg xg es) W V3 from by rw [← hV3]; exact Kept.drewN (Kept.of HB2.out) 1)
  rw [hV3] at HTD
  rw [hV3'] at hHeld ⊢
  clear hV3 hV3'
  (try simp only [Array.replicate_succ, Array.replicate_zero, List.push_toArray, List.nil_append, List.cons_append])
  refine wpAnyF_take (i := 0) (v := ?_) (by kernel_rfl) (by kernel_rfl) rfl (by kernel_rfl) (by kernel_rfl) (by kernel_rfl) (fun _ _ _ h => h) (Or.inl ⟨by rfl, ?_⟩) (by assumption) ?_
  rotate_left
  · intro w' hSw; (try dsimp only at hSw); obtain ⟨hs1, hs2⟩ := hSw; have q0 := hs1.cell 0; have q1 := hs1.cell 1; have q2 := hs1.cell 2; have q3 := hs1.cell 3; have q4 := hs1.cell 4; have y0 := hs2.cell 0; have y1 := hs2.cell 1; have y2 := hs2.cell 2; dsimp only [Ac11.ca, Pl.cs] at q0 q1 q2 q3 q4 y0 y1 y2; go_simp; (try with_reducible rfl)
  (try simp only [Act.put, List.getElem_toArray, List.getElem_cons_zero, List.setIfInBounds_toArray, List.set_cons_zero, List.set_cons_succ])
  refine wpAnyF_take (i := 1) (v := ?_) (by kernel_rfl) (by kernel_rfl) rfl (by kernel_rfl) (by kernel_rfl) (by kernel_rfl) (fun _ _ _ h => h) (Or.inl ⟨by rfl, ?_⟩) (by assumption) ?_
  rotate_left
  · intro w' hSw; (try dsimp only at hSw); obtain ⟨hs1, hs2⟩ := hSw; have q0 := hs1.cell 0; have q1 := hs1.cell 1; have q2 := hs1.cell 2; have q3 := hs1.cell 3; have q4 := hs1.cell 4; have y0 := hs2.cell 0; have y1 := hs2.cell 1; have y2 := hs2.cell 2; dsimp only [Ac11.ca, Pl.cs] at q0 q1 q2 q3 q4 y0 y1 y2; go_simp; (try with_reducible rfl)
  (try simp only [Act.put, List.getElem_toArray, List.getElem_cons_zero, List.getElem_cons_succ, List.setIfInBounds_toArray, List.set_cons_zero, List.set_cons_succ])
  refine wpAnyF_take (i := 2) (v := ?_) (by kernel_rfl) (by kernel_rfl) rfl (by kernel_rfl) (by kernel_rfl) (by kernel_rfl) (fun _ _ _ h => h) (Or.inl ⟨by rfl, ?_⟩) (by assumption) ?_
  rotate_left
  · intro w' hSw; (try dsimp only at hSw); obtain ⟨hs1, hs2⟩ := hSw; have q0 := hs1.cell 0; have q1 := hs1.cell 1; have q2 := hs1.cell 2; have q3 := hs1.cell 3; have q4 := hs1.cell 4; have y0 := hs2.cell 0; have y1 := hs2.cell 1; have y2 := hs2.cell 2; dsimp only [Ac11.ca, Pl.cs] at q0 q1 q2 q3 q4 y0 y1 y2; go_simp; (try with_reducible rfl)
  (try simp only [Act.put, List.getElem_toArray, List.getElem_cons_zero, List.getElem_cons_succ, List.setIfInBounds_toArray, List.set_cons_zero, List.set_cons_succ])
  refine wpAnyF_take (i := 3) (v := ?_) (by kernel_rfl) (by kernel_rfl) rfl (by kernel_rfl) (by kernel_rfl) (by kernel_rfl) (fun _ _ _ h => h) (Or.inl ⟨by rfl, ?_⟩) (by assumption) ?_
  rotate_left
  · intro w' hSw; (try dsimp only at hSw); obtain ⟨hs1, hs2⟩ := hSw; have q0 := hs1.cell 0; have q1 := hs1.cell 1; have q2 := hs1.cell 2; have q3 := hs1.cell 3; have q4 := hs1.cell 4; have y0 := hs2.cell 0; have y1 := hs2.cell 1; have y2 := hs2.cell 2; dsimp only [Ac11.ca, Pl.cs] at q0 q1 q2 q3 q4 y0 y1 y2; go_simp; (try with_reducible rfl)
  (try simp only [Act.put, List.getElem_toArray, List.getElem_cons_zero, List.getElem_cons_succ, List.setIfInBounds_toArray, List.set_cons_zero, List.set_cons_succ])
  refine wpAnyF_take (i := 4) (v := ?_) (by kernel_rfl) (by kernel_rfl) rfl (by kernel_rfl) (by kernel_rfl) (by kernel_rfl) (fun _ _ _ h => h) (Or.inl ⟨by rfl, ?_⟩) (by assumption) ?_
  rotate_left
  · intro w' hSw; (try dsimp only at hSw); obtain ⟨hs1, hs2⟩ := hSw; have q0 := hs1.cell 0; have q1 := hs1.cell 1; have q2 := hs1.cell 2; have q3 := hs1.cell 3; have q4 := hs1.cell 4; have y0 := hs2.cell 0; have y1 := hs2.cell 1; have y2 := hs2.cell 2; dsimp only [Ac11.ca, Pl.cs] at q0 q1 q2 q3 q4 y0 y1 y2; go_simp; (try with_reducible rfl)
  (try simp only [Act.put, List.getElem_toArray, List.getElem_cons_zero, List.getElem_cons_succ, List.setIfInBounds_toArray, List.set_cons_zero, List.set_cons_succ])
  refine wpAnyF_take (i := 6) (v := ?_) (by kernel_rfl) (by kernel_rfl) rfl (by kernel_rfl) (by kernel_rfl) (by kernel_rfl) (fun _ _ _ h => h) (Or.inl ⟨by rfl, ?_⟩) (by assumption) ?_
  rotate_left
  · intro w' hSw; (try dsimp only at hSw); obtain ⟨hs1, hs2⟩ := hSw; have q0 := hs1.cell 0; have q1 := hs1.cell 1; have q2 := hs1.cell 2; have q3 := hs1.cell 3; have q4 := hs1.cell 4; have y0 := hs2.cell 0; have y1 := hs2.cell 1; have y2 := hs2.cell 2; dsimp only [Ac11.ca, Pl.cs] at q0 q1 q2 q3 q4 y0 y1 y2; go_simp; (try with_reducible rfl)
  (try simp only [Act.put, List.getElem_toArray, List.getElem_cons_zero, List.getElem_cons_succ, List.setIfInBounds_toArray, List.set_cons_zero, List.set_cons_succ])
  refine wpAnyF_take (i := 7) (v := ?_) (by kernel_rfl) (by kernel_rfl) rfl (by kernel_rfl) (by kernel_rfl) (by kernel_rfl) (fun _ _ _ h => h) (Or.inl ⟨by rfl, ?_⟩) (by assumption) ?_
  rotate_left
  · intro w' hSw; (try dsimp only at hSw); obtain ⟨hs1, hs2⟩ := hSw; have q0 := hs1.cell 0; have q1 := hs1.cell 1; have q2 := hs1.cell 2; have q3 := hs1.cell 3; have q4 := hs1.cell 4; have y0 := hs2.cell 0; have y1 := hs2.cell 1; have y2 := hs2.cell 2; dsimp only [Ac11.ca, Pl.cs] at q0 q1 q2 q3 q4 y0 y1 y2; go_simp; (try with_reducible rfl)
  (try simp only [Act.put, List.getElem_toArray, List.getElem_cons_zero, List.getElem_cons_succ, List.setIfInBounds_toArray, List.set_cons_zero, List.set_cons_succ])
  refine wpAnyF_take (i := 8) (v := ?_) (by kernel_rfl) (by kernel_rfl) rfl (by kernel_rfl) (by kernel_rfl) (by kernel_rfl) (fun _ _ _ h => h) (Or.inl ⟨by rfl, ?_⟩) (by assumption) ?_
  rotate_left
  · intro w' hSw; (try dsimp only at hSw); obtain ⟨hs1, hs2⟩ := hSw; have q0 := hs1.cell 0; have q1 := hs1.cell 1; have q2 := hs1.cell 2; have q3 := hs1.cell 3; have q4 := hs1.cell 4; have y0 := hs2.cell 0; have y1 := hs2.cell 1; have y2 := hs2.cell 2; dsimp only [Ac11.ca, Pl.cs] at q0 q1 q2 q3 q4 y0 y1 y2; go_simp; (try with_reducible rfl)
  (try simp only [Act.put, List.getElem_toArray, List.getElem_cons_zero, List.getElem_cons_succ, List.setIfInBounds_toArray, List.set_cons_zero, List.set_cons_succ])
  refine wpAnyF_take (i := 9) (v := ?_) (by kernel_rfl) (by kernel_rfl) rfl (by kernel_rfl) (by kernel_rfl) (by kernel_rfl) (fun _ _ _ h => h) (Or.inl ⟨by rfl, ?_⟩) (by assumption) ?_
  rotate_left
  · intro w' hSw; (try dsimp only at hSw); obtain ⟨hs1, hs2⟩ := hSw; have q0 := hs1.cell 0; have q1 := hs1.cell 1; have q2 := hs1.cell 2; have q3 := hs1.cell 3; have q4 := hs1.cell 4; have y0 := hs2.cell 0; have y1 := hs2.cell 1; have y2 := hs2.cell 2; dsimp only [Ac11.ca, Pl.cs] at q0 q1 q2 q3 q4 y0 y1 y2; go_simp; (try with_reducible rfl)
  (try simp only [Act.put, List.getElem_toArray, List.getElem_cons_zero, List.getElem_cons_succ, List.setIfInBounds_toArray, List.set_cons_zero, List.set_cons_succ])
  refine wpAnyF_take (i := 10) (v := ?_) (by kernel_rfl) (by kernel_rfl) rfl (by kernel_rfl) (by kernel_rfl) (by kernel_rfl) (fun _ _ _ h => h) (Or.inl ⟨by rfl, ?_⟩) (by assumption) ?_
  rotate_left
  · intro w' hSw; (try dsimp only at hSw); obtain ⟨hs1, hs2⟩ := hSw; have q0 := hs1.cell 0; have q1 := hs1.cell 1; have q2 := hs1.cell 2; have q3 := hs1.cell 3; have q4 := hs1.cell 4; have y0 := hs2.cell 0; have y1 := hs2.cell 1; have y2 := hs2.cell 2; dsimp only [Ac11.ca, Pl.cs] at q0 q1 q2 q3 q4 y0 y1 y2; go_simp; (try with_reducible rfl)
  (try simp only [Act.put, List.getElem_toArray, List.getElem_cons_zero, List.getElem_cons_succ, List.setIfInBounds_toArray, List.set_cons_zero, List.set_cons_succ])
  refine wpAnyF_ready (rs := [5]) (by kernel_rfl) (by simp) ?_
  refine AllReadyF.cons rfl (fun KK hKK => ?_) AllReadyF.nil
  go_simp
  ((with_reducible refine (C1.out _ HTD.out.bk).mono ?_); rintro e' V4 ⟨rfl, hA⟩; have HA := hi hA; have HH := hi (HTD.out.half hA); have HS3 := hi (hHeld.keptB HH.out.2 HN1.out HN2.out); clear hA)
  (try go_simp)
  refine hKK.out _ _ HS3.out (fun hHeld => ?_)
  clear hKK KK
  (try simp only [Act.put, List.getElem_toArray, List.getElem_cons_zero, List.getElem_cons_succ, List.setIfInBounds_toArray, List.set_cons_zero, List.set_cons_succ])
  refine wpAnyF_ready (rs := [11]) (by kernel_rfl) (by simp) ?_
  refine AllReadyF.cons rfl (fun KK hKK => ?_) AllReadyF.nil
  go_simp
  ((with_reducible refine (C2.out _ HH.out.1).mono ?_); rintro e' V5 ⟨rfl, hA2⟩; have HFIN := hi (HTD.out.done HA.out hA2 HLEN.out HFN.out); have HS4 := hi (HS3.out.keptB hA2.kept (fun q => HN1.out (.inr ⟨fun e => q.1 (by subst e; exact List.length_eq_zero_iff.1 HLEN.out), q.2⟩)) (fun q => HN2.out (.inr ⟨fun e => q.1 (by subst e; exact List.length_eq_zero_iff.1 HLEN.out), q.2⟩))); clear hA2)
  (try go_simp)
  refine hKK.out _ _ HS4.out (fun hHeld => ?_)
  clear hKK KK
  (try simp only [Act.put, List.getElem_toArray, List.getElem_cons_zero, List.getElem_cons_succ, List.setIfInBounds_toArray, List.set_cons_zero, List.set_cons_succ])
  refine wpAnyF_take (i := 12) (v := ?_) (by kernel_rfl) (by kernel_rfl) rfl (by kernel_rfl) (by kernel_rfl) (by kernel_rfl) (fun _ _ _ h => h) (Or.inl ⟨by rfl, ?_⟩) (by assumption) ?_
  rotate_left
  · intro w' hSw; (try dsimp only at hSw); obtain ⟨hs1, hs2⟩ := hSw; have q0 := hs1.cell 0; have q1 := hs1.cell 1; have q2 := hs1.cell 2; have q3 := hs1.cell 3; have q4 := hs1.cell 4; have y0 := hs2.cell 0; have y1 := hs2.cell 1; have y2 := hs2.cell 2; dsimp only [Ac11.ca, Pl.cs] at q0 q1 q2 q3 q4 y0 y1 y2; go_simp; (try with_reducible rfl)
  (try simp only [Act.put, List.getElem_toArray, List.getElem_cons_zero, List.getElem_cons_succ, List.setIfInBounds_toArray, List.set_cons_zero, List.set_cons_succ])
  refine wpAnyF_take (i := 13) (v := ?_) (by kernel_rfl) (by kernel_rfl) rfl (by kernel_rfl) (by kernel_rfl) (by kernel_rfl) (fun _ _ _ h => h) (Or.inl ⟨by rfl, ?_⟩) (by assumption) ?_
  rotate_left
  · intro w' hSw; (try dsimp only at hSw); obtain ⟨hs1, hs2⟩ := hSw; have q0 := hs1.cell 0; have q1 := hs1.cell 1; have q2 := hs1.cell 2; have q3 := hs1.cell 3; have q4 := hs1.cell 4; have y0 := hs2.cell 0; have y1 := hs2.cell 1; have y2 := hs2.cell 2; dsimp only [Ac11.ca, Pl.cs] at q0 q1 q2 q3 q4 y0 y1 y2; go_simp; (try with_reducible rfl)
  (try simp only [Act.put, List.getElem_toArray, List.getElem_cons_zero, List.getElem_cons_succ, List.setIfInBounds_toArray, List.set_cons_zero, List.set_cons_succ])
  refine wpAnyF_done (by kernel_rfl) ?_ _
  refine NoPanic.normal ?_
  go_wp2
  go_ret
  exact ⟨r1, HLEN.out, rfl, HFIN.out.1, HKD.out.trans HFIN.out.2⟩

set_option maxRecDepth 100000 in
set_option maxHeartbeats 8000000 in
theorem does_other {w W : World} {b g cap rb lg xg : Nat} {la xa : Option Addr} {lc xc : Nat} {f : Int} {es : List En} {x : Ac11} (h : TwF w b g cap rb lg xg la xa lc xc f es W) (hx : AcOk x) (h1 : x.d ≠ 1) (h2 : x.d ≠ 2) :
    Calls Try.prog 11 #[.pointer (some ⟨b, 0, none⟩), .pointer (some ⟨rb, 0, none⟩), x.w] W (Did w b g cap rb lg xg la xa lc xc f es W) := by
  have H := hi h
  have CD := hi (fun V => distD_any x.off V hx.off)
  have HID := hi hx.id
  have HVL := hi hx.v
  obtain ⟨d, off, id, v, a⟩ := x
  clear h hx
  dsimp only at CD HID HVL
  dsimp only [Ac11.w]
  have HXN := hi (CB.new W 32 #[.int .i64 d, .int .i64 off, .int .i64 id, .int .u64 v, .int .i64 a])
  have HXB := hi (bal W (.cells #[.int .i64 d, .int .i64 off, .int .i64 id, .int .u64 v, .int .i64 a] 32))
  have q1 : (d == 1) = false := by simpa using h1
  have q2 : (d == 2) = false := by simpa using h2
  clear h1 h2
  go_enter Try.func11, Try.ntmps11
  go_wp2_with (go_at_call 13; ((with_reducible refine (CD.out _).mono ?_); rintro e' V1 ⟨⟨r, fp, pc⟩, c, er, rfl, hok, hb⟩; have HOK := hi hok; have HX1 := hi (HXN.out.below hb); have HB1 := hi (HXB.out.trans (hb.mono HXB.out.size)); have hx0 := HX1.out.cell 0; have hx0' : V1.cell? ⟨W.heap.size, 0, none⟩ = some (.int .i64 d) := hx0; have hxl := HX1.out.lt; clear hok hb hx0))
  all_goals
    go_ret
    have hb9 := HB1.out.alloc HB1.out.size (.cells #[.int .i64 r, .int .i64 fp, .int .i64 pc] 37)
    exact ⟨es, rfl, rfl, H.out.later hb9, Kept.of hb9⟩

theorem does_any {w W : World} {b g cap rb lg xg : Nat} {la xa : Option Addr} {lc xc : Nat} {f : Int} {es : List En} {x : Ac11} (h : TwF w b g cap rb lg xg la xa lc xc f es W) (hx : AcOk x) :
    Calls Try.prog 11 #[.pointer (some ⟨b, 0, none⟩), .pointer (some ⟨rb, 0, none⟩), x.w] W (Did w b g cap rb lg xg la xa lc xc f es W) := by
  by_cases h1 : x.d = 1
  · exact does_one h hx h1
  · by_cases h2 : x.d = 2
    · exact does_two h hx h2
    · exact does_other h hx h1 h2

end Go.Proofs.Ytjgamfonpagkbaa
