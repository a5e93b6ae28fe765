/-
  TablesKeeps: an act that is refused leaves the memory as it is.
-/
import Derived.Test.YtjcjblmaceooaaaTbS
namespace Go.Proofs.Ytjcjblmaceooaaa
open Go.ChangeShapes Go.WideShapes Go.ChangeAt Go.RowKit
set_option linter.unusedVariables false
set_option linter.unusedSimpArgs false

theorem bytes_later {w2 w3 W : World} {v : Value} {l : List Nat} (h : (v = .slice none 0 0 ∧ l = []) ∨ ∃ h, OwnB w3 w2.heap.size h v l) {g : Nat} (hg : g < w2.heap.size) (k : Kept (· = g) w3 W) : BytesIn W v l := by
  rcases h with ⟨rfl, rfl⟩ | ⟨h, ho⟩
  · exact ⟨none, 0, rfl, Nat.le_refl _, (fun x hx => by simp at hx), fun h => absurd rfl h⟩
  · refine ho.bytesIn.kept k ?_
    obtain ⟨cap, rfl, hb, _⟩ := ho
    intro b off cp e _ (e2 : b = g)
    simp only [Value.slice.injEq, Option.some.injEq, Addr.mk.injEq] at e
    omega
theorem bytesN_out (p g cap N : Nat) (bs : List Nat) (hN : bs.length = N) (hN1 : N ≤ 4096) (w : World) (hM : MemAt 89 w p g cap bs) :
    Calls Try.prog 20 #[.pointer (some ⟨p, 0, none⟩), .agg #[.int .i64 0, .int .i64 N]] w fun e w' => ∃ v, e = .returned (.tuple #[v, .int .i64 (bytesE bs.length 0 N)]) ∧ ((v = .slice none 0 0 ∧ bytesL bs 0 N = []) ∨ ∃ h, OwnB w' w.heap.size h v (bytesL bs 0 N)) ∧ Below w.heap.size w w' :=
  bytes_any p g cap bs 0 N w hM (by omega) (by omega) (by omega) (by omega)
/-- What the walk keeps: the memory, the table's box, the act's, the window's. -/
structure KpI (w : World) (p g N M : Nat) (t : Tb) (cs : Array Value) (bs : List Nat) (W : World) : Prop where
  m : Since w p g N bs W
  t : CB W w.heap.size 32 (Tb.cs t)
  a : CB W (w.heap.size + 1) 62 cs
  x : CB W M 30 #[.int .i64 0, .int .i64 N]
  gm : g < M
  g2 : w.heap.size + 1 < g
theorem KpI.later {w : World} {p g N M : Nat} {t : Tb} {cs : Array Value} {bs : List Nat} {W W' : World} (h : KpI w p g N M t cs bs W) (k : Below W.heap.size W W') : KpI w p g N M t cs bs W' := ⟨h.m.later k, h.t.below k, h.a.below k, h.x.below k, h.gm, h.g2⟩
theorem KpI.wrote {w : World} {p g N M : Nat} {t : Tb} {cs : Array Value} {bs bs' : List Nat} {W W' : World} (h : KpI w p g N M t cs bs W) (k : Kept (· = g) W W') (m : MemAt 89 W' p g N bs') : KpI w p g N M t cs bs' W' :=
  ⟨h.m.wrote k m, h.t.keptB k (fun e => by have := h.g2; omega), h.a.keptB k (fun e => by have := h.g2; omega), h.x.keptB k (fun e => by have := h.gm; omega), h.gm, h.g2⟩


set_option maxRecDepth 100000 in
set_option maxHeartbeats 16000000 in
theorem keeps_law (t : Tb) (hF : t.Fair) (size : Int) (a : Option Addr) (b f k : Nat) (xs : List Ax) (dd id ac ev : Int) (d : Dv) (r : Rt) (wa ws : Int) (is : Bool) (vv : Nat) (hac : i64B ac) (hd : d.Fair) (hwa : i64B wa) (hws : i64B ws) (w : World) (hx : RowAt w a b f 14 (xs.map acC)) (hx1 : ∀ x ∈ xs, x.Fair) :
    Calls Try.prog 6 #[t.v, .int .i64 size, .slice a xs.length k, .agg #[.int .i64 dd, .int .i64 id, .int .i64 ac, .int .i64 ev, .bool d.ok, .int .i64 d.bits, .int .i64 d.at_, .int .i64 r.num, .int .i64 r.coll, .bool r.ok, .int .i64 wa, .int .i64 ws, .bool is, .int .u64 (vv : Int)]] w fun e w' => e = .returned (.bool true) ∧ Below w.heap.size w w' := by
  have HA := Hi.mk (fun W => awake_any W)
  have HPL := Hi.mk (fun W hX => played_any t hF size a b f k xs W hX hx1)
  have hN1 := newN_le size
  obtain ⟨N, hN⟩ : ∃ N, newN size = N := ⟨_, rfl⟩
  rw [hN] at HPL hN1
  have HSZ := Hi.mk (fun (p g : Nat) (bs : List Nat) (hbl : bs.length = N) (W : World) (hM : MemAt 89 W p g N bs) => by have := size_any p g N bs W hM; rwa [hbl] at this)
  have HBY := Hi.mk (fun (p g : Nat) (bs : List Nat) (hbl : bs.length = N) (W : World) (hM : MemAt 89 W p g N bs) => bytesN_out p g N N bs hbl hN1 W hM)
  have HX := Hi.mk hx
  have HB0 := Hi.mk (bal_two w (.cells (Tb.cs t) 32) (.cells #[.int .i64 dd, .int .i64 id, .int .i64 ac, .int .i64 ev, .bool d.ok, .int .i64 d.bits, .int .i64 d.at_, .int .i64 r.num, .int .i64 r.coll, .bool r.ok, .int .i64 wa, .int .i64 ws, .bool is, .int .u64 (vv : Int)] 62))
  have HT := Hi.mk (And.intro (show CB ((w.alloc (.cells (Tb.cs t) 32)).alloc (.cells #[.int .i64 dd, .int .i64 id, .int .i64 ac, .int .i64 ev, .bool d.ok, .int .i64 d.bits, .int .i64 d.at_, .int .i64 r.num, .int .i64 r.coll, .bool r.ok, .int .i64 wa, .int .i64 ws, .bool is, .int .u64 (vv : Int)] 62)) w.heap.size 32 (Tb.cs t) from (CB.new w 32 (Tb.cs t)).alloc _) (show CB ((w.alloc (.cells (Tb.cs t) 32)).alloc (.cells #[.int .i64 dd, .int .i64 id, .int .i64 ac, .int .i64 ev, .bool d.ok, .int .i64 d.bits, .int .i64 d.at_, .int .i64 r.num, .int .i64 r.coll, .bool r.ok, .int .i64 wa, .int .i64 ws, .bool is, .int .u64 (vv : Int)] 62)) (w.heap.size + 1) 62 #[.int .i64 dd, .int .i64 id, .int .i64 ac, .int .i64 ev, .bool d.ok, .int .i64 d.bits, .int .i64 d.at_, .int .i64 r.num, .int .i64 r.coll, .bool r.ok, .int .i64 wa, .int .i64 ws, .bool is, .int .u64 (vv : Int)] from cb_second))
  have HF := Hi.mk hF
  clear hx hx1 hN hF
  by_cases e1 : dd = 1
  · subst e1
    go_enter Try.func6, Try.ntmps6
    go_wp2_with (first
      | (go_at_call 7; ((with_reducible refine (HA.out _).mono ?_); rintro e w1 ⟨rfl, hb1⟩; have HB1 := Hi.mk (HB0.out.more hb1); have HT1 := Hi.mk (And.intro (HT.out.1.below hb1) (HT.out.2.below hb1)); clear hb1; obtain ⟨q0, q1, q2⟩ := CB.three HT1.out.1))
      | (go_at_call 19; ((with_reducible refine (HPL.out _ (HX.out.below HB1.out)).mono ?_); rintro e w2 ⟨p, g, bs, rfl, hbl, hs2⟩; have H2 := Hi.mk (And.intro (hs2.base HB1.out) (And.intro (HT1.out.1.below hs2.below) (HT1.out.2.below hs2.below))); have HBL := Hi.mk hbl; have HG := Hi.mk (Nat.lt_of_lt_of_le HT1.out.2.lt hs2.g); clear hbl hs2 q0 q1 q2; have qf := (CB.new w2 30 #[.int .i64 0, .int .i64 0]).frozen))
      | (go_at_call 14; ((with_reducible refine (HSZ.out p g bs HBL.out _ H2.out.1.mem).mono ?_); rintro e w3 ⟨rfl, rfl⟩; have H3 := Hi.mk (show KpI w p g N w2.heap.size t #[.int .i64 1, .int .i64 id, .int .i64 ac, .int .i64 ev, .bool d.ok, .int .i64 d.bits, .int .i64 d.at_, .int .i64 r.num, .int .i64 r.coll, .bool r.ok, .int .i64 wa, .int .i64 ws, .bool is, .int .u64 (vv : Int)] bs (w2.alloc (.cells #[.int .i64 0, .int .i64 N] 30)) from ⟨H2.out.1.later (bal _ _), H2.out.2.1.alloc _, H2.out.2.2.alloc _, CB.new _ _ _, H2.out.1.mem.bytes.lt, HG.out⟩); obtain ⟨x0, x1⟩ := CB.two H3.out.x))
      | (go_at_call 20; ((with_reducible refine (HBY.out p g bs HBL.out _ H3.out.m.mem).mono ?_); rintro e w4 ⟨v1, rfl, hv1, hb4⟩; have H4 := Hi.mk (H3.out.later hb4); have HV1 := Hi.mk hv1; have HZ := Hi.mk H3.out.m.mem.bytes.lt; clear hb4 hv1 x0 x1; obtain ⟨q0, q1, q2⟩ := CB.three H4.out.t; obtain ⟨a0, a1, a2, a3, a4, a5, a6, a7, a8, a9, a10, a11, a12, a13⟩ := (show w4.cell? ⟨w.heap.size + 1, 0, none⟩ = some (.int .i64 1) ∧ w4.cell? ⟨w.heap.size + 1, 1, none⟩ = some (.int .i64 id) ∧ w4.cell? ⟨w.heap.size + 1, 2, none⟩ = some (.int .i64 ac) ∧ w4.cell? ⟨w.heap.size + 1, 3, none⟩ = some (.int .i64 ev) ∧ w4.cell? ⟨w.heap.size + 1, 4, none⟩ = some (.bool d.ok) ∧ w4.cell? ⟨w.heap.size + 1, 5, none⟩ = some (.int .i64 d.bits) ∧ w4.cell? ⟨w.heap.size + 1, 6, none⟩ = some (.int .i64 d.at_) ∧ w4.cell? ⟨w.heap.size + 1, 7, none⟩ = some (.int .i64 r.num) ∧ w4.cell? ⟨w.heap.size + 1, 8, none⟩ = some (.int .i64 r.coll) ∧ w4.cell? ⟨w.heap.size + 1, 9, none⟩ = some (.bool r.ok) ∧ w4.cell? ⟨w.heap.size + 1, 10, none⟩ = some (.int .i64 wa) ∧ w4.cell? ⟨w.heap.size + 1, 11, none⟩ = some (.int .i64 ws) ∧ w4.cell? ⟨w.heap.size + 1, 12, none⟩ = some (.bool is) ∧ w4.cell? ⟨w.heap.size + 1, 13, none⟩ = some (.int .u64 (vv : Int)) from ⟨H4.out.a.cell 0, H4.out.a.cell 1, H4.out.a.cell 2, H4.out.a.cell 3, H4.out.a.cell 4, H4.out.a.cell 5, H4.out.a.cell 6, H4.out.a.cell 7, H4.out.a.cell 8, H4.out.a.cell 9, H4.out.a.cell 10, H4.out.a.cell 11, H4.out.a.cell 12, H4.out.a.cell 13⟩))))
    have HP := Hi.mk (fun W hM => lead_any p g N bs t HF.out id ac hac W hM)
    have HBL2 := Hi.mk (show (leadB bs t id ac).length = N from Eq.trans (@leadB_len bs t id ac) HBL.out)
    by_cases hE : leadE bs t id ac = 0
    · rw [hE] at HP
      obtain ⟨bs', hb'⟩ : ∃ l, leadB bs t id ac = l := ⟨_, rfl⟩
      rw [hb'] at HP HBL2
      clear hb' hE
      go_wp2_with (first
        | (go_at_call 9; ((with_reducible refine (HP.out _ H4.out.m.mem).mono ?_); rintro e w5 ⟨rfl, hm5, hk5⟩; have H5 := Hi.mk (H4.out.wrote hk5 hm5); have HK5 := Hi.mk hk5; clear hm5 hk5 q0 q1 q2 a0 a1 a2 a3 a4 a5 a6 a7 a8 a9 a10 a11 a12 a13; obtain ⟨x0, x1⟩ := CB.two H5.out.x))
        | (go_at_call 20; ((with_reducible refine (HBY.out p g bs' HBL2.out _ H5.out.m.mem).mono ?_); rintro e w6 ⟨v2, rfl, hv2, hb6⟩; have H6 := Hi.mk (H5.out.later hb6); have hcv1 := conv_bytes (bytes_later HV1.out (g := g) HZ.out (HK5.out.trans (Kept.of hb6))); have hcv2 := conv_bytes (bytes_later hv2 (g := g) H5.out.m.mem.bytes.lt (Kept.refl _ _)); clear hb6 hv2)))
      go_ret
      exact ⟨rfl, H6.out.m.below⟩
    · have hb' : leadB bs t id ac = bs := by rw [leadB, if_neg hE]
      rw [hb'] at HP HBL2
      have hne : (leadE bs t id ac == 0) = false := by simpa using hE
      obtain ⟨E, hEE⟩ : ∃ E, leadE bs t id ac = E := ⟨_, rfl⟩
      rw [hEE] at HP hne
      clear hb' hE hEE
      go_wp2_with (first
        | (go_at_call 9; ((with_reducible refine (HP.out _ H4.out.m.mem).mono ?_); rintro e w5 ⟨rfl, hm5, hk5⟩; have H5 := Hi.mk (H4.out.wrote hk5 hm5); have HK5 := Hi.mk hk5; clear hm5 hk5 q0 q1 q2 a0 a1 a2 a3 a4 a5 a6 a7 a8 a9 a10 a11 a12 a13; obtain ⟨x0, x1⟩ := CB.two H5.out.x))
        | (go_at_call 20; ((with_reducible refine (HBY.out p g bs HBL2.out _ H5.out.m.mem).mono ?_); rintro e w6 ⟨v2, rfl, hv2, hb6⟩; have H6 := Hi.mk (H5.out.later hb6); have hcv1 := conv_bytes (bytes_later HV1.out (g := g) HZ.out (HK5.out.trans (Kept.of hb6))); have hcv2 := conv_bytes (bytes_later hv2 (g := g) H5.out.m.mem.bytes.lt (Kept.refl _ _)); clear hb6 hv2)))
      go_ret
      exact ⟨by simp, H6.out.m.below⟩
  · skip
    by_cases e2 : dd = 2
    · subst e2
      go_enter Try.func6, Try.ntmps6
      go_wp2_with (first
        | (go_at_call 7; ((with_reducible refine (HA.out _).mono ?_); rintro e w1 ⟨rfl, hb1⟩; have HB1 := Hi.mk (HB0.out.more hb1); have HT1 := Hi.mk (And.intro (HT.out.1.below hb1) (HT.out.2.below hb1)); clear hb1; obtain ⟨q0, q1, q2⟩ := CB.three HT1.out.1))
        | (go_at_call 19; ((with_reducible refine (HPL.out _ (HX.out.below HB1.out)).mono ?_); rintro e w2 ⟨p, g, bs, rfl, hbl, hs2⟩; have H2 := Hi.mk (And.intro (hs2.base HB1.out) (And.intro (HT1.out.1.below hs2.below) (HT1.out.2.below hs2.below))); have HBL := Hi.mk hbl; have HG := Hi.mk (Nat.lt_of_lt_of_le HT1.out.2.lt hs2.g); clear hbl hs2 q0 q1 q2; have qf := (CB.new w2 30 #[.int .i64 0, .int .i64 0]).frozen))
        | (go_at_call 14; ((with_reducible refine (HSZ.out p g bs HBL.out _ H2.out.1.mem).mono ?_); rintro e w3 ⟨rfl, rfl⟩; have H3 := Hi.mk (show KpI w p g N w2.heap.size t #[.int .i64 2, .int .i64 id, .int .i64 ac, .int .i64 ev, .bool d.ok, .int .i64 d.bits, .int .i64 d.at_, .int .i64 r.num, .int .i64 r.coll, .bool r.ok, .int .i64 wa, .int .i64 ws, .bool is, .int .u64 (vv : Int)] bs (w2.alloc (.cells #[.int .i64 0, .int .i64 N] 30)) from ⟨H2.out.1.later (bal _ _), H2.out.2.1.alloc _, H2.out.2.2.alloc _, CB.new _ _ _, H2.out.1.mem.bytes.lt, HG.out⟩); obtain ⟨x0, x1⟩ := CB.two H3.out.x))
        | (go_at_call 20; ((with_reducible refine (HBY.out p g bs HBL.out _ H3.out.m.mem).mono ?_); rintro e w4 ⟨v1, rfl, hv1, hb4⟩; have H4 := Hi.mk (H3.out.later hb4); have HV1 := Hi.mk hv1; have HZ := Hi.mk H3.out.m.mem.bytes.lt; clear hb4 hv1 x0 x1; obtain ⟨q0, q1, q2⟩ := CB.three H4.out.t; obtain ⟨a0, a1, a2, a3, a4, a5, a6, a7, a8, a9, a10, a11, a12, a13⟩ := (show w4.cell? ⟨w.heap.size + 1, 0, none⟩ = some (.int .i64 2) ∧ w4.cell? ⟨w.heap.size + 1, 1, none⟩ = some (.int .i64 id) ∧ w4.cell? ⟨w.heap.size + 1, 2, none⟩ = some (.int .i64 ac) ∧ w4.cell? ⟨w.heap.size + 1, 3, none⟩ = some (.int .i64 ev) ∧ w4.cell? ⟨w.heap.size + 1, 4, none⟩ = some (.bool d.ok) ∧ w4.cell? ⟨w.heap.size + 1, 5, none⟩ = some (.int .i64 d.bits) ∧ w4.cell? ⟨w.heap.size + 1, 6, none⟩ = some (.int .i64 d.at_) ∧ w4.cell? ⟨w.heap.size + 1, 7, none⟩ = some (.int .i64 r.num) ∧ w4.cell? ⟨w.heap.size + 1, 8, none⟩ = some (.int .i64 r.coll) ∧ w4.cell? ⟨w.heap.size + 1, 9, none⟩ = some (.bool r.ok) ∧ w4.cell? ⟨w.heap.size + 1, 10, none⟩ = some (.int .i64 wa) ∧ w4.cell? ⟨w.heap.size + 1, 11, none⟩ = some (.int .i64 ws) ∧ w4.cell? ⟨w.heap.size + 1, 12, none⟩ = some (.bool is) ∧ w4.cell? ⟨w.heap.size + 1, 13, none⟩ = some (.int .u64 (vv : Int)) from ⟨H4.out.a.cell 0, H4.out.a.cell 1, H4.out.a.cell 2, H4.out.a.cell 3, H4.out.a.cell 4, H4.out.a.cell 5, H4.out.a.cell 6, H4.out.a.cell 7, H4.out.a.cell 8, H4.out.a.cell 9, H4.out.a.cell 10, H4.out.a.cell 11, H4.out.a.cell 12, H4.out.a.cell 13⟩))))
      have HP := Hi.mk (fun W hM => put_any p g N bs t HF.out id d hd W hM)
      have HBL2 := Hi.mk (show (putB bs t id d).length = N from Eq.trans (@putB_len bs t id d) HBL.out)
      by_cases hE : tputE bs t id d = 0
      · rw [hE] at HP
        obtain ⟨bs', hb'⟩ : ∃ l, putB bs t id d = l := ⟨_, rfl⟩
        rw [hb'] at HP HBL2
        clear hb' hE
        go_wp2_with (first
          | (go_at_call 11; ((with_reducible refine (HP.out _ H4.out.m.mem).mono ?_); rintro e w5 ⟨rfl, hm5, hk5⟩; have H5 := Hi.mk (H4.out.wrote hk5 hm5); have HK5 := Hi.mk hk5; clear hm5 hk5 q0 q1 q2 a0 a1 a2 a3 a4 a5 a6 a7 a8 a9 a10 a11 a12 a13; obtain ⟨x0, x1⟩ := CB.two H5.out.x))
          | (go_at_call 20; ((with_reducible refine (HBY.out p g bs' HBL2.out _ H5.out.m.mem).mono ?_); rintro e w6 ⟨v2, rfl, hv2, hb6⟩; have H6 := Hi.mk (H5.out.later hb6); have hcv1 := conv_bytes (bytes_later HV1.out (g := g) HZ.out (HK5.out.trans (Kept.of hb6))); have hcv2 := conv_bytes (bytes_later hv2 (g := g) H5.out.m.mem.bytes.lt (Kept.refl _ _)); clear hb6 hv2)))
        go_ret
        exact ⟨rfl, H6.out.m.below⟩
      · have hb' : putB bs t id d = bs := by rw [putB, if_neg hE]
        rw [hb'] at HP HBL2
        have hne : (tputE bs t id d == 0) = false := by simpa using hE
        obtain ⟨E, hEE⟩ : ∃ E, tputE bs t id d = E := ⟨_, rfl⟩
        rw [hEE] at HP hne
        clear hb' hE hEE
        go_wp2_with (first
          | (go_at_call 11; ((with_reducible refine (HP.out _ H4.out.m.mem).mono ?_); rintro e w5 ⟨rfl, hm5, hk5⟩; have H5 := Hi.mk (H4.out.wrote hk5 hm5); have HK5 := Hi.mk hk5; clear hm5 hk5 q0 q1 q2 a0 a1 a2 a3 a4 a5 a6 a7 a8 a9 a10 a11 a12 a13; obtain ⟨x0, x1⟩ := CB.two H5.out.x))
          | (go_at_call 20; ((with_reducible refine (HBY.out p g bs HBL2.out _ H5.out.m.mem).mono ?_); rintro e w6 ⟨v2, rfl, hv2, hb6⟩; have H6 := Hi.mk (H5.out.later hb6); have hcv1 := conv_bytes (bytes_later HV1.out (g := g) HZ.out (HK5.out.trans (Kept.of hb6))); have hcv2 := conv_bytes (bytes_later hv2 (g := g) H5.out.m.mem.bytes.lt (Kept.refl _ _)); clear hb6 hv2)))
        go_ret
        exact ⟨by simp, H6.out.m.below⟩
    · skip
      by_cases e3 : dd = 3
      · subst e3
        go_enter Try.func6, Try.ntmps6
        go_wp2_with (first
          | (go_at_call 7; ((with_reducible refine (HA.out _).mono ?_); rintro e w1 ⟨rfl, hb1⟩; have HB1 := Hi.mk (HB0.out.more hb1); have HT1 := Hi.mk (And.intro (HT.out.1.below hb1) (HT.out.2.below hb1)); clear hb1; obtain ⟨q0, q1, q2⟩ := CB.three HT1.out.1))
          | (go_at_call 19; ((with_reducible refine (HPL.out _ (HX.out.below HB1.out)).mono ?_); rintro e w2 ⟨p, g, bs, rfl, hbl, hs2⟩; have H2 := Hi.mk (And.intro (hs2.base HB1.out) (And.intro (HT1.out.1.below hs2.below) (HT1.out.2.below hs2.below))); have HBL := Hi.mk hbl; have HG := Hi.mk (Nat.lt_of_lt_of_le HT1.out.2.lt hs2.g); clear hbl hs2 q0 q1 q2; have qf := (CB.new w2 30 #[.int .i64 0, .int .i64 0]).frozen))
          | (go_at_call 14; ((with_reducible refine (HSZ.out p g bs HBL.out _ H2.out.1.mem).mono ?_); rintro e w3 ⟨rfl, rfl⟩; have H3 := Hi.mk (show KpI w p g N w2.heap.size t #[.int .i64 3, .int .i64 id, .int .i64 ac, .int .i64 ev, .bool d.ok, .int .i64 d.bits, .int .i64 d.at_, .int .i64 r.num, .int .i64 r.coll, .bool r.ok, .int .i64 wa, .int .i64 ws, .bool is, .int .u64 (vv : Int)] bs (w2.alloc (.cells #[.int .i64 0, .int .i64 N] 30)) from ⟨H2.out.1.later (bal _ _), H2.out.2.1.alloc _, H2.out.2.2.alloc _, CB.new _ _ _, H2.out.1.mem.bytes.lt, HG.out⟩); obtain ⟨x0, x1⟩ := CB.two H3.out.x))
          | (go_at_call 20; ((with_reducible refine (HBY.out p g bs HBL.out _ H3.out.m.mem).mono ?_); rintro e w4 ⟨v1, rfl, hv1, hb4⟩; have H4 := Hi.mk (H3.out.later hb4); have HV1 := Hi.mk hv1; have HZ := Hi.mk H3.out.m.mem.bytes.lt; clear hb4 hv1 x0 x1; obtain ⟨q0, q1, q2⟩ := CB.three H4.out.t; obtain ⟨a0, a1, a2, a3, a4, a5, a6, a7, a8, a9, a10, a11, a12, a13⟩ := (show w4.cell? ⟨w.heap.size + 1, 0, none⟩ = some (.int .i64 3) ∧ w4.cell? ⟨w.heap.size + 1, 1, none⟩ = some (.int .i64 id) ∧ w4.cell? ⟨w.heap.size + 1, 2, none⟩ = some (.int .i64 ac) ∧ w4.cell? ⟨w.heap.size + 1, 3, none⟩ = some (.int .i64 ev) ∧ w4.cell? ⟨w.heap.size + 1, 4, none⟩ = some (.bool d.ok) ∧ w4.cell? ⟨w.heap.size + 1, 5, none⟩ = some (.int .i64 d.bits) ∧ w4.cell? ⟨w.heap.size + 1, 6, none⟩ = some (.int .i64 d.at_) ∧ w4.cell? ⟨w.heap.size + 1, 7, none⟩ = some (.int .i64 r.num) ∧ w4.cell? ⟨w.heap.size + 1, 8, none⟩ = some (.int .i64 r.coll) ∧ w4.cell? ⟨w.heap.size + 1, 9, none⟩ = some (.bool r.ok) ∧ w4.cell? ⟨w.heap.size + 1, 10, none⟩ = some (.int .i64 wa) ∧ w4.cell? ⟨w.heap.size + 1, 11, none⟩ = some (.int .i64 ws) ∧ w4.cell? ⟨w.heap.size + 1, 12, none⟩ = some (.bool is) ∧ w4.cell? ⟨w.heap.size + 1, 13, none⟩ = some (.int .u64 (vv : Int)) from ⟨H4.out.a.cell 0, H4.out.a.cell 1, H4.out.a.cell 2, H4.out.a.cell 3, H4.out.a.cell 4, H4.out.a.cell 5, H4.out.a.cell 6, H4.out.a.cell 7, H4.out.a.cell 8, H4.out.a.cell 9, H4.out.a.cell 10, H4.out.a.cell 11, H4.out.a.cell 12, H4.out.a.cell 13⟩))))
        have HP := Hi.mk (fun W hM => setR_any p g N bs d hd ev r W hM)
        have HBL2 := Hi.mk (show (setB bs d ev r).length = N from Eq.trans (@setB_len bs d ev r) HBL.out)
        by_cases hE : setE bs.length d ev r = 0
        · rw [hE] at HP
          obtain ⟨bs', hb'⟩ : ∃ l, setB bs d ev r = l := ⟨_, rfl⟩
          rw [hb'] at HP HBL2
          clear hb' hE
          go_wp2_with (first
            | (go_at_call 16; ((with_reducible refine (HP.out _ H4.out.m.mem).mono ?_); rintro e w5 ⟨rfl, hm5, hk5⟩; have H5 := Hi.mk (H4.out.wrote hk5 hm5); have HK5 := Hi.mk hk5; clear hm5 hk5 q0 q1 q2 a0 a1 a2 a3 a4 a5 a6 a7 a8 a9 a10 a11 a12 a13; obtain ⟨x0, x1⟩ := CB.two H5.out.x))
            | (go_at_call 20; ((with_reducible refine (HBY.out p g bs' HBL2.out _ H5.out.m.mem).mono ?_); rintro e w6 ⟨v2, rfl, hv2, hb6⟩; have H6 := Hi.mk (H5.out.later hb6); have hcv1 := conv_bytes (bytes_later HV1.out (g := g) HZ.out (HK5.out.trans (Kept.of hb6))); have hcv2 := conv_bytes (bytes_later hv2 (g := g) H5.out.m.mem.bytes.lt (Kept.refl _ _)); clear hb6 hv2)))
          go_ret
          exact ⟨rfl, H6.out.m.below⟩
        · have hb' : setB bs d ev r = bs := by rw [setB, if_neg hE]
          rw [hb'] at HP HBL2
          have hne : (setE bs.length d ev r == 0) = false := by simpa using hE
          obtain ⟨E, hEE⟩ : ∃ E, setE bs.length d ev r = E := ⟨_, rfl⟩
          rw [hEE] at HP hne
          clear hb' hE hEE
          go_wp2_with (first
            | (go_at_call 16; ((with_reducible refine (HP.out _ H4.out.m.mem).mono ?_); rintro e w5 ⟨rfl, hm5, hk5⟩; have H5 := Hi.mk (H4.out.wrote hk5 hm5); have HK5 := Hi.mk hk5; clear hm5 hk5 q0 q1 q2 a0 a1 a2 a3 a4 a5 a6 a7 a8 a9 a10 a11 a12 a13; obtain ⟨x0, x1⟩ := CB.two H5.out.x))
            | (go_at_call 20; ((with_reducible refine (HBY.out p g bs HBL2.out _ H5.out.m.mem).mono ?_); rintro e w6 ⟨v2, rfl, hv2, hb6⟩; have H6 := Hi.mk (H5.out.later hb6); have hcv1 := conv_bytes (bytes_later HV1.out (g := g) HZ.out (HK5.out.trans (Kept.of hb6))); have hcv2 := conv_bytes (bytes_later hv2 (g := g) H5.out.m.mem.bytes.lt (Kept.refl _ _)); clear hb6 hv2)))
          go_ret
          exact ⟨by simp, H6.out.m.below⟩
      · skip
        by_cases e4 : dd = 4
        · subst e4
          go_enter Try.func6, Try.ntmps6
          go_wp2_with (first
            | (go_at_call 7; ((with_reducible refine (HA.out _).mono ?_); rintro e w1 ⟨rfl, hb1⟩; have HB1 := Hi.mk (HB0.out.more hb1); have HT1 := Hi.mk (And.intro (HT.out.1.below hb1) (HT.out.2.below hb1)); clear hb1; obtain ⟨q0, q1, q2⟩ := CB.three HT1.out.1))
            | (go_at_call 19; ((with_reducible refine (HPL.out _ (HX.out.below HB1.out)).mono ?_); rintro e w2 ⟨p, g, bs, rfl, hbl, hs2⟩; have H2 := Hi.mk (And.intro (hs2.base HB1.out) (And.intro (HT1.out.1.below hs2.below) (HT1.out.2.below hs2.below))); have HBL := Hi.mk hbl; have HG := Hi.mk (Nat.lt_of_lt_of_le HT1.out.2.lt hs2.g); clear hbl hs2 q0 q1 q2; have qf := (CB.new w2 30 #[.int .i64 0, .int .i64 0]).frozen))
            | (go_at_call 14; ((with_reducible refine (HSZ.out p g bs HBL.out _ H2.out.1.mem).mono ?_); rintro e w3 ⟨rfl, rfl⟩; have H3 := Hi.mk (show KpI w p g N w2.heap.size t #[.int .i64 4, .int .i64 id, .int .i64 ac, .int .i64 ev, .bool d.ok, .int .i64 d.bits, .int .i64 d.at_, .int .i64 r.num, .int .i64 r.coll, .bool r.ok, .int .i64 wa, .int .i64 ws, .bool is, .int .u64 (vv : Int)] bs (w2.alloc (.cells #[.int .i64 0, .int .i64 N] 30)) from ⟨H2.out.1.later (bal _ _), H2.out.2.1.alloc _, H2.out.2.2.alloc _, CB.new _ _ _, H2.out.1.mem.bytes.lt, HG.out⟩); obtain ⟨x0, x1⟩ := CB.two H3.out.x))
            | (go_at_call 20; ((with_reducible refine (HBY.out p g bs HBL.out _ H3.out.m.mem).mono ?_); rintro e w4 ⟨v1, rfl, hv1, hb4⟩; have H4 := Hi.mk (H3.out.later hb4); have HV1 := Hi.mk hv1; have HZ := Hi.mk H3.out.m.mem.bytes.lt; clear hb4 hv1 x0 x1; obtain ⟨q0, q1, q2⟩ := CB.three H4.out.t; obtain ⟨a0, a1, a2, a3, a4, a5, a6, a7, a8, a9, a10, a11, a12, a13⟩ := (show w4.cell? ⟨w.heap.size + 1, 0, none⟩ = some (.int .i64 4) ∧ w4.cell? ⟨w.heap.size + 1, 1, none⟩ = some (.int .i64 id) ∧ w4.cell? ⟨w.heap.size + 1, 2, none⟩ = some (.int .i64 ac) ∧ w4.cell? ⟨w.heap.size + 1, 3, none⟩ = some (.int .i64 ev) ∧ w4.cell? ⟨w.heap.size + 1, 4, none⟩ = some (.bool d.ok) ∧ w4.cell? ⟨w.heap.size + 1, 5, none⟩ = some (.int .i64 d.bits) ∧ w4.cell? ⟨w.heap.size + 1, 6, none⟩ = some (.int .i64 d.at_) ∧ w4.cell? ⟨w.heap.size + 1, 7, none⟩ = some (.int .i64 r.num) ∧ w4.cell? ⟨w.heap.size + 1, 8, none⟩ = some (.int .i64 r.coll) ∧ w4.cell? ⟨w.heap.size + 1, 9, none⟩ = some (.bool r.ok) ∧ w4.cell? ⟨w.heap.size + 1, 10, none⟩ = some (.int .i64 wa) ∧ w4.cell? ⟨w.heap.size + 1, 11, none⟩ = some (.int .i64 ws) ∧ w4.cell? ⟨w.heap.size + 1, 12, none⟩ = some (.bool is) ∧ w4.cell? ⟨w.heap.size + 1, 13, none⟩ = some (.int .u64 (vv : Int)) from ⟨H4.out.a.cell 0, H4.out.a.cell 1, H4.out.a.cell 2, H4.out.a.cell 3, H4.out.a.cell 4, H4.out.a.cell 5, H4.out.a.cell 6, H4.out.a.cell 7, H4.out.a.cell 8, H4.out.a.cell 9, H4.out.a.cell 10, H4.out.a.cell 11, H4.out.a.cell 12, H4.out.a.cell 13⟩))))
          have HP := Hi.mk (fun W hM => setT_any p g N bs wa ws id ac is W hM hwa hws)
          have HBL2 := Hi.mk (show (stgB bs wa ws id ac is).length = N from Eq.trans (@stgB_len bs wa ws id ac is) HBL.out)
          by_cases hE : stgE bs.length wa ws id ac = 0
          · rw [hE] at HP
            obtain ⟨bs', hb'⟩ : ∃ l, stgB bs wa ws id ac is = l := ⟨_, rfl⟩
            rw [hb'] at HP HBL2
            clear hb' hE
            go_wp2_with (first
              | (go_at_call 13; ((with_reducible refine (HP.out _ H4.out.m.mem).mono ?_); rintro e w5 ⟨rfl, hm5, hk5⟩; have H5 := Hi.mk (H4.out.wrote hk5 hm5); have HK5 := Hi.mk hk5; clear hm5 hk5 q0 q1 q2 a0 a1 a2 a3 a4 a5 a6 a7 a8 a9 a10 a11 a12 a13; obtain ⟨x0, x1⟩ := CB.two H5.out.x))
              | (go_at_call 20; ((with_reducible refine (HBY.out p g bs' HBL2.out _ H5.out.m.mem).mono ?_); rintro e w6 ⟨v2, rfl, hv2, hb6⟩; have H6 := Hi.mk (H5.out.later hb6); have hcv1 := conv_bytes (bytes_later HV1.out (g := g) HZ.out (HK5.out.trans (Kept.of hb6))); have hcv2 := conv_bytes (bytes_later hv2 (g := g) H5.out.m.mem.bytes.lt (Kept.refl _ _)); clear hb6 hv2)))
            go_ret
            exact ⟨rfl, H6.out.m.below⟩
          · have hb' : stgB bs wa ws id ac is = bs := by rw [stgB, if_neg hE]
            rw [hb'] at HP HBL2
            have hne : (stgE bs.length wa ws id ac == 0) = false := by simpa using hE
            obtain ⟨E, hEE⟩ : ∃ E, stgE bs.length wa ws id ac = E := ⟨_, rfl⟩
            rw [hEE] at HP hne
            clear hb' hE hEE
            go_wp2_with (first
              | (go_at_call 13; ((with_reducible refine (HP.out _ H4.out.m.mem).mono ?_); rintro e w5 ⟨rfl, hm5, hk5⟩; have H5 := Hi.mk (H4.out.wrote hk5 hm5); have HK5 := Hi.mk hk5; clear hm5 hk5 q0 q1 q2 a0 a1 a2 a3 a4 a5 a6 a7 a8 a9 a10 a11 a12 a13; obtain ⟨x0, x1⟩ := CB.two H5.out.x))
              | (go_at_call 20; ((with_reducible refine (HBY.out p g bs HBL2.out _ H5.out.m.mem).mono ?_); rintro e w6 ⟨v2, rfl, hv2, hb6⟩; have H6 := Hi.mk (H5.out.later hb6); have hcv1 := conv_bytes (bytes_later HV1.out (g := g) HZ.out (HK5.out.trans (Kept.of hb6))); have hcv2 := conv_bytes (bytes_later hv2 (g := g) H5.out.m.mem.bytes.lt (Kept.refl _ _)); clear hb6 hv2)))
            go_ret
            exact ⟨by simp, H6.out.m.below⟩
        · skip
          have f1 : (dd == 1) = false := by simpa using e1
          have f2 : (dd == 2) = false := by simpa using e2
          have f3 : (dd == 3) = false := by simpa using e3
          have f4 : (dd == 4) = false := by simpa using e4
          go_enter Try.func6, Try.ntmps6
          go_wp2_with (first
            | (go_at_call 7; ((with_reducible refine (HA.out _).mono ?_); rintro e w1 ⟨rfl, hb1⟩; have HB1 := Hi.mk (HB0.out.more hb1); have HT1 := Hi.mk (And.intro (HT.out.1.below hb1) (HT.out.2.below hb1)); clear hb1; obtain ⟨q0, q1, q2⟩ := CB.three HT1.out.1))
            | (go_at_call 19; ((with_reducible refine (HPL.out _ (HX.out.below HB1.out)).mono ?_); rintro e w2 ⟨p, g, bs, rfl, hbl, hs2⟩; have H2 := Hi.mk (And.intro (hs2.base HB1.out) (And.intro (HT1.out.1.below hs2.below) (HT1.out.2.below hs2.below))); have HBL := Hi.mk hbl; have HG := Hi.mk (Nat.lt_of_lt_of_le HT1.out.2.lt hs2.g); clear hbl hs2 q0 q1 q2; have qf := (CB.new w2 30 #[.int .i64 0, .int .i64 0]).frozen))
            | (go_at_call 14; ((with_reducible refine (HSZ.out p g bs HBL.out _ H2.out.1.mem).mono ?_); rintro e w3 ⟨rfl, rfl⟩; have H3 := Hi.mk (show KpI w p g N w2.heap.size t #[.int .i64 dd, .int .i64 id, .int .i64 ac, .int .i64 ev, .bool d.ok, .int .i64 d.bits, .int .i64 d.at_, .int .i64 r.num, .int .i64 r.coll, .bool r.ok, .int .i64 wa, .int .i64 ws, .bool is, .int .u64 (vv : Int)] bs (w2.alloc (.cells #[.int .i64 0, .int .i64 N] 30)) from ⟨H2.out.1.later (bal _ _), H2.out.2.1.alloc _, H2.out.2.2.alloc _, CB.new _ _ _, H2.out.1.mem.bytes.lt, HG.out⟩); obtain ⟨x0, x1⟩ := CB.two H3.out.x))
            | (go_at_call 20; ((with_reducible refine (HBY.out p g bs HBL.out _ H3.out.m.mem).mono ?_); rintro e w4 ⟨v1, rfl, hv1, hb4⟩; have H4 := Hi.mk (H3.out.later hb4); have HV1 := Hi.mk hv1; have HZ := Hi.mk H3.out.m.mem.bytes.lt; clear hb4 hv1 x0 x1; obtain ⟨q0, q1, q2⟩ := CB.three H4.out.t; obtain ⟨a0, a1, a2, a3, a4, a5, a6, a7, a8, a9, a10, a11, a12, a13⟩ := (show w4.cell? ⟨w.heap.size + 1, 0, none⟩ = some (.int .i64 dd) ∧ w4.cell? ⟨w.heap.size + 1, 1, none⟩ = some (.int .i64 id) ∧ w4.cell? ⟨w.heap.size + 1, 2, none⟩ = some (.int .i64 ac) ∧ w4.cell? ⟨w.heap.size + 1, 3, none⟩ = some (.int .i64 ev) ∧ w4.cell? ⟨w.heap.size + 1, 4, none⟩ = some (.bool d.ok) ∧ w4.cell? ⟨w.heap.size + 1, 5, none⟩ = some (.int .i64 d.bits) ∧ w4.cell? ⟨w.heap.size + 1, 6, none⟩ = some (.int .i64 d.at_) ∧ w4.cell? ⟨w.heap.size + 1, 7, none⟩ = some (.int .i64 r.num) ∧ w4.cell? ⟨w.heap.size + 1, 8, none⟩ = some (.int .i64 r.coll) ∧ w4.cell? ⟨w.heap.size + 1, 9, none⟩ = some (.bool r.ok) ∧ w4.cell? ⟨w.heap.size + 1, 10, none⟩ = some (.int .i64 wa) ∧ w4.cell? ⟨w.heap.size + 1, 11, none⟩ = some (.int .i64 ws) ∧ w4.cell? ⟨w.heap.size + 1, 12, none⟩ = some (.bool is) ∧ w4.cell? ⟨w.heap.size + 1, 13, none⟩ = some (.int .u64 (vv : Int)) from ⟨H4.out.a.cell 0, H4.out.a.cell 1, H4.out.a.cell 2, H4.out.a.cell 3, H4.out.a.cell 4, H4.out.a.cell 5, H4.out.a.cell 6, H4.out.a.cell 7, H4.out.a.cell 8, H4.out.a.cell 9, H4.out.a.cell 10, H4.out.a.cell 11, H4.out.a.cell 12, H4.out.a.cell 13⟩); obtain ⟨x0, x1⟩ := CB.two H4.out.x))
            | (go_at_call 20; ((with_reducible refine (HBY.out p g bs HBL.out _ H4.out.m.mem).mono ?_); rintro e w6 ⟨v2, rfl, hv2, hb6⟩; have H6 := Hi.mk (H4.out.later hb6); have hcv1 := conv_bytes (bytes_later HV1.out (g := g) HZ.out (Kept.of hb6)); have hcv2 := conv_bytes (bytes_later hv2 (g := g) H4.out.m.mem.bytes.lt (Kept.refl _ _)); clear hb6 hv2)))
          go_ret
          exact ⟨by simp, H6.out.m.below⟩
end Go.Proofs.Ytjcjblmaceooaaa
