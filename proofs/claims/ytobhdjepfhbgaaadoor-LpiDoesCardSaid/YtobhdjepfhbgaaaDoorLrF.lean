/-
  LpiNews, at every world with the library's table.
-/
import Derived.Test.YtobhdjepfhbgaaaDoorLrE
import Derived.Test.YtobhdjepfhbgaaaDoorLqG
namespace Go.Proofs.YtobhdjepfhbgaaaDoor
open Go.ChangeShapes Go.WideShapes Go.ChangeAt Go.RowKit Go.Shelf
set_option linter.unusedVariables false
set_option linter.unusedSimpArgs false

theorem cand_is (i p g : Int) (b : Bool) (w : World) : (Instr.field 63 (.agg #[.int .i64 i, .int .i64 p, .int .i64 g, .bool b]) 3).run Tryd.prog w = .ok (.bool b) w := by kernel_rfl
attribute [local go_sem high] cand_is
theorem news_wait (N n pa ps qa qs : Nat) : ids (waitL (List.replicate N 0) (newX n pa ps qa qs)) = [] := by
  have h : waitL (List.replicate N 0) (newX n pa ps qa qs) = [] := lst_none (fun k => by
    show bitB (List.replicate N 0) qa k = false
    unfold bitB
    have e : (List.replicate N 0)[qa + k / 8]?.getD 0 = 0 := by
      rw [List.getElem?_replicate]; split <;> rfl
    rw [e]; simp) n
  rw [h]; rfl
theorem news_best (n pa ps qa qs : Nat) : bestV (newX n pa ps qa qs) = ⟨0, 0, 0, false⟩ := by
  unfold bestV
  rw [show lst (newX n pa ps qa qs).P (newX n pa ps qa qs).n = [] from lst_none (fun _ => rfl) _]
  rfl
theorem news_fit {L : Nat} {many pa ps qa qs : Int} (h : newE L many pa ps qa qs = 0) : ∃ n a s b t : Nat, many = n ∧ pa = a ∧ ps = s ∧ qa = b ∧ qs = t ∧ 1 ≤ n ∧ n ≤ 512 ∧ a + s ≤ L ∧ n ≤ s ∧ b + t ≤ L ∧ n ≤ 8 * t := by
  unfold newE at h
  split at h
  · cases h
  · rename_i hm
    split at h
    · rename_i hf
      simp only [fitB, holdsB, Bool.and_eq_true, decide_eq_true_eq] at hf
      exact ⟨many.toNat, pa.toNat, ps.toNat, qa.toNat, qs.toNat, by omega, by omega, by omega, by omega, by omega, by omega, by omega, by omega, by omega, by omega, by omega⟩
    · cases h
theorem nws_first (w : World) (pa ps qa qs : Int) (W : World) (hW : W = (w.alloc (.cells #[.int .i64 pa, .int .i64 ps] 49)).alloc (.cells #[.int .i64 qa, .int .i64 qs] 49)) :
    (CB W w.heap.size 49 #[.int .i64 pa, .int .i64 ps] ∧ CB W (w.heap.size + 1) 49 #[.int .i64 qa, .int .i64 qs]) ∧ Below w.heap.size w W := by
  subst hW
  have c2 := CB.new (w.alloc (.cells #[.int .i64 pa, .int .i64 ps] 49)) 49 #[.int .i64 qa, .int .i64 qs]
  rw [World.size_alloc] at c2
  exact ⟨⟨(CB.new w _ _).alloc _, c2⟩, bal2' w _ _⟩
structure NsI (w : World) (pa ps qa qs : Int) (W : World) : Prop where
  c : CB W w.heap.size 49 #[.int .i64 pa, .int .i64 ps]
  d : CB W (w.heap.size + 1) 49 #[.int .i64 qa, .int .i64 qs]
  below : Below w.heap.size w W
theorem NsI.first (w : World) (pa ps qa qs : Int) : NsI w pa ps qa qs ((w.alloc (.cells #[.int .i64 pa, .int .i64 ps] 49)).alloc (.cells #[.int .i64 qa, .int .i64 qs] 49)) :=
  have h := nws_first w pa ps qa qs _ rfl
  ⟨h.1.1, h.1.2, h.2⟩
theorem NsI.later {w W W' : World} {pa ps qa qs : Int} (h : NsI w pa ps qa qs W) (k : Below W.heap.size W W') : NsI w pa ps qa qs W' := ⟨h.c.below k, h.d.below k, h.below.more k⟩
theorem NsI.cells {w W : World} {pa ps qa qs : Int} (h : NsI w pa ps qa qs W) : W.cell? ⟨w.heap.size, 0, none⟩ = some (.int .i64 pa) ∧ W.cell? ⟨w.heap.size, 1, none⟩ = some (.int .i64 ps) ∧ W.cell? ⟨w.heap.size + 1, 0, none⟩ = some (.int .i64 qa) ∧ W.cell? ⟨w.heap.size + 1, 1, none⟩ = some (.int .i64 qs) := ⟨h.c.cell 0, h.c.cell 1, h.d.cell 0, h.d.cell 1⟩

set_option maxRecDepth 100000 in
set_option maxHeartbeats 8000000 in
theorem news_any (size many pa ps qa qs : Int) (h1 : i64B pa) (h2 : i64B ps) (h3 : i64B qa) (h4 : i64B qs) (w : World) (hT : TabW w) :
    Calls Tryd.prog 4 #[.int .i64 size, .int .i64 many, .agg #[.int .i64 pa, .int .i64 ps], .agg #[.int .i64 qa, .int .i64 qs]] w fun e w' => e = .returned (.bool true) ∧ Below w.heap.size w w' := by
  obtain ⟨L, hL⟩ : ∃ L, newN size = L := ⟨_, rfl⟩
  have hL4 : L ≤ 4096 := hL ▸ newN_le size
  have HT := hi hT
  have HA := hi (fun W h => awake_any W h)
  have HLN := hi (fun W => lawNew_any size W)
  rw [hL] at HLN
  have H0 := hi (NsI.first w pa ps qa qs)
  obtain ⟨bs, hbs⟩ : ∃ bs, List.replicate L 0 = bs := ⟨_, rfl⟩
  have hlen : bs.length = L := by rw [← hbs]; simp
  rw [hbs] at HLN
  obtain ⟨q0, q1, q2, q3⟩ := H0.out.cells
  clear hT
  by_cases hn : newE L many pa ps qa qs = 0
  · obtain ⟨n, a, s, b, t, rfl, rfl, rfl, rfl, rfl, g1, g2, g3, g4, g5, g6⟩ := news_fit hn
    have hok : (newX n a s b t).Ok bs.length := newX_ok g1 g2 (by omega) g4 (by omega) g6 (by omega)
    have HN := hi (fun p g cp W hM => new_yes_lpi p g cp bs n a s b t g1 g2 (by omega) g4 (by omega) g6 W hM)
    have HR := hi (fun q h cq W hM => rnew_yes q h cq bs n a s b t g1 g2 (by omega) g4 (by omega) g6 W hM)
    have HON := hi (show ∀ (l s' c : Nat) (S : Words) (W : World), LpB W l s' c n S (newX n a s b t) → Calls Tryd.prog 22 #[.pointer (some ⟨l, 0, none⟩)] W (fun e w' => e = .returned (.bool false) ∧ W = w') from fun l s' c S W h => on_any l s' c n S _ W h.hd)
    have HMA := hi (show ∀ (l s' c : Nat) (S : Words) (W : World), LpB W l s' c n S (newX n a s b t) → Calls Tryd.prog 23 #[.pointer (some ⟨l, 0, none⟩)] W (fun e w' => e = .returned (.int .i64 n) ∧ W = w') from fun l s' c S W h => many_any l s' c n S _ W h.hd)
    have HWA := hi (show ∀ (l s' c p g cp : Nat) (S : Words) (W : World), LpB W l s' c n S (newX n a s b t) → MemAt 96 W p g cp bs → Calls Tryd.prog 25 #[.pointer (some ⟨l, 0, none⟩), .pointer (some ⟨p, 0, none⟩)] W (fun e w' => e = .returned (.func (.func 66) #[] #[.pointer (some ⟨W.heap.size, 0, none⟩), .pointer (some ⟨W.heap.size + 1, 0, none⟩)]) ∧ WtB W.heap.size l s' c n p g cp S (newX n a s b t) bs w' ∧ Below W.heap.size W w') from fun l s' c p g cp S W h hM => by
      refine (waiting_lpi l p W).mono ?_
      rintro e w' ⟨rfl, rfl⟩
      have hm := CB.new (W.alloc (.cells #[.pointer (some ⟨l, 0, none⟩)] 27)) 25 #[.pointer (some ⟨p, 0, none⟩)]
      rw [World.size_alloc] at hm
      exact ⟨rfl, ⟨(CB.new W _ _).alloc _, hm, (h.below (bal2' W _ _)).hd, hM.below (bal2' W _ _)⟩, bal2' W _ _⟩)
    have HLI := hi (show ∀ (k l s' c p g cp : Nat) (S : Words) (W : World), WtB k l s' c n p g cp S (newX n a s b t) bs W → Calls Tryd.prog 24 #[.func (.func 66) #[] #[.pointer (some ⟨k, 0, none⟩), .pointer (some ⟨k + 1, 0, none⟩)]] W (fun e w' => (∃ a cap, e = .returned (.slice a 0 cap)) ∧ Below W.heap.size W w') from fun k l s' c p g cp S W h => by
      have h1 := list_wait k l s' c n p g cp S (newX n a s b t) bs hok W h
      rw [← hbs, news_wait] at h1
      refine h1.mono ?_
      rintro e w' ⟨a, cap, rfl, _, hb, _⟩
      exact ⟨⟨a, cap, rfl⟩, hb⟩)
    have HBE := hi (show ∀ (l s' c : Nat) (S : Words) (W : World), TabW W → LpB W l s' c n S (newX n a s b t) → Calls Tryd.prog 26 #[.pointer (some ⟨l, 0, none⟩)] W (fun e w' => e = .returned (.agg #[.int .i64 0, .int .i64 0, .int .i64 0, .bool false]) ∧ Below W.heap.size W w') from fun l s' c S W ht h => by
      have h1 := best_lpi l s' c n S (newX n a s b t) hok.n5 hok.cm W ht h
      rw [news_best] at h1
      exact h1)
    clear hn hok g1 g2 g3 g4 g5 g6 h1 h2 h3 h4 hlen hL4 hL hbs
    go_enter Tryd.func4, Tryd.ntmps4
    go_wp2_with (first
      | (go_at_call 8; ((with_reducible refine (HA.out _ (HT.out.below H0.out.below)).mono ?_); rintro e w1 ⟨rfl, hb1⟩; have H1 := hi (H0.out.later hb1); clear hb1 q0 q1 q2 q3))
      | (go_at_call 19; ((with_reducible refine (HLN.out _).mono ?_); rintro e w2 ⟨p, g, q, h, rfl, hB2⟩; have H2 := hi (And.intro (H1.out.later hB2.mem.below) hB2); clear hB2; obtain ⟨q0, q1, q2, q3⟩ := H2.out.1.cells))
      | (go_at_call 20; ((with_reducible refine (HN.out p g _ _ H2.out.2.mem.mem).mono ?_); rintro e w3 ⟨l, s', c, rfl, hl3, _, _, _, hb3⟩; have H3 := hi (And.intro (H2.out.1.later hb3) (And.intro hl3 (And.intro (H2.out.2.mem.mem.below hb3) (H2.out.2.ref.below hb3)))); clear hl3 hb3 q0 q1 q2 q3; obtain ⟨q0, q1, q2, q3⟩ := H3.out.1.cells))
      | (go_at_call 21; ((with_reducible refine (HR.out q h _ _ H3.out.2.2.2).mono ?_); rintro e w4 ⟨d, f, rfl, _, _, _, hb4⟩; have H4 := hi (And.intro (H3.out.1.later hb4) (And.intro (H3.out.2.1.below hb4) (H3.out.2.2.1.below hb4))); clear hb4 q0 q1 q2 q3))
      | (go_at_call 22; ((with_reducible refine (HON.out l s' c _ _ H4.out.2.1).mono ?_); rintro e w5 ⟨rfl, rfl⟩))
      | (go_at_call 23; ((with_reducible refine (HMA.out l s' c _ _ H4.out.2.1).mono ?_); rintro e w6 ⟨rfl, rfl⟩))
      | (go_at_call 25; ((with_reducible refine (HWA.out l s' c p g _ _ _ H4.out.2.1 H4.out.2.2).mono ?_); rintro e w7 ⟨rfl, ht7, hb7⟩; have H7 := hi (And.intro (H4.out.1.later hb7) (And.intro (H4.out.2.1.below hb7) ht7)); clear hb7 ht7))
      | (go_at_call 24; ((with_reducible refine (HLI.out _ l s' c p g _ _ _ H7.out.2.2).mono ?_); rintro e w8 ⟨⟨a8, c8, rfl⟩, hb8⟩; have H8 := hi (And.intro (H7.out.1.later hb8) (H7.out.2.1.below hb8)); clear hb8))
      | (go_at_call 26; ((with_reducible refine (HBE.out l s' c _ _ (HT.out.below H8.out.1.below) H8.out.2).mono ?_); rintro e w9 ⟨rfl, hb9⟩; have H9 := hi (H8.out.1.later hb9); clear hb9)))
    go_ret
    exact ⟨rfl, H9.out.below⟩
  · have HN := hi (fun p g cp W hM => new_no p g cp bs many pa ps qa qs h1 h2 h3 h4 W hM (by rw [hlen]; exact hn))
    have HR := hi (fun q h cq W hM => rnew_no q h cq bs many pa ps qa qs h1 h2 h3 h4 W hM (by rw [hlen]; exact hn))
    obtain ⟨E, hE⟩ : ∃ E, newE bs.length many pa ps qa qs = E := ⟨_, rfl⟩
    rw [hE] at HN HR
    clear hn h1 h2 h3 h4 hlen hL4 hL hbs hE
    go_enter Tryd.func4, Tryd.ntmps4
    go_wp2_with (first
      | (go_at_call 8; ((with_reducible refine (HA.out _ (HT.out.below H0.out.below)).mono ?_); rintro e w1 ⟨rfl, hb1⟩; have H1 := hi (H0.out.later hb1); clear hb1 q0 q1 q2 q3))
      | (go_at_call 19; ((with_reducible refine (HLN.out _).mono ?_); rintro e w2 ⟨p, g, q, h, rfl, hB2⟩; have H2 := hi (And.intro (H1.out.later hB2.mem.below) hB2); clear hB2; obtain ⟨q0, q1, q2, q3⟩ := H2.out.1.cells))
      | (go_at_call 20; ((with_reducible refine (HN.out p g _ _ H2.out.2.mem.mem).mono ?_); rintro e w3 ⟨rfl, hb3⟩; have H3 := hi (And.intro (H2.out.1.later hb3) (H2.out.2.ref.below hb3)); clear hb3 q0 q1 q2 q3; obtain ⟨q0, q1, q2, q3⟩ := H3.out.1.cells))
      | (go_at_call 21; ((with_reducible refine (HR.out q h _ _ H3.out.2).mono ?_); rintro e w4 ⟨rfl, hb4⟩; have H4 := hi (H3.out.1.later hb4); clear hb4 q0 q1 q2 q3)))
    go_ret
    exact ⟨rfl, H4.out.below⟩

end Go.Proofs.YtobhdjepfhbgaaaDoor
