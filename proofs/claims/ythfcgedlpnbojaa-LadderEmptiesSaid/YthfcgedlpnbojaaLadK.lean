/-
  What is let go, one after the other; the law LadderEmpties at every input.
-/
import Derived.Test.YthfcgedlpnbojaaLadJ
import Derived.Deep.RegionHeld3
import Derived.BigRegion
import Derived.IntWalk
import Derived.Deep.RegionWith
namespace Go.Proofs.Ythfcgedlpnbojaa
open Go.ChangeShapes Go.WideShapes Go.ChangeAt Go.RowKit
set_option linter.unusedVariables false
attribute [local go_sem high] eql2 guard2

theorem upto_congr {f g : Rg} : ∀ n : Nat, (∀ j, j < n → f j = g j) → upto f n = upto g n
  | 0, _ => rfl
  | n + 1, h => by rw [upto, upto, upto_congr n (fun j hj => h j (by omega)), h n (by omega)]
theorem upto_nil {f : Rg} (n : Nat) (h : ∀ j, j < n → f j = false) : upto f n = [] := by
  cases hu : upto f n with
  | nil => rfl
  | cons a r =>
    have := (mem_upto f a n).1 (by rw [hu]; simp)
    rw [h a this.1] at this
    simp at this
theorem upto_drop {f : Rg} {x : Nat} (hx : f x = true) (hl : ∀ j, j < x → f j = false) : ∀ n, x < n → upto f n = x :: upto (put f x false) n
  | 0, h => by omega
  | n + 1, h => by
    by_cases e : x = n
    · subst e
      rw [upto_pos hx, upto_nil x hl, upto_neg (put_same f x false), upto_nil x (fun j hj => by rw [put_other f false (by omega)]; exact hl j hj)]
      rfl
    · have ih := upto_drop hx hl n (by omega)
      rw [upto, upto, ih, put_other f false (by omega : n ≠ x)]
      split <;> rfl
theorem rungs_drop {f : Rg} {x : Nat} (h : top f = some x) : rungs f = x :: rungs (put f x false) := upto_drop (top_lt h).2 (top_min h) 64 (top_lt h).1
theorem top_of_cons {f : Rg} {x : Nat} {r : List Nat} (h : rungs f = x :: r) : top f = some x := by rw [top, h]; rfl
theorem wd_none {f : Rg} (h : rungs f = []) (g : Nat) (hg : g < 2) : wd f g = 0 := by
  have := sumB_congr (f := fun k => f (2 * k + g)) (g := fun _ => false) 32 (fun i hi => top_none (by rw [top, h]; rfl) _ (by omega))
  rw [wd, this]
  exact sumB_eq (fun i _ => by simp) (by decide)

/-- Where the loop stands. -/
structure EmI (w : World) (B n k : Nat) (L : Int) (h : Rg) (W : World) : Prop where
  box : CB W B 27 (lcs h)
  below : Below w.heap.size w W
  len : (rungs h).length + k = n
  lo : ∀ y ∈ rungs h, L ≤ 8 * ((y : Int) / 2)
theorem EmI.next {w W W' : World} {B n k : Nat} {L : Int} {h : Rg} {x : Nat} (H : EmI w B n k L h W) (ht : top h = some x) (hb : CB W' B 27 (lcs (put h x false))) (hw : Below w.heap.size w W') :
    EmI w B n (k + 1) (8 * ((x : Int) / 2)) (put h x false) W' :=
  ⟨hb, hw, by have := H.len; rw [rungs_drop ht] at this; simp at this; omega, fun y hy => by
    have h1 := (rungs_lt hy).2
    have h2 : y ≠ x := fun e => by rw [e, put_same] at h1; simp at h1
    rw [put_other h false h2] at h1
    have h3 : ¬ y < x := fun e => by rw [top_min ht y e] at h1; simp at h1
    omega⟩
theorem EmI.head {w W : World} {B n k : Nat} {L : Int} {h : Rg} (H : EmI w B n k L h W) (hk : k < n) : ∃ x, top h = some x ∧ L ≤ 8 * ((x : Int) / 2) ∧ (rungs h).length = (rungs (put h x false)).length + 1 := by
  cases hr : rungs h with
  | nil => have := H.len; rw [hr] at this; simp at this; omega
  | cons x r =>
    have ht := top_of_cons hr
    refine ⟨x, ht, H.lo x (by rw [hr]; simp), ?_⟩
    rw [← hr, rungs_drop ht]; rfl

theorem keepE {w W W' : World} {b c : Nat} {a1 b1 a2 b2 : Int} {t : TypeId} (k : Below W.heap.size W W') (h : AtG w [(b, t, #[.int .u32 a1, .int .u32 b1]), (c, t, #[.int .u32 a2, .int .u32 b2])] W) :
    W'.cell? ⟨b, 0, none⟩ = some (.int .u32 a1) ∧ W'.cell? ⟨b, 1, none⟩ = some (.int .u32 b1) ∧ W'.cell? ⟨c, 0, none⟩ = some (.int .u32 a2) ∧ W'.cell? ⟨c, 1, none⟩ = some (.int .u32 b2) ∧ AtG w [(b, t, #[.int .u32 a1, .int .u32 b1]), (c, t, #[.int .u32 a2, .int .u32 b2])] W' :=
  ⟨(h.later k).b0.cell 0, (h.later k).b0.cell 1, (h.later k).tl.b0.cell 0, (h.later k).tl.b0.cell 1, h.later k⟩

set_option maxRecDepth 100000 in
set_option maxHeartbeats 8000000 in
theorem lawEmpties_any (a b : Nat) (w : World) (ha : a < 4294967296) (hb : b < 4294967296) :
    Calls Try.prog 5 #[.int .u32 a, .int .u32 b] w fun e w' => e = .returned (.bool true) ∧ Below w.heap.size w w' := by
  have CO := hi (fun t W => of_new2 a b t W ha hb)
  obtain ⟨f, hf⟩ : ∃ f, ofW a b = f := ⟨_, rfl⟩
  rw [hf] at CO
  have CL := hi (fun W => len_any f W)
  have hmax := rungs_len f
  obtain ⟨n, hn⟩ : ∃ n, (rungs f).length = n := ⟨_, rfl⟩
  rw [hn] at CL hmax
  obtain ⟨a1, e1⟩ : ∃ a, wd f 0 = a := ⟨_, rfl⟩
  obtain ⟨b1, e2⟩ : ∃ a, wd f 1 = a := ⟨_, rfl⟩
  unfold lv lcs at CO CL
  rw [e1, e2] at CO CL
  have HE := hi (And.intro e1 e2)
  have HN := hi hn
  clear e1 e2 hf hn ha hb
  go_enter Try.func5, Try.ntmps5
  go_wp2_with (first
    | (go_at_call 9; ((with_reducible refine (awake_any _).mono ?_); rintro e w0 ⟨rfl, hb⟩; have HB0 := hi hb; clear hb))
    | (go_at_call 10; ((with_reducible refine (CO.out _ _).mono ?_); rintro e w1 ⟨rfl, hb⟩; have HW1 := hi (show w.heap.size ≤ w1.heap.size from Nat.le_trans HB0.out.size hb.size); have H1 := hi (AtG.new (w := w) (L := []) ⟨fun p hp => (by cases hp), HB0.out.trans (hb.mono HB0.out.size)⟩ 27 #[.int .u32 a1, .int .u32 b1]); clear hb))
    | (go_at_call 21; ((with_reducible refine (CL.out _).mono ?_); rintro e w2 ⟨rfl, hb⟩; have H2 := hi (H1.out.later hb); clear hb)))
  have HI := hi (show EmI w w1.heap.size n 0 (-1) f w2 from ⟨by unfold lcs; rw [HE.out.1, HE.out.2]; exact H2.out.b0, H2.out.below, by rw [HN.out]; rfl, fun y _ => by omega⟩)
  clear H1 H2 HE HN CO CL HB0
  go_loopw [8, 9] (fun la i wr => ∃ (k : Nat) (h : Rg) (L : Int), k ≤ n ∧ i = .int .i64 k ∧ la = .int .i64 L ∧ Hi (EmI w w1.heap.size n k L h wr)) (fun _ i _ => n - (intOf i).toNat)
  case atStart => exact ⟨0, f, -1, Nat.zero_le _, rfl, rfl, HI⟩
  case round =>
    obtain ⟨k, h, L, hk, rfl, rfl, HP⟩ := hrel
    clear HI
    by_cases hlt : k < n
    · obtain ⟨x, ht, hL, hlen⟩ := HP.out.head hlt
      have CR := hi (fun W => running_any h W)
      have CD := hi (fun W => drop_any h W)
      have CL1 := hi (fun W => len_any (put h x false) W)
      have CL2 := hi (fun W => len_any h W)
      have CH := hi (fun W => has_any (put h x false) ((x : Int) % 2) (8 * ((x : Int) / 2)) W)
      rw [plc_top (top_lt ht).1, put_same] at CH
      rw [runV_some ht] at CR
      rw [dropR_some ht, dropB_some ht] at CD
      dsimp only at CR
      rw [hlen] at CL2
      have hl64 : (rungs (put h x false)).length ≤ 64 := rungs_len _
      obtain ⟨N, hN⟩ : ∃ N, (rungs (put h x false)).length = N := ⟨_, rfl⟩
      rw [hN] at CL1 CL2 hl64
      rw [show ((N + 1 : Nat) : Int) = (N : Int) + 1 by omega] at CL2
      have hwr : IntKind.i64.wrap (N : Int) = (N : Int) := by rw [IntKind.wrap_i64]; omega
      obtain ⟨P, hP⟩ : ∃ P, 8 * ((x : Int) / 2) = P := ⟨_, rfl⟩
      obtain ⟨G, hG⟩ : ∃ G, (x : Int) % 2 = G := ⟨_, rfl⟩
      rw [hP] at hL CR CH
      rw [hG] at CR CH
      have hPL : decide (P < L) = false := by simp; omega
      have HNX := hi (fun W' h1 h2 => hP ▸ HP.out.next (W' := W') ht h1 h2)
      obtain ⟨a2, e1⟩ : ∃ a, wd h 0 = a := ⟨_, rfl⟩
      obtain ⟨b2, e2⟩ : ∃ a, wd h 1 = a := ⟨_, rfl⟩
      obtain ⟨a3, e3⟩ : ∃ a, wd (put h x false) 0 = a := ⟨_, rfl⟩
      obtain ⟨b3, e4⟩ : ∃ a, wd (put h x false) 1 = a := ⟨_, rfl⟩
      have hbx := HP.out.box
      unfold lv lcs at *
      rw [e1, e2] at CR CD CL2 hbx
      rw [e3, e4] at CD CL1 CH HNX
      have HA := hi (AtG.mk (w := w) (L := [(w1.heap.size, 27, #[.int .u32 a2, .int .u32 b2])]) (fun p hp => by obtain rfl := List.mem_singleton.1 hp; exact hbx) HP.out.below)
      obtain ⟨s0, s1⟩ := hbx.two
      clear e1 e2 e3 e4 hP hG hN hlen hL ht HP hbx
      go_wp2_with (first
        | (go_at_call 20; ((with_reducible refine (CR.out _).mono ?_); rintro e w3 ⟨rfl, hb⟩; have H3 := hi (HA.out.later hb); obtain ⟨s0, s1⟩ := H3.out.b0.two; clear hb))
        | (go_at_call 16; ((with_reducible refine (CD.out _).mono ?_); rintro e w4 ⟨rfl, hb⟩; have HLT := hi (H3.out.later hb).b0.lt; have H4 := hi ((H3.out.later hb).new 27 #[.int .u32 a3, .int .u32 b3]); clear hb)))
      have HZ := H4.out
      clear H4 H3 HA s0 s1 CR CD
      obtain ⟨M, hM⟩ : ∃ M, w4.heap.size = M := ⟨_, rfl⟩
      obtain ⟨W5, hW5⟩ : ∃ W5, w4.alloc (.cells #[.int .u32 (a3 : Int), .int .u32 (b3 : Int)] 27) = W5 := ⟨_, rfl⟩
      rw [hW5, hM] at HZ
      rw [hW5, hM]
      rw [hM] at HLT
      have hMB : M ≠ w1.heap.size := by have := HLT.out; omega
      clear hW5 hM
      obtain ⟨s0, s1, t0, t1, _⟩ := keepE (Below.refl _ _) HZ
      have HD := HZ.drew
      go_wp2
      go_region_held3 (fun w' => w'.cell? ⟨M, 0, none⟩ = some (.int .u32 (a3 : Int)) ∧ w'.cell? ⟨M, 1, none⟩ = some (.int .u32 (b3 : Int)) ∧ w'.cell? ⟨w1.heap.size, 0, none⟩ = some (.int .u32 (a2 : Int)) ∧ w'.cell? ⟨w1.heap.size, 1, none⟩ = some (.int .u32 (b2 : Int)) ∧ AtG w [(M, 27, #[.int .u32 (a3 : Int), .int .u32 (b3 : Int)]), (w1.heap.size, 27, #[.int .u32 (a2 : Int), .int .u32 (b2 : Int)])] w')
        (first
          | ((try dsimp only); exact ⟨by assumption, by assumption, by assumption, by assumption, by assumption⟩)
          | ((try dsimp only); go_split_ands; exact ⟨by assumption, by assumption, by assumption, by assumption, by assumption⟩)
          | go_keep)
        (first
          | (go_at_call 21; (with_reducible refine (CL1.out _).mono ?_); rintro e' w6 ⟨rfl, hb⟩; have hS := keepE hb (by go_split_ands; assumption); clear hb; go_split_ands)
          | (go_at_call 21; (with_reducible refine (CL2.out _).mono ?_); rintro e' w6 ⟨rfl, hb⟩; have hS := keepE hb (by go_split_ands; assumption); clear hb; go_split_ands)
          | (go_at_call 18; (with_reducible refine (CH.out _).mono ?_); rintro e' w6 ⟨rfl, hb⟩; have hS := keepE hb (by go_split_ands; assumption); clear hb; go_split_ands))
      have HQ : AtG w [(M, 27, #[.int .u32 (a3 : Int), .int .u32 (b3 : Int)]), (w1.heap.size, 27, #[.int .u32 (a2 : Int), .int .u32 (b2 : Int)])] w6 := by assumption
      have f6 := HQ.tl.b0.frozen
      have HX := hi (HNX.out _ (HQ.tl.b0.set2 (.int .u32 (a3 : Int)) (.int .u32 (b3 : Int))) (below_set2 HQ.below (by have := HW1.out; omega) _ _))
      go_wp2
      go_roundw
      case rel => exact ⟨k + 1, put h x false, P, by omega, by go_num, rfl, HX⟩
      case measure => simp [intOf]; omega
    · obtain rfl : k = n := by omega
      have hr : rungs h = [] := List.length_eq_zero_iff.1 (by have := HP.out.len; omega)
      have ht : top h = none := by rw [top, hr]; rfl
      have CR := hi (fun W => running_any h W)
      have CD := hi (fun W => drop_any h W)
      rw [runV_none ht] at CR
      rw [dropR_none ht, dropB_none ht] at CD
      have hbx := HP.out.box
      unfold lv lcs at *
      rw [wd_none hr 0 (by omega), wd_none hr 1 (by omega), show ((0 : Nat) : Int) = 0 from rfl] at CR CD hbx
      have HA := hi (AtG.mk (w := w) (L := [(w1.heap.size, 27, #[.int .u32 0, .int .u32 0])]) (fun p hp => by obtain rfl := List.mem_singleton.1 hp; exact hbx) HP.out.below)
      obtain ⟨s0, s1⟩ := hbx.two
      have E1 := eq2_self 0 0
      clear hr ht hbx HP
      go_wp2_with (first
        | (go_at_call 16; ((with_reducible refine (CD.out _).mono ?_); rintro e w3 ⟨rfl, hb⟩; have H3 := hi ((HA.out.later hb).new 27 #[.int .u32 0, .int .u32 0]); obtain ⟨s0, s1⟩ := H3.out.tl.b0.two; clear hb))
        | (go_at_call 20; ((with_reducible refine (CR.out _).mono ?_); rintro e w4 ⟨rfl, hb⟩; have H4 := hi (H3.out.later hb); obtain ⟨s0, s1⟩ := H4.out.tl.b0.two; obtain ⟨t0, t1⟩ := H4.out.b0.two; clear hb)))
      go_ret
      exact ⟨rfl, H4.out.below⟩

end Go.Proofs.Ythfcgedlpnbojaa
