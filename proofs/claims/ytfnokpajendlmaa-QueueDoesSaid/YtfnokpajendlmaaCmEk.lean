/-
  The document's Load at every call.
-/
import Derived.Test.YtfnokpajendlmaaCmEj
namespace Go.Proofs.Ytfnokpajendlmaa
open Go.ChangeShapes Go.WideShapes Go.ChangeAt Go.RowKit
set_option linter.unusedVariables false
set_option linter.unusedSimpArgs false

theorem CB.fourz {W : World} {b : Nat} {t : TypeId} {n : Ws} (h : CB W b t (Ws.cs n)) : W.cell? ⟨b, 0, none⟩ = some (.int .u64 (n 0)) ∧ W.cell? ⟨b, 1, none⟩ = some (.int .u64 (n 1)) ∧ W.cell? ⟨b, 2, none⟩ = some (.int .u64 (n 2)) ∧ W.cell? ⟨b, 3, none⟩ = some (.int .u64 (n 3)) := CB.four h
def offK (off : Int) (k : Nat) : Int := RowKit.wrap64 (off + 8 * (k : Int))
theorem offK_is {off : Int} (ho : i64B off) (k : Nat) (hk : k < 4) : offK off k = RowKit.wrap64 (off + 8 * (k : Int)) := rfl
/-- The words that are read so far. -/
def ldP (bs : List Nat) (a s off : Int) (k : Nat) : Ws := fun j => if j < k then rdE bs a s (offK off j) 8 else 0
theorem ldP_succ (bs : List Nat) (a s off : Int) (k : Nat) : (fun j => if j = k then rdE bs a s (offK off k) 8 else ldP bs a s off k j) = ldP bs a s off (k + 1) := by
  funext j
  simp only [ldP]
  by_cases h : j = k
  · subst h; simp
  · rw [if_neg h]
    by_cases h2 : j < k
    · rw [if_pos h2, if_pos (by omega)]
    · rw [if_neg h2, if_neg (by omega)]
/-- What the document's Load keeps through its loop. -/
structure RlI (w : World) (p g cap : Nat) (a s : Int) (bs : List Nat) (z : Ws) (W : World) : Prop where
  mem : MemAt 60 W p g cap bs
  box : CB W w.heap.size 23 #[.int .i64 a, .int .i64 s]
  r : CB W (w.heap.size + 1) 36 (Cm.cs Cm.zero)
  ws : CB W (w.heap.size + 1 + 1) 94 (Ws.cs z)
  below : Below w.heap.size w W
theorem RlI.later {w : World} {p g cap : Nat} {a s : Int} {bs : List Nat} {z : Ws} {W W' : World} (h : RlI w p g cap a s bs z W) (k : Below W.heap.size W W') : RlI w p g cap a s bs z W' :=
  ⟨h.mem.below k, h.box.below k, h.r.below k, h.ws.below k, h.below.trans (k.mono h.below.size)⟩
theorem RlI.put {w : World} {p g cap : Nat} {a s : Int} {bs : List Nat} {off : Int} {W : World} {k : Nat} (h : RlI w p g cap a s bs (ldP bs a s off k) W) (hp : p < w.heap.size) (hg : g < w.heap.size) (hk : k < 4) :
    RlI w p g cap a s bs (ldP bs a s off (k + 1)) (W.setCell ⟨w.heap.size + 1 + 1, k, none⟩ (.int .u64 (rdE bs a s (offK off k) 8 : Nat))) := by
  have hb : Kept (· = w.heap.size + 1 + 1) W (W.setCell ⟨w.heap.size + 1 + 1, k, none⟩ (.int .u64 (rdE bs a s (offK off k) 8 : Nat))) := kept_setCell W _ _ _
  refine ⟨h.mem.kept hb (by omega) (by omega), h.box.other _ _ _ (by omega), h.r.other _ _ _ (by omega), ?_, below_set h.below (by omega) _⟩
  have := h.ws.set k (.int .u64 (rdE bs a s (offK off k) 8 : Nat))
  rwa [ws_set _ hk, ldP_succ] at this

set_option maxRecDepth 100000 in
set_option maxHeartbeats 8000000 in
theorem rload_any (p g cap : Nat) (bs : List Nat) (a s off : Int) (w : World) (hM : MemAt 60 w p g cap bs) (ha : i64B a) (hs : i64B s) (ho : i64B off) :
    Calls Try.prog 30 #[.pointer (some ⟨p, 0, none⟩), win a s, .int .i64 off] w fun e w' => e = .returned (.tuple #[(ldV bs a s off).v, .int .i64 (ldE bs a s off)]) ∧ Below w.heap.size w w' := by
  have hln := hM.len
  have hpl : p < w.heap.size := hM.plt
  have hgl : g < w.heap.size := hM.bytes.lt
  have HRD := hi (fun (k : Nat) W (h : MemAt 60 W p g cap bs) => rread_any p g cap bs a s (offK off k) 8 W h ha.1 ha.2 hs.1 hs.2)
  have HNO := hi (fun (k : Nat) (hk : k < 4) (hne : accE bs.length a s (offK off k) 8 ≠ 0) => show entOk bs.length a s off = false by
    cases he : entOk bs.length a s off
    · rfl
    · exfalso
      obtain ⟨A, S, o, rfl, rfl, rfl, h1, h2, h3⟩ := ent_out hln he
      apply hne
      rw [offK_is ho k hk, show RowKit.wrap64 ((o : Int) + 8 * (k : Int)) = (o : Int) + 8 * (k : Int) by unfold RowKit.wrap64; omega]
      exact acc_at hln h1 h2 h3 hk)
  have HYES := hi (fun (h : ∀ j, j < 4 → accE bs.length a s (offK off j) 8 = 0) => show entOk bs.length a s off = true ∧ ∀ j, j < 4 → ldP bs a s off 4 j = ldW bs (a + off) j by
    have h0 := h 0 (by omega)
    have h3 := h 3 (by omega)
    rw [offK_is ho 0 (by omega)] at h0
    rw [offK_is ho 3 (by omega)] at h3
    have he := ent_of_acc hln ho h0 h3
    refine ⟨he, fun j hj => ?_⟩
    have h1 := (rrd_eq hln he hj).1
    obtain ⟨A, S, o, rfl, rfl, rfl, _, _, _⟩ := ent_out hln he
    simp only [ldP]
    rw [if_pos hj, offK_is ho j hj, show RowKit.wrap64 ((o : Int) + 8 * (j : Int)) = (o : Int) + 8 * (j : Int) by unfold RowKit.wrap64; omega]
    exact h1)
  have HDC := hi (fun W => rdec_any (ldW bs (a + off)) (fun j => rdE_lt (fun x hx => hM.bytes.2 x hx) hln) W)
  have HV := hi (show ldV bs a s off = (if entOk bs.length a s off = true then decR (ldW bs (a + off)) else Cm.zero) ∧ ldE bs a s off = (if entOk bs.length a s off = true then errN (decOk (ldW bs (a + off))) else 42) from ⟨rfl, rfl⟩)
  have HM := hi hM
  obtain ⟨dr, hdr⟩ : ∃ v, ldV bs a s off = v := ⟨_, rfl⟩
  obtain ⟨de, hde⟩ : ∃ v, ldE bs a s off = v := ⟨_, rfl⟩
  rw [hdr, hde] at HV ⊢
  obtain ⟨ws, hws⟩ : ∃ ws, ldW bs (a + off) = ws := ⟨_, rfl⟩
  rw [hws] at HV HDC HYES
  obtain ⟨cc, hcc⟩ : ∃ v, decR ws = v := ⟨_, rfl⟩
  obtain ⟨ck, hck⟩ : ∃ v, decOk ws = v := ⟨_, rfl⟩
  rw [hcc, hck] at HV HDC
  obtain ⟨eo, heo⟩ : ∃ v, entOk bs.length a s off = v := ⟨_, rfl⟩
  rw [heo] at HV HNO HYES
  clear hdr hde hws heo ha hs ho hM
  unfold win tupU at HRD
  unfold win
  have HZC := hi (show ck = false → cc = Cm.zero from fun h => by rw [← hcc, decR, if_neg (by rw [hck, h]; decide)])
  obtain ⟨c1, c2, c3, c4, c5, c6, c7, c8, c9⟩ := cc
  simp only [Cm.zero, Cm.mk.injEq] at HZC
  clear hcc hck
  dsimp only [Cm.v] at HDC
  have HI0 := hi (show RlI w p g cap a s bs (ldP bs a s off 0) (((w.alloc (.cells #[.int .i64 a, .int .i64 s] 23)).alloc (.cells (Cm.cs Cm.zero) 36)).alloc (.cells (Ws.cs wz) 94)) from
    ⟨((HM.out.below (bal _ _)).below (bal _ _)).below (bal _ _), ((CB.new w _ _).alloc _).alloc _, cb_second.alloc _, cb_third, bal_three w _ _ _⟩)
  go_enter Try.func30, Try.ntmps30
  go_wp2
  go_loopw [9] (fun i wr => ∃ k : Nat, k ≤ 4 ∧ i = .int .i64 k ∧ Hi ((∀ j, j < k → accE bs.length a s (offK off j) 8 = 0) ∧ RlI w p g cap a s bs (ldP bs a s off k) wr)) (fun i _ => 4 - (intOf i).toNat)
  case atStart => exact ⟨0, by omega, rfl, hi ⟨fun j h => absurd h (by omega), HI0.out⟩⟩
  case round =>
    obtain ⟨k, hk4, rfl, HJ⟩ := hrel
    by_cases hlt : k < 4
    · have x1 : (k : Int) < 4 := by omega
      have HR := hi (HRD.out k)
      obtain ⟨q0, q1⟩ := CB.two HJ.out.2.box
      obtain ⟨rv, hrv⟩ : ∃ v, rdE bs a s (offK off k) 8 = v := ⟨_, rfl⟩
      obtain ⟨ac, hac⟩ : ∃ v, accE bs.length a s (offK off k) 8 = v := ⟨_, rfl⟩
      rw [hrv, hac] at HR
      unfold offK at HR
      have HK := hi (And.intro hrv (And.intro hac hlt))
      clear hrv hac
      by_cases hz : ac = 0
      · subst hz
        go_wp2_with (go_at_call 49; ((with_reducible refine (HR.out _ HJ.out.2.mem).mono ?_); rintro e w2 ⟨rfl, hb2⟩; have HJ2 := hi (HJ.out.2.later hb2); obtain ⟨r0, r1, r2, r3⟩ := CB.fourz HJ2.out.ws; have wk := HJ2.out.ws.ws hlt; have rf := HJ2.out.ws.frozen; have rz := HJ2.out.ws.lt; clear hb2 q0 q1 r0 r1 r2 r3))
        go_roundw
        case rel =>
          refine ⟨k + 1, HK.out.2.2, by go_num, hi ⟨fun j hj => ?_, ?_⟩⟩
          · by_cases e : j = k
            · subst e; exact HK.out.2.1
            · exact HJ.out.1 j (by omega)
          · have := HJ2.out.put hpl hgl HK.out.2.2
            rw [HK.out.1] at this
            exact this
        case measure => have := HK.out.2.2; simp [intOf]; omega
      · have hne : (ac != 0) = true := by simpa using hz
        obtain rfl : eo = false := HNO.out k hlt (by rw [HK.out.2.1]; exact hz)
        obtain rfl : dr = Cm.zero := by have := HV.out.1; simpa using this
        obtain rfl : de = 42 := by have := HV.out.2; simpa using this
        clear HV HNO HYES HDC hz
        go_wp2_with (go_at_call 49; ((with_reducible refine (HR.out _ HJ.out.2.mem).mono ?_); rintro e w2 ⟨rfl, hb2⟩; have HJ2 := hi (HJ.out.2.later hb2); obtain ⟨r0, r1, r2, r3, r4, r5, r6, r7, r8⟩ := CB.cm9 HJ2.out.r; have rf := HJ2.out.r.frozen; have rz := HJ2.out.r.lt; clear hb2 q0 q1))
        exact bodyPost_ret (results_cmt rfl _ _ (w.heap.size + 1) _ _ _ _ _ _ _ _ _ _ rfl rfl (CB.set9 (show CB _ _ _ #[_, _, _, _, _, _, _, _, _] from HJ2.out.r) _ _ _ _ _ _ _ _ _)) rfl ⟨rfl, below_set9 HJ2.out.below (by omega) _ _ _ _ _ _ _ _ _⟩
    · obtain rfl : k = 4 := by omega
      have x1 : ¬ ((4 : Nat) : Int) < 4 := by omega
      obtain ⟨he, hw4⟩ := HYES.out HJ.out.1
      subst he
      have hdr := HV.out.1
      have hde := HV.out.2
      rw [if_pos rfl] at hdr hde
      subst hdr hde
      obtain ⟨q0, q1, q2, q3⟩ := CB.fourz HJ.out.2.ws
      rw [hw4 0 (by omega)] at q0
      rw [hw4 1 (by omega)] at q1
      rw [hw4 2 (by omega)] at q2
      rw [hw4 3 (by omega)] at q3
      clear HV HNO HYES hw4 hk4 hlt
      cases ck
      · obtain ⟨rfl, rfl, rfl, rfl, rfl, rfl, rfl, rfl, rfl⟩ := HZC.out rfl
        go_wp2_with (go_at_call 50; ((with_reducible refine (HDC.out _).mono ?_); rintro e w3 ⟨rfl, hb3⟩; have HI3 := hi ((HJ.out.2.later hb3).later (bal w3 (.cells #[.int .i64 0, .int .i64 0, .int .i64 0, .int .i64 0, .int .i64 0, .int .i64 0, .int .i64 0, .int .i64 0, .bool false] 36))); obtain ⟨r0, r1, r2, r3, r4, r5, r6, r7, r8⟩ := CB.cm9 HI3.out.r; have rf := HI3.out.r.frozen; have rz := HI3.out.r.lt; clear hb3 q0 q1 q2 q3))
        exact bodyPost_ret (results_cmt rfl _ _ (w.heap.size + 1) _ _ _ _ _ _ _ _ _ _ rfl rfl (CB.set9 (show CB _ _ _ #[_, _, _, _, _, _, _, _, _] from HI3.out.r) _ _ _ _ _ _ _ _ _)) rfl ⟨rfl, below_set9 HI3.out.below (by omega) _ _ _ _ _ _ _ _ _⟩
      · go_wp2_with (go_at_call 50; ((with_reducible refine (HDC.out _).mono ?_); rintro e w3 ⟨rfl, hb3⟩; have HI3 := hi ((HJ.out.2.later hb3).later (bal w3 (.cells #[.int .i64 c1, .int .i64 c2, .int .i64 c3, .int .i64 c4, .int .i64 c5, .int .i64 c6, .int .i64 c7, .int .i64 c8, .bool c9] 36))); obtain ⟨r0, r1, r2, r3, r4, r5, r6, r7, r8⟩ := CB.cm9 HI3.out.r; have rf := HI3.out.r.frozen; have rz := HI3.out.r.lt; clear hb3 q0 q1 q2 q3))
        exact bodyPost_ret (results_cmt rfl _ _ (w.heap.size + 1) _ _ _ _ _ _ _ _ _ _ rfl rfl (CB.set9 (show CB _ _ _ #[_, _, _, _, _, _, _, _, _] from HI3.out.r) _ _ _ _ _ _ _ _ _)) rfl ⟨rfl, below_set9 HI3.out.below (by omega) _ _ _ _ _ _ _ _ _⟩

end Go.Proofs.Ytfnokpajendlmaa
