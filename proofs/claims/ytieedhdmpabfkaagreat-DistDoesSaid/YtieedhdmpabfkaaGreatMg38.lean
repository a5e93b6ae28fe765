import Derived.Test.YtieedhdmpabfkaaGreatMg37
import Derived.Test.YtieedhdmpabfkaaGreatMg36
set_option linter.unusedSimpArgs false
namespace Go.Proofs.YtieedhdmpabfkaaGreat
open Go.ChangeShapes Go.WideShapes Go.ChangeAt Go.RowKit Go.Shelf
set_option linter.unusedVariables false
attribute [local go_sem] Oper.semAt_some
instance : Inhabited Xa := ⟨⟨0, 0, 0, 0, 0, 0, St.zero, false⟩⟩
structure XaC (W : World) (b o : Nat) (x : Xa) : Prop where
 c0 : W.cell? ⟨b, o, none⟩ = some (.int .i64 x.d)
 c1 : W.cell? ⟨b, o + 1, none⟩ = some (.int .i64 x.off)
 c2 : W.cell? ⟨b, o + 2, none⟩ = some (.int .i64 x.k)
 c3 : W.cell? ⟨b, o + 3, none⟩ = some (.int .i64 x.id)
 c4 : W.cell? ⟨b, o + 4, none⟩ = some (.int .u64 x.v)
 c5 : W.cell? ⟨b, o + 5, none⟩ = some (.int .i64 x.a)
 c6 : W.cell? ⟨b, o + 6, none⟩ = some (.bool x.s.e)
 c7 : W.cell? ⟨b, o + 7, none⟩ = some (.bool x.s.l)
 c8 : W.cell? ⟨b, o + 8, none⟩ = some (.bool x.s.h)
 c9 : W.cell? ⟨b, o + 9, none⟩ = some (.bool x.s.a)
 c10 : W.cell? ⟨b, o + 10, none⟩ = some (.bool x.hi)
theorem XaC.below {w W : World} {b o : Nat} {x : Xa} (h : XaC w b o x) (k : Below w.heap.size w W) (hb : b < w.heap.size) : XaC W b o x :=
 have K : ∀ j v, w.cell? ⟨b, j, none⟩ = some v → W.cell? ⟨b, j, none⟩ = some v := fun j v e => (k.cell (p := ⟨b, j, none⟩) hb).trans e
 ⟨K _ _ h.c0, K _ _ h.c1, K _ _ h.c2, K _ _ h.c3, K _ _ h.c4, K _ _ h.c5, K _ _ h.c6, K _ _ h.c7, K _ _ h.c8, K _ _ h.c9, K _ _ h.c10⟩
def nthA (xs : List Xa) (k : Nat) : Xa := xs[k]?.getD default
def ActsAt (W : World) (v : Value) (xs : List Xa) : Prop :=
 ∃ (a : Option Addr) (cap : Nat), v = .slice a xs.length cap ∧ (xs ≠ [] → ∃ b off : Nat, a = some ⟨b, off, none⟩ ∧ b < W.heap.size ∧ ∀ j, j < xs.length → (nthA xs j).Ok ∧ XaC W b (off + j * 11) (nthA xs j))
theorem ActsAt.slice {W : World} {v : Value} {xs : List Xa} (h : ActsAt W v xs) : ∃ a cap, v = .slice a xs.length cap := by obtain ⟨a, cap, e, _⟩ := h; exact ⟨a, cap, e⟩
theorem ActsAt.below {w W : World} {v : Value} {xs : List Xa} (h : ActsAt w v xs) (k : Below w.heap.size w W) : ActsAt W v xs := by
 obtain ⟨a, cap, e, hc⟩ := h
 exact ⟨a, cap, e, fun hne => by
  obtain ⟨b, o, ha, hb, hcs⟩ := hc hne
  exact ⟨b, o, ha, Nat.lt_of_lt_of_le hb k.size, fun j hj => ⟨(hcs j hj).1, (hcs j hj).2.below k hb⟩⟩⟩
theorem ActsAt.read {w : World} {a : Option Addr} {n cap : Nat} {xs : List Xa} (h : ActsAt w (.slice a n cap) xs) {k : Nat} (hk : k < n) :
  ∃ b o : Nat, a = some ⟨b, o, none⟩ ∧ (nthA xs k).Ok ∧ ∀ W, Below w.heap.size w W → XaC W b (o + k * 11) (nthA xs k) := by
 obtain ⟨a', cap', e, hc⟩ := h
 injection e with e1 e2 e3
 subst e1; subst e2
 obtain ⟨b, o, ha, hb, hcs⟩ := hc (fun e => by simp [e] at hk)
 obtain ⟨h0, h1⟩ := hcs k hk
 exact ⟨b, o, ha, h0, fun W hW => h1.below hW hb⟩
structure TwW (w : World) (p q r s : Nat) (b c b' c' : Nat → Nat) (D : Ds) (W : World) : Prop where
 tw : TwD W p q r s b c b' c' D
 ok : D.Ok
 lo : w.heap.size ≤ p ∧ w.heap.size ≤ r
 below : Below w.heap.size w W
section
variable {w W W' : World} {p q r s : Nat} {b c b' c' : Nat → Nat} {D D' : Ds}
theorem TwW.later (h : TwW w p q r s b c b' c' D W) (k : Below W.heap.size W W') : TwW w p q r s b c b' c' D W' := ⟨h.tw.below k, h.ok, h.lo, h.below.trans (k.mono h.below.size)⟩
theorem TwW.act (h : TwW w p q r s b c b' c' D W) (k : TwAf W p q r s b c b' c' D' W') (ok : D'.Ok) : TwW w p q r s b c b' c' D' W' :=
 ⟨k.tw, ok, h.lo, h.below.trans (k.kept.toBelow h.below.size (fun i z => by rcases z with z | z <;> have := z.1 <;> have := h.lo <;> omega))⟩
end
def Both (w : World) (D : Ds) (e : Ending) (W : World) : Prop := ∃ p q r s b c b' c', e = .returned (.tuple #[.pointer (some ⟨b 0, 0, none⟩), .pointer (some ⟨b' 0, 0, none⟩)]) ∧ TwW w p q r s b c b' c' D W
theorem u8_i64 {x : Int} (h0 : 0 ≤ x) (h1 : x < 256) : IntKind.i64.wrap x = x := by rw [IntKind.wrap_i64]; omega
set_option maxHeartbeats 2000000 in
theorem both_any (f n : Int) (w : World) (hf0 : 0 ≤ f) (hf1 : f < 256) (hn0 : 0 ≤ n) (hn1 : n < 256) :
  Calls Tryz.prog 11 #[.int .u8 f, .int .u8 n] w (Both w (Ds.new (1 + (f % 8).toNat) (n % 65).toNat)) := by
 obtain ⟨m, hm⟩ : ∃ m : Nat, (n % 65).toNat = m := ⟨_, rfl⟩
 have hm' : n.tmod 65 = (m : Int) := by rw [Int.tmod_eq_emod_of_nonneg hn0]; omega
 have hlt : m < 65 := by omega
 obtain ⟨g, hg⟩ : ∃ g : Nat, (f % 8).toNat = g := ⟨_, rfl⟩
 have hg' : f.tmod 8 = (g : Int) := by rw [Int.tmod_eq_emod_of_nonneg hf0]; omega
 have hg0 : g < 8 := by omega
 have hw1 : IntKind.i64.wrap (g : Int) = g := u8_i64 (by omega) (by omega)
 have hw2 : IntKind.i64.wrap (m : Int) = m := u8_i64 (by omega) (by omega)
 have hw3 : IntKind.u8.wrap (m : Int) = m := by rw [IntKind.wrap_u8]; omega
 have hw4 : IntKind.u8.wrap (g : Int) = g := by rw [IntKind.wrap_u8]; omega
 rw [hm, hg]
 obtain ⟨k, hk⟩ : ∃ k, 1 + g = k := ⟨_, rfl⟩
 have hw5 : IntKind.i64.wrap (1 + (g : Int)) = k := by rw [IntKind.wrap_i64]; omega
 rw [hk]
 have CN := hi (fun W => new_dist k m W (by omega) (by omega) (by omega))
 have CR := hi (fun W => rnew_dist k m W (by omega) (by omega) (by omega))
 have HOK := hi (Ds.new_ok (n := k) (m := m) (by omega) (by omega) (by omega))
 clear hm hg hk
 go_enter Tryz.func11, Tryz.ntmps11
 go_wp2_with (first
  | (go_at_call 18; ((with_reducible refine (CN.out _).mono ?_); rintro e w1 ⟨b, c, rfl, hd, hB⟩; have H1 := hi hd; have HB1 := hi hB; clear hd hB))
  | (go_at_call 19; ((with_reducible refine (CR.out _).mono ?_); rintro e w2 ⟨b', c', rfl, hd, hB⟩; have H2 := hi hd; have HB2 := hi hB; clear hd hB)))
 go_ret2
 have hs := HB1.out.size
 exact ⟨_, _, _, _, b, c, b', c', rfl, ⟨H1.out.below HB2.out, H2.out, fun i x y => by have := x.2; have := y.1; omega⟩, HOK.out, ⟨Nat.le_refl _, hs⟩, HB1.out.trans (HB2.out.mono hs)⟩
end Go.Proofs.YtieedhdmpabfkaaGreat
