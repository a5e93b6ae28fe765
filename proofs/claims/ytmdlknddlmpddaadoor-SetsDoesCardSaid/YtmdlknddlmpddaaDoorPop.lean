/-
  Plain reckoning: the number of ones of a 64-bit word, as math/bits.OnesCount64 reckons it (the masks and sums), is the number of its bits that are set. Nothing of the program.
-/
namespace Go.Proofs.YtmdlknddlmpddaaDoor
set_option linter.unusedVariables false

/-- How many of the first n bits are set. -/
def popN : Nat → Nat → Nat
  | 0, _ => 0
  | n + 1, x => x % 2 + popN n (x / 2)

def pop8 (x : Nat) : Nat := popN 8 x

theorem popN_add : ∀ (m n x : Nat), popN (m + n) x = popN m x + popN n (x / 2 ^ m)
  | 0, n, x => by simp [popN]
  | m + 1, n, x => by
    rw [show m + 1 + n = (m + n) + 1 by omega, popN, popN, popN_add m n (x / 2), Nat.div_div_eq_div_mul, Nat.pow_succ, Nat.mul_comm (2 ^ m) 2]
    omega

theorem popN_mod : ∀ (m x : Nat), popN m (x % 2 ^ m) = popN m x
  | 0, _ => rfl
  | m + 1, x => by
    rw [popN, popN, ← popN_mod m (x / 2)]
    congr 1
    · rw [Nat.pow_succ, Nat.mul_comm]; exact Nat.mod_mul_right_mod x 2 (2 ^ m)
    · congr 1
      rw [Nat.pow_succ, Nat.mul_comm, Nat.mod_mul_right_div_self]

theorem popN_le : ∀ (m x : Nat), popN m x ≤ m
  | 0, _ => Nat.le_refl _
  | m + 1, x => by rw [popN]; have := popN_le m (x / 2); omega

theorem and_byte (a M c : Nat) (hc : c < 256) : a &&& (M * 256 + c) = ((a / 256) &&& M) * 256 + (a % 256 &&& c) := by
  have h1 : (a &&& (M * 256 + c)) / 256 = (a / 256) &&& M := by
    have := @Nat.shiftRight_and_distrib 8 a (M * 256 + c)
    simp only [Nat.shiftRight_eq_div_pow] at this
    rw [show (2 : Nat) ^ 8 = 256 from rfl] at this
    rw [this]
    congr 1
    omega
  have h2 : (a &&& (M * 256 + c)) % 256 = (a % 256 &&& c) := by
    have := @Nat.and_mod_two_pow a (M * 256 + c) 8
    rw [show (2 : Nat) ^ 8 = 256 from rfl] at this
    rw [this]
    congr 1
    omega
  omega

def st1 (b : Nat) : Nat := (b / 2 &&& 85) + (b &&& 85)
def st2 (b : Nat) : Nat := (b / 4 &&& 51) + (b &&& 51)
def st3 (b : Nat) : Nat := (b / 16 + b) &&& 15

theorem byte1 : ∀ b < 256, ∀ q < 2, ((q * 128 + b / 2) &&& 85) = (b / 2 &&& 85) := by decide +kernel
theorem byte1_le : ∀ b < 256, st1 b < 256 := by decide +kernel
theorem byte2 : ∀ b < 256, ∀ q < 4, ((q * 64 + b / 4) &&& 51) = (b / 4 &&& 51) := by decide +kernel
theorem byte2_le : ∀ b < 256, st2 b < 256 := by decide +kernel
theorem bytes_pop : ∀ b < 256, st3 (st2 (st1 b)) = pop8 b ∧ st2 (st1 b) / 16 + st2 (st1 b) < 256 ∧ st2 (st1 b) % 16 ≤ 4 ∧ st2 (st1 b) / 16 ≤ 4 := by decide +kernel

/-- The masks, byte by byte. -/
def rep (c : Nat) : Nat → Nat
  | 0 => 0
  | n + 1 => rep c n * 256 + c

/-- A word of n bytes, and what becomes of it byte by byte. -/
def mapB (f : Nat → Nat) : Nat → Nat → Nat
  | 0, _ => 0
  | n + 1, x => mapB f n (x / 256) * 256 + f (x % 256)

theorem step1 : ∀ (n x : Nat), x < 256 ^ n → (x / 2 &&& rep 85 n) + (x &&& rep 85 n) = mapB st1 n x
  | 0, x, h => by simp [rep, mapB]
  | n + 1, x, h => by
    have ih := step1 n (x / 256) (by rw [Nat.pow_succ] at h; omega)
    rw [rep, mapB, and_byte _ _ _ (by omega), and_byte _ _ _ (by omega), ← ih]
    have e1 : x / 2 / 256 = x / 256 / 2 := by omega
    have e2 : x / 2 % 256 = (x / 256 % 2) * 128 + (x % 256) / 2 := by omega
    rw [e1, e2, byte1 _ (by omega) _ (by omega)]
    unfold st1
    omega

theorem step2 : ∀ (n x : Nat), x < 256 ^ n → (x / 4 &&& rep 51 n) + (x &&& rep 51 n) = mapB st2 n x
  | 0, x, h => by simp [rep, mapB]
  | n + 1, x, h => by
    have ih := step2 n (x / 256) (by rw [Nat.pow_succ] at h; omega)
    rw [rep, mapB, and_byte _ _ _ (by omega), and_byte _ _ _ (by omega), ← ih]
    have e1 : x / 4 / 256 = x / 256 / 4 := by omega
    have e2 : x / 4 % 256 = (x / 256 % 4) * 64 + (x % 256) / 4 := by omega
    rw [e1, e2, byte2 _ (by omega) _ (by omega)]
    unfold st2
    omega

theorem mapB_lt {f : Nat → Nat} (hf : ∀ b < 256, f b < 256) : ∀ (n x : Nat), mapB f n x < 256 ^ n
  | 0, _ => by simp [mapB]
  | n + 1, x => by
    have := mapB_lt hf n (x / 256)
    have := hf (x % 256) (by omega)
    rw [mapB, Nat.pow_succ]; omega

theorem mapB_byte {f : Nat → Nat} (hf : ∀ b < 256, f b < 256) : ∀ (n x : Nat), mapB f (n + 1) x % 256 = f (x % 256) ∧ mapB f (n + 1) x / 256 = mapB f n (x / 256) := fun n x => by
  have := hf (x % 256) (by omega)
  rw [mapB]; omega

theorem mapB_comp {f g : Nat → Nat} (hf : ∀ b < 256, f b < 256) : ∀ (n x : Nat), mapB g n (mapB f n x) = mapB (fun b => g (f b)) n x
  | 0, _ => rfl
  | n + 1, x => by
    obtain ⟨h1, h2⟩ := mapB_byte hf n x
    rw [mapB, h1, h2, mapB_comp hf n (x / 256)]
    rfl

theorem low3 : ∀ c ≤ 68, ∀ q ≤ 4, ((c + c / 16 + q * 16) &&& 15) = st3 c := by decide +kernel

theorem mapB_nib {g : Nat → Nat} (hg : ∀ b < 256, g b < 256 ∧ g b % 16 ≤ 4 ∧ g b / 16 ≤ 4) : ∀ (n y : Nat), mapB g n y % 16 ≤ 4
  | 0, _ => by simp [mapB]
  | n + 1, y => by
    have := hg (y % 256) (by omega)
    rw [mapB]; omega

theorem step3 {g : Nat → Nat} (hg : ∀ b < 256, g b < 256 ∧ g b % 16 ≤ 4 ∧ g b / 16 ≤ 4) : ∀ (n y : Nat), ((mapB g n y / 16 + mapB g n y) &&& rep 15 n) = mapB (fun b => st3 (g b)) n y
  | 0, y => by simp [rep, mapB]
  | n + 1, y => by
    have ih := step3 hg n (y / 256)
    have hc := hg (y % 256) (by omega)
    have hq := mapB_nib hg n (y / 256)
    rw [mapB, mapB, rep, and_byte _ _ _ (by omega), ← ih]
    generalize mapB g n (y / 256) = q at *
    generalize hcc : g (y % 256) = c at *
    have e1 : ((q * 256 + c) / 16 + (q * 256 + c)) / 256 = q / 16 + q := by omega
    have e2 : ((q * 256 + c) / 16 + (q * 256 + c)) % 256 = c + c / 16 + q % 16 * 16 := by omega
    rw [e1, e2, low3 c (by omega) (q % 16) hq]

theorem rep55 : rep 85 8 = 6148914691236517205 := by decide +kernel
theorem rep33 : rep 51 8 = 3689348814741910323 := by decide +kernel
theorem rep0f : rep 15 8 = 1085102592571150095 := by decide +kernel

theorem bytes_good : ∀ b < 256, st2 (st1 b) < 256 ∧ st2 (st1 b) % 16 ≤ 4 ∧ st2 (st1 b) / 16 ≤ 4 := by decide +kernel
theorem pop8_le (b : Nat) : pop8 b ≤ 8 := popN_le 8 b

theorem mapB_congr {f g : Nat → Nat} (h : ∀ b < 256, f b = g b) : ∀ (n x : Nat), mapB f n x = mapB g n x
  | 0, _ => rfl
  | n + 1, x => by rw [mapB, mapB, mapB_congr h n, h _ (by omega)]

def s1 (x : Nat) : Nat := (x / 2 &&& 6148914691236517205) + (x &&& 6148914691236517205)
def s2 (x : Nat) : Nat := (x / 4 &&& 3689348814741910323) + (x &&& 3689348814741910323)
def s3 (x : Nat) : Nat := (x / 16 + x) &&& 1085102592571150095

/-- The three first steps, of a 64-bit word. -/
theorem steps (x : Nat) (hx : x < 18446744073709551616) : s3 (s2 (s1 x)) = mapB pop8 8 x := by
  have ha : s1 x = mapB st1 8 x := by
    unfold s1; rw [← rep55]; exact step1 8 x (by omega)
  have hb : s2 (s1 x) = mapB (fun y => st2 (st1 y)) 8 x := by
    have h := mapB_lt byte1_le 8 x
    rw [← ha] at h
    unfold s2; rw [← rep33, step2 8 _ h, ha, mapB_comp byte1_le]
  rw [hb]
  unfold s3
  rw [← rep0f, step3 bytes_good 8 x]
  exact mapB_congr (fun y hy => (bytes_pop y hy).1) 8 x

theorem mapB8 (f : Nat → Nat) (x : Nat) : mapB f 8 x = ((((((((0 * 256 + f (x / 256 / 256 / 256 / 256 / 256 / 256 / 256 % 256)) * 256 + f (x / 256 / 256 / 256 / 256 / 256 / 256 % 256)) * 256 + f (x / 256 / 256 / 256 / 256 / 256 % 256)) * 256 + f (x / 256 / 256 / 256 / 256 % 256)) * 256 + f (x / 256 / 256 / 256 % 256)) * 256 + f (x / 256 / 256 % 256)) * 256 + f (x / 256 % 256)) * 256 + f (x % 256)) := by
  simp only [mapB]

theorem pop64_bytes (x : Nat) : popN 64 x = pop8 (x % 256) + (pop8 (x / 256 % 256) + (pop8 (x / 256 / 256 % 256) + (pop8 (x / 256 / 256 / 256 % 256) + (pop8 (x / 256 / 256 / 256 / 256 % 256) + (pop8 (x / 256 / 256 / 256 / 256 / 256 % 256) +
    (pop8 (x / 256 / 256 / 256 / 256 / 256 / 256 % 256) + pop8 (x / 256 / 256 / 256 / 256 / 256 / 256 / 256 % 256))))))) := by
  have e : ∀ y, pop8 (y % 256) = popN 8 y := fun y => popN_mod 8 y
  simp only [e]
  rw [show (64 : Nat) = 8 + (8 + (8 + (8 + (8 + (8 + (8 + 8)))))) from rfl]
  simp only [popN_add, show (2 : Nat) ^ 8 = 256 from rfl]

theorem sum_d (y0 y1 y2 y3 y4 y5 y6 y7 c : Nat) (h0 : y0 ≤ 8) (h1 : y1 ≤ 8) (h2 : y2 ≤ 8) (h3 : y3 ≤ 8) (h4 : y4 ≤ 8) (h5 : y5 ≤ 8) (h6 : y6 ≤ 8) (h7 : y7 ≤ 8) (hc : c = y0 + 256 * (y1 + 256 * (y2 + 256 * (y3 + 256 * (y4 + 256 * (y5 + 256 * (y6 + 256 * (y7)))))))) : c + c / 256 = (y0 + y1) + 256 * ((y1 + y2) + 256 * ((y2 + y3) + 256 * ((y3 + y4) + 256 * ((y4 + y5) + 256 * ((y5 + y6) + 256 * ((y6 + y7) + 256 * ((y7)))))))) := by
  have h : c / 256 = y1 + 256 * (y2 + 256 * (y3 + 256 * (y4 + 256 * (y5 + 256 * (y6 + 256 * (y7)))))) := by omega
  omega
theorem sum_e (y0 y1 y2 y3 y4 y5 y6 y7 d : Nat) (h0 : y0 ≤ 8) (h1 : y1 ≤ 8) (h2 : y2 ≤ 8) (h3 : y3 ≤ 8) (h4 : y4 ≤ 8) (h5 : y5 ≤ 8) (h6 : y6 ≤ 8) (h7 : y7 ≤ 8) (hd : d = (y0 + y1) + 256 * ((y1 + y2) + 256 * ((y2 + y3) + 256 * ((y3 + y4) + 256 * ((y4 + y5) + 256 * ((y5 + y6) + 256 * ((y6 + y7) + 256 * ((y7))))))))) : d + d / 65536 = (y0 + y1 + y2 + y3) + 256 * ((y1 + y2 + y3 + y4) + 256 * ((y2 + y3 + y4 + y5) + 256 * ((y3 + y4 + y5 + y6) + 256 * ((y4 + y5 + y6 + y7) + 256 * ((y5 + y6 + y7) + 256 * ((y6 + y7) + 256 * ((y7)))))))) := by
  have h1 : d / 256 = (y1 + y2) + 256 * ((y2 + y3) + 256 * ((y3 + y4) + 256 * ((y4 + y5) + 256 * ((y5 + y6) + 256 * ((y6 + y7) + 256 * ((y7))))))) := by omega
  have h2 : d / 256 / 256 = (y2 + y3) + 256 * ((y3 + y4) + 256 * ((y4 + y5) + 256 * ((y5 + y6) + 256 * ((y6 + y7) + 256 * ((y7)))))) := by rw [h1]; clear hd h1; omega
  rw [Nat.div_div_eq_div_mul] at h2
  rw [show (65536 : Nat) = 256 * 256 from rfl, h2, hd]
  clear h1 h2 hd
  omega
theorem sum_f (y0 y1 y2 y3 y4 y5 y6 y7 e : Nat) (h0 : y0 ≤ 8) (h1 : y1 ≤ 8) (h2 : y2 ≤ 8) (h3 : y3 ≤ 8) (h4 : y4 ≤ 8) (h5 : y5 ≤ 8) (h6 : y6 ≤ 8) (h7 : y7 ≤ 8) (he : e = (y0 + y1 + y2 + y3) + 256 * ((y1 + y2 + y3 + y4) + 256 * ((y2 + y3 + y4 + y5) + 256 * ((y3 + y4 + y5 + y6) + 256 * ((y4 + y5 + y6 + y7) + 256 * ((y5 + y6 + y7) + 256 * ((y6 + y7) + 256 * ((y7))))))))) : (e + e / 4294967296) % 128 = y0 + y1 + y2 + y3 + y4 + y5 + y6 + y7 := by
  have h1 : e / 256 = (y1 + y2 + y3 + y4) + 256 * ((y2 + y3 + y4 + y5) + 256 * ((y3 + y4 + y5 + y6) + 256 * ((y4 + y5 + y6 + y7) + 256 * ((y5 + y6 + y7) + 256 * ((y6 + y7) + 256 * ((y7))))))) := by omega
  have h2 : e / 256 / 256 = (y2 + y3 + y4 + y5) + 256 * ((y3 + y4 + y5 + y6) + 256 * ((y4 + y5 + y6 + y7) + 256 * ((y5 + y6 + y7) + 256 * ((y6 + y7) + 256 * ((y7)))))) := by rw [h1]; clear he h1; omega
  have h3 : e / 256 / 256 / 256 = (y3 + y4 + y5 + y6) + 256 * ((y4 + y5 + y6 + y7) + 256 * ((y5 + y6 + y7) + 256 * ((y6 + y7) + 256 * ((y7))))) := by rw [h2]; clear he h1 h2; omega
  have h4 : e / 256 / 256 / 256 / 256 = (y4 + y5 + y6 + y7) + 256 * ((y5 + y6 + y7) + 256 * ((y6 + y7) + 256 * ((y7)))) := by rw [h3]; clear he h1 h2 h3; omega
  clear h1 h2 h3
  have h5 : e / 4294967296 = (y4 + y5 + y6 + y7) + 256 * ((y5 + y6 + y7) + 256 * ((y6 + y7) + 256 * ((y7)))) := by rw [← h4]; simp only [Nat.div_div_eq_div_mul]
  rw [h5, he]
  clear h4 h5 he
  omega

/-- The whole of it. -/
def s4 (c : Nat) : Nat := c + c / 256
def s5 (c : Nat) : Nat := c + c / 65536
def s6 (c : Nat) : Nat := c + c / 4294967296
theorem sums (y0 y1 y2 y3 y4 y5 y6 y7 c : Nat) (h0 : y0 ≤ 8) (h1 : y1 ≤ 8) (h2 : y2 ≤ 8) (h3 : y3 ≤ 8) (h4 : y4 ≤ 8) (h5 : y5 ≤ 8) (h6 : y6 ≤ 8) (h7 : y7 ≤ 8) (hc : c = y0 + 256 * (y1 + 256 * (y2 + 256 * (y3 + 256 * (y4 + 256 * (y5 + 256 * (y6 + 256 * (y7)))))))) : s6 (s5 (s4 c)) % 128 = y0 + y1 + y2 + y3 + y4 + y5 + y6 + y7 :=
  sum_f y0 y1 y2 y3 y4 y5 y6 y7 _ h0 h1 h2 h3 h4 h5 h6 h7 (sum_e y0 y1 y2 y3 y4 y5 y6 y7 _ h0 h1 h2 h3 h4 h5 h6 h7 (sum_d y0 y1 y2 y3 y4 y5 y6 y7 c h0 h1 h2 h3 h4 h5 h6 h7 hc))

theorem onesCount (x : Nat) (hx : x < 18446744073709551616) : s6 (s5 (s4 (s3 (s2 (s1 x))))) % 128 = popN 64 x := by
  rw [steps x hx, pop64_bytes]
  have h := sums (pop8 (x % 256)) (pop8 (x / 256 % 256)) (pop8 (x / 256 / 256 % 256)) (pop8 (x / 256 / 256 / 256 % 256)) (pop8 (x / 256 / 256 / 256 / 256 % 256)) (pop8 (x / 256 / 256 / 256 / 256 / 256 % 256)) (pop8 (x / 256 / 256 / 256 / 256 / 256 / 256 % 256)) (pop8 (x / 256 / 256 / 256 / 256 / 256 / 256 / 256 % 256)) (mapB pop8 8 x) (pop8_le _) (pop8_le _) (pop8_le _) (pop8_le _) (pop8_le _) (pop8_le _) (pop8_le _) (pop8_le _) (by rw [mapB8]; omega)
  rw [h]
  omega

theorem s1_lt (x : Nat) (hx : x < 18446744073709551616) : s1 x < 18446744073709551616 := by
  have h := mapB_lt byte1_le 8 x
  unfold s1; rw [← rep55, step1 8 x (by omega)]; omega
theorem b12_le : ∀ b < 256, st2 (st1 b) < 256 := by decide +kernel
theorem s2_lt (x : Nat) (hx : x < 18446744073709551616) : s2 (s1 x) < 18446744073709551616 := by
  have ha : s1 x = mapB st1 8 x := by unfold s1; rw [← rep55]; exact step1 8 x (by omega)
  have h := mapB_lt byte1_le 8 x
  rw [← ha] at h
  have hb : s2 (s1 x) = mapB (fun y => st2 (st1 y)) 8 x := by
    unfold s2; rw [← rep33, step2 8 _ h, ha, mapB_comp byte1_le]
  have h2 := mapB_lt b12_le 8 x
  rw [hb]; omega
theorem s3_lt (x : Nat) (hx : x < 18446744073709551616) : s3 (s2 (s1 x)) < 1152921504606846976 := by
  rw [steps x hx, mapB8]
  have := pop8_le (x % 256)
  have := pop8_le (x / 256 % 256)
  have := pop8_le (x / 256 / 256 % 256)
  have := pop8_le (x / 256 / 256 / 256 % 256)
  have := pop8_le (x / 256 / 256 / 256 / 256 % 256)
  have := pop8_le (x / 256 / 256 / 256 / 256 / 256 % 256)
  have := pop8_le (x / 256 / 256 / 256 / 256 / 256 / 256 % 256)
  have := pop8_le (x / 256 / 256 / 256 / 256 / 256 / 256 / 256 % 256)
  omega
theorem nib_sum : ∀ b < 256, st2 (st1 b) ≤ 68 := by decide +kernel
theorem le68a (A B c : Nat) (ih : A + 68 ≤ B) (h : c ≤ 68) : 256 * A + c * 255 + 68 ≤ 256 * B := by omega
theorem le68 (q c P : Nat) (ih : q * 255 + 68 ≤ 68 * P) (h : c ≤ 68) : (q * 256 + c) * 255 + 68 ≤ 68 * (P * 256) := by
  have e1 : (q * 256 + c) * 255 = 256 * (q * 255) + c * 255 := by rw [Nat.add_mul, Nat.mul_right_comm, Nat.mul_comm (q * 255) 256]
  have e2 : 68 * (P * 256) = 256 * (68 * P) := by rw [← Nat.mul_assoc, Nat.mul_comm]
  rw [e1, e2]
  exact le68a _ _ _ ih h
theorem mapB_le68 : ∀ (n x : Nat), mapB (fun y => st2 (st1 y)) n x * 255 + 68 ≤ 68 * 256 ^ n
  | 0, _ => by simp [mapB]
  | n + 1, x => by
    rw [mapB, Nat.pow_succ]
    exact le68 _ _ _ (mapB_le68 n (x / 256)) (nib_sum (x % 256) (Nat.mod_lt _ (by decide)))
theorem s2_le (x : Nat) (hx : x < 18446744073709551616) : s2 (s1 x) ≤ 4919131752989213764 := by
  have ha : s1 x = mapB st1 8 x := by unfold s1; rw [← rep55]; exact step1 8 x (by omega)
  have h := mapB_lt byte1_le 8 x
  rw [← ha] at h
  have hb : s2 (s1 x) = mapB (fun y => st2 (st1 y)) 8 x := by
    unfold s2; rw [← rep33, step2 8 _ h, ha, mapB_comp byte1_le]
  have h2 := mapB_le68 8 x
  rw [hb]; omega

end Go.Proofs.YtmdlknddlmpddaaDoor
