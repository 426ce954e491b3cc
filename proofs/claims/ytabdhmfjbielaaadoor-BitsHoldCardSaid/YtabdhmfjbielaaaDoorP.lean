/- PROVED here: the library's way of counting bits gives the number of bits: plain facts. No condition but those in each theorem's own head. -/
import Derived.KernelRfl
namespace Go.Proofs.YtabdhmfjbielaaaDoor
/-- how many of the first k bits are set -/
def popK : Nat → Nat → Nat
  | 0, _ => 0
  | k + 1, x => x % 2 + popK k (x / 2)
def m1 : Nat → Nat
  | 0 => 0
  | k + 1 => 256 * m1 k + 85
def m2 : Nat → Nat
  | 0 => 0
  | k + 1 => 256 * m2 k + 51
def m3 : Nat → Nat
  | 0 => 0
  | k + 1 => 256 * m3 k + 15
theorem m1_s (k : Nat) : m1 (k + 1) = 256 * m1 k + 85 := rfl
theorem m2_s (k : Nat) : m2 (k + 1) = 256 * m2 k + 51 := rfl
theorem m3_s (k : Nat) : m3 (k + 1) = 256 * m3 k + 15 := rfl
def F1 (k x : Nat) : Nat := (x / 2 &&& m1 k) + (x &&& m1 k)
def F2 (k x : Nat) : Nat := (x / 4 &&& m2 k) + (x &&& m2 k)
def F3 (k x : Nat) : Nat := (x / 16 + x) &&& m3 k
def p1 (d : Nat) : Nat := (d / 2 &&& 85) + (d &&& 85)
def p2 (d : Nat) : Nat := (d / 4 &&& 51) + (d &&& 51)
def p3 (d : Nat) : Nat := (d / 16 + d) &&& 15
theorem and_byte (y d m c : Nat) (hd : d < 256) (hc : c < 256) : (256 * y + d) &&& (256 * m + c) = 256 * (y &&& m) + (d &&& c) := by
  have hdc : d &&& c < 2 ^ 8 := Nat.and_lt_two_pow _ (by omega)
  apply Nat.eq_of_testBit_eq; intro j
  rw [Nat.testBit_and, show (256 : Nat) = 2 ^ 8 by decide, Nat.testBit_two_pow_mul_add _ (by omega), Nat.testBit_two_pow_mul_add _ (by omega), Nat.testBit_two_pow_mul_add _ hdc]
  by_cases h : j < 8 <;> simp [h]
theorem c1 : ∀ q : Fin 2, ∀ d : Fin 256, ((128 * q.val + d.val / 2) &&& 85) = (d.val / 2 &&& 85) := by decide +kernel
theorem c2 : ∀ q : Fin 4, ∀ d : Fin 256, ((64 * q.val + d.val / 4) &&& 51) = (d.val / 4 &&& 51) := by decide +kernel
theorem c3 : ∀ q : Fin 5, ∀ d : Fin 256, (16 * q.val + p2 (p1 d.val) / 16 + p2 (p1 d.val)) < 256 ∧ ((16 * q.val + p2 (p1 d.val) / 16 + p2 (p1 d.val)) &&& 15) = p3 (p2 (p1 d.val)) := by decide +kernel
theorem c4 : ∀ d : Fin 256, p3 (p2 (p1 d.val)) = popK 8 d.val ∧ p1 d.val < 256 ∧ p2 (p1 d.val) < 256 ∧ p2 (p1 d.val) % 16 ≤ 4 ∧ popK 8 d.val ≤ 8 ∧ p2 (p1 d.val) ≤ 68 := by decide +kernel
theorem F1_byte (k y d : Nat) (hd : d < 256) : F1 (k + 1) (256 * y + d) = 256 * F1 k y + p1 d := by
  unfold F1 p1
  have e : (256 * y + d) / 2 = 256 * (y / 2) + (128 * (y % 2) + d / 2) := by omega
  have h := c1 ⟨y % 2, by omega⟩ ⟨d, hd⟩
  simp only at h
  rw [e, m1_s, and_byte _ _ _ _ (by omega) (by omega), and_byte _ _ _ _ hd (by omega), h]
  omega
theorem F2_byte (k y d : Nat) (hd : d < 256) : F2 (k + 1) (256 * y + d) = 256 * F2 k y + p2 d := by
  unfold F2 p2
  have e : (256 * y + d) / 4 = 256 * (y / 4) + (64 * (y % 4) + d / 4) := by omega
  have h := c2 ⟨y % 4, by omega⟩ ⟨d, hd⟩
  simp only at h
  rw [e, m2_s, and_byte _ _ _ _ (by omega) (by omega), and_byte _ _ _ _ hd (by omega), h]
  omega
theorem F3_byte (k y d : Nat) (hd : d < 256) (hy : y % 16 ≤ 4) : F3 (k + 1) (256 * y + p2 (p1 d)) = 256 * F3 k y + p3 (p2 (p1 d)) := by
  unfold F3
  obtain ⟨h1, h2⟩ := c3 ⟨y % 16, by omega⟩ ⟨d, hd⟩
  have h4 := c4 ⟨d, hd⟩
  simp only at h1 h2 h4
  have e : (256 * y + p2 (p1 d)) / 16 + (256 * y + p2 (p1 d)) = 256 * (y / 16 + y) + (16 * (y % 16) + p2 (p1 d) / 16 + p2 (p1 d)) := by omega
  rw [e, m3_s, and_byte _ _ _ _ h1 (by omega), h2]
/-- the sums of the bytes, byte by byte -/
def S : Nat → Nat → Nat
  | 0, _ => 0
  | k + 1, x => 256 * S k (x / 256) + popK 8 (x % 256)
theorem F21_low : ∀ (k x : Nat), F2 k (F1 k x) % 16 ≤ 4
  | 0, x => by simp [F2, m2]
  | k + 1, x => by
    have hd : x % 256 < 256 := by omega
    have e : x = 256 * (x / 256) + x % 256 := by omega
    have h4 := c4 ⟨x % 256, hd⟩
    simp only at h4
    rw [e, F1_byte _ _ _ hd, F2_byte _ _ _ (by omega)]
    omega
theorem F_S : ∀ (k x : Nat), F3 k (F2 k (F1 k x)) = S k x
  | 0, x => by simp [F3, m3, S]
  | k + 1, x => by
    have hd : x % 256 < 256 := by omega
    have e : F1 (k + 1) x = 256 * F1 k (x / 256) + p1 (x % 256) := by
      have := F1_byte k (x / 256) (x % 256) hd
      rwa [show 256 * (x / 256) + x % 256 = x by omega] at this
    have h4 := c4 ⟨x % 256, hd⟩
    simp only at h4
    rw [e, F2_byte _ _ _ (by omega), F3_byte _ _ _ hd (F21_low k _), F_S k, h4.1, S]
theorem F1_lt : ∀ (k x : Nat), F1 k x < 256 ^ k
  | 0, x => by simp [F1, m1]
  | k + 1, x => by
    have hd : x % 256 < 256 := by omega
    have e : F1 (k + 1) x = 256 * F1 k (x / 256) + p1 (x % 256) := by
      have := F1_byte k (x / 256) (x % 256) hd
      rwa [show 256 * (x / 256) + x % 256 = x by omega] at this
    have h4 := c4 ⟨x % 256, hd⟩
    simp only at h4
    have := F1_lt k (x / 256)
    rw [e, Nat.pow_succ]; omega
theorem F21_lt : ∀ (k x : Nat), 255 * F2 k (F1 k x) + 68 ≤ 68 * (256 ^ k)
  | 0, x => by simp [F2, m2]
  | k + 1, x => by
    have hd : x % 256 < 256 := by omega
    have e : F1 (k + 1) x = 256 * F1 k (x / 256) + p1 (x % 256) := by
      have := F1_byte k (x / 256) (x % 256) hd
      rwa [show 256 * (x / 256) + x % 256 = x by omega] at this
    have h4 := c4 ⟨x % 256, hd⟩
    simp only at h4
    have := F21_lt k (x / 256)
    rw [e, F2_byte _ _ _ (by omega), Nat.pow_succ]; omega
theorem popK_mod8 (x : Nat) : popK 8 (x % 256) = popK 8 x := by simp only [popK]; omega
theorem popK_add : ∀ (a b x : Nat), popK (a + b) x = popK a x + popK b (x / 2 ^ a)
  | 0, b, x => by simp [popK]
  | a + 1, b, x => by
    rw [show a + 1 + b = (a + b) + 1 by omega, popK, popK, popK_add a b, Nat.pow_succ, Nat.div_div_eq_div_mul, Nat.mul_comm 2]
    omega
theorem pop8_le (x : Nat) : popK 8 (x % 256) ≤ 8 := (c4 ⟨x % 256, by omega⟩).2.2.2.2.1
theorem pop64 (x : Nat) : popK 64 x = popK 8 (x % 256) + popK 8 (x / 256 % 256) + popK 8 (x / 65536 % 256) + popK 8 (x / 16777216 % 256) + popK 8 (x / 4294967296 % 256) + popK 8 (x / 1099511627776 % 256) + popK 8 (x / 281474976710656 % 256) + popK 8 (x / 72057594037927936 % 256) := by
  rw [show 64 = 8 + (8 + (8 + (8 + (8 + (8 + (8 + 8)))))) by decide]
  simp only [popK_add, Nat.div_div_eq_div_mul, popK_mod8]
  simp only [Nat.reducePow, Nat.reduceMul]
  omega
/-- the last steps -/
theorem sums (c0 c1 c2 c3 c4 c5 c6 c7 : Nat) (h0 : c0 ≤ 8) (h1 : c1 ≤ 8) (h2 : c2 ≤ 8) (h3 : c3 ≤ 8) (h4 : c4 ≤ 8) (h5 : c5 ≤ 8) (h6 : c6 ≤ 8) (h7 : c7 ≤ 8) (x3 x4 x5 x6 : Nat)
    (e3 : x3 = 256 * (256 * (256 * (256 * (256 * (256 * (256 * (256 * 0 + c7) + c6) + c5) + c4) + c3) + c2) + c1) + c0) (e4 : x4 = x3 + x3 / 256) (e5 : x5 = x4 + x4 / 65536) (e6 : x6 = x5 + x5 / 4294967296) :
    x6 % 128 = c0 + c1 + c2 + c3 + c4 + c5 + c6 + c7 ∧ x4 < 18446744073709551616 ∧ x5 < 18446744073709551616 ∧ x6 < 9223372036854775808 := by
  have a4 : x4 = c0 + c1 + 256 * (c1 + c2) + 65536 * (c2 + c3) + 16777216 * (c3 + c4) + 4294967296 * (c4 + c5) + 1099511627776 * (c5 + c6) + 281474976710656 * (c6 + c7) + 72057594037927936 * c7 := by omega
  have a5 : x5 = c0 + c1 + c2 + c3 + 256 * (c1 + c2 + c3 + c4) + 65536 * (c2 + c3 + c4 + c5) + 16777216 * (c3 + c4 + c5 + c6) + 4294967296 * (c4 + c5 + c6 + c7) + 1099511627776 * (c5 + c6 + c7) + 281474976710656 * (c6 + c7) + 72057594037927936 * c7 := by omega
  clear e3 e4 e5
  have a6 : x5 / 4294967296 = c4 + c5 + c6 + c7 + 256 * (c5 + c6 + c7) + 65536 * (c6 + c7) + 16777216 * c7 := by omega
  rw [a6] at e6
  obtain ⟨R, hR⟩ : ∃ R, x6 = c0 + c1 + c2 + c3 + c4 + c5 + c6 + c7 + 128 * R := ⟨2 * (c1 + c2 + c3 + c4 + 256 * (c2 + c3 + c4 + c5) + 65536 * (c3 + c4 + c5 + c6) + 16777216 * (c4 + c5 + c6 + c7) + 4294967296 * (c5 + c6 + c7) + 1099511627776 * (c6 + c7) + 281474976710656 * c7 + (c5 + c6 + c7 + 256 * (c6 + c7) + 65536 * c7)), by omega⟩
  refine ⟨?_, by omega, by omega, by omega⟩
  clear e6 a6 a5 a4
  omega
end Go.Proofs.YtabdhmfjbielaaaDoor
