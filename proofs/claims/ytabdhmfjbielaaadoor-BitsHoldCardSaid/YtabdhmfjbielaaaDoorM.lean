/- PROVED here: words of a number that stands for a set: plain facts. No condition but those in each theorem's own head. -/
import Derived.KernelRfl
namespace Go.Proofs.YtabdhmfjbielaaaDoor

/-- a word of a set -/
def wd (s i : Nat) : Nat := s / 2 ^ (64 * i) % 2 ^ 64
/-- the bit of n in its word -/
def maskN (n : Nat) : Nat := 2 ^ (n % 64)
/-- what is in a and not in b -/
def minus (a b : Nat) : Nat := a ^^^ (a &&& b)

theorem e64 : (2 : Nat) ^ 64 = 18446744073709551616 := by decide
theorem wd_lt (s i : Nat) : wd s i < 18446744073709551616 := by
  unfold wd; have := Nat.mod_lt (s / 2 ^ (64 * i)) (y := 2 ^ 64) (by decide); rw [e64] at *; exact this
theorem mask_lt (n : Nat) : maskN n < 18446744073709551616 := by
  have h : n % 64 < 64 := Nat.mod_lt _ (by omega)
  have := Nat.pow_lt_pow_right (a := 2) (by omega) h
  have e : (2 : Nat) ^ 64 = 18446744073709551616 := by decide
  unfold maskN
  omega
theorem wd_bit (s i j : Nat) : (wd s i).testBit j = (decide (j < 64) && s.testBit (64 * i + j)) := by
  unfold wd
  rw [Nat.testBit_mod_two_pow, Nat.testBit_div_two_pow, Nat.add_comm j]
theorem minus_bit (a b j : Nat) : (minus a b).testBit j = (a.testBit j && !b.testBit j) := by
  unfold minus; rw [Nat.testBit_xor, Nat.testBit_and]; cases a.testBit j <;> cases b.testBit j <;> rfl
theorem wd_or (a b i : Nat) : wd a i ||| wd b i = wd (a ||| b) i := by
  apply Nat.eq_of_testBit_eq; intro j; simp only [Nat.testBit_or, wd_bit]; cases decide (j < 64) <;> simp
theorem wd_and (a b i : Nat) : wd a i &&& wd b i = wd (a &&& b) i := by
  apply Nat.eq_of_testBit_eq; intro j; simp only [Nat.testBit_and, wd_bit]; cases decide (j < 64) <;> simp
theorem not_bit (x j : Nat) (h : x < 18446744073709551616) : (18446744073709551615 - x).testBit j = (decide (j < 64) && !x.testBit j) := by
  have := Nat.testBit_two_pow_sub_succ (x := x) (n := 64) (by rw [e64]; exact h) j
  rw [e64] at this
  rw [← this]; congr 1; omega
theorem wd_minus (a b i : Nat) : wd a i &&& (18446744073709551615 - wd b i) = wd (minus a b) i := by
  apply Nat.eq_of_testBit_eq; intro j; simp only [Nat.testBit_and, not_bit _ _ (wd_lt b i), wd_bit, minus_bit]; cases decide (j < 64) <;> simp
theorem mask_bit (n j : Nat) : (maskN n).testBit j = decide (n % 64 = j) := by
  unfold maskN; rw [Nat.testBit_two_pow]
theorem wd_with (s n i : Nat) : (if i = n / 64 then wd s (n / 64) ||| maskN n else wd s i) = wd (s ||| 2 ^ n) i := by
  apply Nat.eq_of_testBit_eq; intro j
  simp only [wd_bit, Nat.testBit_or, Nat.testBit_two_pow]
  by_cases h : i = n / 64
  · subst h
    rw [if_pos rfl, Nat.testBit_or, wd_bit, mask_bit]
    by_cases hj : j < 64
    · have : decide (n % 64 = j) = decide (n = 64 * (n / 64) + j) := by rw [Bool.eq_iff_iff]; simp; omega
      simp [hj, this]
    · have : decide (n % 64 = j) = false := by simp; omega
      simp [hj, this]
  · rw [if_neg h, wd_bit]
    by_cases hj : j < 64
    · have : decide (n = 64 * i + j) = false := by simp; omega
      simp [hj, this]
    · simp [hj]
theorem wd_without (s n i : Nat) : (if i = n / 64 then wd s (n / 64) &&& (18446744073709551615 - maskN n) else wd s i) = wd (minus s (2 ^ n)) i := by
  apply Nat.eq_of_testBit_eq; intro j
  simp only [wd_bit, minus_bit, Nat.testBit_two_pow]
  by_cases h : i = n / 64
  · subst h
    rw [if_pos rfl, Nat.testBit_and, wd_bit, not_bit _ _ (mask_lt n), mask_bit]
    by_cases hj : j < 64
    · have : decide (n % 64 = j) = decide (n = 64 * (n / 64) + j) := by rw [Bool.eq_iff_iff]; simp; omega
      simp [hj, this]
    · simp [hj]
  · rw [if_neg h, wd_bit]
    by_cases hj : j < 64
    · have : decide (n = 64 * i + j) = false := by simp; omega
      simp [hj, this]
    · simp [hj]
theorem and_mask (s n : Nat) : ((wd s (n / 64) &&& maskN n : Nat) != 0) = s.testBit n := by
  have key : (wd s (n / 64) &&& maskN n) = if s.testBit n then maskN n else 0 := by
    apply Nat.eq_of_testBit_eq; intro j
    rw [Nat.testBit_and, wd_bit, mask_bit]
    by_cases hj : n % 64 = j
    · have h1 : j < 64 := by omega
      have h2 : 64 * (n / 64) + j = n := by omega
      cases hb : s.testBit n <;> simp [hj, h1, h2, hb, mask_bit]
    · cases hb : s.testBit n <;> simp [hj, mask_bit]
  have hp : maskN n ≠ 0 := by unfold maskN; exact Nat.ne_of_gt (Nat.pow_pos (by omega))
  rw [key]; cases hb : s.testBit n <;> simp [hp]
/-- it has no bit from 4096 on -/
def Small (a : Nat) : Prop := ∀ j, 4096 ≤ j → a.testBit j = false
/-- small numbers whose words are the same are the same -/
theorem wd_ext {a b : Nat} (ha : Small a) (hb : Small b) (h : ∀ i, i < 64 → wd a i = wd b i) : a = b := by
  apply Nat.eq_of_testBit_eq; intro j
  by_cases hj : j < 4096
  · have := congrArg (·.testBit (j % 64)) (h (j / 64) (by omega))
    simp only [wd_bit] at this
    have h2 : 64 * (j / 64) + j % 64 = j := by omega
    have h3 : j % 64 < 64 := by omega
    rw [h2] at this; simpa [h3] using this
  · rw [ha j (by omega), hb j (by omega)]
theorem small_zero : Small 0 := fun j _ => Nat.zero_testBit j
theorem small_or {a b : Nat} (ha : Small a) (hb : Small b) : Small (a ||| b) := fun j h => by rw [Nat.testBit_or, ha j h, hb j h]; rfl
theorem small_and {a b : Nat} (ha : Small a) : Small (a &&& b) := fun j h => by rw [Nat.testBit_and, ha j h]; rfl
theorem small_minus {a b : Nat} (ha : Small a) : Small (minus a b) := fun j h => by rw [minus_bit, ha j h]; rfl
theorem small_pow {n : Nat} (h : n < 4096) : Small (2 ^ n) := fun j hj => by rw [Nat.testBit_two_pow]; simp; omega
theorem wd_zero (i : Nat) : wd 0 i = 0 := by simp [wd]

/-- the set of a list -/
def addI (s : Nat) (n : Int) : Nat := if 0 ≤ n ∧ n < 4096 then s ||| 2 ^ n.toNat else s
def ofL (l : List Int) : Nat := l.foldl addI 0
theorem small_addI {s : Nat} (hs : Small s) (n : Int) : Small (addI s n) := by
  unfold addI; split
  · exact small_or hs (small_pow (by omega))
  · exact hs
theorem small_fold : ∀ (l : List Int) {s : Nat}, Small s → Small (l.foldl addI s)
  | [], _, h => h
  | n :: l, _, h => small_fold l (small_addI h n)
theorem small_ofL (l : List Int) : Small (ofL l) := small_fold l small_zero
theorem fold_bit : ∀ (l : List Int) (s j : Nat), (l.foldl addI s).testBit j = (s.testBit j || (decide (j < 4096) && l.contains (j : Int)))
  | [], s, j => by simp
  | n :: l, s, j => by
    rw [List.foldl_cons, fold_bit l]
    unfold addI
    by_cases h : 0 ≤ n ∧ n < 4096
    · rw [if_pos h, Nat.testBit_or, Nat.testBit_two_pow]
      by_cases hj : (j : Int) = n
      · subst hj
        have : j < 4096 := by omega
        simp [this]
      · have h1 : decide (n.toNat = j) = false := by simp; omega
        simp [h1, hj]
    · rw [if_neg h]
      by_cases hj : j < 4096
      · have : ¬ (j : Int) = n := by omega
        simp [this]
      · simp [hj]
theorem ofL_bit (l : List Int) (j : Nat) : (ofL l).testBit j = (decide (j < 4096) && l.contains (j : Int)) := by
  unfold ofL; rw [fold_bit]; simp
theorem ofL_snoc (l : List Int) (n : Int) : ofL (l ++ [n]) = addI (ofL l) n := by unfold ofL; rw [List.foldl_append]; rfl
end Go.Proofs.YtabdhmfjbielaaaDoor
