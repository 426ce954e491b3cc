/- PROVED here: the next element of a set: plain facts. No condition but those in each theorem's own head. -/
import Derived.Test.YtabdhmfjbielaaaDoorM
import Derived.Lib.TrailingZeros
namespace Go.Proofs.YtabdhmfjbielaaaDoor
open Go
theorem ctz_bits (x : Nat) (h0 : x ≠ 0) (h : x < 18446744073709551616) : Lib.ctz 64 x < 64 ∧ x.testBit (Lib.ctz 64 x) = true ∧ ∀ j, j < Lib.ctz 64 x → x.testBit j = false := by
  obtain ⟨m, hm, hlt⟩ := Lib.ctzFrom_spec 64 x (by omega) (by rw [e64]; exact h)
  have e : Lib.ctz 64 x = Lib.ctzFrom 64 x := by unfold Lib.ctz; rw [if_neg h0]
  rw [e]
  generalize Lib.ctzFrom 64 x = c at *
  subst hm
  refine ⟨hlt, ?_, fun j hj => ?_⟩
  · rw [Nat.testBit_two_pow_mul]; simp
  · rw [Nat.testBit_two_pow_mul]; simp; omega
/-- what the loop knows -/
def NI (s : Nat) (n : Int) (i x : Nat) : Prop :=
  x < 18446744073709551616 ∧ (∀ j : Nat, n ≤ j → j < 64 * i → s.testBit j = false) ∧ ∀ j, j < 64 → x.testBit j = (decide (n ≤ (64 * i + j : Nat)) && s.testBit (64 * i + j))
theorem high_mask (k j : Nat) (hk : k < 64) : (18446744073709551615 - (2 ^ k - 1)).testBit j = (decide (j < 64) && decide (k ≤ j)) := by
  have hp : 2 ^ k < 18446744073709551616 := by
    have := Nat.pow_lt_pow_right (a := 2) (by omega) hk
    rw [e64] at this; exact this
  rw [not_bit _ _ (by omega), Nat.testBit_two_pow_sub_one]
  by_cases h : j < 64 <;> by_cases h2 : k ≤ j <;> simp [h, h2] <;> omega
theorem NI_start (s n : Nat) : NI s n (n / 64) (wd s (n / 64) &&& (18446744073709551615 - (maskN n - 1))) := by
  refine ⟨Nat.lt_of_le_of_lt Nat.and_le_left (wd_lt _ _), fun j h1 h2 => by omega, fun j hj => ?_⟩
  rw [Nat.testBit_and, wd_bit]
  unfold maskN
  rw [high_mask _ _ (by omega)]
  have : decide (n % 64 ≤ j) = decide ((n : Int) ≤ (64 * (n / 64) + j : Nat)) := by rw [Bool.eq_iff_iff]; simp; omega
  rw [this]
  simp [hj, Bool.and_comm]
theorem NI_next {s : Nat} {n : Int} {i : Nat} (h : NI s n i 0) (hi : n ≤ (64 * (i + 1) : Nat)) : NI s n (i + 1) (wd s (i + 1)) := by
  obtain ⟨_, h1, h2⟩ := h
  refine ⟨wd_lt _ _, fun j hj hl => ?_, fun j hj => ?_⟩
  · by_cases hlt : j < 64 * i
    · exact h1 j hj hlt
    · have := h2 (j - 64 * i) (by omega)
      rw [Nat.zero_testBit, show 64 * i + (j - 64 * i) = j by omega] at this
      simp only [decide_eq_true hj, Bool.true_and] at this
      exact this.symm
  · rw [wd_bit]
    have : n ≤ (64 * (i + 1) + j : Nat) := by omega
    rw [decide_eq_true hj, decide_eq_true this]
/-- the least element that is n or more, or -1 -/
def nextF (s : Nat) (n : Int) : Int := match (List.range 4096).find? (fun j : Nat => decide (n ≤ (j : Int)) && s.testBit j) with | some k => (k : Int) | none => -1
theorem nextF_some {s : Nat} {n : Int} {k : Nat} (hk : k < 4096) (hn : n ≤ k) (hb : s.testBit k = true) (hl : ∀ j : Nat, n ≤ j → j < k → s.testBit j = false) : nextF s n = k := by
  unfold nextF
  have : (List.range 4096).find? (fun j : Nat => decide (n ≤ (j : Int)) && s.testBit j) = some k := by
    rw [List.find?_range_eq_some]
    refine ⟨by simp [hn, hb], by simpa using hk, fun j hj => ?_⟩
    by_cases h : n ≤ (j : Int)
    · simp [h, hl j h hj]
    · simp [h]
  rw [this]
theorem nextF_none {s : Nat} {n : Int} (hl : ∀ j : Nat, n ≤ j → j < 4096 → s.testBit j = false) : nextF s n = -1 := by
  unfold nextF
  have : (List.range 4096).find? (fun j : Nat => decide (n ≤ (j : Int)) && s.testBit j) = none := by
    rw [List.find?_eq_none]
    intro j hj
    have hj' : j < 4096 := by simpa using hj
    by_cases h : n ≤ (j : Int)
    · simp [hl j h hj']
    · simp [h]
  rw [this]
theorem NI_found {s : Nat} {n : Int} {i x : Nat} (h : NI s n i x) (hi : i < 64) (h0 : x ≠ 0) : nextF s n = ((64 * i + Lib.ctz 64 x : Nat) : Int) := by
  obtain ⟨hx, h1, h2⟩ := h
  obtain ⟨c1, c2, c3⟩ := ctz_bits x h0 hx
  have hb := h2 _ c1
  rw [c2] at hb
  have hb' : n ≤ (64 * i + Lib.ctz 64 x : Nat) ∧ s.testBit (64 * i + Lib.ctz 64 x) = true := by
    have := hb.symm
    rw [Bool.and_eq_true, decide_eq_true_eq] at this
    exact this
  refine nextF_some (by omega) hb'.1 hb'.2 fun j hj hl => ?_
  by_cases hlt : j < 64 * i
  · exact h1 j hj hlt
  · have h3 := h2 (j - 64 * i) (by omega)
    rw [c3 (j - 64 * i) (by omega), show 64 * i + (j - 64 * i) = j by omega] at h3
    simp only [decide_eq_true hj, Bool.true_and] at h3
    exact h3.symm
theorem NI_none {s : Nat} {n : Int} {i : Nat} (h : NI s n i 0) (hi : i = 63) : nextF s n = -1 := by
  subst hi
  obtain ⟨_, h1, h2⟩ := h
  refine nextF_none fun j hj hl => ?_
  by_cases hlt : j < 64 * 63
  · exact h1 j hj hlt
  · have := h2 (j - 64 * 63) (by omega)
    rw [Nat.zero_testBit, show 64 * 63 + (j - 64 * 63) = j by omega] at this
    simp only [decide_eq_true hj, Bool.true_and] at this
    exact this.symm
theorem nextF_neg {s : Nat} {n : Int} (h : n < 0) : nextF s n = nextF s 0 := by
  unfold nextF
  have : (fun j : Nat => decide (n ≤ (j : Int)) && s.testBit j) = (fun j : Nat => decide (0 ≤ (j : Int)) && s.testBit j) := by
    funext j
    have h1 : n ≤ (j : Int) := by omega
    have h2 : 0 ≤ (j : Int) := by omega
    simp [h1, h2]
  rw [this]
theorem nextF_big {s : Nat} {n : Int} (h : 4096 ≤ n) : nextF s n = -1 := nextF_none fun j h1 h2 => by omega
theorem nextF_range (s : Nat) (n : Int) : -1 ≤ nextF s n ∧ nextF s n < 4096 := by
  unfold nextF
  cases h : (List.range 4096).find? (fun j : Nat => decide (n ≤ (j : Int)) && s.testBit j) with
  | none => simp
  | some k => have := List.mem_of_find?_eq_some h; simp at this; simp only; omega
end Go.Proofs.YtabdhmfjbielaaaDoor
