/- PROVED here: the list of a set: plain facts. No condition but those in each theorem's own head. -/
import Derived.Test.YtabdhmfjbielaaaDoorN
namespace Go.Proofs.YtabdhmfjbielaaaDoor
open Go
/-- the elements below m, rising -/
def els (s m : Nat) : List Int := ((List.range m).filter s.testBit).map Int.ofNat
theorem els_succ (s m : Nat) : els s (m + 1) = els s m ++ if s.testBit m then [(m : Int)] else [] := by
  unfold els
  rw [List.range_succ, List.filter_append, List.map_append]
  cases h : s.testBit m <;> simp [h]
theorem els_skip (s m : Nat) : ∀ k, m ≤ k → (∀ j, m ≤ j → j < k → s.testBit j = false) → els s k = els s m
  | 0, h, _ => by rw [show m = 0 by omega]
  | k + 1, h, hf => by
    by_cases e : m = k + 1
    · rw [e]
    · rw [els_succ, els_skip s m k (by omega) (fun j h1 h2 => hf j h1 (by omega)), hf k (by omega) (by omega)]; simp
theorem els_len (s : Nat) : ∀ m, (els s m).length ≤ m
  | 0 => by simp [els]
  | m + 1 => by have := els_len s m; rw [els_succ]; split <;> simp <;> omega
/-- what the inner loop knows -/
def WI (s i t y : Nat) : Prop := t ≤ 64 ∧ y < 18446744073709551616 ∧ ∀ j, j < 64 → y.testBit j = (decide (t ≤ j) && s.testBit (64 * i + j))
theorem WI_start (s i : Nat) : WI s i 0 (wd s i) := ⟨by omega, wd_lt _ _, fun j hj => by rw [wd_bit]; simp [hj]⟩
theorem WI_zero {s i t : Nat} (h : WI s i t 0) : els s (64 * i + t) = els s (64 * (i + 1)) := by
  obtain ⟨h1, _, h2⟩ := h
  refine (els_skip s _ _ (by omega) fun j ha hb => ?_).symm
  have := h2 (j - 64 * i) (by omega)
  rw [Nat.zero_testBit, show 64 * i + (j - 64 * i) = j by omega, decide_eq_true (by omega), Bool.true_and] at this
  exact this.symm
theorem clear_low (y : Nat) (h0 : y ≠ 0) (h : y < 18446744073709551616) (j : Nat) : (y &&& (y - 1)).testBit j = (y.testBit j && decide (Lib.ctz 64 y < j)) := by
  obtain ⟨m, hm, hlt⟩ := Lib.ctzFrom_spec 64 y (by omega) (by rw [e64]; exact h)
  have e : Lib.ctz 64 y = Lib.ctzFrom 64 y := by unfold Lib.ctz; rw [if_neg h0]
  rw [e]
  generalize Lib.ctzFrom 64 y = c at *
  have hp : 0 < 2 ^ c := Nat.pow_pos (by omega)
  have e1 : y - 1 = 2 ^ c * (2 * m) + (2 ^ c - 1) := by rw [hm, Nat.mul_add]; omega
  rw [Nat.testBit_and, e1, Nat.testBit_two_pow_mul_add _ (by omega)]
  by_cases hj : j < c
  · have : y.testBit j = false := by rw [hm, Nat.testBit_two_pow_mul]; simp; omega
    simp [this]
  · rw [if_neg hj, hm, Nat.testBit_two_pow_mul]
    have hcj : c ≤ j := by omega
    simp only [decide_eq_true hcj, Bool.true_and]
    by_cases he : j = c
    · subst he; simp
    · obtain ⟨q, hq⟩ : ∃ q, j - c = q + 1 := ⟨j - c - 1, by omega⟩
      have hlt2 : c < j := by omega
      rw [hq, Nat.testBit_succ, Nat.testBit_succ, show (2 * m + 1) / 2 = m by omega, show 2 * m / 2 = m by omega]
      simp [hlt2]
theorem WI_step {s i t y : Nat} (h : WI s i t y) (h0 : y ≠ 0) :
    Lib.ctz 64 y < 64 ∧ els s (64 * i + (Lib.ctz 64 y + 1)) = els s (64 * i + t) ++ [((64 * i + Lib.ctz 64 y : Nat) : Int)] ∧ WI s i (Lib.ctz 64 y + 1) (y &&& (y - 1)) := by
  obtain ⟨h1, hy, h2⟩ := h
  obtain ⟨c1, c2, c3⟩ := ctz_bits y h0 hy
  have hcl := clear_low y h0 hy
  generalize Lib.ctz 64 y = c at *
  have hb := h2 c c1
  rw [c2] at hb
  have hb' : t ≤ c ∧ s.testBit (64 * i + c) = true := by have := hb.symm; rwa [Bool.and_eq_true, decide_eq_true_eq] at this
  refine ⟨c1, ?_, by omega, Nat.lt_of_le_of_lt Nat.and_le_left hy, fun j hj => ?_⟩
  · rw [show 64 * i + (c + 1) = (64 * i + c) + 1 by omega, els_succ, hb'.2, els_skip s (64 * i + t) (64 * i + c) (by omega) fun j ha hb => ?_]
    · simp
    · have h3 := h2 (j - 64 * i) (by omega)
      rw [c3 (j - 64 * i) (by omega), show 64 * i + (j - 64 * i) = j by omega, decide_eq_true (by omega), Bool.true_and] at h3
      exact h3.symm
  · rw [hcl j, h2 j hj]
    by_cases hc : c < j
    · have e1 : t ≤ j := by omega
      have e2 : c + 1 ≤ j := by omega
      simp [hc, e1, e2]
    · have e2 : ¬ c + 1 ≤ j := by omega
      simp [hc, e2]
theorem clear_lt (y : Nat) (h0 : y ≠ 0) : y &&& (y - 1) < y := Nat.lt_of_le_of_lt Nat.and_le_right (by omega)
end Go.Proofs.YtabdhmfjbielaaaDoor
