/- PROVED here: how many elements a set has, and what its list tells: plain facts. No condition but those in each theorem's own head. -/
import Derived.Test.YtabdhmfjbielaaaDoorE
import Derived.Test.YtabdhmfjbielaaaDoorL
namespace Go.Proofs.YtabdhmfjbielaaaDoor
open Go
theorem popK_one (x : Nat) : popK 1 x = x % 2 := by simp [popK]
theorem popK_succ (k x : Nat) : popK (k + 1) x = popK k x + (x.testBit k).toNat := by
  rw [popK_add, popK_one, Nat.testBit_eq_decide_div_mod_eq]
  have := Nat.mod_two_eq_zero_or_one (x / 2 ^ k)
  rcases this with h | h <;> simp [h]
theorem popK_mod (x : Nat) : ∀ k, k ≤ 64 → popK k (x % 2 ^ 64) = popK k x
  | 0, _ => rfl
  | k + 1, h => by
    rw [popK_succ, popK_succ, popK_mod x k (by omega), Nat.testBit_mod_two_pow]
    have : k < 64 := by omega
    simp [this]
theorem cntK_pop (s : Nat) : ∀ k, cntK s k = popK (64 * k) s
  | 0 => rfl
  | k + 1 => by
    rw [cntK, cntK_pop s k, show 64 * (k + 1) = 64 * k + 64 by omega, popK_add]
    unfold wd
    rw [popK_mod _ 64 (Nat.le_refl _)]
theorem els_pop (s : Nat) : ∀ m, (els s m).length = popK m s
  | 0 => rfl
  | m + 1 => by
    rw [els_succ, List.length_append, els_pop s m, popK_succ]
    cases s.testBit m <;> simp
theorem cnt_els (s : Nat) : cntK s 64 = (els s 4096).length := by rw [cntK_pop, els_pop]
theorem pop_or_and (x y : Nat) : ∀ k, popK k (x ||| y) + popK k (x &&& y) = popK k x + popK k y
  | 0 => rfl
  | k + 1 => by
    have := pop_or_and x y k
    rw [popK_succ, popK_succ, popK_succ, popK_succ, Nat.testBit_or, Nat.testBit_and]
    cases x.testBit k <;> cases y.testBit k <;> simp <;> omega
theorem pop_minus (x y : Nat) : ∀ k, popK k (minus x y) + popK k (x &&& y) = popK k x
  | 0 => rfl
  | k + 1 => by
    have := pop_minus x y k
    rw [popK_succ, popK_succ, popK_succ, minus_bit, Nat.testBit_and]
    cases x.testBit k <;> cases y.testBit k <;> simp <;> omega
theorem cnt_or_and (x y : Nat) : cntK (x ||| y) 64 + cntK (x &&& y) 64 = cntK x 64 + cntK y 64 := by
  rw [cntK_pop, cntK_pop, cntK_pop, cntK_pop]; exact pop_or_and x y _
theorem cnt_minus (x y : Nat) : cntK (minus x y) 64 + cntK (x &&& y) 64 = cntK x 64 := by
  rw [cntK_pop, cntK_pop, cntK_pop]; exact pop_minus x y _
theorem els_mem (s m : Nat) (n : Int) : n ∈ els s m ↔ ∃ j : Nat, n = j ∧ j < m ∧ s.testBit j = true := by
  unfold els
  simp only [List.mem_map, List.mem_filter, List.mem_range]
  constructor
  · rintro ⟨j, ⟨h1, h2⟩, rfl⟩; exact ⟨j, rfl, h1, h2⟩
  · rintro ⟨j, rfl, h1, h2⟩; exact ⟨j, ⟨h1, h2⟩, rfl⟩
theorem next_none_iff (s : Nat) : nextF s 0 = -1 ↔ ∀ j, j < 4096 → s.testBit j = false := by
  constructor
  · intro h j hj
    unfold nextF at h
    cases hq : (List.range 4096).find? (fun j : Nat => decide ((0 : Int) ≤ (j : Int)) && s.testBit j) with
    | none =>
      rw [List.find?_eq_none] at hq
      have := hq j (by simpa using hj)
      have h0 : (0 : Int) ≤ (j : Int) := by omega
      simpa [h0] using this
    | some k => rw [hq] at h; simp only at h; omega
  · intro h
    exact nextF_none fun j _ hj => h j hj
theorem cnt_zero_iff (s : Nat) : cntK s 64 = 0 ↔ ∀ j, j < 4096 → s.testBit j = false := by
  rw [cnt_els, List.length_eq_zero_iff]
  constructor
  · intro h j hj
    cases hb : s.testBit j with
    | false => rfl
    | true =>
      have : (j : Int) ∈ els s 4096 := (els_mem s 4096 j).2 ⟨j, rfl, hj, hb⟩
      rw [h] at this; cases this
  · intro h
    cases hl : els s 4096 with
    | nil => rfl
    | cons n r =>
      have : n ∈ els s 4096 := by rw [hl]; simp
      obtain ⟨j, _, hj, hb⟩ := (els_mem s 4096 n).1 this
      rw [h j hj] at hb; cases hb
theorem cnt_next (s : Nat) : (((cntK s 64 : Nat) : Int) == 0) = (nextF s 0 == -1) := by
  rw [Bool.eq_iff_iff, beq_iff_eq, beq_iff_eq, next_none_iff, ← cnt_zero_iff]
  omega
end Go.Proofs.YtabdhmfjbielaaaDoor
