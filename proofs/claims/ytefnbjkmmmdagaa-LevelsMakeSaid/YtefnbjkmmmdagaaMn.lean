/- PROVED here: plain facts: how many entries of a table are not set. No condition but those in each theorem's own head. -/
import Derived.Test.YtefnbjkmmmdagaaMi
namespace Go.Proofs.Ytefnbjkmmmdagaa
open Go Go.RowKit

def prs (n : Nat) : List (Nat × Nat) := (List.range n).flatMap fun a => (List.range n).map fun b => (a, b)
theorem mem_prs {n a b : Nat} (ha : a < n) (hb : b < n) : (a, b) ∈ prs n := by
  unfold prs
  rw [List.mem_flatMap]
  exact ⟨a, List.mem_range.2 ha, List.mem_map.2 ⟨b, List.mem_range.2 hb, rfl⟩⟩
/-- how many are not set -/
def fal (n : Nat) (U : Nat → Nat → Bool) : Nat := ((prs n).filter fun p => !U p.1 p.2).length
theorem filter_le {α : Type} {P Q : α → Bool} (h : ∀ x, Q x = true → P x = true) : ∀ l : List α, (l.filter Q).length ≤ (l.filter P).length
  | [] => Nat.le_refl _
  | x :: l => by
    have := filter_le h l
    by_cases q : Q x = true
    · rw [List.filter_cons_of_pos q, List.filter_cons_of_pos (h x q)]; simpa using this
    · rw [List.filter_cons_of_neg q]
      by_cases p : P x = true
      · rw [List.filter_cons_of_pos p, List.length_cons]; omega
      · rw [List.filter_cons_of_neg p]; exact this
theorem filter_lt {α : Type} {P Q : α → Bool} (h : ∀ x, Q x = true → P x = true) {y : α} (hp : P y = true) (hq : Q y = false) : ∀ l : List α, y ∈ l → (l.filter Q).length + 1 ≤ (l.filter P).length
  | [], hm => by cases hm
  | x :: l, hm => by
    by_cases e : y = x
    · subst e
      rw [List.filter_cons_of_neg (by rw [hq]; decide), List.filter_cons_of_pos hp, List.length_cons]
      have := filter_le h l
      omega
    · have hm' : y ∈ l := by
        rcases List.mem_cons.1 hm with h1 | h1
        · exact (e h1).elim
        · exact h1
      have := filter_lt h hp hq l hm'
      by_cases q : Q x = true
      · rw [List.filter_cons_of_pos q, List.filter_cons_of_pos (h x q), List.length_cons, List.length_cons]; omega
      · rw [List.filter_cons_of_neg q]
        by_cases p : P x = true
        · rw [List.filter_cons_of_pos p, List.length_cons]; omega
        · rw [List.filter_cons_of_neg p]; exact this
theorem fal_put {n : Nat} {U : Nat → Nat → Bool} {a b : Nat} (ha : a < n) (hb : b < n) (h : U a b = false) : fal n (putB U a b) + 1 ≤ fal n U := by
  unfold fal
  refine filter_lt (P := fun p => !U p.1 p.2) (Q := fun p => !putB U a b p.1 p.2) (y := (a, b)) (fun p hp => ?_) (by simp [h]) (by simp [putB]) _ (mem_prs ha hb)
  unfold putB at hp
  split at hp
  · simp at hp
  · exact hp
/-- the triples ahead of one of them are closed -/
def Ahead (n : Nat) (U : Nat → Nat → Bool) (a b c : Nat) : Prop := ∀ x y z, x < n → y < n → z < n → (x < a ∨ x = a ∧ (y < b ∨ y = b ∧ z < c)) → U x y = true → U y z = true → U x z = true
theorem Ahead.nil {n : Nat} {U : Nat → Nat → Bool} : Ahead n U 0 0 0 := fun x y z _ _ _ h => by omega
theorem Ahead.row {n : Nat} {U : Nat → Nat → Bool} {a b : Nat} (h : Ahead n U a b n) : Ahead n U a (b + 1) 0 := fun x y z hx hy hz q => h x y z hx hy hz (by omega)
theorem Ahead.col {n : Nat} {U : Nat → Nat → Bool} {a : Nat} (h : Ahead n U a n 0) : Ahead n U (a + 1) 0 0 := fun x y z hx hy hz q => h x y z hx hy hz (by omega)
theorem Ahead.all {n : Nat} {U : Nat → Nat → Bool} (h : Ahead n U n 0 0) : TransB n U := fun x y z hx hy hz => h x y z hx hy hz (by omega)
theorem Ahead.step {n : Nat} {U : Nat → Nat → Bool} {a b c : Nat} (h : Ahead n U a b c) (k : U a b = true → U b c = true → U a c = true) : Ahead n U a b (c + 1) := fun x y z hx hy hz q => by
  by_cases e : x = a ∧ y = b ∧ z = c
  · obtain ⟨rfl, rfl, rfl⟩ := e; exact k
  · exact h x y z hx hy hz (by omega)
end Go.Proofs.Ytefnbjkmmmdagaa
