/- PROVED here: what the document calls a lattice is what the program calls one. No condition but those in each theorem's own head. -/
import Derived.Test.YtefnbjkmmmdagaaMf
import Derived.Test.YtefnbjkmmmdagaaMj
import Derived.Test.YtefnbjkmmmdagaaF
namespace Go.Proofs.Ytefnbjkmmmdagaa
open Go Go.RowKit

theorem latB_iff {n : Nat} {U : Nat → Nat → Bool} : latB n U = true ↔ ∀ a, a < n → ∀ b, b < n → badP n U a b = false := by
  constructor
  · intro h a ha b hb
    cases e : badP n U a b
    · rfl
    · rw [latB_no ha hb e] at h; cases h
  · exact latB_yes
theorem anti_iff {n : Nat} {m : Nat → Nat} : antiB n m = true ↔ ∀ i, i < n → ∀ j, j < i → m j ≠ m i := by
  unfold antiB
  rw [List.all_eq_true]
  constructor
  · intro h i hi j hj
    have := h i (List.mem_range.2 hi)
    rw [List.all_eq_true] at this
    exact bne_iff_ne.1 (this j (List.mem_range.2 hj))
  · intro h i hi
    rw [List.all_eq_true]
    intro j hj
    exact bne_iff_ne.2 (h i (List.mem_range.1 hi) j (List.mem_range.1 hj))
theorem bd_self {n : Nat} (m : Nat → Nat) {a : Nat} (ha : a < n) : 0 ≤ bd n m a a := by
  unfold bd
  rcases idxM_spec n m (m a &&& m a) with ⟨_, h2⟩ | ⟨k, hk, h1, _⟩
  · exact absurd (by rw [Nat.and_self]) (h2 a ha)
  · rw [h1]; omega
theorem bnd_iff {n : Nat} {m : Nat → Nat} : bndB n m = true ↔ ∀ a, a < n → ∀ b, b < n → 0 ≤ bd n m a b := by
  unfold bndB
  rw [List.all_eq_true]
  constructor
  · intro h
    have k : ∀ a, a < n → ∀ b, b < a → 0 ≤ bd n m a b := fun a ha b hb => by
      have := h a (List.mem_range.2 ha)
      rw [List.all_eq_true] at this
      exact of_decide_eq_true (this b (List.mem_range.2 hb))
    intro a ha b hb
    rcases Nat.lt_trichotomy a b with q | q | q
    · rw [bd_comm]; exact k b hb a q
    · subst q; exact bd_self m ha
    · exact k a ha b q
  · intro h a ha
    rw [List.all_eq_true]
    intro b hb
    have h1 := List.mem_range.1 ha
    have h2 := List.mem_range.1 hb
    exact decide_eq_true (h a h1 b (by omega))
theorem Ord.both {n : Nat} {u d : Nat → Nat} (h : Ord n u d) {a b : Nat} (ha : a < n) (hb : b < n) : (u a).testBit b = true ∧ (u b).testBit a = true ↔ u a = u b := by
  constructor
  · rintro ⟨h1, h2⟩
    have e1 := h.sub ha hb h1
    have e2 := h.sub hb ha h2
    rw [Nat.and_comm] at e2
    exact e2.symm.trans e1
  · intro e
    exact ⟨by rw [e]; exact h.refl b hb, by rw [← e]; exact h.refl a ha⟩
theorem bad_iff {n : Nat} {u d : Nat → Nat} {U : Nat → Nat → Bool} (h : Ord n u d) (hU : ∀ x y, x < n → y < n → U x y = (u x).testBit y) {a b : Nat} (ha : a < n) (hb : b < n) :
    badP n U a b = false ↔ (a ≠ b → u a ≠ u b) ∧ 0 ≤ bd n u a b ∧ 0 ≤ bd n d a b := by
  unfold badP
  rw [jn_bd h hU ha hb, mt_bd h hU ha hb, beB_in ha hb, beB_in hb ha, hU a b ha hb, hU b a hb ha, Bool.or_eq_false_iff, Bool.or_eq_false_iff, decide_eq_false_iff_not, decide_eq_false_iff_not, Int.not_lt, Int.not_lt, and_assoc]
  refine and_congr ?_ Iff.rfl
  rw [← Bool.not_eq_true, Bool.and_eq_true, Bool.and_eq_true, decide_eq_true_eq, and_assoc, h.both ha hb]
  exact ⟨fun k q e => k ⟨q, e⟩, fun k q => k q.1 q.2⟩
theorem lat_same {n : Nat} {u d : Nat → Nat} {U : Nat → Nat → Bool} (h : Ord n u d) (hU : ∀ x y, x < n → y < n → U x y = (u x).testBit y) : latB n U = (antiB n u && (bndB n u && bndB n d)) := by
  rw [Bool.eq_iff_iff, Bool.and_eq_true, Bool.and_eq_true, latB_iff, anti_iff, bnd_iff, bnd_iff]
  constructor
  · intro k
    have k' := fun a ha b hb => (bad_iff h hU ha hb).1 (k a ha b hb)
    exact ⟨fun i hi j hj => (k' j (by omega) i hi).1 (by omega), fun a ha b hb => (k' a ha b hb).2.1, fun a ha b hb => (k' a ha b hb).2.2⟩
  · rintro ⟨k1, k2, k3⟩ a ha b hb
    refine (bad_iff h hU ha hb).2 ⟨fun q => ?_, k2 a ha b hb, k3 a ha b hb⟩
    rcases Nat.lt_or_gt_of_ne q with q | q
    · exact k1 b hb a q
    · exact fun e => k1 a ha b q e.symm
end Go.Proofs.Ytefnbjkmmmdagaa
