/- PROVED here: the document's joins and meets are the program's. No condition but those in each theorem's own head. -/
import Derived.Test.YtefnbjkmmmdagaaMb
import Derived.Test.YtefnbjkmmmdagaaM
namespace Go.Proofs.Ytefnbjkmmmdagaa
open Go Go.RowKit

theorem beB_in {n : Nat} {U : Nat → Nat → Bool} {x y : Nat} (hx : x < n) (hy : y < n) : beB n U (x : Int) (y : Int) = U x y := by
  unfold beB; rw [decide_eq_true (by omega)]; simp
theorem bound_iff {n : Nat} {u d : Nat → Nat} (h : Ord n u d) {a b j : Nat} (ha : a < n) (hb : b < n) (hj : j < n) :
    (((u a).testBit j && (u b).testBit j) && (List.range n).all fun e => !(u a).testBit e || !(u b).testBit e || (u j).testBit e) = true ↔ u j = u a &&& u b := by
  rw [Bool.and_eq_true, Bool.and_eq_true, List.all_eq_true]
  constructor
  · rintro ⟨⟨h1, h2⟩, h3⟩
    apply Nat.eq_of_testBit_eq
    intro e
    rw [Nat.testBit_and, Bool.eq_iff_iff, Bool.and_eq_true]
    constructor
    · intro he
      have hen := h.fitU j e hj he
      exact ⟨h.trans a j e ha hj hen h1 he, h.trans b j e hb hj hen h2 he⟩
    · rintro ⟨e1, e2⟩
      have := h3 e (List.mem_range.2 (h.fitU a e ha e1))
      rw [e1, e2] at this
      simpa using this
  · intro q
    have r := h.refl j hj
    have r' := r
    rw [q, Nat.testBit_and, Bool.and_eq_true] at r'
    refine ⟨r', fun e _ => ?_⟩
    rw [q, Nat.testBit_and]
    cases (u a).testBit e <;> cases (u b).testBit e <;> rfl
theorem fst_bd {n : Nat} {m : Nat → Nat} {p : Nat → Bool} {a b : Nat} (h : ∀ j, j < n → (p j = true ↔ m j = m a &&& m b)) : fstI n p = bd n m a b := by
  unfold bd
  rcases idxM_spec n m (m a &&& m b) with ⟨h1, h2⟩ | ⟨k, hk, h1, h2, h3⟩
  · rw [h1]
    exact fstI_miss (fun j hj => by
      cases e : p j
      · rfl
      · exact absurd ((h j hj).1 e) (h2 j hj))
  · rw [h1]
    exact fstI_hit hk ((h k hk).2 h2) (fun j hj => by
      cases e : p j
      · rfl
      · exact absurd ((h j (by omega)).1 e) (h3 j hj))
theorem all_congr {n : Nat} {p q : Nat → Bool} (h : ∀ e, e < n → p e = q e) : (List.range n).all p = (List.range n).all q := by
  rw [Bool.eq_iff_iff, List.all_eq_true, List.all_eq_true]
  exact ⟨fun k e he => by rw [← h e (List.mem_range.1 he)]; exact k e he, fun k e he => by rw [h e (List.mem_range.1 he)]; exact k e he⟩
theorem jn_bd {n : Nat} {u d : Nat → Nat} {U : Nat → Nat → Bool} (h : Ord n u d) (hU : ∀ x y, x < n → y < n → U x y = (u x).testBit y) {a b : Nat} (ha : a < n) (hb : b < n) : fstI n (jnB n U (a : Int) (b : Int)) = bd n u a b :=
  fst_bd fun j hj => by
    rw [← bound_iff h ha hb hj]
    unfold jnB
    rw [beB_in ha hj, beB_in hb hj, hU a j ha hj, hU b j hb hj, all_congr (q := fun e => !(u a).testBit e || !(u b).testBit e || (u j).testBit e) (fun e he => by rw [beB_in ha he, beB_in hb he, beB_in hj he, hU a e ha he, hU b e hb he, hU j e hj he])]
theorem mt_bd {n : Nat} {u d : Nat → Nat} {U : Nat → Nat → Bool} (h : Ord n u d) (hU : ∀ x y, x < n → y < n → U x y = (u x).testBit y) {a b : Nat} (ha : a < n) (hb : b < n) : fstI n (mtB n U (a : Int) (b : Int)) = bd n d a b :=
  fst_bd fun j hj => by
    have t : ∀ x y, x < n → y < n → U x y = (d y).testBit x := fun x y hx hy => by rw [hU x y hx hy, h.turn x y hx hy]
    rw [← bound_iff h.flip ha hb hj]
    unfold mtB
    rw [beB_in hj ha, beB_in hj hb, t j a hj ha, t j b hj hb, all_congr (q := fun e => !(d a).testBit e || !(d b).testBit e || (d j).testBit e) (fun e he => by rw [beB_in he ha, beB_in he hb, beB_in he hj, t e a he ha, t e b he hb, t e j he hj])]
end Go.Proofs.Ytefnbjkmmmdagaa
