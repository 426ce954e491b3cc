/- PROVED here: the document's table before it is closed is the program's masks. No condition but those in each theorem's own head. -/
import Derived.Test.YtefnbjkmmmdagaaMi
import Derived.Test.YtefnbjkmmmdagaaG
namespace Go.Proofs.Ytefnbjkmmmdagaa
open Go Go.RowKit

/-- the table that the pairs fill -/
def tabU (l : List ByteArray) (ps : List (ByteArray × ByteArray)) : Nat → Nat → Bool := ps.foldl (fun U p => putB U (idxO l p.1).toNat (idxO l p.2).toNat) (fun a b => decide (a = b))
theorem tabU_take (l : List ByteArray) (ps : List (ByteArray × ByteArray)) (k : Nat) (hk : k < ps.length) : tabU l (ps.take (k + 1)) = putB (tabU l (ps.take k)) (idxO l ps[k].1).toNat (idxO l ps[k].2).toNat := by
  unfold tabU; rw [List.take_succ_eq_append_getElem hk, List.foldl_append]; rfl
theorem put_add {U : Nat → Nat → Bool} {m : Nat → Nat} (h : ∀ a b, U a b = (m a).testBit b) (i j : Nat) : ∀ a b, putB U i j a b = (addP i j m a).testBit b := fun a b => by
  unfold putB addP
  by_cases q : a = i
  · subst q
    by_cases r : b = j
    · subst r; simp [Nat.testBit_or, Nat.testBit_two_pow_self]
    · have r' : j ≠ b := fun e => r e.symm
      simp [Nat.testBit_or, r, Nat.testBit_two_pow_of_ne r', h]
  · simp [q, h]
theorem tab_rel (l : List ByteArray) (ps : List (ByteArray × ByteArray)) : ∀ a b, tabU l ps a b = (relU l ps a).testBit b := by
  unfold tabU relU
  have k : ∀ (ps : List (ByteArray × ByteArray)) (U : Nat → Nat → Bool) (m : Nat → Nat), (∀ a b, U a b = (m a).testBit b) → ∀ a b, ps.foldl (fun U p => putB U (idxO l p.1).toNat (idxO l p.2).toNat) U a b = (ps.foldl (fun m p => addP (idxO l p.1).toNat (idxO l p.2).toNat m) m a).testBit b := by
    intro ps
    induction ps with
    | nil => intro U m h; exact h
    | cons p ps ih => intro U m h; exact ih _ _ (put_add h _ _)
  exact k ps _ _ (fun a b => by rw [Nat.testBit_two_pow])
end Go.Proofs.Ytefnbjkmmmdagaa
