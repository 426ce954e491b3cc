/- PROVED here: the document's bottom and top are the program's. No condition but those in each theorem's own head. -/
import Derived.Test.YtefnbjkmmmdagaaMd
import Derived.Test.YtefnbjkmmmdagaaMj
namespace Go.Proofs.Ytefnbjkmmmdagaa
open Go Go.RowKit

theorem fld_step {n : Nat} {v w : Nat → Nat} {f : Int → Nat → Int} (h : Ord n v w) (hB : Bnd n w) (hf : ∀ a k : Nat, a < n → k < n → f (a : Int) k = bd n w a k) (h0 : 0 < n) :
    ∀ k, 0 < k → k ≤ n → ∃ c : Nat, c < n ∧ fldI f k = c ∧ ∀ x, x < k → (v c).testBit x = true
  | 0, h, _ => by omega
  | k + 1, _, hk => by
    show ∃ c : Nat, c < n ∧ (if k = 0 then 0 else f (fldI f k) k) = c ∧ _
    by_cases hk0 : k = 0
    · subst hk0
      exact ⟨0, h0, by simp, fun x hx => by
        have : x = 0 := by omega
        subst this; exact h.refl 0 h0⟩
    · obtain ⟨c, hc, he, hx⟩ := fld_step h hB hf h0 k (by omega) (by omega)
      rw [if_neg hk0, he, hf c k hc (by omega)]
      obtain ⟨e, hen, h1, h2⟩ := bd_spec hB hc (show k < n by omega)
      have r := h.flip.refl e hen
      rw [h2, Nat.testBit_and, Bool.and_eq_true] at r
      rw [h.turn e c hen hc, h.turn e k hen (by omega)] at r
      refine ⟨e, hen, h1, fun x hxk => ?_⟩
      by_cases q : x = k
      · subst q; exact r.2
      · exact h.trans e c x hen hc (by omega) r.1 (hx x (by omega))
theorem fld_idx {n : Nat} {v w : Nat → Nat} {f : Int → Nat → Int} (h : Ord n v w) (hD : Dist n v) (hB : Bnd n w) (hf : ∀ a k : Nat, a < n → k < n → f (a : Int) k = bd n w a k) (h0 : 0 < n) : fldI f n = idxM n v (2 ^ n - 1) := by
  obtain ⟨c, hc, he, hx⟩ := fld_step h hB hf h0 n h0 (Nat.le_refl _)
  have e : v c = 2 ^ n - 1 := by
    apply Nat.eq_of_testBit_eq
    intro x
    rw [Nat.testBit_two_pow_sub_one]
    by_cases q : x < n
    · rw [hx x q, decide_eq_true q]
    · rw [decide_eq_false q]
      cases t : (v c).testBit x
      · rfl
      · exact absurd (h.fitU c x hc t) q
  rw [he, ← e, idx_self hD hc]
theorem bot_same {n : Nat} {u d : Nat → Nat} {U : Nat → Nat → Bool} (h : Ord n u d) (hD : Dist n u) (hB : Bnd n d) (hU : ∀ x y, x < n → y < n → U x y = (u x).testBit y) (h0 : 0 < n) :
    fldI (fun a k => fstI n (mtB n U a (k : Int))) n = idxM n u (2 ^ n - 1) := fld_idx h hD hB (fun _ _ ha hk => mt_bd h hU ha hk) h0
theorem top_same {n : Nat} {u d : Nat → Nat} {U : Nat → Nat → Bool} (h : Ord n u d) (hD : Dist n d) (hB : Bnd n u) (hU : ∀ x y, x < n → y < n → U x y = (u x).testBit y) (h0 : 0 < n) :
    fldI (fun a k => fstI n (jnB n U a (k : Int))) n = idxM n d (2 ^ n - 1) := fld_idx h.flip hD hB (fun _ _ ha hk => jn_bd h hU ha hk) h0
end Go.Proofs.Ytefnbjkmmmdagaa
