/- PROVED here: two ways to close a relation come to the same. No condition but those in each theorem's own head. -/
import Derived.Test.YtefnbjkmmmdagaaM
namespace Go.Proofs.Ytefnbjkmmmdagaa
open Go Go.RowKit

def TransB (n : Nat) (T : Nat → Nat → Bool) : Prop := ∀ a c b, a < n → c < n → b < n → T a c = true → T c b = true → T a b = true
def LeB (n : Nat) (U V : Nat → Nat → Bool) : Prop := ∀ a b, a < n → b < n → U a b = true → V a b = true
/-- the least transitive relation above another one -/
def CloB (n : Nat) (U V : Nat → Nat → Bool) : Prop := LeB n U V ∧ TransB n V ∧ ∀ T, TransB n T → LeB n U T → LeB n V T
theorem clo_min {n : Nat} {m : Nat → Nat} {T : Nat → Nat → Bool} (hT : TransB n T) (h : LeB n (fun a b => (m a).testBit b) T) : ∀ k, k ≤ n → LeB n (fun a b => (cloK m k a).testBit b) T
  | 0, _ => h
  | k + 1, hk => fun a b ha hb e => by
    have ih := clo_min hT h k (by omega)
    have e' : (stepC k (cloK m k) a).testBit b = true := e
    rw [step_bit, Bool.or_eq_true, Bool.and_eq_true] at e'
    rcases e' with e' | ⟨e1, e2⟩
    · exact ih a b ha hb e'
    · exact hT a k b ha (by omega) hb (ih a k ha (by omega) e1) (ih k b (by omega) hb e2)
theorem clo_same {n : Nat} {m : Nat → Nat} {U V : Nat → Nat → Bool} (hU : ∀ a b, a < n → b < n → U a b = (m a).testBit b) (h : CloB n U V) : ∀ a b, a < n → b < n → V a b = (cloK m n a).testBit b := fun a b ha hb => by
  obtain ⟨h1, h2, h3⟩ := h
  rw [Bool.eq_iff_iff]
  constructor
  · exact h3 (fun a b => (cloK m n a).testBit b) (fun a c b ha hc hb e1 e2 => trans_clo m n (Nat.le_refl _) a c b ha hc hb hc e1 e2) (fun a b ha hb e => clo_le m a b (by rw [← hU a b ha hb]; exact e) n) a b ha hb
  · exact clo_min h2 (fun a b ha hb e => h1 a b ha hb (by rw [hU a b ha hb]; exact e)) n (Nat.le_refl _) a b ha hb
/-- one entry more, where two of them meet -/
def putB (U : Nat → Nat → Bool) (a b : Nat) : Nat → Nat → Bool := fun x y => if x = a ∧ y = b then true else U x y
theorem putB_le {n : Nat} {U : Nat → Nat → Bool} {a b : Nat} : LeB n U (putB U a b) := fun x y _ _ e => by
  unfold putB; split
  · rfl
  · exact e
theorem putB_min {n : Nat} {U T : Nat → Nat → Bool} {a c b : Nat} (ha : a < n) (hc : c < n) (hb : b < n) (h1 : U a c = true) (h2 : U c b = true) (hT : TransB n T) (h : LeB n U T) : LeB n (putB U a b) T := fun x y hx hy e => by
  unfold putB at e
  split at e
  · rename_i q; obtain ⟨rfl, rfl⟩ := q; exact hT x c y ha hc hb (h x c ha hc h1) (h c y hc hb h2)
  · exact h x y hx hy e
end Go.Proofs.Ytefnbjkmmmdagaa
