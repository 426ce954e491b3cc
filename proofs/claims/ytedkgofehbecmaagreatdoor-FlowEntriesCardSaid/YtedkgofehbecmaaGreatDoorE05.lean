/- PROVED here: part Gd of the claim. No condition but those in each theorem's own head. -/
import Derived.Test.YtedkgofehbecmaaGreatDoorE04
namespace Go.Proofs.YtedkgofehbecmaaGreatDoor
open Go
section
open Tr (nth)
variable {l : List Tr.Nd} {b : Nat → Nat} {R : Nat → Bool} {t : List (Nat × Nat)} {first : Nat} {s : BdS}
theorem ixF_at (P : Gn → Bool) : ∀ (G : List Gn) (j i : Nat) (hi : i < G.length), P G[i] = true → (∀ k (hk : k < i), P (G[k]'(Nat.lt_trans hk hi)) = false) → ixF P G j = ((j + i : Nat) : Int)
  | [], _, _, hi, _, _ => absurd hi (Nat.not_lt_zero _)
  | x :: G, j, 0, _, h, _ => by
    unfold ixF; rw [if_pos (show P x = true from h)]; rfl
  | x :: G, j, i + 1, hi, h, hk => by
    unfold ixF
    have h0 : P x = false := hk 0 (by omega)
    rw [if_neg (by rw [h0]; decide)]
    have := ixF_at P G (j + 1) i (by simpa using hi) h fun k hk2 => hk (k + 1) (by omega)
    rw [this]; congr 1; omega
theorem offG_le {p q : Nat} (h : p < q) (hq : q ≤ t.length) : offG l t (p + 1) ≤ offG l t q := by
  have key : ∀ d p, p + d ≤ t.length → offG l t p ≤ offG l t (p + d) := fun d => by
    induction d with
    | zero => exact fun p _ => Nat.le_refl _
    | succ d ih => exact fun p hp => Nat.le_trans (ih p (by omega)) (by rw [show p + (d + 1) = (p + d) + 1 by omega, offG_succ (by omega)]; omega)
  have := key (q - (p + 1)) (p + 1) (by omega)
  rwa [show p + 1 + (q - (p + 1)) = q by omega] at this
/-- the ends of a procedure -/
theorem IsG.ends (hs : IsG l b R t first s) {p : Nat} (hp : p < t.length) {c : Nat} (hc : c < 3) : ixF (fun x : Gn => x.kd == ((c + 1 : Nat) : Int) && x.pr == (p : Int)) s.G 0 = ((offG l t p + c : Nat) : Int) := by
  have ho := offG_succ (l := l) hp
  have hm := offG_le (l := l) (t := t) (p := p) (q := t.length) hp (Nat.le_refl _)
  rw [← hs.len] at hm
  obtain ⟨⟨e, k1, k2⟩, k3, k4, k5⟩ := hs.seg p hp
  have hlt : offG l t p + c < s.G.length := by omega
  have := ixF_at (fun x : Gn => x.kd == ((c + 1 : Nat) : Int) && x.pr == (p : Int)) s.G 0 (offG l t p + c) hlt (by
    obtain rfl | rfl | rfl : c = 0 ∨ c = 1 ∨ c = 2 := by omega
    · rw [List.getElem?_eq_getElem (by omega)] at k1
      rw [show s.G[offG l t p + 0] = _ from Option.some.inj k1]; simp
    · rw [List.getElem?_eq_getElem (by omega)] at k3
      rw [show s.G[offG l t p + 1] = _ from Option.some.inj k3]; simp
    · rw [List.getElem?_eq_getElem (by omega)] at k4
      rw [show s.G[offG l t p + 2] = _ from Option.some.inj k4]; simp) (fun k hk => by
    have hkl : k < s.G.length := by omega
    rcases hs.at k hkl with ⟨p', hp', hi', e', hx, _⟩ | ⟨p', hp', hi', hx⟩ | ⟨p', hp', hi', hx⟩ | ⟨p', hp', q', hi', hq', hst', hx⟩
    · rw [hx]
      dsimp only
      rw [Bool.and_eq_false_iff]
      by_cases e : p' = p
      · subst e; left; rw [beq_eq_false_iff_ne]; omega
      · right; rw [beq_eq_false_iff_ne]; omega
    · rw [hx]
      dsimp only
      rw [Bool.and_eq_false_iff]
      by_cases e : p' = p
      · subst e; left; rw [beq_eq_false_iff_ne]; omega
      · right; rw [beq_eq_false_iff_ne]; omega
    · rw [hx]
      dsimp only
      rw [Bool.and_eq_false_iff]
      by_cases e : p' = p
      · subst e; left; rw [beq_eq_false_iff_ne]; omega
      · right; rw [beq_eq_false_iff_ne]; omega
    · rw [hx.bs.kd, Bool.and_eq_false_iff]
      left; rw [beq_eq_false_iff_ne]; omega)
  rw [this, Nat.zero_add]
/-- what a node leads to is of its procedure, and no entry -/
theorem IsG.tg (hs : IsG l b R t first s) {p : Nat} (hp : p < t.length) {k : Int} (hk : Tg (offG l t p) (offG l t (p + 1)) k) : ∃ j : Nat, k = (j : Int) ∧ ∃ hj : j < s.G.length, (s.G[j]).kd ≠ 1 ∧ (s.G[j]).pr = (p : Int) := by
  obtain ⟨j, rfl, h1, h2⟩ := hk
  have hm := offG_le (l := l) (t := t) (p := p) (q := t.length) hp (Nat.le_refl _)
  rw [← hs.len] at hm
  have hjl : j < s.G.length := by omega
  refine ⟨j, rfl, hjl, ?_⟩
  have huni : ∀ p', p' < t.length → offG l t p' ≤ j → j < offG l t (p' + 1) → p' = p := fun p' hp' h3 h4 => by
    rcases Nat.lt_trichotomy p' p with h | h | h
    · have := offG_le (l := l) (t := t) h (by omega); omega
    · exact h
    · have := offG_le (l := l) (t := t) h (by omega); omega
  rcases hs.at j hjl with ⟨p', hp', hi', e', hx, _⟩ | ⟨p', hp', hi', hx⟩ | ⟨p', hp', hi', hx⟩ | ⟨p', hp', q', hi', hq', hst', hx⟩
  · have ho := offG_succ (l := l) hp'
    have := huni p' hp' (by omega) (by omega)
    subst this
    omega
  · have ho := offG_succ (l := l) hp'
    have := huni p' hp' (by omega) (by omega)
    subst this
    rw [hx]; exact ⟨by simp, rfl⟩
  · have ho := offG_succ (l := l) hp'
    have := huni p' hp' (by omega) (by omega)
    subst this
    rw [hx]; exact ⟨by simp, rfl⟩
  · have := huni p' hp' (by omega) (by omega)
    subst this
    exact ⟨by rw [hx.bs.kd]; decide, hx.bs.pr⟩
end
end Go.Proofs.YtedkgofehbecmaaGreatDoor
