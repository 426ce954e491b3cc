/- PROVED here: plain facts on decimal numbers. No condition but those in each theorem's own head. -/
import Derived.Test.YtahmadelokofbaaDoorRa
import Derived.Test.YtahmadelokofbaaDoorR
namespace Go.Proofs.YtahmadelokofbaaDoor
open Go Go.RowKit

def valA (acc : Nat) (l : List UInt8) : Nat := l.foldl (fun a c => a * 10 + (c.toNat - 48)) acc
def allD (l : List UInt8) : Bool := l.all dgB
theorem dg_le {c : UInt8} (h : dgB c = true) : 48 ≤ c.toNat ∧ c.toNat ≤ 57 := by unfold dgB at h; simp at h; omega
theorem allD_cons {c : UInt8} {r : List UInt8} : allD (c :: r) = (dgB c && allD r) := rfl
theorem valA_cons (acc : Nat) (c : UInt8) (r : List UInt8) : valA acc (c :: r) = valA (acc * 10 + (c.toNat - 48)) r := by unfold valA; rw [List.foldl_cons]
theorem pow_c (n : Nat) : 10 ^ (n + 1) = 10 * 10 ^ n := by rw [Nat.pow_succ, Nat.mul_comm]
theorem valA_ge : ∀ (l : List UInt8) (acc : Nat), acc * 10 ^ l.length ≤ valA acc l
  | [], acc => by show acc * 10 ^ 0 ≤ acc; rw [Nat.pow_zero, Nat.mul_one]; exact Nat.le_refl _
  | c :: r, acc => by
    have ih := valA_ge r (acc * 10 + (c.toNat - 48))
    rw [valA_cons, List.length_cons, pow_c, ← Nat.mul_assoc]
    exact Nat.le_trans (Nat.mul_le_mul_right _ (Nat.le_add_right _ _)) ih
theorem valA_lt : ∀ (l : List UInt8) (acc : Nat), allD l = true → valA acc l < (acc + 1) * 10 ^ l.length
  | [], acc, _ => by show acc < (acc + 1) * 10 ^ 0; rw [Nat.pow_zero, Nat.mul_one]; exact Nat.lt_succ_self _
  | c :: r, acc, h => by
    rw [allD_cons, Bool.and_eq_true] at h
    have hc := dg_le h.1
    have ih := valA_lt r (acc * 10 + (c.toNat - 48)) h.2
    rw [valA_cons, List.length_cons, pow_c, ← Nat.mul_assoc]
    exact Nat.lt_of_lt_of_le ih (Nat.mul_le_mul_right _ (by omega))
theorem less_val : ∀ (a b : List UInt8) (acc : Nat), a.length = b.length → allD a = true → allD b = true → ((Op.bytesLess a b || a == b) = true ↔ valA acc a ≤ valA acc b)
  | [], [], acc, _, _, _ => by simp [Op.bytesLess]
  | c :: r, d :: t, acc, hl, ha, hb => by
    rw [allD_cons, Bool.and_eq_true] at ha hb
    have hc := dg_le ha.1
    have hd := dg_le hb.1
    have hl' : r.length = t.length := by simpa using hl
    rcases Nat.lt_trichotomy c.toNat d.toNat with h | h | h
    · have h1 := valA_lt r (acc * 10 + (c.toNat - 48)) ha.2
      have h2 := valA_ge t (acc * 10 + (d.toNat - 48))
      have h3 : (acc * 10 + (c.toNat - 48) + 1) * 10 ^ r.length ≤ (acc * 10 + (d.toNat - 48)) * 10 ^ t.length := by
        rw [hl']; exact Nat.mul_le_mul_right _ (by omega)
      have hlt : c < d := UInt8.lt_iff_toNat_lt.2 h
      rw [valA_cons, valA_cons]
      constructor
      · intro _; exact Nat.le_of_lt (Nat.lt_of_lt_of_le h1 (Nat.le_trans h3 h2))
      · intro _; simp [Op.bytesLess, hlt]
    · have e : c = d := UInt8.toNat_inj.1 h
      subst e
      have ih := less_val r t (acc * 10 + (c.toNat - 48)) hl' ha.2 hb.2
      rw [valA_cons, valA_cons, ← ih]
      simp [Op.bytesLess]
    · have h1 := valA_lt t (acc * 10 + (d.toNat - 48)) hb.2
      have h2 := valA_ge r (acc * 10 + (c.toNat - 48))
      have h3 : (acc * 10 + (d.toNat - 48) + 1) * 10 ^ t.length ≤ (acc * 10 + (c.toNat - 48)) * 10 ^ r.length := by
        rw [hl']; exact Nat.mul_le_mul_right _ (by omega)
      have hnl : ¬ c < d := fun hh => by have := UInt8.lt_iff_toNat_lt.1 hh; omega
      have hne : c ≠ d := fun e => by rw [e] at h; omega
      rw [valA_cons, valA_cons]
      constructor
      · intro hh; exfalso; revert hh; simp [Op.bytesLess, hnl, hne]
      · intro hh; exact absurd (Nat.lt_of_lt_of_le h1 (Nat.le_trans h3 h2)) (Nat.not_lt.2 hh)
def greatL : List UInt8 := [57, 50, 50, 51, 51, 55, 50, 48, 51, 54, 56, 53, 52, 55, 55, 53, 56, 48, 55]
theorem great_val : valA 0 greatL = 9223372036854775807 := by decide
/-- the number that a text is, as the document says it -/
def rnum (l : List UInt8) : Option Nat := if allD l = true ∧ l ≠ [] ∧ ¬ (1 < l.length ∧ (l.headD 0).toNat = 48) ∧ valA 0 l ≤ 9223372036854775807 then some (valA 0 l) else none
theorem parse_digits (M : Nat) (hM : M ≤ 18446744073709551615) : ∀ (l : List UInt8) (acc : Nat), acc ≤ M → allD l = true → Lib.parseUintM M acc l = if valA acc l ≤ M then .ok (valA acc l) else .range
  | [], acc, h, _ => by rw [show valA acc [] = acc from rfl, if_pos h]; rfl
  | c :: r, acc, h, hd => by
    rw [allD_cons, Bool.and_eq_true] at hd
    have hc := dg_le hd.1
    have hg := valA_ge r (acc * 10 + (c.toNat - 48))
    have h1 : 0 < 10 ^ r.length := Nat.pos_of_ne_zero (by simp)
    have h2 : acc * 10 + (c.toNat - 48) ≤ valA (acc * 10 + (c.toNat - 48)) r := Nat.le_trans (Nat.le_mul_of_pos_right _ h1) hg
    rw [valA_cons]
    simp only [Lib.parseUintM]
    rw [if_pos hc]
    by_cases o1 : 1844674407370955162 ≤ acc
    · rw [if_pos o1, if_neg (by omega)]
    · rw [if_neg o1]
      by_cases o2 : M < acc * 10 + (c.toNat - 48)
      · rw [if_pos o2, if_neg (by omega)]
      · rw [if_neg o2, parse_digits M hM r _ (by omega) hd.2]
theorem parse_nodigits (M : Nat) : ∀ (l : List UInt8) (acc : Nat), allD l = false → ∀ v, Lib.parseUintM M acc l ≠ .ok v
  | [], acc, h, v => by simp [allD] at h
  | c :: r, acc, h, v => by
    simp only [Lib.parseUintM]
    by_cases hc : 48 ≤ c.toNat ∧ c.toNat ≤ 57
    · rw [if_pos hc]
      have hd : dgB c = true := by unfold dgB; simp; omega
      rw [allD_cons, hd, Bool.true_and] at h
      split
      · simp
      · split
        · simp
        · exact parse_nodigits M r _ h v
    · rw [if_neg hc]; simp
theorem num_rnum {c : UInt8} {r : List UInt8} (h43 : c.toNat ≠ 43) (h45 : c.toNat ≠ 45) : numF (c :: r) = (rnum (c :: r)).map Int.ofNat := by
  unfold numF
  by_cases hz : 1 < (c :: r).length ∧ ((c :: r).headD 0).toNat = 48
  · rw [if_pos hz, show rnum (c :: r) = none from if_neg (fun h => h.2.2.1 hz)]; rfl
  · rw [if_neg hz, Lib.parseIntB_plain 64 c r h43 h45]
    have e0 : Lib.parseUintB 64 (c :: r) = Lib.parseUintM 18446744073709551615 0 (c :: r) := by unfold Lib.parseUintB; rw [if_neg (by simp)]
    rw [e0]
    cases hd : allD (c :: r)
    · rw [show rnum (c :: r) = none from if_neg (fun h => by rw [hd] at h; simp at h)]
      cases hq : Lib.parseUintM 18446744073709551615 0 (c :: r) with
      | ok v => exact absurd hq (parse_nodigits _ _ _ hd v)
      | _ => rfl
    · rw [parse_digits 18446744073709551615 (by omega) (c :: r) 0 (by omega) hd]
      by_cases hv : valA 0 (c :: r) ≤ 9223372036854775807
      · rw [if_pos (by omega), show rnum (c :: r) = some (valA 0 (c :: r)) from if_pos ⟨hd, by simp, hz, hv⟩]
        simp only [Lib.signlessC]
        rw [if_neg (by omega)]; rfl
      · rw [show rnum (c :: r) = none from if_neg (fun h => hv h.2.2.2)]
        by_cases hv2 : valA 0 (c :: r) ≤ 18446744073709551615
        · rw [if_pos hv2]
          simp only [Lib.signlessC]
          rw [if_pos (by omega)]; rfl
        · rw [if_neg hv2]; rfl
end Go.Proofs.YtahmadelokofbaaDoor
