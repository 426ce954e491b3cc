/- PROVED here: plain facts about lattices of masks. No condition but those in each theorem's own head. -/
import Derived.Test.YtefnbjkmmmdagaaQ
namespace Go.Proofs.Ytefnbjkmmmdagaa

theorem Latt.flip {n : Nat} {u d : Nat → Nat} (h : Latt n u d) : Latt n d u :=
  ⟨h.toOrd.flip, h.pos, h.le16, h.toOrd.dist h.dist, h.meets, h.joins⟩
section
variable {n : Nat} {u d : Nat → Nat} (h : Latt n u d)
include h
/-- a join -/
theorem Latt.join {a b : Nat} (ha : a < n) (hb : b < n) : ∃ j : Nat, j < n ∧ bd n u a b = j ∧ u j = u a &&& u b := by
  obtain ⟨c, h1, h2, h3⟩ := bd_spec h.joins ha hb
  exact ⟨c, h1, h2, h3⟩
theorem Latt.joinOf {a b j : Nat} (hj : j < n) (e : u j = u a &&& u b) : bd n u a b = j := bd_eq h.dist hj e
/-- what is below both is below the meet: the meet is below each -/
theorem Latt.meet_le {a b m : Nat} (ha : a < n) (hm : m < n) (e : d m = d a &&& d b) : (u m).testBit a = true := by
  have h1 := h.flip.refl m hm
  rw [e, Nat.testBit_and, Bool.and_eq_true] at h1
  rw [h.turn m a hm ha] at h1
  exact h1.1
theorem Latt.absorb {a b m : Nat} (ha : a < n) (hm : m < n) (e : d m = d a &&& d b) : bd n u a m = a := by
  refine h.joinOf ha ?_
  have := h.sub hm ha (h.meet_le ha hm e)
  rw [Nat.and_comm, this]
theorem Latt.below_join {a b j : Nat} (ha : a < n) (hb : b < n) (e : bd n u a b = j) : (((j : Nat) : Int) == (b : Int)) = (u a).testBit b := by
  cases ht : (u a).testBit b with
  | true =>
    have := h.joinOf hb (h.sub ha hb ht).symm
    rw [e] at this
    rw [beq_iff_eq]; exact this
  | false =>
    rw [beq_eq_false_iff_ne]
    intro e2
    obtain ⟨c, h1, h2, h3⟩ := h.join ha hb
    have hc : c = b := by rw [e] at h2; omega
    subst hc
    have := h.refl c hb
    rw [h3, Nat.testBit_and, ht] at this
    simp at this
theorem Latt.below_meet {a b m : Nat} (ha : a < n) (hb : b < n) (e : bd n d a b = m) : (((m : Nat) : Int) == (a : Int)) = (u a).testBit b := by
  have := h.flip.below_join hb ha ((bd_comm n d b a).trans e)
  rw [this, h.turn a b ha hb]
theorem Latt.low : ∀ k, 0 < k → k ≤ n → ∃ z, z < n ∧ ∀ i, i < k → (u z).testBit i = true
  | 0, h0, _ => by omega
  | 1, _, h1 => ⟨0, by omega, fun i hi => by
      obtain rfl : i = 0 := by omega
      exact h.refl 0 (by omega)⟩
  | k + 2, _, h2 => by
    obtain ⟨z, hz, hi⟩ := Latt.low (k + 1) (by omega) (by omega)
    obtain ⟨m, hm, _, e⟩ := h.flip.join hz (show k + 1 < n by omega)
    have h1 := h.meet_le hz hm e
    have h3 := h.meet_le (b := z) (show k + 1 < n by omega) hm (by rw [e, Nat.and_comm])
    refine ⟨m, hm, fun i hk => ?_⟩
    by_cases e2 : i = k + 1
    · subst e2; exact h3
    · exact h.trans m z i hm hz (by omega) h1 (hi i (by omega))
theorem Latt.bottom : ∃ z : Nat, z < n ∧ idxM n u (2 ^ n - 1) = z ∧ ∀ i, i < n → (u z).testBit i = true := by
  obtain ⟨z, hz, hi⟩ := h.low n h.pos (Nat.le_refl _)
  have e : u z = 2 ^ n - 1 := by
    apply Nat.eq_of_testBit_eq; intro j
    rw [Nat.testBit_two_pow_sub_one]
    by_cases hj : j < n
    · rw [hi j hj]; simp [hj]
    · rw [decide_eq_false hj]
      cases hb : (u z).testBit j with
      | false => rfl
      | true => exact absurd (h.fitU z j hz hb) hj
  rcases idxM_spec n u (2 ^ n - 1) with ⟨_, h2⟩ | ⟨i, hi1, h1, h2, _⟩
  · exact absurd e (h2 z hz)
  · have : i = z := h.dist i z hi1 hz (h2.trans e.symm)
    subst this
    exact ⟨i, hz, h1, hi⟩
theorem Latt.top : ∃ z : Nat, z < n ∧ idxM n d (2 ^ n - 1) = z ∧ ∀ i, i < n → (u i).testBit z = true := by
  obtain ⟨z, hz, h1, h2⟩ := h.flip.bottom
  exact ⟨z, hz, h1, fun i hi => by rw [← h.turn i z hi hz]; exact h2 i hi⟩
/-- all that LevelsLaws asks -/
theorem Latt.laws {a b c : Nat} (ha : a < n) (hb : b < n) (hc : c < n) : ∃ jab jbc x mab mbc y bo tp : Nat, (jab < n ∧ jbc < n ∧ mab < n ∧ mbc < n ∧ bo < n ∧ tp < n) ∧
    (bd n u a b = jab ∧ bd n u b a = jab ∧ bd n d a b = mab ∧ bd n d b a = mab ∧ bd n u b c = jbc ∧ bd n d b c = mbc) ∧
    (bd n u a jbc = x ∧ bd n u jab c = x ∧ bd n d a mbc = y ∧ bd n d mab c = y ∧ bd n u a mab = a ∧ bd n d a jab = a) ∧
    ((((jab : Nat) : Int) == (b : Int)) = (u a).testBit b ∧ (((mab : Nat) : Int) == (a : Int)) = (u a).testBit b) ∧
    (idxM n u (2 ^ n - 1) = bo ∧ idxM n d (2 ^ n - 1) = tp ∧ (u bo).testBit a = true ∧ (u a).testBit tp = true ∧ (u a).testBit a = true) := by
  obtain ⟨jab, j1, j2, j3⟩ := h.join ha hb
  obtain ⟨jbc, k1, k2, k3⟩ := h.join hb hc
  obtain ⟨x, x1, x2, x3⟩ := h.join ha k1
  obtain ⟨mab, m1, m2, m3⟩ := h.flip.join ha hb
  obtain ⟨mbc, n1, n2, n3⟩ := h.flip.join hb hc
  obtain ⟨y, y1, y2, y3⟩ := h.flip.join ha n1
  obtain ⟨bo, b1, b2, b3⟩ := h.bottom
  obtain ⟨tp, t1, t2, t3⟩ := h.top
  refine ⟨jab, jbc, x, mab, mbc, y, bo, tp, ⟨j1, k1, m1, n1, b1, t1⟩, ⟨j2, (bd_comm n u b a).trans j2, m2, (bd_comm n d b a).trans m2, k2, n2⟩, ⟨x2, h.joinOf x1 ?_, y2, h.flip.joinOf y1 ?_, h.absorb ha m1 m3, h.flip.absorb ha j1 j3⟩, ⟨h.below_join ha hb j2, h.below_meet ha hb m2⟩, ⟨b2, t2, b3 a ha, t3 a ha, h.refl a ha⟩⟩
  · rw [x3, k3, j3, Nat.and_assoc]
  · rw [y3, n3, m3, Nat.and_assoc]
/-- a join is the least above both -/
theorem Latt.least {a b c j : Nat} (hj : j < n) (e : u j = u a &&& u b) : (u a).testBit j = true ∧ (u b).testBit j = true ∧ ((u a).testBit c = true → (u b).testBit c = true → (u j).testBit c = true) := by
  have h1 := h.refl j hj
  rw [e, Nat.testBit_and, Bool.and_eq_true] at h1
  exact ⟨h1.1, h1.2, fun h2 h3 => by rw [e, Nat.testBit_and, h2, h3]; rfl⟩
end
end Go.Proofs.Ytefnbjkmmmdagaa
