/- PROVED here: plain facts: a name's place is its own; each pair handed in stands; the pairs with nothing between make the same lattice. No condition but those in each theorem's own head. -/
import Derived.Test.YtefnbjkmmmdagaaV
namespace Go.Proofs.Ytefnbjkmmmdagaa
open Go Go.RowKit
theorem rel_bit (l : List ByteArray) : ∀ (ps : List (ByteArray × ByteArray)) (m : Nat → Nat) (i j : Nat), ((ps.foldl (fun m p => addP (idxO l p.1).toNat (idxO l p.2).toNat m) m) i).testBit j = true ↔ (m i).testBit j = true ∨ ∃ p ∈ ps, i = (idxO l p.1).toNat ∧ (idxO l p.2).toNat = j
  | [], m, i, j => by simp
  | p :: ps, m, i, j => by
    rw [List.foldl_cons, rel_bit l ps, addP_bit, Bool.or_eq_true, Bool.and_eq_true, decide_eq_true_eq, decide_eq_true_eq]
    constructor
    · rintro ((h | h) | ⟨q, hq, h⟩)
      · exact .inl h
      · exact .inr ⟨p, by simp, h⟩
      · exact .inr ⟨q, by simp [hq], h⟩
    · rintro (h | ⟨q, hq, h⟩)
      · exact .inl (.inl h)
      · rcases List.mem_cons.mp hq with rfl | hq
        · exact .inl (.inr h)
        · exact .inr ⟨q, hq, h⟩
theorem relU_bit (l : List ByteArray) (ps : List (ByteArray × ByteArray)) (i j : Nat) : (relU l ps i).testBit j = true ↔ i = j ∨ ∃ p ∈ ps, i = (idxO l p.1).toNat ∧ (idxO l p.2).toNat = j := by
  unfold relU; rw [rel_bit, Nat.testBit_two_pow, decide_eq_true_eq]
/-- the closure of what lies in an order lies in it -/
theorem clo_sub {n : Nat} {m u : Nat → Nat} (hm : ∀ a b, a < n → (m a).testBit b = true → (u a).testBit b = true) (ht : ∀ a c b, a < n → c < n → b < n → (u a).testBit c = true → (u c).testBit b = true → (u a).testBit b = true) (hf : Fit n u) :
    ∀ k, k ≤ n → ∀ a b, a < n → (cloK m k a).testBit b = true → (u a).testBit b = true
  | 0, _ => hm
  | k + 1, hk => fun a b ha h => by
    have ih := clo_sub hm ht hf k (by omega)
    have h : (stepC k (cloK m k) a).testBit b = true := h
    rw [step_bit, Bool.or_eq_true, Bool.and_eq_true] at h
    rcases h with h | ⟨h1, h2⟩
    · exact ih a b ha h
    · have h2' := ih k b (by omega) h2
      exact ht a k b ha (by omega) (hf k b (by omega) h2') (ih a k ha h1) h2'
theorem idxO_own {l : List ByteArray} (h : dupB l = false) {i : Nat} (hi : i < l.length) : idxO l l[i] = i := by
  refine idxO_hit hi rfl (fun j hj hji e => ?_)
  unfold dupB at h
  rw [List.any_eq_false] at h
  have h1 := h i (List.mem_range.mpr hi)
  rw [decide_eq_true_eq] at h1
  apply h1
  have hg : l.getD i ⟨#[]⟩ = l[i] := by simp [hi]
  rw [hg]
  rcases idxO_spec (l.take i) l[i] with ⟨h2, h3⟩ | ⟨k, hk, h2, _⟩
  · exact absurd (by rw [List.getElem_take]; exact e) (h3 j (by rw [List.length_take]; omega))
  · omega
/-- each pair handed in stands -/
theorem pair_stands {l : List ByteArray} {ps : List (ByteArray × ByteArray)} {p : ByteArray × ByteArray} (hp : p ∈ ps) : (uOf l ps (idxO l p.1).toNat).testBit (idxO l p.2).toNat = true :=
  clo_le _ _ _ ((relU_bit _ _ _ _).2 (.inr ⟨p, hp, rfl, rfl⟩)) _
/-- pairs of names -/
def cvP (l : List ByteArray) (cv : List (Nat × Nat)) : List (ByteArray × ByteArray) := cv.map fun p => (l.getD p.1 ⟨#[]⟩, l.getD p.2 ⟨#[]⟩)
theorem mem_cvTo {n : Nat} {u d : Nat → Nat} {a b : Nat} (ha : a < n) (hb : b < n) (h : isC u d a b = true) : (a, b) ∈ cvTo n u d n := by
  unfold cvTo cvRow
  simp only [List.mem_flatMap, List.mem_range, List.mem_map, List.mem_filter]
  exact ⟨a, ha, b, ⟨hb, h⟩, rfl⟩
theorem getD_own {l : List ByteArray} (hd : dupB l = false) {i : Nat} (hi : i < l.length) : idxO l (l.getD i ⟨#[]⟩) = i := by
  have hg : l.getD i ⟨#[]⟩ = l[i] := by simp [hi]
  rw [hg]; exact idxO_own hd hi
section
variable {n : Nat} {u d : Nat → Nat} (hL : Latt n u d)
include hL
theorem Latt.anti {a b : Nat} (ha : a < n) (hb : b < n) (h1 : (u a).testBit b = true) (h2 : (u b).testBit a = true) : a = b := by
  have e1 := hL.sub ha hb h1
  have e2 := hL.sub hb ha h2
  exact hL.dist a b ha hb (by rw [← e2, Nat.and_comm, e1])
omit hL in
theorem cv_le {a b : Nat} (h : isC u d a b = true) : (u a).testBit b = true := by
  unfold isC at h
  rw [Bool.and_eq_true, beq_iff_eq] at h
  have e := congrArg (·.testBit b) h.2
  simp only [Nat.testBit_and, Nat.testBit_or, Nat.testBit_two_pow] at e
  simp at e
  exact e.1
theorem between {a b : Nat} (ha : a < n) (hb : b < n) (hab : (u a).testBit b = true) (hne : a ≠ b) (h : isC u d a b ≠ true) : ∃ c, c < n ∧ c ≠ a ∧ c ≠ b ∧ (u a).testBit c = true ∧ (u c).testBit b = true := by
  refine Classical.byContradiction fun hno => h ?_
  unfold isC
  rw [Bool.and_eq_true, bne_iff_ne, beq_iff_eq]
  refine ⟨hne, Nat.eq_of_testBit_eq fun c => ?_⟩
  rw [Nat.testBit_and, Nat.testBit_or, Nat.testBit_two_pow, Nat.testBit_two_pow]
  by_cases e1 : a = c
  · subst e1
    rw [hL.refl a ha, hL.turn a b ha hb, hab]; simp
  · by_cases e2 : b = c
    · subst e2
      rw [hab, hL.turn b b hb hb, hL.refl b hb]; simp
    · rw [decide_eq_false e1, decide_eq_false e2]
      cases h1 : (u a).testBit c with
      | false => rfl
      | true =>
        have hc := hL.fitU a c ha h1
        rw [hL.turn c b hc hb]
        cases h2 : (u c).testBit b with
        | false => rfl
        | true => exact absurd ⟨c, hc, fun e => e1 e.symm, fun e => e2 e.symm, h1, h2⟩ hno
theorem lt_left {a b c : Nat} (hb : b < n) (hc : c < n) (hcb : c ≠ b) (hab : (u a).testBit b = true) (h2 : (u c).testBit b = true) : u a &&& d c < u a &&& d b := by
  have hs : d b &&& d c = d c := hL.toOrd.flip.sub hb hc (by rw [hL.turn c b hc hb]; exact h2)
  have hle : u a &&& d c ≤ u a &&& d b := by
    have e : (u a &&& d c) &&& (u a &&& d b) = u a &&& d c := by
      rw [← hs]
      apply Nat.eq_of_testBit_eq; intro j
      simp only [Nat.testBit_and]
      cases (u a).testBit j <;> cases (d b).testBit j <;> cases (d c).testBit j <;> rfl
    rw [← e]; exact Nat.and_le_right
  have hne : u a &&& d c ≠ u a &&& d b := fun e => by
    have e := congrArg (·.testBit b) e
    simp only [Nat.testBit_and] at e
    rw [hab, hL.turn b b hb hb, hL.refl b hb, hL.turn b c hb hc] at e
    exact hcb (hL.anti hc hb h2 (by simpa using e))
  omega
theorem lt_right {a b c : Nat} (ha : a < n) (hb : b < n) (hc : c < n) (hca : c ≠ a) (hab : (u a).testBit b = true) (h1 : (u a).testBit c = true) : u c &&& d b < u a &&& d b := by
  have hs := hL.sub ha hc h1
  have hle : u c &&& d b ≤ u a &&& d b := by
    have e : (u c &&& d b) &&& (u a &&& d b) = u c &&& d b := by
      rw [← hs]
      apply Nat.eq_of_testBit_eq; intro j
      simp only [Nat.testBit_and]
      cases (u a).testBit j <;> cases (d b).testBit j <;> cases (u c).testBit j <;> rfl
    rw [← e]; exact Nat.and_le_right
  have hne : u c &&& d b ≠ u a &&& d b := fun e => by
    have e := congrArg (·.testBit a) e
    simp only [Nat.testBit_and] at e
    rw [hL.turn a b ha hb, hab, hL.refl a ha] at e
    exact hca (hL.anti hc ha (by simpa using e) h1)
  omega
/-- an order that holds what covers holds all -/
theorem cov_ge {U D : Nat → Nat} (hO : Ord n U D) (hC : ∀ a b, a < n → b < n → isC u d a b = true → (U a).testBit b = true) : ∀ z a b, a < n → b < n → u a &&& d b < z → (u a).testBit b = true → (U a).testBit b = true
  | 0, _, _, _, _, h, _ => by omega
  | z + 1, a, b, ha, hb, h, hab => by
    by_cases e : a = b
    · subst e; exact hO.refl a ha
    · by_cases hc : isC u d a b = true
      · exact hC a b ha hb hc
      · obtain ⟨c, hcn, hca, hcb, h1, h2⟩ := between hL ha hb hab e hc
        have l1 := lt_left hL hb hcn hcb hab h2
        have l2 := lt_right hL ha hb hcn hca hab h1
        exact hO.trans a c b ha hcn hb (cov_ge hO hC z a c ha hcn (by omega) h1) (cov_ge hO hC z c b hcn hb (by omega) h2)
end
theorem dist_anti {n : Nat} {m : Nat → Nat} (h : Dist n m) : antiB n m = true := by
  unfold antiB
  rw [List.all_eq_true]; intro i hi
  rw [List.all_eq_true]; intro j hj
  rw [List.mem_range] at hi hj
  rw [bne_iff_ne]; intro e
  have := h j i (by omega) hi e; omega
theorem bnd_B {n : Nat} {m : Nat → Nat} (h : Bnd n m) : bndB n m = true := by
  unfold bndB
  rw [List.all_eq_true]; intro i hi
  rw [List.all_eq_true]; intro j hj
  rw [List.mem_range] at hi hj
  obtain ⟨c, _, e, _⟩ := bd_spec h hi (show j < n by omega)
  rw [e]; simp
/-- the pairs with nothing between make the same lattice -/
theorem cov_new {l : List ByteArray} {ps : List (ByteArray × ByteArray)} (h : newE l ps = 0) {qs : List (ByteArray × ByteArray)} (hq : qs = cvP l (cvTo l.length (uOf l ps) (dOf l ps) l.length)) :
    newE l qs = 0 ∧ (∀ a, a < l.length → uOf l qs a = uOf l ps a) ∧ (∀ a, a < l.length → dOf l qs a = dOf l ps a) := by
  obtain ⟨hL, he, _⟩ := new_latt h
  obtain ⟨hp, h16, _, hdup⟩ := errN_zero he
  have hok : ∀ p ∈ qs, okP l p = true := fun p hp => by
    rw [hq] at hp
    unfold cvP at hp
    obtain ⟨c, hc, rfl⟩ := List.mem_map.1 hp
    obtain ⟨c1, c2, _⟩ := cv_mem hc
    unfold okP
    rw [getD_own hdup c1, getD_own hdup c2]; simp
  obtain ⟨f1, f2, f3, f4⟩ := rel_ok l qs hok
  have hO : Ord l.length (uOf l qs) (dOf l qs) := ord_clo f1 f2 f3 f4
  have hle : ∀ a b, a < l.length → (uOf l qs a).testBit b = true → (uOf l ps a).testBit b = true := fun a b ha hb => by
    refine clo_sub (n := l.length) (m := relU l qs) (fun a b ha hb => ?_) hL.trans hL.fitU l.length (Nat.le_refl _) a b ha hb
    rw [relU_bit] at hb
    rcases hb with rfl | ⟨p, hp, e1, e2⟩
    · exact hL.refl a ha
    · rw [hq] at hp
      unfold cvP at hp
      obtain ⟨c, hc, rfl⟩ := List.mem_map.1 hp
      obtain ⟨c1, c2, c3⟩ := cv_mem hc
      rw [getD_own hdup c1] at e1
      rw [getD_own hdup c2] at e2
      have e1 : a = c.1 := by simpa using e1
      have e2 : c.2 = b := by simpa using e2
      rw [e1, ← e2]; exact cv_le c3
  have hge : ∀ a b, a < l.length → b < l.length → (uOf l ps a).testBit b = true → (uOf l qs a).testBit b = true := fun a b ha hb hab => by
    refine cov_ge hL hO (fun a b ha hb hc => ?_) _ a b ha hb (Nat.lt_succ_self _) hab
    refine clo_le _ _ _ ((relU_bit _ _ _ _).2 (.inr ⟨(l.getD a ⟨#[]⟩, l.getD b ⟨#[]⟩), ?_, ?_, ?_⟩)) _
    · rw [hq]; exact List.mem_map.2 ⟨(a, b), mem_cvTo ha hb hc, rfl⟩
    · rw [getD_own hdup ha]; simp
    · rw [getD_own hdup hb]; simp
  have hu : ∀ a, a < l.length → uOf l qs a = uOf l ps a := fun a ha => by
    apply Nat.eq_of_testBit_eq; intro j
    rw [Bool.eq_iff_iff]
    exact ⟨fun h => hle a j ha h, fun h => hge a j ha (hL.fitU a j ha h) h⟩
  have hd : ∀ a, a < l.length → dOf l qs a = dOf l ps a := fun a ha => by
    apply Nat.eq_of_testBit_eq; intro j
    rw [Bool.eq_iff_iff]
    constructor
    · intro h
      have hj := hO.fitD a j ha h
      rw [hO.turn j a hj ha, hu j hj] at h
      rw [hL.turn j a hj ha]; exact h
    · intro h
      have hj := hL.fitD a j ha h
      rw [hL.turn j a hj ha] at h
      rw [hO.turn j a hj ha, hu j hj]; exact h
  refine ⟨?_, hu, hd⟩
  have a1 : antiB l.length (uOf l qs) = true := dist_anti fun a b ha hb e => hL.dist a b ha hb (by rw [← hu a ha, ← hu b hb]; exact e)
  have a2 : bndB l.length (uOf l qs) = true := bnd_B fun a b ha hb => by
    obtain ⟨c, hc, e⟩ := hL.joins a b ha hb
    exact ⟨c, hc, by rw [hu c hc, hu a ha, hu b hb]; exact e⟩
  have a3 : bndB l.length (dOf l qs) = true := bnd_B fun a b ha hb => by
    obtain ⟨c, hc, e⟩ := hL.meets a b ha hb
    exact ⟨c, hc, by rw [hd c hc, hd a ha, hd b hb]; exact e⟩
  unfold newE
  rw [if_neg (by omega), if_neg (by rw [Bool.not_eq_false, List.all_eq_true]; exact hok), if_pos (by rw [a1, a2, a3]; rfl)]
/-- what covers depends on the masks of the levels only -/
theorem cvTo_congr {n : Nat} {u d u' d' : Nat → Nat} (hu : ∀ a, a < n → u' a = u a) (hd : ∀ a, a < n → d' a = d a) : ∀ k, k ≤ n → cvTo n u' d' k = cvTo n u d k
  | 0, _ => rfl
  | k + 1, hk => by
    rw [cvTo_succ, cvTo_succ, cvTo_congr hu hd k (by omega)]
    congr 1
    unfold cvRow
    congr 1
    apply List.filter_congr
    intro b hb
    unfold isC
    rw [hu k (by omega), hd b (List.mem_range.1 hb)]
end Go.Proofs.Ytefnbjkmmmdagaa
