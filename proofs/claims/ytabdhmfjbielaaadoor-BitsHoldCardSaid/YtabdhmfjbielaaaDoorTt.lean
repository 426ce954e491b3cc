/- PROVED here: a set's text tells its elements, so two sets with one text are one: plain facts. No condition but those in each theorem's own head. -/
import Derived.Test.YtabdhmfjbielaaaDoorS
namespace Go.Proofs.YtabdhmfjbielaaaDoor
open Go
/-- a text cut at a byte -/
def cutAt (s : UInt8) : List UInt8 → List (List UInt8)
  | [] => [[]]
  | c :: r => if c = s then [] :: cutAt s r else match cutAt s r with
    | h :: t => (c :: h) :: t
    | [] => [[c]]
theorem cutAt_ne (s : UInt8) : ∀ l, cutAt s l ≠ []
  | [] => by simp [cutAt]
  | c :: r => by
    unfold cutAt
    split
    · simp
    · split <;> simp
theorem cutAt_app (s : UInt8) (b : List UInt8) : ∀ a, cutAt s (a ++ s :: b) = cutAt s a ++ cutAt s b
  | [] => by simp [cutAt]
  | c :: r => by
    rw [List.cons_append, cutAt, cutAt_app s b r, cutAt]
    split
    · simp
    · have := cutAt_ne s r
      cases h : cutAt s r with
      | nil => exact absurd h this
      | cons x t => simp
theorem cutAt_free (s : UInt8) : ∀ a, (∀ c ∈ a, c ≠ s) → cutAt s a = [a]
  | [], _ => rfl
  | c :: r, h => by
    have h1 : c ≠ s := h c (by simp)
    rw [cutAt, if_neg h1, cutAt_free s r (fun d hd => h d (by simp [hd]))]
/-- the number that digits tell -/
def numOf10 (l : List UInt8) : Nat := l.foldl (fun n c => 10 * n + (c.toNat - 48)) 0
theorem dig_small (n : Nat) (h : n < 10) : (UInt8.ofNat (48 + n)).toNat = 48 + n := by
  rw [UInt8.toNat_ofNat']; omega
theorem decDigits_num (n : Nat) : numOf10 (Lib.decDigits n) = n ∧ ∀ c ∈ Lib.decDigits n, 48 ≤ c.toNat ∧ c.toNat ≤ 57 := by
  induction n using Nat.strongRecOn with
  | _ n ih =>
    rw [Lib.decDigits]
    split
    · rename_i h
      refine ⟨?_, fun c hc => ?_⟩
      · simp only [numOf10, List.foldl_cons, List.foldl_nil, dig_small n h]; omega
      · simp only [List.mem_singleton] at hc
        subst hc; rw [dig_small n h]; omega
    · rename_i h
      obtain ⟨h1, h2⟩ := ih (n / 10) (by omega)
      refine ⟨?_, fun c hc => ?_⟩
      · unfold numOf10 at *
        rw [List.foldl_append, h1]
        simp only [List.foldl_cons, List.foldl_nil, dig_small (n % 10) (by omega)]; omega
      · rcases List.mem_append.1 hc with hc | hc
        · exact h2 c hc
        · simp only [List.mem_singleton] at hc
          subst hc; rw [dig_small _ (by omega)]; omega
theorem itoa_num (n : Nat) : numOf10 (Lib.itoa n) = n ∧ ∀ c ∈ Lib.itoa n, 48 ≤ c.toNat ∧ c.toNat ≤ 57 := by
  have e : Lib.itoa (n : Int) = Lib.decDigits n := by unfold Lib.itoa; rw [if_neg (by omega)]; rfl
  rw [e]; exact decDigits_num n
theorem itoa_ne (n : Nat) (c : UInt8) (hc : c.toNat < 48) : ∀ d ∈ Lib.itoa n, d ≠ c := fun d hd e => by
  have := (itoa_num n).2 d hd; subst e; omega
/-- does a piece of a text tell a number -/
def piece (j : Nat) (l : List UInt8) : Bool := match cutAt 45 l with
  | [x] => decide (j = numOf10 x)
  | [x, y] => decide (numOf10 x ≤ j ∧ j ≤ numOf10 y)
  | _ => false
def tells (j : Nat) (l : List UInt8) : Bool := (cutAt 44 l).any (piece j)
theorem piece_one (j a : Nat) : piece j (Lib.itoa a) = decide (j = a) := by
  unfold piece
  rw [cutAt_free 45 _ (itoa_ne a 45 (by decide))]
  simp [(itoa_num a).1]
theorem piece_two (j a b : Nat) : piece j (Lib.itoa a ++ 45 :: Lib.itoa b) = decide (a ≤ j ∧ j ≤ b) := by
  unfold piece
  rw [cutAt_app, cutAt_free 45 _ (itoa_ne a 45 (by decide)), cutAt_free 45 _ (itoa_ne b 45 (by decide))]
  simp [(itoa_num a).1, (itoa_num b).1]
theorem tells_rt (j a b : Nat) (hab : a ≤ b) : tells j (rt a b) = decide (a ≤ j ∧ j ≤ b) := by
  unfold tells rt
  by_cases h : a = b
  · subst h
    rw [if_pos rfl, cutAt_free 44 _ (itoa_ne a 44 (by decide))]
    simp only [List.any_cons, List.any_nil, Bool.or_false, piece_one]
    rw [Bool.eq_iff_iff]; simp; omega
  · rw [if_neg h]
    by_cases h2 : a + 2 ≤ b
    · rw [if_pos h2, List.append_assoc, List.singleton_append, cutAt_free 44 _ (fun c hc => by
        rcases List.mem_append.1 hc with hc | hc
        · exact itoa_ne a 44 (by decide) c hc
        · rcases List.mem_cons.1 hc with rfl | hc
          · decide
          · exact itoa_ne b 44 (by decide) c hc)]
      simp only [List.any_cons, List.any_nil, Bool.or_false, piece_two]
    · rw [if_neg h2, List.append_assoc, List.singleton_append, cutAt_app, cutAt_free 44 _ (itoa_ne a 44 (by decide)), cutAt_free 44 _ (itoa_ne b 44 (by decide))]
      simp only [List.singleton_append, List.any_cons, List.any_nil, Bool.or_false, piece_one]
      rw [Bool.eq_iff_iff]; simp; omega
theorem tells_join (j : Nat) : ∀ (p : List UInt8) (r : List (List UInt8)), tells j (Lib.join (p :: r) [44]) = (p :: r).any (tells j)
  | p, [] => by rw [Lib.join_one]; simp
  | p, q :: r => by
    have e : Lib.join (p :: q :: r) [44] = p ++ 44 :: Lib.join (q :: r) [44] := by
      rw [Lib.join_cons, Lib.join_cons]; simp [Lib.joinTail]
    have ih := tells_join j q r
    unfold tells at *
    rw [e, cutAt_app, List.any_append, ih]
    simp
theorem runs_tell (s : Nat) (hs : Small s) (j : Nat) : ∀ (f : Nat) (n : Int), 0 ≤ n → 4096 ≤ n + f → (runs f s (nextF s n)).any (tells j) = (decide (n ≤ (j : Int)) && s.testBit j)
  | 0, n, h0, h1 => by
    rw [nextF_big (by omega), runs]
    by_cases hj : n ≤ (j : Int)
    · rw [hs j (by omega)]; simp
    · simp [hj]
  | f + 1, n, h0, h1 => by
    have hr := nextF_range s n
    by_cases hneg : nextF s n < 0
    · rw [runs_neg _ _ hneg]
      have hall : ∀ j : Nat, n ≤ j → j < 4096 → s.testBit j = false := by
        intro i hi hl
        unfold nextF at hneg
        cases hq : (List.range 4096).find? (fun j : Nat => decide (n ≤ (j : Int)) && s.testBit j) with
        | none =>
          rw [List.find?_eq_none] at hq
          have := hq i (by simpa using hl)
          simpa [hi] using this
        | some k => rw [hq] at hneg; simp only at hneg; omega
      by_cases hj : n ≤ (j : Int)
      · have : s.testBit j = false := by
          by_cases hl : j < 4096
          · exact hall j hj hl
          · exact hs j (by omega)
        simp [this]
      · simp [hj]
    · obtain ⟨k, hk⟩ : ∃ k : Nat, nextF s n = k := ⟨(nextF s n).toNat, by omega⟩
      have hfind : n ≤ k ∧ s.testBit k = true ∧ ∀ i : Nat, n ≤ i → i < k → s.testBit i = false := by
        unfold nextF at hk
        cases hq : (List.range 4096).find? (fun j : Nat => decide (n ≤ (j : Int)) && s.testBit j) with
        | none => rw [hq] at hk; simp only at hk; omega
        | some m =>
          rw [hq] at hk
          simp only at hk
          obtain rfl : m = k := by omega
          rw [List.find?_range_eq_some] at hq
          obtain ⟨q1, _, q3⟩ := hq
          simp only [Bool.and_eq_true, decide_eq_true_eq] at q1
          refine ⟨q1.1, q1.2, fun i hi hl => ?_⟩
          have := q3 i hl
          simpa [hi] using this
      obtain ⟨f1, f2, f3⟩ := hfind
      obtain ⟨r1, r2, r3, r4⟩ := reF_spec hs (k := k) (by omega)
      rw [hk, runs_pos, List.any_cons, tells_rt _ _ _ r1, runs_tell s hs j f _ (by omega) (by omega)]
      generalize reF s k = m at *
      by_cases c1 : j < k
      · have e1 : ¬ (k ≤ j ∧ j ≤ m) := by omega
        have e2 : ¬ ((m : Int) + 1 ≤ (j : Int)) := by omega
        by_cases hj : n ≤ (j : Int)
        · simp [e1, e2, f3 j hj c1]
        · simp [e1, e2, hj]
      · by_cases c2 : j ≤ m
        · have e1 : k ≤ j ∧ j ≤ m := by omega
          have hj : n ≤ (j : Int) := by omega
          have hb : s.testBit j = true := by
            by_cases c3 : j = k
            · rw [c3]; exact f2
            · have := r4 (j - 1) (by omega) (by omega)
              rwa [show j - 1 + 1 = j by omega] at this
          simp [e1, hj, hb]
        · have e1 : ¬ (k ≤ j ∧ j ≤ m) := by omega
          have e2 : (m : Int) + 1 ≤ (j : Int) := by omega
          have hj : n ≤ (j : Int) := by omega
          simp [e1, e2, hj]
theorem itoa_nonempty (n : Nat) : Lib.itoa (n : Int) ≠ [] := by
  intro h
  have e : Lib.itoa (n : Int) = Lib.decDigits n := by unfold Lib.itoa; rw [if_neg (by omega)]; rfl
  rw [e] at h
  have h1 := Lib.decDigits_length n
  have h2 := Lib.nDigits_pos n
  rw [h, List.length_nil] at h1
  omega
theorem rt_ne (a b : Nat) : rt a b ≠ [] := by
  unfold rt
  intro h
  split at h
  · exact itoa_nonempty a h
  · exact itoa_nonempty a (List.append_eq_nil_iff.1 (List.append_eq_nil_iff.1 h).1).1
theorem text_empty (s : Nat) (hs : Small s) : textF s = [] → s = 0 := by
  intro h
  apply Nat.eq_of_testBit_eq; intro j
  rw [Nat.zero_testBit]
  have hr := runs_tell s hs j 4096 0 (by omega) (by omega)
  unfold textF at h
  cases hq : runs 4096 s (nextF s 0) with
  | nil => rw [hq] at hr; simpa using hr.symm
  | cons p r =>
    rw [hq] at h
    exfalso
    have hp : p = [] := by
      cases r with
      | nil => rw [Lib.join_one] at h; exact h
      | cons q r => rw [Lib.join_cons] at h; exact (List.append_eq_nil_iff.1 h).1
    have hne : nextF s 0 ≥ 0 := by
      by_cases hx : nextF s 0 < 0
      · rw [runs_neg _ _ hx] at hq; cases hq
      · omega
    obtain ⟨k, hk⟩ : ∃ k : Nat, nextF s 0 = k := ⟨(nextF s 0).toNat, by omega⟩
    rw [hk, show (4096 : Nat) = 4095 + 1 by decide, runs_pos] at hq
    injection hq with h1 _
    exact rt_ne _ _ (h1.trans hp)
theorem text_bits (s : Nat) (hs : Small s) (h : textF s ≠ []) (j : Nat) : tells j (textF s) = s.testBit j := by
  have hr := runs_tell s hs j 4096 0 (by omega) (by omega)
  have h0 : (0 : Int) ≤ (j : Int) := by omega
  simp only [decide_eq_true h0, Bool.true_and] at hr
  rw [← hr]
  unfold textF at *
  cases hq : runs 4096 s (nextF s 0) with
  | nil => rw [hq] at h; exact absurd (Lib.join_nil _) h
  | cons p r => rw [tells_join]
/-- two sets with one text are one -/
theorem text_inj {a b : Nat} (ha : Small a) (hb : Small b) (h : textF a = textF b) : a = b := by
  by_cases h0 : textF a = []
  · rw [text_empty a ha h0, text_empty b hb (h ▸ h0)]
  · apply Nat.eq_of_testBit_eq; intro j
    rw [← text_bits a ha h0 j, ← text_bits b hb (h ▸ h0) j, h]
end Go.Proofs.YtabdhmfjbielaaaDoor
