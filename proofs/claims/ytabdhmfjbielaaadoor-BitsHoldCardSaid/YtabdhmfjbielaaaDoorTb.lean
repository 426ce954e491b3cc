/- PROVED here: plain facts about the list of a set and its text, as the document's own Text goes through it. No condition but those in each theorem's own head. -/
import Derived.Test.YtabdhmfjbielaaaDoorTa
import Derived.Test.YtabdhmfjbielaaaDoorTt
namespace Go.Proofs.YtabdhmfjbielaaaDoor
open Go Go.RowKit

theorem LI_all (s : Nat) : ∀ j, j ≤ (els s 4096).length → ∃ x, LI s j x
  | 0, _ => ⟨_, LI_start s⟩
  | j + 1, h => by
    obtain ⟨x, hx⟩ := LI_all s j (by omega)
    obtain ⟨k, _, _, _, _, _, h2⟩ := LI_step hx (by omega)
    exact ⟨_, h2⟩
/-- the element at a place, and the next one -/
theorem el_at {s j : Nat} (hj : j < (els s 4096).length) : ∃ x : Nat, (els s 4096).getD j 0 = x ∧ x < 4096 ∧ s.testBit x = true ∧ LI s (j + 1) (nextF s ((x : Int) + 1)) ∧ (j + 1 < (els s 4096).length → (els s 4096).getD (j + 1) 0 = nextF s ((x : Int) + 1)) ∧ (¬ j + 1 < (els s 4096).length → nextF s ((x : Int) + 1) = -1) := by
  obtain ⟨y, hy⟩ := LI_all s j (by omega)
  obtain ⟨k, k1, k2, k3, _, _, h2⟩ := LI_step hy hj
  refine ⟨k, k1, k2, k3, h2, fun h => ?_, fun h => LI_end h2 (by omega)⟩
  obtain ⟨k', e1, _, _, e4, _⟩ := LI_step h2 h
  rw [e1, e4]
theorem next_is {s x : Nat} (hs : Small s) : s.testBit (x + 1) = decide (nextF s ((x : Int) + 1) = (x : Int) + 1) := by
  cases hb : s.testBit (x + 1) with
  | true =>
    have hx : x + 1 < 4096 := by
      rcases Nat.lt_or_ge (x + 1) 4096 with h | h
      · exact h
      · rw [hs _ h] at hb; cases hb
    have := nextF_hit hx hb
    rw [eq_comm, decide_eq_true_eq]
    simpa using this
  | false =>
    rw [eq_comm, decide_eq_false_iff_not]
    intro h
    have := nextF_miss hb
    have hr := nextF_ge (s := s) (n := ((x + 1 : Nat) : Int) + 1)
    rw [← this] at hr
    have h' : nextF s ((x + 1 : Nat) : Int) = (x : Int) + 1 := by simpa using h
    rw [h'] at hr
    omega
/-- what the inner loop knows -/
def IK (s i a k : Nat) : Prop := i ≤ k ∧ k < (els s 4096).length ∧ (els s 4096).getD k 0 = ((a + (k - i) : Nat) : Int) ∧ ∀ j, a ≤ j → j < a + (k - i) → s.testBit (j + 1) = true
theorem IK_start {s i a : Nat} (hi : i < (els s 4096).length) (ha : (els s 4096).getD i 0 = a) : IK s i a i := ⟨Nat.le_refl _, hi, by rw [ha]; simp, fun j h1 h2 => by omega⟩
theorem IK_step {s i a k : Nat} (hs : Small s) (h : IK s i a k) (hk : k + 1 < (els s 4096).length) (he : (els s 4096).getD (k + 1) 0 = (els s 4096).getD k 0 + 1) : IK s i a (k + 1) := by
  obtain ⟨h1, h2, h3, h4⟩ := h
  refine ⟨by omega, hk, by rw [he, h3]; omega, fun j ha hb => ?_⟩
  by_cases e : j < a + (k - i)
  · exact h4 j ha e
  · obtain rfl : j = a + (k - i) := by omega
    obtain ⟨x, x1, _, _, _, x5, _⟩ := el_at h2
    have hx : (x : Int) = ((a + (k - i) : Nat) : Int) := x1.symm.trans h3
    have hx' : x = a + (k - i) := by omega
    subst hx'
    rw [next_is hs, ← x5 hk, he, x1]; simp
theorem IK_end {s i a k : Nat} (hs : Small s) (h : IK s i a k) (hk : k + 1 < (els s 4096).length → (els s 4096).getD (k + 1) 0 ≠ (els s 4096).getD k 0 + 1) : reF s a = a + (k - i) ∧ a + (k - i) < 4096 ∧ s.testBit (a + (k - i) + 1) = false ∧ LI s (k + 1) (nextF s (((a + (k - i) : Nat) : Int) + 1)) := by
  obtain ⟨h1, h2, h3, h4⟩ := h
  obtain ⟨x, x1, x2, _, x4, x5, x6⟩ := el_at h2
  have hx : (x : Int) = ((a + (k - i) : Nat) : Int) := x1.symm.trans h3
  have hx' : x = a + (k - i) := by omega
  subst hx'
  have hf : s.testBit (a + (k - i) + 1) = false := by
    rw [next_is hs, decide_eq_false_iff_not]
    by_cases hl : k + 1 < (els s 4096).length
    · rw [← x5 hl]; have := hk hl; rwa [x1] at this
    · rw [x6 hl]; omega
  exact ⟨reF_eq (by omega) x2 hf h4, x2, hf, x4⟩
/-- a text, and the runs that are to come -/
def fin (out : List UInt8) (r : List (List UInt8)) : List UInt8 := if r = [] then out else if out = [] then Lib.join r [44] else out ++ 44 :: Lib.join r [44]
def sep (out : List UInt8) : List UInt8 := if out = [] then [] else out ++ [44]
theorem join2 (x y : List UInt8) (r : List (List UInt8)) : Lib.join (x :: y :: r) [44] = x ++ 44 :: Lib.join (y :: r) [44] := by
  rw [Lib.join_cons, Lib.join_cons]; simp [Lib.joinTail]
theorem fin_step (out p : List UInt8) (hp : p ≠ []) (r : List (List UInt8)) : fin (sep out ++ p) r = fin out (p :: r) := by
  unfold fin
  have hne : ¬ (sep out ++ p = []) := by simp [hp]
  rw [if_neg hne, if_neg (List.cons_ne_nil p r)]
  cases r with
  | nil => rw [if_pos rfl, Lib.join_one]; unfold sep; split <;> simp
  | cons y r =>
    rw [if_neg (List.cons_ne_nil y r), join2]
    unfold sep; split <;> simp
theorem fin_two (out x y : List UInt8) (r : List (List UInt8)) : fin out ((x ++ [44] ++ y) :: r) = fin out (x :: y :: r) := by
  unfold fin
  rw [if_neg (List.cons_ne_nil _ _), if_neg (List.cons_ne_nil _ _)]
  have e : Lib.join ((x ++ [44] ++ y) :: r) [44] = Lib.join (x :: y :: r) [44] := by
    rw [join2, Lib.join_cons, Lib.join_cons]; simp
  rw [e]
/-- what the outer loop knows -/
def OT (s i : Nat) (out : List UInt8) : Prop := ∃ (n : Int) (f : Nat), fin out (runs f s n) = textF s ∧ (0 ≤ n → 4096 ≤ n + f) ∧ LI s i n ∧ out.length ≤ 50 * i
theorem fin_nil (r : List (List UInt8)) : fin [] r = Lib.join r [44] := by
  unfold fin
  split
  · rename_i h; subst h; rfl
  · rfl
theorem OT_start (s : Nat) : OT s 0 [] := ⟨nextF s 0, 4096, by unfold textF; exact fin_nil _, fun h => by omega, LI_start s, by simp⟩
theorem OT_end {s i : Nat} {out : List UInt8} (h : OT s i out) (hi : (els s 4096).length ≤ i) : out = textF s := by
  obtain ⟨n, f, h1, _, h3, _⟩ := h
  rw [LI_end h3 hi, runs_neg _ _ (by omega)] at h1
  rw [← h1]; rfl
theorem OT_step {s i a k : Nat} {out : List UInt8} (hs : Small s) (h : OT s i out) (hi : i < (els s 4096).length) (ha : (els s 4096).getD i 0 = a) (hK : IK s i a k) (hk : k + 1 < (els s 4096).length → (els s 4096).getD (k + 1) 0 ≠ (els s 4096).getD k 0 + 1) :
    (k < i + 2 → OT s (i + 1) (sep out ++ Lib.itoa a)) ∧ (i + 2 ≤ k → OT s (k + 1) (sep out ++ Lib.itoa a ++ [45] ++ Lib.itoa (a + (k - i) : Nat))) := by
  obtain ⟨n, f, h1, h2, h3, h4⟩ := h
  obtain ⟨k0, e1, e2, e3, e4, _, e6⟩ := LI_step h3 hi
  have hk0 : k0 = a := by rw [ha] at e1; omega
  subst hk0
  subst e4
  have h2' := h2 (by omega)
  obtain ⟨g, rfl⟩ : ∃ g, f = g + 1 := ⟨f - 1, by omega⟩
  obtain ⟨r1, r2, r3, r4⟩ := IK_end hs hK hk
  have hik : i ≤ k := hK.1
  rw [runs_pos, r1] at h1
  have la : (Lib.itoa (k0 : Int)).length ≤ 21 := by have := itoa_size k0 e2; rwa [tx_size] at this
  have lb : (Lib.itoa ((k0 + (k - i) : Nat) : Int)).length ≤ 21 := by have := itoa_size (k0 + (k - i)) r2; rwa [tx_size] at this
  have ls : (sep out).length ≤ out.length + 1 := by unfold sep; split <;> simp
  constructor
  · intro hlt
    by_cases hki : k = i
    · subst hki
      rw [Nat.sub_self, Nat.add_zero] at h1 r3
      refine ⟨_, g, ?_, fun hn => ?_, e6, by simp; omega⟩
      · rw [fin_step _ _ (itoa_nonempty k0), ← h1]; simp [rt]
      · have := nextF_ge (s := s) (n := (k0 : Int) + 1); omega
    · have hk1 : k - i = 1 := by omega
      rw [hk1] at h1 r2 r3
      have hb : s.testBit (k0 + 1) = true := hK.2.2.2 k0 (by omega) (by omega)
      have hn : nextF s ((k0 : Int) + 1) = ((k0 + 1 : Nat) : Int) := by
        have := next_is (x := k0) hs; rw [hb] at this; simpa using this.symm
      rw [hn] at e6
      refine ⟨_, g + 1, ?_, fun _ => by omega, e6, by simp; omega⟩
      have hre : reF s (k0 + 1) = k0 + 1 := reF_eq (Nat.le_refl _) r2 r3 (fun j h1 h2 => by omega)
      rw [fin_step _ _ (itoa_nonempty k0), runs_pos, hre, ← h1]
      have e : rt k0 (k0 + 1) = Lib.itoa k0 ++ [44] ++ Lib.itoa (k0 + 1 : Nat) := by simp [rt]
      rw [e, fin_two]; simp [rt]
  · intro hge
    refine ⟨_, g, ?_, fun hn => ?_, r4, by simp only [List.length_append, List.length_cons, List.length_nil]; omega⟩
    · have e : rt k0 (k0 + (k - i)) = Lib.itoa k0 ++ [45] ++ Lib.itoa (k0 + (k - i) : Nat) := by
        unfold rt; rw [if_neg (by omega), if_pos (by omega)]
      rw [← h1, e, List.append_assoc, List.append_assoc, fin_step _ _ (by simp)]
      simp
    · have := nextF_ge (s := s) (n := ((k0 + (k - i) : Nat) : Int) + 1); omega
end Go.Proofs.YtabdhmfjbielaaaDoor
