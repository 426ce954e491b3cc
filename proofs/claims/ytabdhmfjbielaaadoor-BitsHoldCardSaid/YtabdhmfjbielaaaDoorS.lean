/- PROVED here: the runs of a set's text: plain facts. No condition but those in each theorem's own head. -/
import Derived.Test.YtabdhmfjbielaaaDoorR
import Derived.Lib.Join
namespace Go.Proofs.YtabdhmfjbielaaaDoor
open Go Go.RowKit

theorem reF_spec {s k : Nat} (hs : Small s) (hk : k < 4096) : k ≤ reF s k ∧ reF s k < 4096 ∧ s.testBit (reF s k + 1) = false ∧ ∀ j, k ≤ j → j < reF s k → s.testBit (j + 1) = true := by
  unfold reF
  cases h : (List.range 4096).find? (fun m => decide (k ≤ m) && !s.testBit (m + 1)) with
  | none =>
    rw [List.find?_eq_none] at h
    have := h 4095 (by simp)
    rw [hs 4096 (by omega)] at this
    simp at this
    omega
  | some m =>
    rw [List.find?_range_eq_some] at h
    obtain ⟨h1, h2, h3⟩ := h
    simp only [Bool.and_eq_true, decide_eq_true_eq, Bool.not_eq_true'] at h1
    simp only [Option.getD_some]
    refine ⟨h1.1, by simpa using h2, h1.2, fun j ha hb => ?_⟩
    have := h3 j hb
    simpa [ha] using this
/-- the texts of the runs from an element on -/
def runs : Nat → Nat → Int → List (List UInt8)
  | 0, _, _ => []
  | f + 1, s, n => if n < 0 then [] else rt n.toNat (reF s n.toNat) :: runs f s (nextF s ((reF s n.toNat : Int) + 1))
/-- a set's text -/
def textF (s : Nat) : List UInt8 := Lib.join (runs 4096 s (nextF s 0)) [44]
theorem runs_neg (f s : Nat) {n : Int} (h : n < 0) : runs f s n = [] := by
  cases f with
  | zero => rfl
  | succ f => unfold runs; rw [if_pos h]
theorem runs_pos (f s k : Nat) : runs (f + 1) s (k : Int) = rt k (reF s k) :: runs f s (nextF s ((reF s k : Int) + 1)) := by
  rw [runs, if_neg (by omega)]; rfl
theorem nextF_ge {s : Nat} {n : Int} : nextF s n = -1 ∨ n ≤ nextF s n := by
  unfold nextF
  cases h : (List.range 4096).find? (fun j : Nat => decide (n ≤ (j : Int)) && s.testBit j) with
  | none => exact .inl rfl
  | some k =>
    have := List.find?_some h
    simp only [Bool.and_eq_true, decide_eq_true_eq] at this
    exact .inr this.1
theorem rt_len (a b : Nat) (ha : a < 4096) (hb : b < 4096) : (rt a b).length ≤ 43 := by
  have h1 := itoa_size a ha
  have h2 := itoa_size b hb
  rw [tx_size] at h1 h2
  unfold rt
  split
  · omega
  · split <;> simp <;> omega
/-- what the loop has gathered, and what is to come -/
def TI (s : Nat) (done : List (List UInt8)) (n : Int) : Prop :=
  ∃ f, done ++ runs f s n = runs 4096 s (nextF s 0) ∧ done.length + f ≤ 4096 ∧ -1 ≤ n ∧ n < 4096 ∧ (0 ≤ n → 4096 ≤ n + f) ∧ ∀ p ∈ done, p.length ≤ 43
theorem TI_start (s : Nat) : TI s [] (nextF s 0) := ⟨4096, by simp, by simp, (nextF_range s 0).1, (nextF_range s 0).2, fun _ => by omega, by simp⟩
theorem TI_step {s : Nat} {done : List (List UInt8)} {k : Nat} (hs : Small s) (h : TI s done k) : TI s (done ++ [rt k (reF s k)]) (nextF s ((reF s k : Int) + 1)) := by
  obtain ⟨f, h1, h2, h3, h4, h5, h6⟩ := h
  obtain ⟨r1, r2, _⟩ := reF_spec hs (k := k) (by omega)
  obtain ⟨g, rfl⟩ : ∃ g, f = g + 1 := ⟨f - 1, by omega⟩
  rw [runs_pos] at h1
  have hr := nextF_range s ((reF s k : Int) + 1)
  have hg := nextF_ge (s := s) (n := (reF s k : Int) + 1)
  refine ⟨g, by rw [← h1]; simp, by simp; omega, hr.1, hr.2, fun h => by omega, fun p hp => ?_⟩
  rcases List.mem_append.1 hp with hp | hp
  · exact h6 p hp
  · simp at hp; subst hp; exact rt_len _ _ (by omega) r2
theorem TI_end {s : Nat} {done : List (List UInt8)} {n : Int} (h : TI s done n) (hn : n < 0) : Lib.join done [44] = textF s := by
  obtain ⟨f, h1, _⟩ := h
  rw [runs_neg f s hn, List.append_nil] at h1
  unfold textF; rw [h1]
theorem lens_le : ∀ (r : List (List UInt8)), (∀ p ∈ r, p.length ≤ 43) → Lib.lens r ≤ 43 * r.length
  | [], _ => by simp [Lib.lens]
  | p :: r, h => by
    have h1 := lens_le r (fun q hq => h q (by simp [hq]))
    have h2 := h p (by simp)
    simp only [Lib.lens, List.map_cons, List.sum_cons, List.length_cons] at *
    omega
theorem join_len (r : List (List UInt8)) (h : ∀ p ∈ r, p.length ≤ 43) : (Lib.join r [44]).length ≤ 44 * r.length := by
  cases r with
  | nil => simp [Lib.join_nil]
  | cons p r =>
    rw [Lib.join_cons, List.length_append, Lib.joinTail_length]
    have h1 := lens_le r (fun q hq => h q (by simp [hq]))
    have h2 := h p (by simp)
    simp only [List.length_cons, List.length_nil]
    omega
end Go.Proofs.YtabdhmfjbielaaaDoor
