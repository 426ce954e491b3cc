/- PROVED here: plain facts: where the document's begins says that a tree starts. -/
import Derived.Test.YtcnmkmdedeiffaaS
namespace Go.Proofs.Ytcnmkmdedeiffaa
open Go Go.RowKit

/-- from the last kid to the first, where trees may be wrong -/
def stO (b : Nat → Option Nat) : List Int → Nat → Option Nat
  | [], s => some s
  | k :: ks, s => if s = 0 then none else if k = (s : Int) - 1 then (match b (s - 1) with | none => none | some e => stO b ks e) else none
/-- where the trees of the nodes below n start -/
def bgF (l : List Nd) : Nat → Nat → Option Nat
  | 0 => fun _ => none
  | n + 1 => fun j => if j = n then stO (bgF l n) (kidsAt l n).reverse n else bgF l n j
def bgA (l : List Nd) (p : Nat) : Option Nat := bgF l (p + 1) p
theorem bgF_lt (l : List Nd) : ∀ (m j : Nat), j < m → bgF l m j = bgA l j := by
  intro m
  induction m with
  | zero => intro j hj; omega
  | succ m ih =>
    intro j hj
    by_cases e : j = m
    · subst e; rfl
    · show (if j = m then _ else bgF l m j) = _
      rw [if_neg e]
      exact ih j (by omega)
theorem stO_congr {b c : Nat → Option Nat} : ∀ (ks : List Int) (s : Nat), (∀ q, q < s → b q = c q) → (∀ q e, b q = some e → e ≤ q) → stO b ks s = stO c ks s
  | [], _, _, _ => rfl
  | k :: ks, s, h, hb => by
    unfold stO
    by_cases h0 : s = 0
    · rw [if_pos h0, if_pos h0]
    · rw [if_neg h0, if_neg h0]
      by_cases h1 : k = (s : Int) - 1
      · rw [if_pos h1, if_pos h1, ← h (s - 1) (by omega)]
        cases h2 : b (s - 1) with
        | none => rfl
        | some e =>
          have := hb _ _ h2
          exact stO_congr ks e (fun q hq => h q (by omega)) hb
      · rw [if_neg h1, if_neg h1]
theorem stO_le {b : Nat → Option Nat} (hb : ∀ q e, b q = some e → e ≤ q) : ∀ (ks : List Int) (s e : Nat), stO b ks s = some e → e ≤ s
  | [], s, e, h => by
    have h' : some s = some e := h
    have := Option.some.inj h'
    omega
  | k :: ks, s, e, h => by
    unfold stO at h
    split at h
    · cases h
    split at h
    · split at h
      · cases h
      · rename_i e1 he
        have := hb _ _ he
        have := stO_le hb ks e1 e h
        omega
    · cases h
theorem bgF_le (l : List Nd) : ∀ (n q e : Nat), bgF l n q = some e → e ≤ q
  | 0, _, _, h => by cases h
  | n + 1, q, e, h => by
    have h' : (if q = n then stO (bgF l n) (kidsAt l n).reverse n else bgF l n q) = some e := h
    by_cases h1 : q = n
    · rw [if_pos h1] at h'
      have := stO_le (bgF_le l n) _ _ _ h'
      omega
    · rw [if_neg h1] at h'
      exact bgF_le l n q e h'
theorem bgA_le (l : List Nd) (q e : Nat) (h : bgA l q = some e) : e ≤ q := bgF_le l _ q e h
theorem bgA_eq (l : List Nd) (p : Nat) : bgA l p = stO (bgA l) (kidsAt l p).reverse p := by
  have h1 : bgA l p = stO (bgF l p) (kidsAt l p).reverse p := if_pos rfl
  rw [h1]
  exact stO_congr _ p (fun q hq => bgF_lt l p q hq) (bgF_le l p)
/-- one more kid -/
theorem stO_snoc {b : Nat → Option Nat} : ∀ (p : List Int) (s : Nat) (k : Int), stO b (p ++ [k]) s = match stO b p s with | none => none | some e => stO b [k] e
  | [], s, k => rfl
  | x :: p, s, k => by
    rw [List.cons_append]
    unfold stO
    split
    · rfl
    split
    · split
      · rfl
      · exact stO_snoc p _ k
    · rfl
theorem stO_none {b : Nat → Option Nat} : ∀ (p r : List Int) (s : Nat), stO b p s = none → stO b (p ++ r) s = none
  | [], _, _, h => by cases h
  | x :: p, r, s, h => by
    rw [List.cons_append]
    unfold stO at h ⊢
    split
    · rfl
    · rename_i h0
      rw [if_neg h0] at h
      split
      · rename_i h1
        rw [if_pos h1] at h
        split
        · rfl
        · rename_i e he
          rw [he] at h
          exact stO_none p r e h
      · rfl
theorem stO_stK {b : Nat → Option Nat} {c : Nat → Nat} : ∀ (ks : List Int) (s : Nat), (∀ q, q < s → b q = some (c q)) → (∀ q, q < s → c q ≤ q) → stO b ks s = stK c ks s
  | [], _, _, _ => rfl
  | k :: ks, s, h, hc => by
    unfold stO stK
    by_cases h0 : s = 0
    · rw [if_pos h0, if_pos h0]
    · rw [if_neg h0, if_neg h0]
      by_cases h1 : k = (s : Int) - 1
      · rw [if_pos h1, if_pos h1, h (s - 1) (by omega)]
        have := hc (s - 1) (by omega)
        exact stO_stK ks _ (fun q hq => h q (by omega)) (fun q hq => hc q (by omega))
      · rw [if_neg h1, if_neg h1]
/-- a sound tree's nodes start where begins says -/
theorem bg_of {l : List Nd} {b : Nat → Nat} {n : Nat} (hS : StU l b n) : ∀ q, q < n → bgA l q = some (b q) := by
  intro q
  induction q using Nat.strongRecOn with
  | _ q ih =>
    intro hq
    rw [bgA_eq, stO_stK _ q (fun r hr => ih r hr (by omega)) (fun r hr => hS.le r (by omega))]
    exact hS q hq
theorem stO_in {b : Nat → Option Nat} (hb : ∀ q e, b q = some e → e ≤ q) : ∀ (ks : List Int) (s e q : Nat), stO b ks s = some e → e ≤ q → q < s → ∃ m e', b m = some e' ∧ e' ≤ q ∧ q ≤ m ∧ m < s
  | [], s, e, q, h, h1, h2 => by
    have h' : some s = some e := h
    have := Option.some.inj h'
    omega
  | k :: ks, s, e, q, h, h1, h2 => by
    unfold stO at h
    split at h
    · cases h
    split at h
    · split at h
      · cases h
      · rename_i e1 he
        have h5 := hb _ _ he
        by_cases hq : e1 ≤ q
        · exact ⟨s - 1, e1, he, hq, by omega, by omega⟩
        · obtain ⟨m, e', a1, a2, a3, a4⟩ := stO_in hb ks e1 e q h h1 (by omega)
          exact ⟨m, e', a1, a2, a3, by omega⟩
    · cases h
theorem bg_all (l : List Nd) : ∀ (p e : Nat), bgA l p = some e → ∀ q, e ≤ q → q ≤ p → ∃ e', bgA l q = some e' := by
  intro p
  induction p using Nat.strongRecOn with
  | _ p ih =>
    intro e h q h1 h2
    by_cases h3 : q = p
    · subst h3; exact ⟨e, h⟩
    · rw [bgA_eq] at h
      obtain ⟨m, e', a1, a2, a3, a4⟩ := stO_in (bgA_le l) _ _ _ q h h1 (by omega)
      exact ih m a4 e' a1 q a2 a3
/-- if the root's tree starts at 0 all nodes stand as they must -/
theorem st_of_bg {l : List Nd} {n : Nat} (hn : 1 ≤ n) (h : bgA l (n - 1) = some 0) : StU l (fun q => (bgA l q).getD 0) n ∧ (bgA l (n - 1)).getD 0 = 0 := by
  have hall : ∀ q, q < n → bgA l q = some ((bgA l q).getD 0) := fun q hq => by
    obtain ⟨e, he⟩ := bg_all l (n - 1) 0 h q (by omega) (by omega)
    rw [he]; rfl
  refine ⟨fun q hq => ?_, by rw [h]; rfl⟩
  have h1 := stO_stK (b := bgA l) (c := fun q => (bgA l q).getD 0) (kidsAt l q).reverse q (fun r hr => hall r (by omega)) (fun r hr => bgA_le l r _ (hall r (by omega)))
  rw [← h1, ← bgA_eq]
  exact hall q hq
/-- kids stand ahead of their nodes -/
def Kin (l : List Nd) (n : Nat) : Prop := ∀ p, p < n → ∀ k ∈ kidsAt l p, 0 ≤ k ∧ k < (p : Int)
theorem kin_of {l : List Nd} {b : Nat → Nat} {n : Nat} (hS : StU l b n) : Kin l n := fun p hp k hk => by
  obtain ⟨m, rfl, hm, _⟩ := hS.kid hp hk
  omega
theorem snd_iff {l : List Nd} {r : Int} : Snd l r ↔ (1 ≤ l.length ∧ l.length ≤ 4000 ∧ r = (l.length : Int) - 1) ∧ Kin l l.length ∧ bgA l (l.length - 1) = some 0 := by
  constructor
  · rintro ⟨b, h1, h2, h3, h4, h5⟩
    exact ⟨⟨h1, h2, h3⟩, kin_of h4, by rw [bg_of h4 _ (by omega), h5]⟩
  · rintro ⟨⟨h1, h2, h3⟩, _, h5⟩
    obtain ⟨h6, h7⟩ := st_of_bg h1 h5
    exact ⟨_, h1, h2, h3, h6, h7⟩
end Go.Proofs.Ytcnmkmdedeiffaa
