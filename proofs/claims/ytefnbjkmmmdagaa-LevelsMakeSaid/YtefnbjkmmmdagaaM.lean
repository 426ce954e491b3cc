/- PROVED here: plain facts about rows of masks: the closure, and lattices of it. No condition but those in each theorem's own head. -/
import Derived.Test.YtefnbjkmmmdagaaD
namespace Go.Proofs.Ytefnbjkmmmdagaa

/-- what leads on from a level is taken in -/
def stepC (k : Nat) (m : Nat → Nat) (a : Nat) : Nat := if (m a).testBit k then m a ||| m k else m a
/-- the closure, the levels below k gone through -/
def cloK (m : Nat → Nat) : Nat → Nat → Nat
  | 0 => m
  | k + 1 => stepC k (cloK m k)
theorem step_bit (k : Nat) (m : Nat → Nat) (a j : Nat) : (stepC k m a).testBit j = ((m a).testBit j || ((m a).testBit k && (m k).testBit j)) := by
  unfold stepC
  cases h : (m a).testBit k with
  | true => simp
  | false => simp
theorem step_self (k : Nat) (m : Nat → Nat) : stepC k m k = m k := by
  unfold stepC; split
  · exact Nat.or_self _
  · rfl
/-- masks of n levels -/
def Fit (n : Nat) (m : Nat → Nat) : Prop := ∀ a j, a < n → (m a).testBit j = true → j < n
theorem Fit.step {n : Nat} {m : Nat → Nat} (h : Fit n m) {k : Nat} (hk : k < n) : Fit n (stepC k m) := fun a j ha hj => by
  rw [step_bit, Bool.or_eq_true, Bool.and_eq_true] at hj
  rcases hj with hj | hj
  · exact h a j ha hj
  · exact h k j hk hj.2
theorem Fit.clo {n : Nat} {m : Nat → Nat} (h : Fit n m) : ∀ k, k ≤ n → Fit n (cloK m k)
  | 0, _ => h
  | k + 1, hk => (h.clo k (by omega)).step (by omega)
theorem Fit.lt {n : Nat} {m : Nat → Nat} (h : Fit n m) {a : Nat} (ha : a < n) : m a < 2 ^ n := by
  apply Nat.lt_pow_two_of_testBit
  intro j hj
  cases hb : (m a).testBit j with
  | false => rfl
  | true => have := h a j ha hb; omega
/-- each level leads to itself -/
def Refl (n : Nat) (m : Nat → Nat) : Prop := ∀ a, a < n → (m a).testBit a = true
theorem Refl.clo {n : Nat} {m : Nat → Nat} (h : Refl n m) : ∀ k, Refl n (cloK m k)
  | 0 => h
  | k + 1 => fun a ha => by show (stepC k (cloK m k) a).testBit a = true; rw [step_bit, h.clo k a ha]; rfl
theorem clo_le (m : Nat → Nat) (a j : Nat) (hj : (m a).testBit j = true) : ∀ k, (cloK m k a).testBit j = true
  | 0 => hj
  | k + 1 => by show (stepC k (cloK m k) a).testBit j = true; rw [step_bit, clo_le m a j hj k]; rfl
/-- two rows are the same relation, the other way round -/
def Turn (n : Nat) (u d : Nat → Nat) : Prop := ∀ a b, a < n → b < n → (d b).testBit a = (u a).testBit b
theorem Turn.clo {n : Nat} {u d : Nat → Nat} (h : Turn n u d) : ∀ k, k ≤ n → Turn n (cloK u k) (cloK d k)
  | 0, _ => h
  | k + 1, hk => fun a b ha hb => by
    have ih := h.clo k (by omega)
    show (stepC k (cloK d k) b).testBit a = (stepC k (cloK u k) a).testBit b
    rw [step_bit, step_bit, ih a b ha hb, ih k b (by omega) hb, ih a k ha (by omega), Bool.and_comm]
/-- what leads on through a level below k is there -/
def TransK (n : Nat) (m : Nat → Nat) (k : Nat) : Prop := ∀ a c b, a < n → c < n → b < n → c < k → (m a).testBit c = true → (m c).testBit b = true → (m a).testBit b = true
theorem trans_clo {n : Nat} (m : Nat → Nat) : ∀ k, k ≤ n → TransK n (cloK m k) k
  | 0, _ => fun _ _ _ _ _ _ h => by omega
  | k + 1, hk => fun a c b ha hc hb hck h1 h2 => by
    have ih := trans_clo (n := n) m k (by omega)
    generalize hM : cloK m k = M at *
    have e : cloK m (k + 1) = stepC k M := by show stepC k (cloK m k) = _; rw [hM]
    rw [e] at h1 h2 ⊢
    rw [step_bit, Bool.or_eq_true, Bool.and_eq_true] at h1 h2 ⊢
    by_cases hc' : c < k
    · rcases h1 with h1 | ⟨h1, h1'⟩
      · rcases h2 with h2 | ⟨h2, h2'⟩
        · exact .inl (ih a c b ha hc hb hc' h1 h2)
        · exact .inr ⟨ih a c k ha hc (by omega) hc' h1 h2, h2'⟩
      · rcases h2 with h2 | ⟨h2, h2'⟩
        · exact .inr ⟨h1, ih k c b (by omega) hc hb hc' h1' h2⟩
        · exact .inr ⟨h1, h2'⟩
    · obtain rfl : c = k := by omega
      have h1a : (M a).testBit c = true := by
        rcases h1 with h | h
        · exact h
        · exact h.1
      have h2a : (M c).testBit b = true := by
        rcases h2 with h | h
        · exact h
        · exact h.2
      exact .inr ⟨h1a, h2a⟩
/-- an order of n levels: what each is below, and what is below each -/
structure Ord (n : Nat) (u d : Nat → Nat) : Prop where
  fitU : Fit n u
  fitD : Fit n d
  refl : Refl n u
  trans : ∀ a c b, a < n → c < n → b < n → (u a).testBit c = true → (u c).testBit b = true → (u a).testBit b = true
  turn : Turn n u d
theorem ord_clo {n : Nat} {u d : Nat → Nat} (h1 : Fit n u) (h2 : Fit n d) (h3 : Refl n u) (h4 : Turn n u d) : Ord n (cloK u n) (cloK d n) :=
  ⟨h1.clo n (Nat.le_refl _), h2.clo n (Nat.le_refl _), h3.clo n, fun a c b ha hc hb => trans_clo u n (Nat.le_refl _) a c b ha hc hb hc, h4.clo n (Nat.le_refl _)⟩
theorem Ord.flip {n : Nat} {u d : Nat → Nat} (h : Ord n u d) : Ord n d u :=
  ⟨h.fitD, h.fitU, fun a ha => by rw [h.turn a a ha ha]; exact h.refl a ha, fun a c b ha hc hb h1 h2 => by
    rw [h.turn c a hc ha] at h1
    rw [h.turn b c hb hc] at h2
    rw [h.turn b a hb ha]
    exact h.trans b c a hb hc ha h2 h1, fun a b ha hb => (h.turn b a hb ha).symm⟩
/-- all masks of a row differ -/
def Dist (n : Nat) (m : Nat → Nat) : Prop := ∀ a b, a < n → b < n → m a = m b → a = b
theorem Ord.sub {n : Nat} {u d : Nat → Nat} (h : Ord n u d) {a b : Nat} (ha : a < n) (hb : b < n) (hab : (u a).testBit b = true) : u a &&& u b = u b := by
  apply Nat.eq_of_testBit_eq; intro j
  rw [Nat.testBit_and]
  cases hj : (u b).testBit j with
  | false => simp
  | true => rw [h.trans a b j ha hb (h.fitU b j hb hj) hab hj]; rfl
theorem Ord.dist {n : Nat} {u d : Nat → Nat} (h : Ord n u d) (hd : Dist n u) : Dist n d := fun a b ha hb e => by
  have h1 : (u a).testBit b = true := by
    have := h.flip.refl a ha
    rw [e, h.turn a b ha hb] at this; exact this
  have h2 : (u b).testBit a = true := by
    have := h.flip.refl b hb
    rw [← e, h.turn b a hb ha] at this; exact this
  have e1 := h.sub ha hb h1
  have e2 := h.sub hb ha h2
  exact hd a b ha hb (by rw [← e2, Nat.and_comm, e1])
theorem idx_self {n : Nat} {m : Nat → Nat} (hd : Dist n m) {a : Nat} (ha : a < n) : idxM n m (m a) = a :=
  idxM_hit ha rfl (fun j hj e => by have := hd j a (by omega) ha e; omega)
/-- any two levels have a bound -/
def Bnd (n : Nat) (m : Nat → Nat) : Prop := ∀ a b, a < n → b < n → ∃ c, c < n ∧ m c = m a &&& m b
/-- the bound of two levels -/
def bd (n : Nat) (m : Nat → Nat) (a b : Nat) : Int := idxM n m (m a &&& m b)
theorem bd_spec {n : Nat} {m : Nat → Nat} (hb : Bnd n m) {a b : Nat} (ha : a < n) (hb' : b < n) : ∃ c : Nat, c < n ∧ bd n m a b = c ∧ m c = m a &&& m b := by
  rcases idxM_spec n m (m a &&& m b) with ⟨_, h⟩ | ⟨i, hi, h1, h2, _⟩
  · obtain ⟨c, hc, e⟩ := hb a b ha hb'
    exact absurd e (h c hc)
  · exact ⟨i, hi, h1, h2⟩
theorem bd_eq {n : Nat} {m : Nat → Nat} (hd : Dist n m) {a b c : Nat} (hc : c < n) (e : m c = m a &&& m b) : bd n m a b = c := by
  unfold bd; rw [← e]; exact idx_self hd hc
theorem bd_comm (n : Nat) (m : Nat → Nat) (a b : Nat) : bd n m a b = bd n m b a := by unfold bd; rw [Nat.and_comm]
end Go.Proofs.Ytefnbjkmmmdagaa
