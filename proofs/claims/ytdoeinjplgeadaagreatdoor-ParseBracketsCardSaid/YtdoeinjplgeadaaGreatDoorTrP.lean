/- PROVED here: plain facts on nodes in postorder: where a node's tree starts, and how deep it is. -/
import Derived.Lib.Hide
namespace Go.Proofs.YtdoeinjplgeadaaGreatDoor.Tr
open Go

structure Nd where
  kd : Int
  n : Int
  pl : Int
  tx : ByteArray
  ks : List Int

/-- from the last kid to the first: where the tree of a node starts -/
def stK (b : Nat → Nat) : List Int → Nat → Option Nat
  | [], s => some s
  | k :: ks, s => if s = 0 then none else if k = (s : Int) - 1 then stK b ks (b (s - 1)) else none
def kidsAt (l : List Nd) (p : Nat) : List Int := (l.map Nd.ks).getD p []
/-- the nodes up to n stand as they must, their trees start at b -/
def StU (l : List Nd) (b : Nat → Nat) (n : Nat) : Prop := ∀ p, p < n → stK b (kidsAt l p).reverse p = some (b p)

theorem stK_congr {b c : Nat → Nat} : ∀ (ks : List Int) (s : Nat), (∀ q, q < s → b q = c q) → (∀ q, q < s → b q ≤ q) → stK b ks s = stK c ks s
  | [], _, _, _ => rfl
  | k :: ks, s, h, hb => by
    unfold stK
    by_cases h0 : s = 0
    · rw [if_pos h0, if_pos h0]
    · rw [if_neg h0, if_neg h0]
      by_cases h1 : k = (s : Int) - 1
      · rw [if_pos h1, if_pos h1, ← h (s - 1) (by omega)]
        have := hb (s - 1) (by omega)
        exact stK_congr ks _ (fun q hq => h q (by omega)) (fun q hq => hb q (by omega))
      · rw [if_neg h1, if_neg h1]
theorem stK_le {b : Nat → Nat} : ∀ (ks : List Int) (s e : Nat), (∀ q, q < s → b q ≤ q) → stK b ks s = some e → e ≤ s
  | [], s, e, _, h => by unfold stK at h; cases h; omega
  | k :: ks, s, e, hb, h => by
    unfold stK at h
    split at h
    · cases h
    split at h
    · have := hb (s - 1) (by omega)
      have := stK_le ks _ e (fun q hq => hb q (by omega)) h
      omega
    · cases h
theorem stK_mem {b : Nat → Nat} : ∀ (ks : List Int) (s e : Nat), (∀ q, q < s → b q ≤ q) → stK b ks s = some e → ∀ k ∈ ks, ∃ m : Nat, k = m ∧ m < s ∧ e ≤ b m
  | [], _, _, _, _, _, hk => by cases hk
  | k :: ks, s, e, hb, h, x, hx => by
    unfold stK at h
    split at h
    · cases h
    split at h
    case isFalse => cases h
    case isTrue h0 h1 =>
      have h2 := hb (s - 1) (by omega)
      have hb' : ∀ q, q < b (s - 1) → b q ≤ q := fun q hq => hb q (by omega)
      rcases List.mem_cons.1 hx with rfl | hx
      · exact ⟨s - 1, by omega, by omega, stK_le ks _ e hb' h⟩
      · obtain ⟨m, e1, e2, e3⟩ := stK_mem ks _ e hb' h x hx
        exact ⟨m, e1, by omega, e3⟩
theorem stK_in {b : Nat → Nat} : ∀ (ks : List Int) (s e q : Nat), (∀ q, q < s → b q ≤ q) → stK b ks s = some e → e ≤ q → q < s → ∃ m : Nat, (m : Int) ∈ ks ∧ b m ≤ q ∧ q ≤ m ∧ m < s
  | [], s, e, q, _, h, h1, h2 => by unfold stK at h; cases h; omega
  | k :: ks, s, e, q, hb, h, h1, h2 => by
    unfold stK at h
    split at h
    · cases h
    split at h
    case isFalse => cases h
    case isTrue h3 h4 =>
      have h5 := hb (s - 1) (by omega)
      by_cases hq : b (s - 1) ≤ q
      · exact ⟨s - 1, by rw [show ((s - 1 : Nat) : Int) = k by omega]; exact List.mem_cons_self, hq, by omega, by omega⟩
      · obtain ⟨m, e1, e2, e3, e4⟩ := stK_in ks _ e q (fun q hq => hb q (by omega)) h h1 (by omega)
        exact ⟨m, List.mem_cons_of_mem _ e1, e2, e3, by omega⟩
theorem stK_down {b c : Nat → Nat} {d : Nat} : ∀ (ks : List Int) (s e : Nat), (∀ q, q < s → b q ≤ q) → stK b ks s = some e → d ≤ e → (∀ q, q + d < s → c q = b (q + d) - d) → stK c (ks.map fun k => k - d) (s - d) = some (e - d)
  | [], s, e, _, h, _, _ => by unfold stK at h; cases h; rfl
  | k :: ks, s, e, hb, h, hd, hc => by
    unfold stK at h
    split at h
    · cases h
    split at h
    case isFalse => cases h
    case isTrue h0 h1 =>
      have h2 := hb (s - 1) (by omega)
      have hb' : ∀ q, q < b (s - 1) → b q ≤ q := fun q hq => hb q (by omega)
      have h3 := stK_le ks _ e hb' h
      have ih := stK_down ks _ e hb' h hd (fun q hq => hc q (by omega))
      rw [List.map_cons]
      unfold stK
      rw [if_neg (by omega), if_pos (by omega), hc (s - d - 1) (by omega), show s - d - 1 + d = s - 1 by omega]
      exact ih
theorem stK_up {b c : Nat → Nat} {d : Nat} : ∀ (ks : List Int) (s e : Nat), (∀ q, q < s → b q ≤ q) → stK b ks s = some e → (∀ q, q < s → c (q + d) = b q + d) → stK c (ks.map fun k => k + d) (s + d) = some (e + d)
  | [], s, e, _, h, _ => by unfold stK at h; cases h; rfl
  | k :: ks, s, e, hb, h, hc => by
    unfold stK at h
    split at h
    · cases h
    split at h
    case isFalse => cases h
    case isTrue h0 h1 =>
      have h2 := hb (s - 1) (by omega)
      have hb' : ∀ q, q < b (s - 1) → b q ≤ q := fun q hq => hb q (by omega)
      have ih := stK_up ks _ e hb' h (fun q hq => hc q (by omega))
      rw [List.map_cons]
      unfold stK
      rw [if_neg (by omega), if_pos (by omega), show s + d - 1 = s - 1 + d by omega, hc (s - 1) (by omega)]
      exact ih
theorem StU.le {l : List Nd} {b : Nat → Nat} {n : Nat} (h : StU l b n) : ∀ q, q < n → b q ≤ q := by
  intro q
  induction q using Nat.strongRecOn with
  | _ q ih => intro hq; exact stK_le _ q _ (fun r hr => ih r hr (by omega)) (h q hq)
theorem StU.kid {l : List Nd} {b : Nat → Nat} {n p : Nat} (h : StU l b n) (hp : p < n) {k : Int} (hk : k ∈ kidsAt l p) : ∃ m : Nat, k = m ∧ m < p ∧ b p ≤ b m :=
  stK_mem _ p _ (fun q hq => h.le q (by omega)) (h p hp) k (List.mem_reverse.2 hk)
theorem StU.inKid {l : List Nd} {b : Nat → Nat} {n p q : Nat} (h : StU l b n) (hp : p < n) (h1 : b p ≤ q) (h2 : q < p) : ∃ m : Nat, (m : Int) ∈ kidsAt l p ∧ b m ≤ q ∧ q ≤ m ∧ m < p := by
  obtain ⟨m, e1, e2, e3, e4⟩ := stK_in _ p _ q (fun q hq => h.le q (by omega)) (h p hp) h1 h2
  exact ⟨m, List.mem_reverse.1 e1, e2, e3, e4⟩
/-- trees of nodes lie within one another -/
theorem StU.nested {l : List Nd} {b : Nat → Nat} {n : Nat} (h : StU l b n) : ∀ p, p < n → ∀ q, b p ≤ q → q ≤ p → b p ≤ b q := by
  intro p
  induction p using Nat.strongRecOn with
  | _ p ih =>
    intro hp q h1 h2
    by_cases e : q = p
    · subst e; omega
    · obtain ⟨m, e1, e2, e3, e4⟩ := h.inKid hp h1 (by omega)
      have h3 := ih m e4 (by omega) q e2 e3
      obtain ⟨m', e5, _, e6⟩ := h.kid hp e1
      have : m' = m := by omega
      subst this
      omega
theorem StU.uniq {l : List Nd} {b c : Nat → Nat} {n : Nat} (h : StU l b n) (k : StU l c n) : ∀ q, q < n → b q = c q := by
  intro q
  induction q using Nat.strongRecOn with
  | _ q ih =>
    intro hq
    have h1 := h q hq
    rw [stK_congr _ q (fun r hr => ih r hr (by omega)) (fun r hr => h.le r (by omega)), k q hq] at h1
    exact (Option.some.inj h1).symm
/-- how deep: one more than the deepest kid -/
def dpK (d : Nat → Nat) (ks : List Int) : Nat := ks.foldl (fun a k => max a (d k.toNat)) 0 + 1
def DpU (l : List Nd) (d : Nat → Nat) (n : Nat) : Prop := ∀ p, p < n → d p = dpK d (kidsAt l p)
theorem foldl_max {f : Int → Nat} : ∀ (ks : List Int) (a : Nat), a ≤ ks.foldl (fun a k => max a (f k)) a ∧ (∀ k ∈ ks, f k ≤ ks.foldl (fun a k => max a (f k)) a)
  | [], a => ⟨Nat.le_refl _, fun _ h => by cases h⟩
  | k :: ks, a => by
    obtain ⟨h1, h2⟩ := foldl_max (f := f) ks (max a (f k))
    rw [List.foldl_cons]
    refine ⟨by omega, fun x hx => ?_⟩
    rcases List.mem_cons.1 hx with rfl | hx
    · omega
    · exact h2 x hx
theorem foldl_congr {f g : Int → Nat} : ∀ (ks : List Int) (a : Nat), (∀ k ∈ ks, f k = g k) → ks.foldl (fun a k => max a (f k)) a = ks.foldl (fun a k => max a (g k)) a
  | [], _, _ => rfl
  | k :: ks, a, h => by
    rw [List.foldl_cons, List.foldl_cons, h k (by simp)]
    exact foldl_congr ks _ (fun x hx => h x (by simp [hx]))
theorem dpK_lt {d : Nat → Nat} {ks : List Int} {k : Int} (h : k ∈ ks) : d k.toNat < dpK d ks := by
  have := (foldl_max (f := fun k => d k.toNat) ks 0).2 k h
  unfold dpK; omega
theorem dpK_nil {d : Nat → Nat} {ks : List Int} (hd : ∀ k ∈ ks, 0 < d k.toNat) : dpK d ks = 1 ↔ ks = [] := by
  constructor
  · intro h
    cases ks with
    | nil => rfl
    | cons k ks => have := dpK_lt (d := d) (ks := k :: ks) (k := k) (by simp); have := hd k (by simp); omega
  · rintro rfl; rfl
theorem dpK_congr {d e : Nat → Nat} {ks : List Int} (h : ∀ k ∈ ks, d k.toNat = e k.toNat) : dpK d ks = dpK e ks := by
  unfold dpK; rw [foldl_congr (f := fun k => d k.toNat) (g := fun k => e k.toNat) ks 0 h]
theorem dpK_map {d e : Nat → Nat} {ks : List Int} {f : Int → Int} (h : ∀ k ∈ ks, e (f k).toNat = d k.toNat) : dpK e (ks.map f) = dpK d ks := by
  unfold dpK
  rw [List.foldl_map, foldl_congr (f := fun k => e (f k).toNat) (g := fun k => d k.toNat) ks 0 h]
theorem DpU.pos {l : List Nd} {d : Nat → Nat} {n p : Nat} (h : DpU l d n) (hp : p < n) : 0 < d p := by rw [h p hp]; unfold dpK; omega
theorem DpU.uniq {l : List Nd} {b d e : Nat → Nat} {n : Nat} (hs : StU l b n) (h : DpU l d n) (k : DpU l e n) : ∀ q, q < n → d q = e q := by
  intro q
  induction q using Nat.strongRecOn with
  | _ q ih =>
    intro hq
    rw [h q hq, k q hq]
    refine dpK_congr fun x hx => ?_
    obtain ⟨m, rfl, hm, _⟩ := hs.kid hq hx
    exact ih m hm (by omega)
theorem DpU.within {l : List Nd} {b d : Nat → Nat} {n : Nat} (hs : StU l b n) (h : DpU l d n) : ∀ p, p < n → ∀ q, b p ≤ q → q ≤ p → d q ≤ d p := by
  intro p
  induction p using Nat.strongRecOn with
  | _ p ih =>
    intro hp q h1 h2
    by_cases e : q = p
    · subst e; omega
    · obtain ⟨m, e1, e2, e3, e4⟩ := hs.inKid hp h1 (by omega)
      have h3 := ih m e4 (by omega) q e2 e3
      have h4 := dpK_lt (d := d) e1
      rw [← h p hp] at h4
      simp at h4
      omega
end Go.Proofs.YtdoeinjplgeadaaGreatDoor.Tr
