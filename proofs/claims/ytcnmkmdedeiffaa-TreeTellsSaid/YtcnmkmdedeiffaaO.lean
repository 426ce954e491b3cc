/- PROVED here: plain facts on parents; the contract of Right at a tree that is not sound; the walk of TreeParents. No condition but those in each theorem's own head. -/
import Derived.Test.YtcnmkmdedeiffaaN
namespace Go.Proofs.Ytcnmkmdedeiffaa
open Go Go.RowKit

theorem stK_count {b : Nat → Nat} (k : Int) : ∀ (ks : List Int) (s e : Nat), (∀ q, q < s → b q ≤ q) → stK b ks s = some e → ks.count k ≤ 1
  | [], _, _, _, _ => by simp
  | x :: ks, s, e, hb, h => by
    unfold stK at h
    split at h
    · cases h
    split at h
    case isFalse => cases h
    case isTrue h0 h1 =>
      have h2 := hb (s - 1) (by omega)
      have hb' : ∀ q, q < b (s - 1) → b q ≤ q := fun q hq => hb q (by omega)
      rw [List.count_cons]
      by_cases e1 : x = k
      · have h3 : ks.count k = 0 := List.count_eq_zero.2 fun hm => by
          obtain ⟨m, e2, e3, _⟩ := stK_mem ks _ e hb' h k hm
          omega
        rw [h3]; split <;> omega
      · have := stK_count k ks _ e hb' h
        have e2 : (x == k) = false := by simpa using e1
        rw [e2]; simpa using this
theorem StU.count {l : List Nd} {b : Nat → Nat} {n p : Nat} (h : StU l b n) (hp : p < n) {k : Int} (hk : k ∈ kidsAt l p) : (kidsAt l p).count k = 1 := by
  have h1 := stK_count k _ p _ (fun q hq => h.le q (by omega)) (h p hp)
  rw [List.count_reverse] at h1
  have h2 := List.count_pos_iff.2 hk
  omega
/-- a node within another one's tree is some node's kid -/
theorem StU.parent {l : List Nd} {b : Nat → Nat} {n : Nat} (h : StU l b n) : ∀ p, p < n → ∀ q, b p ≤ q → q < p → ∃ m, m ≤ p ∧ (q : Int) ∈ kidsAt l m := by
  intro p
  induction p using Nat.strongRecOn with
  | _ p ih =>
    intro hp q h1 h2
    obtain ⟨m, e1, e2, e3, e4⟩ := h.inKid hp h1 h2
    by_cases e : q = m
    · subst e; exact ⟨p, Nat.le_refl _, e1⟩
    · obtain ⟨m', h3, h4⟩ := ih m e4 (by omega) q e2 (by omega)
      exact ⟨m', by omega, h4⟩
theorem paL_some {l : List Nd} {r : Nat} {q : Nat} : ∀ {n : Nat}, (∃ m, m < n ∧ (q : Int) ∈ kidsAt l m) → ∃ m : Nat, m < n ∧ (q : Int) ∈ kidsAt l m ∧ paL l r n q = (m : Int)
  | 0, ⟨m, hm, _⟩ => absurd hm (Nat.not_lt_zero m)
  | n + 1, ⟨m, hm, hk⟩ => by
    by_cases e : (q : Int) ∈ kidsAt l n
    · exact ⟨n, by omega, e, if_pos e⟩
    · have : m ≠ n := fun e' => e (e' ▸ hk)
      obtain ⟨m', h1, h2, h3⟩ := paL_some (r := r) (n := n) ⟨m, by omega, hk⟩
      exact ⟨m', by omega, h2, (if_neg e).trans h3⟩
theorem paL_none {l : List Nd} {r : Nat} {q : Nat} : ∀ {n : Nat}, (∀ m, m < n → (q : Int) ∉ kidsAt l m) → paL l r n q = if q = r then -1 else 0
  | 0, _ => rfl
  | n + 1, h => (if_neg (h n (by omega))).trans (paL_none fun m hm => h m (by omega))
/-- the parents of a sound tree -/
theorem par_root {l : List Nd} {b : Nat → Nat} {n : Nat} (h : StU l b n) : paL l (n - 1) n (n - 1) = -1 := by
  rw [paL_none fun m hm hk => ?_, if_pos rfl]
  obtain ⟨m', e, h1, _⟩ := h.kid hm hk
  omega
theorem par_node {l : List Nd} {b : Nat → Nat} {n i : Nat} (h : StU l b n) (h0 : b (n - 1) = 0) (hi : i < n - 1) : ∃ m : Nat, m < n ∧ i < m ∧ paL l (n - 1) n i = (m : Int) ∧ (kidsAt l m).count (i : Int) = 1 := by
  obtain ⟨m, h1, h2⟩ := h.parent (n - 1) (by omega) i (by omega) hi
  obtain ⟨m, h3, h4, h5⟩ := paL_some (r := n - 1) (n := n) ⟨m, by omega, h2⟩
  obtain ⟨m', e, h6, _⟩ := h.kid h3 h4
  exact ⟨m, h3, by omega, h5, h.count h3 h4⟩
set_option maxRecDepth 100000 in
set_option maxHeartbeats 1500000 in
theorem right_no (A : Option Addr) (c n : Nat) (l : List Nd) (r : Int) (w : World) (hN : Nds w A l) (hn : n = l.length) (hk : ∀ x ∈ l, x.ks.length ≤ 4000) (h : ¬ Snd l r) : Calls Try.prog 17 #[.agg #[.slice A n c, .int .i64 r]] w (BPost false w) := by
  have hb : Below w.heap.size w (w.alloc (.cells #[.slice A n c, .int .i64 r] 30)) := heap1 _ _
  have HS := Lib.hid (depth_no A c n l r _ (hN.below hb) hn hk h)
  clear hN hk h hn
  go_enter Try.func17, Try.ntmps17
  go_wp2_with (go_at_call 19; refine HS.out.mono ?_; rintro e w1 ⟨rfl, hb1⟩)
  go_ret
  exact ⟨rfl, bt hb hb1⟩
end Go.Proofs.Ytcnmkmdedeiffaa
