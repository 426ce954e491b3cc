/- PROVED here: part Hc of the claim. No condition but those in each theorem's own head. -/
import Derived.Test.YtedkgofehbecmaaGreatDoorE05
namespace Go.Proofs.YtedkgofehbecmaaGreatDoor
open Go Go.RowKit Go.Sort
open Go.Lib (keeps compactUpTo compactUpTo_succ)
theorem keep_eqI {d : Array Int} {m : Nat} (h : ¬ keeps d m = true) : 0 < m ∧ d[m]! = d[m - 1]! := by
  unfold keeps at h
  have h1 := of_decide_eq_false (Bool.eq_false_iff.2 h)
  refine ⟨Nat.pos_of_ne_zero fun e => h1 (Or.inl e), ?_⟩
  by_cases e : d[m]! = d[m - 1]!
  · exact e
  · exact absurd (Or.inr e) h1
theorem cu_memI (d : Array Int) (x : Int) : ∀ m, x ∈ compactUpTo d m ↔ ∃ j, j < m ∧ d[j]! = x := by
  intro m
  induction m with
  | zero =>
    constructor
    · intro h; simp [compactUpTo] at h
    · rintro ⟨j, h, _⟩; omega
  | succ m ih =>
    rw [compactUpTo_succ, List.mem_append, ih]
    constructor
    · rintro (⟨j, h, e⟩ | h)
      · exact ⟨j, by omega, e⟩
      · by_cases hk : keeps d m = true
        · rw [if_pos hk] at h
          exact ⟨m, by omega, (List.mem_singleton.1 h).symm⟩
        · rw [if_neg hk] at h; cases h
    · rintro ⟨j, h, e⟩
      by_cases hj : j < m
      · exact Or.inl ⟨j, hj, e⟩
      · obtain rfl : j = m := by omega
        by_cases hk : keeps d j = true
        · rw [if_pos hk]; exact Or.inr (by rw [e]; exact List.mem_singleton.2 rfl)
        · obtain ⟨h0, h1⟩ := keep_eqI hk
          exact Or.inl ⟨j - 1, by omega, by rw [← h1, e]⟩
theorem get_ofI (zs : List Int) (j : Nat) (h : j < zs.length) : zs.toArray[j]! = zs[j] := by
  rw [getElem!_pos zs.toArray j (by simpa using h)]; simp
theorem comp_memI (zs : List Int) (x : Int) : x ∈ Lib.compact zs ↔ x ∈ zs := by
  unfold Lib.compact
  rw [cu_memI, List.mem_iff_getElem]
  constructor
  · rintro ⟨j, h, e⟩; exact ⟨j, h, by rw [← get_ofI zs j h]; exact e⟩
  · rintro ⟨j, h, e⟩; exact ⟨j, h, by rw [get_ofI zs j h]; exact e⟩

theorem aft_mem (x : Gn) (k : Int) : k ∈ aftL x ↔ k ∈ x.nx ∨ (k = x.rs ∧ x.rs ≠ -1) := by
  unfold aftL srtI
  rw [comp_memI, List.mem_mergeSort, List.mem_append]
  by_cases e : x.rs = -1
  · rw [if_pos e]; simp [e]
  · rw [if_neg e]; simp [e]
theorem aft_len (x : Gn) : (aftL x).length ≤ x.nx.length + 1 := by
  unfold aftL
  refine Nat.le_trans (Lib.compact_length_le _) ?_
  unfold srtI
  rw [List.length_mergeSort, List.length_append]
  split <;> simp
theorem aft_nil (x : Gn) : aftL x = [] ↔ x.nx = [] ∧ x.rs = -1 := by
  constructor
  · intro h
    refine ⟨List.eq_nil_iff_forall_not_mem.2 fun k hk => ?_, Classical.byContradiction fun e => ?_⟩
    · have := (aft_mem x k).2 (.inl hk); rw [h] at this; cases this
    · have := (aft_mem x x.rs).2 (.inr ⟨rfl, e⟩); rw [h] at this; cases this
  · rintro ⟨h1, h2⟩
    refine List.eq_nil_iff_forall_not_mem.2 fun k hk => ?_
    rcases (aft_mem x k).1 hk with h | ⟨_, h⟩
    · rw [h1] at h; cases h
    · exact h h2
/-- what raises itself may raise -/
theorem rsF_self {l : List Tr.Nd} (r : Int) : ∀ k q, q < k → selfB (Tr.nth l q) = true → rsF l r k q = true
  | 0, _, h, _ => absurd h (Nat.not_lt_zero _)
  | k + 1, q, h, hs => by
    unfold rsF
    by_cases e : q = k
    · subst e
      simp [hs]
    · have := rsF_self r k q (by omega) hs
      simp [this]
section
open Tr (nth)
variable {l : List Tr.Nd} {b : Nat → Nat} {R : Nat → Bool} {t : List (Nat × Nat)} {first : Nat} {s : BdS}
/-- what may come after a node is no entry; nothing comes after just the exits and the fails -/
theorem IsG.aft (hs : IsG l b R t first s) (hT : ∀ q, (nth l q).kd = 15 → q < l.length → R q = true) (hl : ∀ p (hp : p < t.length), (t[p]).2 ≤ l.length) {i : Nat} (hi : i < s.G.length) :
    (∀ k ∈ aftL s.G[i], ∃ j : Nat, k = (j : Int) ∧ ∃ hj : j < s.G.length, (s.G[j]).kd ≠ 1 ∧ (s.G[j]).pr = (s.G[i]).pr) ∧ (((s.G[i]).kd == 2 || (s.G[i]).kd == 3) = decide (aftL s.G[i] = [])) ∧ (s.G[i]).nx.length ≤ 2 := by
  rcases hs.at i hi with ⟨p, hp, hi', e', hx, hk⟩ | ⟨p, hp, hi', hx⟩ | ⟨p, hp, hi', hx⟩ | ⟨p, hp, q, hi', hq, hst, hx⟩
  · refine ⟨fun k hk2 => ?_, ?_, by rw [hx]; simp⟩
    · rw [hx] at hk2 ⊢
      have : k = e' := by
        rcases (aft_mem _ _).1 hk2 with h | ⟨_, h⟩
        · simpa using h
        · exact absurd rfl h
      subst this
      exact hs.tg hp hk
    · rw [hx]
      have : aftL ⟨1, (t[p].2 : Int), (p : Int), [e'], -1⟩ ≠ [] := fun e => by have := ((aft_nil _).1 e).1; simp at this
      rw [decide_eq_false this]; rfl
  · refine ⟨fun k hk2 => ?_, ?_, by rw [hx]; simp⟩
    · rw [hx] at hk2
      rw [(aft_nil _).2 ⟨rfl, rfl⟩] at hk2; cases hk2
    · rw [hx, (aft_nil _).2 ⟨rfl, rfl⟩]; rfl
  · refine ⟨fun k hk2 => ?_, ?_, by rw [hx]; simp⟩
    · rw [hx] at hk2
      rw [(aft_nil _).2 ⟨rfl, rfl⟩] at hk2; cases hk2
    · rw [hx, (aft_nil _).2 ⟨rfl, rfl⟩]; rfl
  · refine ⟨fun k hk2 => ?_, ?_, ?_⟩
    · rw [hx.bs.pr]
      rcases (aft_mem _ _).1 hk2 with h | ⟨h1, h2⟩
      · exact hs.tg hp (hx.nx k h)
      · cases hR : R q with
        | true => rw [h1]; exact hs.tg hp (hx.up hR)
        | false => exact absurd (hx.bs.rs hR) h2
    · rw [hx.bs.kd]
      have hne : aftL s.G[i] ≠ [] := fun e => by
        obtain ⟨e1, e2⟩ := (aft_nil _).1 e
        have hln := hx.len
        rw [e1] at hln
        have h15 : (nth l q).kd = 15 := by
          unfold wl at hln
          by_cases h : (nth l q).kd = 15
          · exact h
          · rw [if_neg h] at hln
            split at hln <;> simp at hln
        have hql : q < l.length := by have := hl p hp; omega
        obtain ⟨j, hj, _⟩ := hx.up (hT q h15 hql)
        rw [e2] at hj; omega
      rw [decide_eq_false hne]; rfl
    · rw [hx.len]; unfold wl
      split
      · exact Nat.le_refl _
      split <;> omega
end
end Go.Proofs.YtedkgofehbecmaaGreatDoor
