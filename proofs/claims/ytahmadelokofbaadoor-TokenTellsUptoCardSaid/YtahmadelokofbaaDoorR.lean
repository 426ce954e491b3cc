/- PROVED here: plain facts on words, names and numbers. No condition but those in each theorem's own head. -/
import Derived.Test.YtahmadelokofbaaDoorQ
import Derived.Lib.ParseIntBCases
namespace Go.Proofs.YtahmadelokofbaaDoor
open Go Go.RowKit

theorem wd_plain {c : UInt8} (h : wdB c = true) : spB c = false ∧ cmB c = false := by
  unfold wdB dgB at h
  unfold spB cmB
  simp at h ⊢
  omega
theorem tw_id {q : UInt8 → Bool} {t : List UInt8} (h : t.all q = true) : t.takeWhile q = t := by
  induction t with
  | nil => rfl
  | cons c t ih =>
    simp only [List.all_cons, Bool.and_eq_true] at h
    rw [List.takeWhile_cons, if_pos h.1, ih h.2]
theorem pc_word {c : UInt8} {t : List UInt8} (h : allW (c :: t) = true) : pc (c :: t) = c :: t ∧ wdB c = true := by
  unfold allW at h
  simp only [List.all_cons, Bool.and_eq_true] at h
  exact ⟨by simp only [pc, h.1, if_true, tw_id h.2], h.1⟩
theorem cut_word {i : Nat} {l : List UInt8} (h0 : l ≠ []) (h : allW l = true) (hk : tokK l ≠ 0) : cutL i l = .ok [oneT i l, endT (i + l.length)] := by
  cases l with
  | nil => exact absurd rfl h0
  | cons c t =>
    obtain ⟨e, hw⟩ := pc_word h
    obtain ⟨h1, h2⟩ := wd_plain hw
    rw [cutL_tok h1 h2 (by rw [e]; exact hk), e, List.drop_length, cutL_nil]; rfl
theorem kept_word {l : List UInt8} (h : keptB l = true) : l ≠ [] ∧ allW l = true := by
  simp only [keptB, Bool.or_eq_true, beq_iff_eq] at h
  rcases h with ((((((((((((((((((h | h) | h) | h) | h) | h) | h) | h) | h) | h) | h) | h) | h) | h) | h) | h) | h) | h) | h) | h <;> subst h <;> exact ⟨by simp, by decide⟩
theorem id_parts {l : List UInt8} (h : idB l = true) : l ≠ [] ∧ allW l = true ∧ keptB l = false := by
  unfold idB at h
  simp only [Bool.and_eq_true, decide_eq_true_eq, Bool.not_eq_true'] at h
  obtain ⟨⟨⟨⟨h1, h2⟩, h3⟩, h4⟩, h5⟩ := h
  exact ⟨fun e => by rw [e] at h1; simp at h1, h5, h4⟩
theorem kept_cut {l : List UInt8} (h : keptB l = true) : cutL 0 l = .ok [⟨4, 0, 0, l⟩, endT l.length] ∧ idB l = false := by
  obtain ⟨h0, hw⟩ := kept_word h
  have hk : tokK l = 4 := by simp [tokK, h]
  refine ⟨?_, ?_⟩
  · rw [cut_word h0 hw (by omega)]
    simp [oneT, hk, tokN]
  · unfold idB; rw [h]; simp
theorem id_cut {l : List UInt8} (h : idB l = true) : cutL 0 l = .ok [⟨1, 0, 0, l⟩, endT l.length] := by
  obtain ⟨h0, hw, hk⟩ := id_parts h
  have hk : tokK l = 1 := by simp [tokK, h, hk]
  rw [cut_word h0 hw (by omega)]
  simp [oneT, hk, tokN]
theorem parse_pos {c : UInt8} {r : List UInt8} {v : Int} (h1 : c.toNat ≠ 45) (h : Lib.parseIntB 64 (c :: r) = .ok v) : 0 ≤ v := by
  simp only [Lib.parseIntB, h1] at h
  split at h
  · cases h
  · cases h
  · split at h
    · cases h
    · simp at h
      omega
theorem gp_head {w : List UInt8} (h : GP w) (hk : tokK w = 2) : ∃ c w', w = c :: w' ∧ c.toNat ≠ 45 := by
  obtain ⟨c, w', rfl, _, _, hp⟩ := h
  refine ⟨c, w', rfl, fun e => ?_⟩
  have hc : c = 45 := by rw [← UInt8.toNat_inj]; exact e
  subst hc
  cases w' with
  | nil => revert hk; decide
  | cons d w' =>
    simp only [pc] at hp
    rw [if_neg (by decide)] at hp
    split at hp
    · rename_i hs
      rcases sign2 hs with rfl | rfl | rfl <;> revert hs <;> decide
    · simp at hp
theorem tokN_pos {w : List UInt8} (h : GP w) : 0 ≤ tokN w := by
  unfold tokN
  by_cases hk : tokK w = 2
  · rw [if_pos hk]
    obtain ⟨c, w', rfl, hc⟩ := gp_head h hk
    unfold numV numF
    split
    · simp
    · split
      · rename_i v hv; exact parse_pos hc hv
      · simp
  · rw [if_neg hk]; omega
theorem two_form {l : List UInt8} {ts : List Tok} {t u : Tok} (h : cutL 0 l = .ok ts) (he : ts = [t, u]) : GT t := by
  rcases cutL_form l.length 0 l (Nat.le_refl _) with ⟨xs, e, hg, _⟩ | ⟨p, e, _, _⟩
  · rw [h, he] at e
    injection e with e
    match xs, e with
    | [], e => simp at e
    | [x], e => simp at e; rw [e.1]; exact hg x (by simp)
    | x :: y :: xs, e => simp at e
  · rw [h] at e; cases e
end Go.Proofs.YtahmadelokofbaaDoor
