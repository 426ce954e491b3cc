/- PROVED here: plain facts on how a text is cut, byte by byte. No condition but those in each theorem's own head. -/
import Derived.Test.YtahmadelokofbaaDoorJ
namespace Go.Proofs.YtahmadelokofbaaDoor
open Go Go.RowKit

/-- the piece at the head of a text that begins neither with space nor with a comment -/
def pc : List UInt8 → List UInt8
  | [] => []
  | c :: t => if wdB c then c :: t.takeWhile wdB else match t with
    | [] => [c]
    | d :: _ => if signB [c, d] then [c, d] else [c]
theorem pc_len_pos (c : UInt8) (t : List UInt8) : 1 ≤ (pc (c :: t)).length := by
  cases t with
  | nil => simp only [pc]; split <;> simp
  | cons d t =>
    simp only [pc]
    split
    · simp
    · split <;> simp
def oneT (i : Nat) (w : List UInt8) : Tok := ⟨tokK w, tokN w, i, w⟩
def cutM : Nat → Nat → List UInt8 → Res
  | 0, i, _ => .ok [endT i]
  | _ + 1, i, [] => .ok [endT i]
  | f + 1, i, c :: t =>
    if spB c then cutM f (i + 1) t
    else if cmB c then cutM f (i + 1 + (t.takeWhile nlB).length) (t.dropWhile nlB)
    else if tokK (pc (c :: t)) = 0 then .bad i
    else (cutM f (i + (pc (c :: t)).length) ((c :: t).drop (pc (c :: t)).length)).pre [oneT i (pc (c :: t))]
theorem dropWhile_le {q : UInt8 → Bool} (t : List UInt8) : (t.dropWhile q).length ≤ t.length := (List.dropWhile_suffix q).length_le
theorem cutM_more : ∀ (f i : Nat) (r : List UInt8) (g : Nat), r.length ≤ f → r.length ≤ g → cutM f i r = cutM g i r
  | 0, i, [], 0, _, _ => rfl
  | 0, i, [], g + 1, _, _ => rfl
  | f + 1, i, [], 0, _, _ => rfl
  | f + 1, i, [], g + 1, _, _ => rfl
  | f + 1, i, c :: t, g + 1, h1, h2 => by
    have a1 : t.length ≤ f := by simpa using h1
    have a2 : t.length ≤ g := by simpa using h2
    have hd := dropWhile_le (q := nlB) t
    have hp := pc_len_pos c t
    have hl : ((c :: t).drop (pc (c :: t)).length).length ≤ t.length := by rw [List.length_drop, List.length_cons]; omega
    simp only [cutM]
    rw [cutM_more f (i + 1) t g a1 a2, cutM_more f _ (t.dropWhile nlB) g (by omega) (by omega), cutM_more f _ ((c :: t).drop (pc (c :: t)).length) g (by omega) (by omega)]
def cutL (i : Nat) (r : List UInt8) : Res := cutM r.length i r
theorem cutL_nil (i : Nat) : cutL i [] = .ok [endT i] := rfl
theorem cutL_cons (i : Nat) (c : UInt8) (t : List UInt8) : cutL i (c :: t) = if spB c then cutL (i + 1) t
    else if cmB c then cutL (i + 1 + (t.takeWhile nlB).length) (t.dropWhile nlB)
    else if tokK (pc (c :: t)) = 0 then .bad i
    else (cutL (i + (pc (c :: t)).length) ((c :: t).drop (pc (c :: t)).length)).pre [oneT i (pc (c :: t))] := by
  have hd := dropWhile_le (q := nlB) t
  have hp := pc_len_pos c t
  have hl : ((c :: t).drop (pc (c :: t)).length).length ≤ t.length := by rw [List.length_drop, List.length_cons]; omega
  unfold cutL
  rw [List.length_cons]
  simp only [cutM]
  rw [cutM_more t.length _ (t.dropWhile nlB) (t.dropWhile nlB).length (by omega) (by omega), cutM_more t.length _ ((c :: t).drop (pc (c :: t)).length) ((c :: t).drop (pc (c :: t)).length).length (by omega) (by omega)]
theorem cutL_sp {i : Nat} {c : UInt8} {t : List UInt8} (h : spB c = true) : cutL i (c :: t) = cutL (i + 1) t := by rw [cutL_cons, if_pos h]
theorem cutL_cm {i : Nat} {c : UInt8} {t : List UInt8} (h1 : spB c = false) (h2 : cmB c = true) : cutL i (c :: t) = cutL (i + 1 + (t.takeWhile nlB).length) (t.dropWhile nlB) := by
  rw [cutL_cons, if_neg (by rw [h1]; simp), if_pos h2]
theorem cutL_bad {i : Nat} {c : UInt8} {t : List UInt8} (h1 : spB c = false) (h2 : cmB c = false) (h3 : tokK (pc (c :: t)) = 0) : cutL i (c :: t) = .bad i := by
  rw [cutL_cons, if_neg (by rw [h1]; simp), if_neg (by rw [h2]; simp), if_pos h3]
theorem cutL_tok {i : Nat} {c : UInt8} {t : List UInt8} (h1 : spB c = false) (h2 : cmB c = false) (h3 : tokK (pc (c :: t)) ≠ 0) :
    cutL i (c :: t) = (cutL (i + (pc (c :: t)).length) ((c :: t).drop (pc (c :: t)).length)).pre [oneT i (pc (c :: t))] := by
  rw [cutL_cons, if_neg (by rw [h1]; simp), if_neg (by rw [h2]; simp), if_neg h3]
theorem cutL_spaces : ∀ (i : Nat) (t : List UInt8), cutL (i + (t.takeWhile spB).length) (t.dropWhile spB) = cutL i t
  | i, [] => rfl
  | i, c :: t => by
    by_cases h : spB c = true
    · rw [List.takeWhile_cons, List.dropWhile_cons, if_pos h, if_pos h, cutL_sp h, List.length_cons, ← cutL_spaces (i + 1) t]
      congr 1; omega
    · rw [List.takeWhile_cons, List.dropWhile_cons, if_neg h, if_neg h]; rfl
theorem drop_tw {q : UInt8 → Bool} : ∀ t : List UInt8, t.drop (t.takeWhile q).length = t.dropWhile q
  | [] => rfl
  | c :: t => by
    by_cases h : q c = true
    · rw [List.takeWhile_cons, List.dropWhile_cons, if_pos h, if_pos h, List.length_cons, List.drop_succ_cons, drop_tw t]
    · rw [List.takeWhile_cons, List.dropWhile_cons, if_neg h, if_neg h]; rfl
theorem take_tw {q : UInt8 → Bool} : ∀ t : List UInt8, t.take (t.takeWhile q).length = t.takeWhile q
  | [] => rfl
  | c :: t => by
    by_cases h : q c = true
    · rw [List.takeWhile_cons, if_pos h, List.length_cons, List.take_succ_cons, take_tw t]
    · rw [List.takeWhile_cons, if_neg h]; rfl
theorem drop_at {l : List UInt8} {p : Nat} (h : p < l.length) : l.drop p = l.getD p 0 :: l.drop (p + 1) := by
  rw [List.drop_eq_getElem_cons h, List.getD_eq_getElem?_getD, List.getElem?_eq_getElem h]; rfl
theorem peF_sub {l : List UInt8} {p : Nat} (h : p < l.length) (h1 : spB (l.getD p 0) = false) (h2 : cmB (l.getD p 0) = false) : sub l p (peF l p) = pc (l.drop p) ∧ peF l p = p + (pc (l.drop p)).length := by
  unfold sub peF
  rw [drop_at h]
  generalize hc : l.getD p 0 = c at *
  simp only [h1, h2, Bool.false_eq_true, if_false, pc]
  by_cases h3 : wdB c = true
  · rw [if_pos h3, if_pos h3]
    refine ⟨?_, by simp; omega⟩
    rw [show p + 1 + ((l.drop (p + 1)).takeWhile wdB).length - p = ((l.drop (p + 1)).takeWhile wdB).length + 1 by omega, List.take_succ_cons, take_tw]
  · rw [if_neg h3, if_neg h3]
    cases ht : l.drop (p + 1) with
    | nil =>
      have : ¬ p + 1 < l.length := by
        have := congrArg List.length ht
        simp at this; omega
      rw [if_neg (fun hh => this hh.2)]
      simp
    | cons d t =>
      have hl : p + 1 < l.length := by
        have := congrArg List.length ht
        simp at this; omega
      have e : List.take 2 (c :: d :: t) = [c, d] := rfl
      rw [e]
      by_cases h4 : signB [c, d] = true
      · simp only [h4, hl]
        simp
        rw [show p + 1 + 1 - p = 2 by omega]; rfl
      · rw [if_neg (fun hh => h4 hh.1)]
        simp only [h4]
        simp
theorem cutR_cutL (l : List UInt8) : ∀ (n p : Nat), l.length - p ≤ n → p ≤ l.length → cutR l p = cutL p (l.drop p)
  | n, p, hn, hp => by
    by_cases h : p < l.length
    · have hB := peF_bounds h
      rw [cutR_step h]
      cases n with
      | zero => omega
      | succ n =>
        have ih := cutR_cutL l n (peF l p) (by omega) hB.2
        rw [ih]
        cases h1 : spB (l.getD p 0)
        · cases h2 : cmB (l.getD p 0)
          · obtain ⟨e1, e2⟩ := peF_sub h h1 h2
            simp only [Bool.or_false, Bool.false_eq_true, if_false]
            by_cases h3 : tokK (pc (l.drop p)) = 0
            · rw [e1, if_pos h3, drop_at h]
              rw [drop_at h] at h3
              rw [cutL_bad h1 h2 h3]
            · rw [e1, if_neg h3]
              unfold pTok
              rw [e1, e2]
              rw [drop_at h] at h3 ⊢
              rw [cutL_tok h1 h2 h3, ← drop_at h, List.drop_drop]
              rfl
          · simp only [Bool.or_true, if_true]
            rw [drop_at h, cutL_cm h1 h2]
            have e2 : peF l p = p + 1 + ((l.drop (p + 1)).takeWhile nlB).length := by unfold peF; simp only [h1, h2, Bool.false_eq_true, if_false, if_true]
            rw [e2, ← drop_tw, List.drop_drop]
        · simp only [Bool.true_or, if_true]
          rw [drop_at h, cutL_sp h1, ← cutL_spaces (p + 1) (l.drop (p + 1))]
          have e2 : peF l p = p + 1 + ((l.drop (p + 1)).takeWhile spB).length := by unfold peF; simp only [h1, if_true]
          rw [e2, ← drop_tw, List.drop_drop]
    · have : p = l.length := by omega
      subst this
      rw [cutR_end h, List.drop_length]; rfl
theorem cutR_0 (l : List UInt8) : cutR l 0 = cutL 0 l := cutR_cutL l l.length 0 (by omega) (by omega)
end Go.Proofs.YtahmadelokofbaaDoor
