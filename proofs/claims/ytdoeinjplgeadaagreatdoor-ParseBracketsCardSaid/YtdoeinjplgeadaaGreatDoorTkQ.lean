/- PROVED here: what cutting joined tokens comes to, for this seat (ported). No condition but those in each theorem's own head. -/
import Derived.Test.YtdoeinjplgeadaaGreatDoorTkK
import Derived.Lib.Join
namespace Go.Proofs.YtdoeinjplgeadaaGreatDoor.Tk
open Go Go.RowKit

/-- the piece at the head of a text that begins neither with space nor with a comment -/
def pc : List UInt8 → List UInt8
  | [] => []
  | c :: t => if wdB c then c :: t.takeWhile wdB else match t with
    | [] => [c]
    | d :: _ => if signB [c, d] then [c, d] else [c]
theorem pc_len_pos (c : UInt8) (t : List UInt8) : 1 ≤ (pc (c :: t)).length := by
  cases t with
  | nil => simp only [pc]; split <;> simp
  | cons d t =>
    simp only [pc]
    split
    · simp
    · split <;> simp
def oneT (i : Nat) (w : List UInt8) : Tok := ⟨tokK w, tokN w, i, w⟩
def cutM : Nat → Nat → List UInt8 → Res
  | 0, i, _ => .ok [endT i]
  | _ + 1, i, [] => .ok [endT i]
  | f + 1, i, c :: t =>
    if spB c then cutM f (i + 1) t
    else if cmB c then cutM f (i + 1 + (t.takeWhile nlB).length) (t.dropWhile nlB)
    else if tokK (pc (c :: t)) = 0 then .bad i
    else (cutM f (i + (pc (c :: t)).length) ((c :: t).drop (pc (c :: t)).length)).pre [oneT i (pc (c :: t))]
theorem dropWhile_le {q : UInt8 → Bool} (t : List UInt8) : (t.dropWhile q).length ≤ t.length := (List.dropWhile_suffix q).length_le
theorem cutM_more : ∀ (f i : Nat) (r : List UInt8) (g : Nat), r.length ≤ f → r.length ≤ g → cutM f i r = cutM g i r
  | 0, i, [], 0, _, _ => rfl
  | 0, i, [], g + 1, _, _ => rfl
  | f + 1, i, [], 0, _, _ => rfl
  | f + 1, i, [], g + 1, _, _ => rfl
  | f + 1, i, c :: t, g + 1, h1, h2 => by
    have a1 : t.length ≤ f := by simpa using h1
    have a2 : t.length ≤ g := by simpa using h2
    have hd := dropWhile_le (q := nlB) t
    have hp := pc_len_pos c t
    have hl : ((c :: t).drop (pc (c :: t)).length).length ≤ t.length := by rw [List.length_drop, List.length_cons]; omega
    simp only [cutM]
    rw [cutM_more f (i + 1) t g a1 a2, cutM_more f _ (t.dropWhile nlB) g (by omega) (by omega), cutM_more f _ ((c :: t).drop (pc (c :: t)).length) g (by omega) (by omega)]
def cutL (i : Nat) (r : List UInt8) : Res := cutM r.length i r
theorem cutL_nil (i : Nat) : cutL i [] = .ok [endT i] := rfl
theorem cutL_cons (i : Nat) (c : UInt8) (t : List UInt8) : cutL i (c :: t) = if spB c then cutL (i + 1) t
    else if cmB c then cutL (i + 1 + (t.takeWhile nlB).length) (t.dropWhile nlB)
    else if tokK (pc (c :: t)) = 0 then .bad i
    else (cutL (i + (pc (c :: t)).length) ((c :: t).drop (pc (c :: t)).length)).pre [oneT i (pc (c :: t))] := by
  have hd := dropWhile_le (q := nlB) t
  have hp := pc_len_pos c t
  have hl : ((c :: t).drop (pc (c :: t)).length).length ≤ t.length := by rw [List.length_drop, List.length_cons]; omega
  unfold cutL
  rw [List.length_cons]
  simp only [cutM]
  rw [cutM_more t.length _ (t.dropWhile nlB) (t.dropWhile nlB).length (by omega) (by omega), cutM_more t.length _ ((c :: t).drop (pc (c :: t)).length) ((c :: t).drop (pc (c :: t)).length).length (by omega) (by omega)]
theorem cutL_sp {i : Nat} {c : UInt8} {t : List UInt8} (h : spB c = true) : cutL i (c :: t) = cutL (i + 1) t := by rw [cutL_cons, if_pos h]
theorem cutL_cm {i : Nat} {c : UInt8} {t : List UInt8} (h1 : spB c = false) (h2 : cmB c = true) : cutL i (c :: t) = cutL (i + 1 + (t.takeWhile nlB).length) (t.dropWhile nlB) := by
  rw [cutL_cons, if_neg (by rw [h1]; simp), if_pos h2]
theorem cutL_bad {i : Nat} {c : UInt8} {t : List UInt8} (h1 : spB c = false) (h2 : cmB c = false) (h3 : tokK (pc (c :: t)) = 0) : cutL i (c :: t) = .bad i := by
  rw [cutL_cons, if_neg (by rw [h1]; simp), if_neg (by rw [h2]; simp), if_pos h3]
theorem cutL_tok {i : Nat} {c : UInt8} {t : List UInt8} (h1 : spB c = false) (h2 : cmB c = false) (h3 : tokK (pc (c :: t)) ≠ 0) :
    cutL i (c :: t) = (cutL (i + (pc (c :: t)).length) ((c :: t).drop (pc (c :: t)).length)).pre [oneT i (pc (c :: t))] := by
  rw [cutL_cons, if_neg (by rw [h1]; simp), if_neg (by rw [h2]; simp), if_neg h3]
theorem cutL_spaces : ∀ (i : Nat) (t : List UInt8), cutL (i + (t.takeWhile spB).length) (t.dropWhile spB) = cutL i t
  | i, [] => rfl
  | i, c :: t => by
    by_cases h : spB c = true
    · rw [List.takeWhile_cons, List.dropWhile_cons, if_pos h, if_pos h, cutL_sp h, List.length_cons, ← cutL_spaces (i + 1) t]
      congr 1; omega
    · rw [List.takeWhile_cons, List.dropWhile_cons, if_neg h, if_neg h]; rfl
theorem drop_tw {q : UInt8 → Bool} : ∀ t : List UInt8, t.drop (t.takeWhile q).length = t.dropWhile q
  | [] => rfl
  | c :: t => by
    by_cases h : q c = true
    · rw [List.takeWhile_cons, List.dropWhile_cons, if_pos h, if_pos h, List.length_cons, List.drop_succ_cons, drop_tw t]
    · rw [List.takeWhile_cons, List.dropWhile_cons, if_neg h, if_neg h]; rfl
theorem take_tw {q : UInt8 → Bool} : ∀ t : List UInt8, t.take (t.takeWhile q).length = t.takeWhile q
  | [] => rfl
  | c :: t => by
    by_cases h : q c = true
    · rw [List.takeWhile_cons, if_pos h, List.length_cons, List.take_succ_cons, take_tw t]
    · rw [List.takeWhile_cons, if_neg h]; rfl
theorem drop_at {l : List UInt8} {p : Nat} (h : p < l.length) : l.drop p = l.getD p 0 :: l.drop (p + 1) := by
  rw [List.drop_eq_getElem_cons h, List.getD_eq_getElem?_getD, List.getElem?_eq_getElem h]; rfl
theorem peF_sub {l : List UInt8} {p : Nat} (h : p < l.length) (h1 : spB (l.getD p 0) = false) (h2 : cmB (l.getD p 0) = false) : sub l p (peF l p) = pc (l.drop p) ∧ peF l p = p + (pc (l.drop p)).length := by
  unfold sub peF
  rw [drop_at h]
  generalize hc : l.getD p 0 = c at *
  simp only [h1, h2, Bool.false_eq_true, if_false, pc]
  by_cases h3 : wdB c = true
  · rw [if_pos h3, if_pos h3]
    refine ⟨?_, by simp; omega⟩
    rw [show p + 1 + ((l.drop (p + 1)).takeWhile wdB).length - p = ((l.drop (p + 1)).takeWhile wdB).length + 1 by omega, List.take_succ_cons, take_tw]
  · rw [if_neg h3, if_neg h3]
    cases ht : l.drop (p + 1) with
    | nil =>
      have : ¬ p + 1 < l.length := by
        have := congrArg List.length ht
        simp at this; omega
      rw [if_neg (fun hh => this hh.2)]
      simp
    | cons d t =>
      have hl : p + 1 < l.length := by
        have := congrArg List.length ht
        simp at this; omega
      have e : List.take 2 (c :: d :: t) = [c, d] := rfl
      rw [e]
      by_cases h4 : signB [c, d] = true
      · simp only [h4, hl]
        simp
        rw [show p + 1 + 1 - p = 2 by omega]; rfl
      · rw [if_neg (fun hh => h4 hh.1)]
        simp only [h4]
        simp
theorem cutR_cutL (l : List UInt8) : ∀ (n p : Nat), l.length - p ≤ n → p ≤ l.length → cutR l p = cutL p (l.drop p)
  | n, p, hn, hp => by
    by_cases h : p < l.length
    · have hB := peF_bounds h
      rw [cutR_step h]
      cases n with
      | zero => omega
      | succ n =>
        have ih := cutR_cutL l n (peF l p) (by omega) hB.2
        rw [ih]
        cases h1 : spB (l.getD p 0)
        · cases h2 : cmB (l.getD p 0)
          · obtain ⟨e1, e2⟩ := peF_sub h h1 h2
            simp only [Bool.or_false, Bool.false_eq_true, if_false]
            by_cases h3 : tokK (pc (l.drop p)) = 0
            · rw [e1, if_pos h3, drop_at h]
              rw [drop_at h] at h3
              rw [cutL_bad h1 h2 h3]
            · rw [e1, if_neg h3]
              unfold pTok
              rw [e1, e2]
              rw [drop_at h] at h3 ⊢
              rw [cutL_tok h1 h2 h3, ← drop_at h, List.drop_drop]
              rfl
          · simp only [Bool.or_true, if_true]
            rw [drop_at h, cutL_cm h1 h2]
            have e2 : peF l p = p + 1 + ((l.drop (p + 1)).takeWhile nlB).length := by unfold peF; simp only [h1, h2, Bool.false_eq_true, if_false, if_true]
            rw [e2, ← drop_tw, List.drop_drop]
        · simp only [Bool.true_or, if_true]
          rw [drop_at h, cutL_sp h1, ← cutL_spaces (p + 1) (l.drop (p + 1))]
          have e2 : peF l p = p + 1 + ((l.drop (p + 1)).takeWhile spB).length := by unfold peF; simp only [h1, if_true]
          rw [e2, ← drop_tw, List.drop_drop]
    · have : p = l.length := by omega
      subst this
      rw [cutR_end h, List.drop_length]; rfl
theorem cutR_0 (l : List UInt8) : cutR l 0 = cutL 0 l := cutR_cutL l l.length 0 (by omega) (by omega)
/-- a byte that ends each piece -/
def brk (d : UInt8) : Prop := wdB d = false ∧ ∀ c, signB [c, d] = false
theorem sign2 {c d : UInt8} (h : signB [c, d] = true) : d = 61 ∨ d = 38 ∨ d = 124 := by
  simp only [signB, Bool.or_eq_true, beq_iff_eq, List.cons.injEq, and_true, reduceCtorEq, and_false, or_false, false_or] at h
  rcases h with ((((⟨_, h⟩ | ⟨_, h⟩) | ⟨_, h⟩) | ⟨_, h⟩) | ⟨_, h⟩) | ⟨_, h⟩ <;> simp [h]
theorem brk32 : brk 32 := ⟨by decide, fun c => by
  cases h : signB [c, 32]
  · rfl
  · rcases sign2 h with h | h | h <;> simp at h⟩
theorem brk10 : brk 10 := ⟨by decide, fun c => by
  cases h : signB [c, 10]
  · rfl
  · rcases sign2 h with h | h | h <;> simp at h⟩
theorem tw_app {q : UInt8 → Bool} {d : UInt8} {t : List UInt8} (hd : q d = false) : ∀ r : List UInt8, (r ++ d :: t).takeWhile q = r.takeWhile q ∧ (r ++ d :: t).dropWhile q = r.dropWhile q ++ d :: t
  | [] => by simp [hd]
  | c :: r => by
    obtain ⟨h1, h2⟩ := tw_app (t := t) hd r
    by_cases h : q c = true
    · simp [h, h1, h2]
    · simp [h]
theorem pc_app {c d : UInt8} {r t : List UInt8} (hd : brk d) : pc (c :: r ++ d :: t) = pc (c :: r) := by
  rw [List.cons_append]
  by_cases h : wdB c = true
  · simp only [pc, h, if_true, (tw_app hd.1 r).1]
  · cases r with
    | nil => simp only [List.nil_append, pc, h, hd.2 c]; simp
    | cons e r => simp only [List.cons_append, pc, h]; simp
theorem tw_all {q : UInt8 → Bool} : ∀ t : List UInt8, (t.takeWhile q).takeWhile q = t.takeWhile q
  | [] => rfl
  | c :: t => by
    by_cases h : q c = true
    · simp [h, tw_all t]
    · simp [h]
theorem pc_pc (c : UInt8) (t : List UInt8) : ∃ w', pc (c :: t) = c :: w' ∧ pc (c :: w') = c :: w' := by
  by_cases h : wdB c = true
  · exact ⟨t.takeWhile wdB, by simp only [pc, h, if_true], by simp only [pc, h, if_true, tw_all]⟩
  · cases t with
    | nil => exact ⟨[], by simp only [pc, h]; simp, by simp only [pc, h]; simp⟩
    | cons d t =>
      by_cases h2 : signB [c, d] = true
      · exact ⟨[d], by simp only [pc, h, h2]; simp, by simp only [pc, h, h2]; simp⟩
      · exact ⟨[], by simp only [pc, h, h2]; simp, by simp only [pc, h]; simp⟩
theorem pc_take (c : UInt8) (t : List UInt8) : (c :: t).take (pc (c :: t)).length = pc (c :: t) := by
  by_cases h : wdB c = true
  · simp only [pc, h, if_true, List.length_cons, List.take_succ_cons, take_tw]
  · cases t with
    | nil => simp only [pc, h]; simp
    | cons d t =>
      by_cases h2 : signB [c, d] = true
      · simp only [pc, h, h2]; simp
      · simp only [pc, h, h2]; simp
theorem pc_le (c : UInt8) (t : List UInt8) : (pc (c :: t)).length ≤ (c :: t).length := by
  have := congrArg List.length (pc_take c t)
  rw [List.length_take] at this
  omega
/-- a text that is one piece -/
def GP (w : List UInt8) : Prop := ∃ c w', w = c :: w' ∧ spB c = false ∧ cmB c = false ∧ pc (c :: w') = c :: w'
def GT (t : Tok) : Prop := t.k = tokK t.s ∧ t.n = tokN t.s ∧ t.k ≠ 0 ∧ GP t.s
theorem oneT_good {i : Nat} {c : UInt8} {t : List UInt8} (h1 : spB c = false) (h2 : cmB c = false) (h3 : tokK (pc (c :: t)) ≠ 0) : GT (oneT i (pc (c :: t))) := by
  obtain ⟨w', e1, e2⟩ := pc_pc c t
  exact ⟨rfl, rfl, h3, c, w', e1, h1, h2, e2⟩
def bulk (ts : List Tok) : Nat := (ts.map fun t => t.s.length).sum
theorem cutL_form : ∀ (n i : Nat) (r : List UInt8), r.length ≤ n →
    (∃ ts, cutL i r = .ok (ts ++ [endT (i + r.length)]) ∧ (∀ t ∈ ts, GT t) ∧ bulk ts ≤ r.length) ∨ ∃ p, cutL i r = .bad p ∧ i ≤ p ∧ p < i + r.length
  | n, i, [], _ => .inl ⟨[], rfl, by simp, by simp [bulk]⟩
  | 0, i, c :: t, h => by simp at h
  | n + 1, i, c :: t, h => by
    have ht : t.length ≤ n := by simpa using h
    have hd := dropWhile_le (q := nlB) t
    have hp := pc_len_pos c t
    have hl : ((c :: t).drop (pc (c :: t)).length).length ≤ t.length := by rw [List.length_drop, List.length_cons]; omega
    cases h1 : spB c
    · cases h2 : cmB c
      · by_cases h3 : tokK (pc (c :: t)) = 0
        · exact .inr ⟨i, cutL_bad h1 h2 h3, Nat.le_refl _, by simp⟩
        · rw [cutL_tok h1 h2 h3]
          have hpl := pc_le c t
          have hle : i + (pc (c :: t)).length + ((c :: t).drop (pc (c :: t)).length).length = i + (c :: t).length := by rw [List.length_drop]; omega
          rcases cutL_form n (i + (pc (c :: t)).length) ((c :: t).drop (pc (c :: t)).length) (by omega) with ⟨ts, e, hg, hb⟩ | ⟨p, e, p1, p2⟩
          · refine .inl ⟨oneT i (pc (c :: t)) :: ts, ?_, ?_, ?_⟩
            · rw [e, hle]; rfl
            · intro x hx
              rcases List.mem_cons.1 hx with rfl | hx
              · exact oneT_good h1 h2 h3
              · exact hg x hx
            · unfold bulk at *
              rw [List.map_cons, List.sum_cons]
              show (pc (c :: t)).length + _ ≤ _
              omega
          · exact .inr ⟨p, by rw [e]; rfl, by omega, by omega⟩
      · rw [cutL_cm h1 h2]
        have hsum : (t.takeWhile nlB).length + (t.dropWhile nlB).length = t.length := by
          rw [← List.length_append, List.takeWhile_append_dropWhile]
        have hle : i + 1 + (t.takeWhile nlB).length + (t.dropWhile nlB).length = i + (c :: t).length := by rw [List.length_cons]; omega
        rcases cutL_form n (i + 1 + (t.takeWhile nlB).length) (t.dropWhile nlB) (by omega) with ⟨ts, e, hg, hb⟩ | ⟨p, e, p1, p2⟩
        · exact .inl ⟨ts, by rw [e, hle], hg, by rw [List.length_cons]; omega⟩
        · exact .inr ⟨p, e, by omega, by omega⟩
    · rw [cutL_sp h1]
      have hle : i + 1 + t.length = i + (c :: t).length := by rw [List.length_cons]; omega
      rcases cutL_form n (i + 1) t ht with ⟨ts, e, hg, hb⟩ | ⟨p, e, p1, p2⟩
      · exact .inl ⟨ts, by rw [e, hle], hg, by rw [List.length_cons]; omega⟩
      · exact .inr ⟨p, e, by omega, by omega⟩
/-- a text, a line feed, another text -/
theorem cutL_rows (t : List UInt8) : ∀ (n i : Nat) (r : List UInt8), r.length ≤ n → cutL i (r ++ 10 :: t) = match cutL i r with | .bad p => .bad p | .ok ts => (cutL (i + r.length + 1) t).pre ts.dropLast
  | n, i, [], _ => by
    rw [List.nil_append, cutL_sp (by decide), cutL_nil]
    show _ = (cutL (i + 0 + 1) t).pre []
    rw [Res.pre_nil]
  | 0, i, c :: r, h => by simp at h
  | n + 1, i, c :: r, h => by
    have ht : r.length ≤ n := by simpa using h
    have hd := dropWhile_le (q := nlB) r
    have hp := pc_len_pos c r
    have hpl := pc_le c r
    have hl : ((c :: r).drop (pc (c :: r)).length).length ≤ r.length := by rw [List.length_drop, List.length_cons]; omega
    rw [List.cons_append]
    cases h1 : spB c
    · cases h2 : cmB c
      · have e : pc (c :: (r ++ 10 :: t)) = pc (c :: r) := by rw [← List.cons_append]; exact pc_app brk10
        by_cases h3 : tokK (pc (c :: r)) = 0
        · rw [cutL_bad h1 h2 h3, cutL_bad h1 h2 (by rw [e]; exact h3)]
        · rw [cutL_tok h1 h2 h3, cutL_tok h1 h2 (by rw [e]; exact h3), e, ← List.cons_append, List.drop_append_of_le_length hpl, cutL_rows t n _ _ (by omega)]
          have hle : i + (pc (c :: r)).length + ((c :: r).drop (pc (c :: r)).length).length = i + (c :: r).length := by rw [List.length_drop]; omega
          rcases cutL_form n (i + (pc (c :: r)).length) ((c :: r).drop (pc (c :: r)).length) (by omega) with ⟨ts, e, _, _⟩ | ⟨p, e, p1, p2⟩
          · rw [e, hle]
            show ((cutL (i + (c :: r).length + 1) t).pre (ts ++ [endT (i + (c :: r).length)]).dropLast).pre [oneT i (pc (c :: r))] = (cutL (i + (c :: r).length + 1) t).pre ([oneT i (pc (c :: r))] ++ (ts ++ [endT (i + (c :: r).length)])).dropLast
            rw [List.dropLast_concat, show [oneT i (pc (c :: r))] ++ (ts ++ [endT (i + (c :: r).length)]) = ([oneT i (pc (c :: r))] ++ ts) ++ [endT (i + (c :: r).length)] by simp, List.dropLast_concat, Res.pre_pre]
          · rw [e]; rfl
      · obtain ⟨e1, e2⟩ := tw_app (q := nlB) (d := 10) (t := t) (by decide) r
        rw [cutL_cm h1 h2, cutL_cm h1 h2, e1, e2, cutL_rows t n _ _ (by omega)]
        have hsum : (r.takeWhile nlB).length + (r.dropWhile nlB).length = r.length := by
          rw [← List.length_append, List.takeWhile_append_dropWhile]
        rw [show i + 1 + (r.takeWhile nlB).length + (r.dropWhile nlB).length + 1 = i + (c :: r).length + 1 by rw [List.length_cons]; omega]
    · rw [cutL_sp h1, cutL_sp h1, cutL_rows t n _ _ ht, show i + 1 + r.length + 1 = i + (c :: r).length + 1 by rw [List.length_cons]; omega]
def strip (t : Tok) : Nat × Int × List UInt8 := (t.k, t.n, t.s)
theorem Toks.some {w : World} {A : Option Addr} {ts : List Tok} (h : Toks w A ts) (h0 : 0 < ts.length) : ∃ b off, A = some ⟨b, off, none⟩ ∧ b < w.heap.size := by
  obtain ⟨b, off, e, hb, _⟩ := h h0; exact ⟨b, off, e, hb⟩
/-- tokens joined by single spaces -/
def texts (ts : List Tok) : List (List UInt8) := ts.map fun t => t.s
theorem join_cons2 (x y : List UInt8) (r : List (List UInt8)) : Lib.join (x :: y :: r) [32] = x ++ 32 :: Lib.join (y :: r) [32] := by
  simp [Lib.join, List.intercalate, List.intersperse]
theorem good_one {t : Tok} (h : GT t) (i : Nat) : strip (oneT i t.s) = strip t := by
  obtain ⟨h1, h2, _⟩ := h
  unfold strip oneT; simp only [h1, h2]
theorem cut_join : ∀ (ts : List Tok) (i : Nat), (∀ t ∈ ts, GT t) → ∃ us, cutL i (Lib.join (texts ts) [32]) = .ok (us ++ [endT (i + (Lib.join (texts ts) [32]).length)]) ∧ us.map strip = ts.map strip
  | [], i, _ => ⟨[], by rw [show texts [] = [] from rfl, Lib.join_nil]; rfl, rfl⟩
  | [t], i, hg => by
    have ht := hg t (by simp)
    obtain ⟨h1, h2, h3, c, w', e, s1, s2, hp⟩ := ht
    rw [show texts [t] = [t.s] from rfl, Lib.join_one]
    refine ⟨[oneT i t.s], ?_, ?_⟩
    · rw [e, cutL_tok s1 s2 (by rw [hp, ← e, ← h1]; exact h3), hp, List.drop_length, cutL_nil]; rfl
    · rw [List.map_cons, List.map_cons, good_one (hg t (by simp))]
  | t :: t2 :: r, i, hg => by
    have ht := hg t (by simp)
    obtain ⟨h1, h2, h3, c, w', e, s1, s2, hp⟩ := ht
    obtain ⟨us, e1, e2⟩ := cut_join (t2 :: r) (i + t.s.length + 1) (fun x hx => hg x (List.mem_cons_of_mem _ hx))
    have ej : Lib.join (texts (t :: t2 :: r)) [32] = t.s ++ 32 :: Lib.join (texts (t2 :: r)) [32] := join_cons2 _ _ _
    refine ⟨oneT i t.s :: us, ?_, ?_⟩
    · rw [ej]
      have hpc : pc (t.s ++ 32 :: Lib.join (texts (t2 :: r)) [32]) = t.s := by rw [e, pc_app brk32, hp]
      have hcut : cutL i (t.s ++ 32 :: Lib.join (texts (t2 :: r)) [32]) = (cutL (i + t.s.length) ((t.s ++ 32 :: Lib.join (texts (t2 :: r)) [32]).drop t.s.length)).pre [oneT i t.s] := by
        have : t.s ++ 32 :: Lib.join (texts (t2 :: r)) [32] = c :: (w' ++ 32 :: Lib.join (texts (t2 :: r)) [32]) := by rw [e]; rfl
        rw [this] at hpc ⊢
        rw [cutL_tok s1 s2 (by rw [hpc, ← h1]; exact h3), hpc]
      rw [hcut, List.drop_left, cutL_sp (by decide), e1]
      have en : i + t.s.length + 1 + (Lib.join (texts (t2 :: r)) [32]).length = i + (t.s ++ 32 :: Lib.join (texts (t2 :: r)) [32]).length := by
        rw [List.length_append, List.length_cons]; omega
      rw [en]; rfl
    · rw [List.map_cons, List.map_cons, good_one (hg t (by simp)), e2]
end Go.Proofs.YtdoeinjplgeadaaGreatDoor.Tk
