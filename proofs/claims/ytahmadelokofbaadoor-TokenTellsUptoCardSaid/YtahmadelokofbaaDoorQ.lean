/- PROVED here: plain facts on how a text is cut: places, rows. No condition but those in each theorem's own head. -/
import Derived.Test.YtahmadelokofbaaDoorP
namespace Go.Proofs.YtahmadelokofbaaDoor
open Go Go.RowKit

def Tok.up (k : Nat) (t : Tok) : Tok := { t with p := t.p + k }
def Res.up (k : Nat) : Res → Res
  | .ok l => .ok (l.map (Tok.up k))
  | .bad p => .bad (p + k)
theorem up_pre (k : Nat) (a : List Tok) (r : Res) : (r.pre a).up k = (r.up k).pre (a.map (Tok.up k)) := by cases r <;> simp [Res.pre, Res.up]
theorem cutL_up (k : Nat) : ∀ (n i : Nat) (r : List UInt8), r.length ≤ n → cutL (i + k) r = (cutL i r).up k
  | n, i, [], _ => rfl
  | 0, i, c :: t, h => by simp at h
  | n + 1, i, c :: t, h => by
    have ht : t.length ≤ n := by simpa using h
    have hd := dropWhile_le (q := nlB) t
    have hp := pc_len_pos c t
    have hl : ((c :: t).drop (pc (c :: t)).length).length ≤ t.length := by rw [List.length_drop, List.length_cons]; omega
    cases h1 : spB c
    · cases h2 : cmB c
      · by_cases h3 : tokK (pc (c :: t)) = 0
        · rw [cutL_bad h1 h2 h3, cutL_bad h1 h2 h3]; rfl
        · rw [cutL_tok h1 h2 h3, cutL_tok h1 h2 h3, up_pre, ← cutL_up k n _ _ (by omega)]
          rw [show i + k + (pc (c :: t)).length = i + (pc (c :: t)).length + k by omega]; rfl
      · rw [cutL_cm h1 h2, cutL_cm h1 h2, ← cutL_up k n _ _ (by omega)]
        rw [show i + k + 1 + (t.takeWhile nlB).length = i + 1 + (t.takeWhile nlB).length + k by omega]
    · rw [cutL_sp h1, cutL_sp h1, ← cutL_up k n _ _ ht, show i + k + 1 = i + 1 + k by omega]
theorem cutL_at (i : Nat) (r : List UInt8) : cutL i r = (cutL 0 r).up i := by
  have := cutL_up i r.length 0 r (Nat.le_refl _)
  rwa [Nat.zero_add] at this
/-- a byte that ends each piece -/
def brk (d : UInt8) : Prop := wdB d = false ∧ ∀ c, signB [c, d] = false
theorem sign2 {c d : UInt8} (h : signB [c, d] = true) : d = 61 ∨ d = 38 ∨ d = 124 := by
  simp only [signB, Bool.or_eq_true, beq_iff_eq, List.cons.injEq, and_true, reduceCtorEq, and_false, or_false, false_or] at h
  rcases h with ((((⟨_, h⟩ | ⟨_, h⟩) | ⟨_, h⟩) | ⟨_, h⟩) | ⟨_, h⟩) | ⟨_, h⟩ <;> simp [h]
theorem brk32 : brk 32 := ⟨by decide, fun c => by
  cases h : signB [c, 32]
  · rfl
  · rcases sign2 h with h | h | h <;> simp at h⟩
theorem brk10 : brk 10 := ⟨by decide, fun c => by
  cases h : signB [c, 10]
  · rfl
  · rcases sign2 h with h | h | h <;> simp at h⟩
theorem tw_app {q : UInt8 → Bool} {d : UInt8} {t : List UInt8} (hd : q d = false) : ∀ r : List UInt8, (r ++ d :: t).takeWhile q = r.takeWhile q ∧ (r ++ d :: t).dropWhile q = r.dropWhile q ++ d :: t
  | [] => by simp [hd]
  | c :: r => by
    obtain ⟨h1, h2⟩ := tw_app (t := t) hd r
    by_cases h : q c = true
    · simp [h, h1, h2]
    · simp [h]
theorem pc_app {c d : UInt8} {r t : List UInt8} (hd : brk d) : pc (c :: r ++ d :: t) = pc (c :: r) := by
  rw [List.cons_append]
  by_cases h : wdB c = true
  · simp only [pc, h, if_true, (tw_app hd.1 r).1]
  · cases r with
    | nil => simp only [List.nil_append, pc, h, hd.2 c]; simp
    | cons e r => simp only [List.cons_append, pc, h]; simp
theorem tw_all {q : UInt8 → Bool} : ∀ t : List UInt8, (t.takeWhile q).takeWhile q = t.takeWhile q
  | [] => rfl
  | c :: t => by
    by_cases h : q c = true
    · simp [h, tw_all t]
    · simp [h]
theorem pc_pc (c : UInt8) (t : List UInt8) : ∃ w', pc (c :: t) = c :: w' ∧ pc (c :: w') = c :: w' := by
  by_cases h : wdB c = true
  · exact ⟨t.takeWhile wdB, by simp only [pc, h, if_true], by simp only [pc, h, if_true, tw_all]⟩
  · cases t with
    | nil => exact ⟨[], by simp only [pc, h]; simp, by simp only [pc, h]; simp⟩
    | cons d t =>
      by_cases h2 : signB [c, d] = true
      · exact ⟨[d], by simp only [pc, h, h2]; simp, by simp only [pc, h, h2]; simp⟩
      · exact ⟨[], by simp only [pc, h, h2]; simp, by simp only [pc, h]; simp⟩
theorem pc_take (c : UInt8) (t : List UInt8) : (c :: t).take (pc (c :: t)).length = pc (c :: t) := by
  by_cases h : wdB c = true
  · simp only [pc, h, if_true, List.length_cons, List.take_succ_cons, take_tw]
  · cases t with
    | nil => simp only [pc, h]; simp
    | cons d t =>
      by_cases h2 : signB [c, d] = true
      · simp only [pc, h, h2]; simp
      · simp only [pc, h, h2]; simp
theorem pc_le (c : UInt8) (t : List UInt8) : (pc (c :: t)).length ≤ (c :: t).length := by
  have := congrArg List.length (pc_take c t)
  rw [List.length_take] at this
  omega
/-- a text that is one piece -/
def GP (w : List UInt8) : Prop := ∃ c w', w = c :: w' ∧ spB c = false ∧ cmB c = false ∧ pc (c :: w') = c :: w'
def GT (t : Tok) : Prop := t.k = tokK t.s ∧ t.n = tokN t.s ∧ t.k ≠ 0 ∧ GP t.s
theorem oneT_good {i : Nat} {c : UInt8} {t : List UInt8} (h1 : spB c = false) (h2 : cmB c = false) (h3 : tokK (pc (c :: t)) ≠ 0) : GT (oneT i (pc (c :: t))) := by
  obtain ⟨w', e1, e2⟩ := pc_pc c t
  exact ⟨rfl, rfl, h3, c, w', e1, h1, h2, e2⟩
theorem tokK_lt (w : List UInt8) : tokK w < 5 := by unfold tokK; repeat' split
                                                    all_goals omega
def bulk (ts : List Tok) : Nat := (ts.map fun t => t.s.length).sum
theorem cutL_form : ∀ (n i : Nat) (r : List UInt8), r.length ≤ n →
    (∃ ts, cutL i r = .ok (ts ++ [endT (i + r.length)]) ∧ (∀ t ∈ ts, GT t) ∧ bulk ts ≤ r.length) ∨ ∃ p, cutL i r = .bad p ∧ i ≤ p ∧ p < i + r.length
  | n, i, [], _ => .inl ⟨[], rfl, by simp, by simp [bulk]⟩
  | 0, i, c :: t, h => by simp at h
  | n + 1, i, c :: t, h => by
    have ht : t.length ≤ n := by simpa using h
    have hd := dropWhile_le (q := nlB) t
    have hp := pc_len_pos c t
    have hl : ((c :: t).drop (pc (c :: t)).length).length ≤ t.length := by rw [List.length_drop, List.length_cons]; omega
    cases h1 : spB c
    · cases h2 : cmB c
      · by_cases h3 : tokK (pc (c :: t)) = 0
        · exact .inr ⟨i, cutL_bad h1 h2 h3, Nat.le_refl _, by simp⟩
        · rw [cutL_tok h1 h2 h3]
          have hpl := pc_le c t
          have hle : i + (pc (c :: t)).length + ((c :: t).drop (pc (c :: t)).length).length = i + (c :: t).length := by rw [List.length_drop]; omega
          rcases cutL_form n (i + (pc (c :: t)).length) ((c :: t).drop (pc (c :: t)).length) (by omega) with ⟨ts, e, hg, hb⟩ | ⟨p, e, p1, p2⟩
          · refine .inl ⟨oneT i (pc (c :: t)) :: ts, ?_, ?_, ?_⟩
            · rw [e, hle]; rfl
            · intro x hx
              rcases List.mem_cons.1 hx with rfl | hx
              · exact oneT_good h1 h2 h3
              · exact hg x hx
            · unfold bulk at *
              rw [List.map_cons, List.sum_cons]
              show (pc (c :: t)).length + _ ≤ _
              omega
          · exact .inr ⟨p, by rw [e]; rfl, by omega, by omega⟩
      · rw [cutL_cm h1 h2]
        have hsum : (t.takeWhile nlB).length + (t.dropWhile nlB).length = t.length := by
          rw [← List.length_append, List.takeWhile_append_dropWhile]
        have hle : i + 1 + (t.takeWhile nlB).length + (t.dropWhile nlB).length = i + (c :: t).length := by rw [List.length_cons]; omega
        rcases cutL_form n (i + 1 + (t.takeWhile nlB).length) (t.dropWhile nlB) (by omega) with ⟨ts, e, hg, hb⟩ | ⟨p, e, p1, p2⟩
        · exact .inl ⟨ts, by rw [e, hle], hg, by rw [List.length_cons]; omega⟩
        · exact .inr ⟨p, e, by omega, by omega⟩
    · rw [cutL_sp h1]
      have hle : i + 1 + t.length = i + (c :: t).length := by rw [List.length_cons]; omega
      rcases cutL_form n (i + 1) t ht with ⟨ts, e, hg, hb⟩ | ⟨p, e, p1, p2⟩
      · exact .inl ⟨ts, by rw [e, hle], hg, by rw [List.length_cons]; omega⟩
      · exact .inr ⟨p, e, by omega, by omega⟩
/-- a text, a line feed, another text -/
theorem cutL_rows (t : List UInt8) : ∀ (n i : Nat) (r : List UInt8), r.length ≤ n → cutL i (r ++ 10 :: t) = match cutL i r with | .bad p => .bad p | .ok ts => (cutL (i + r.length + 1) t).pre ts.dropLast
  | n, i, [], _ => by
    rw [List.nil_append, cutL_sp (by decide), cutL_nil]
    show _ = (cutL (i + 0 + 1) t).pre []
    rw [Res.pre_nil]
  | 0, i, c :: r, h => by simp at h
  | n + 1, i, c :: r, h => by
    have ht : r.length ≤ n := by simpa using h
    have hd := dropWhile_le (q := nlB) r
    have hp := pc_len_pos c r
    have hpl := pc_le c r
    have hl : ((c :: r).drop (pc (c :: r)).length).length ≤ r.length := by rw [List.length_drop, List.length_cons]; omega
    rw [List.cons_append]
    cases h1 : spB c
    · cases h2 : cmB c
      · have e : pc (c :: (r ++ 10 :: t)) = pc (c :: r) := by rw [← List.cons_append]; exact pc_app brk10
        by_cases h3 : tokK (pc (c :: r)) = 0
        · rw [cutL_bad h1 h2 h3, cutL_bad h1 h2 (by rw [e]; exact h3)]
        · rw [cutL_tok h1 h2 h3, cutL_tok h1 h2 (by rw [e]; exact h3), e, ← List.cons_append, List.drop_append_of_le_length hpl, cutL_rows t n _ _ (by omega)]
          have hle : i + (pc (c :: r)).length + ((c :: r).drop (pc (c :: r)).length).length = i + (c :: r).length := by rw [List.length_drop]; omega
          rcases cutL_form n (i + (pc (c :: r)).length) ((c :: r).drop (pc (c :: r)).length) (by omega) with ⟨ts, e, _, _⟩ | ⟨p, e, p1, p2⟩
          · rw [e, hle]
            show ((cutL (i + (c :: r).length + 1) t).pre (ts ++ [endT (i + (c :: r).length)]).dropLast).pre [oneT i (pc (c :: r))] = (cutL (i + (c :: r).length + 1) t).pre ([oneT i (pc (c :: r))] ++ (ts ++ [endT (i + (c :: r).length)])).dropLast
            rw [List.dropLast_concat, show [oneT i (pc (c :: r))] ++ (ts ++ [endT (i + (c :: r).length)]) = ([oneT i (pc (c :: r))] ++ ts) ++ [endT (i + (c :: r).length)] by simp, List.dropLast_concat, Res.pre_pre]
          · rw [e]; rfl
      · obtain ⟨e1, e2⟩ := tw_app (q := nlB) (d := 10) (t := t) (by decide) r
        rw [cutL_cm h1 h2, cutL_cm h1 h2, e1, e2, cutL_rows t n _ _ (by omega)]
        have hsum : (r.takeWhile nlB).length + (r.dropWhile nlB).length = r.length := by
          rw [← List.length_append, List.takeWhile_append_dropWhile]
        rw [show i + 1 + (r.takeWhile nlB).length + (r.dropWhile nlB).length + 1 = i + (c :: r).length + 1 by rw [List.length_cons]; omega]
    · rw [cutL_sp h1, cutL_sp h1, cutL_rows t n _ _ ht, show i + 1 + r.length + 1 = i + (c :: r).length + 1 by rw [List.length_cons]; omega]
end Go.Proofs.YtahmadelokofbaaDoor
