/- PROVED here: plain facts: what stands between tokens; tokens joined. No condition but those in each theorem's own head. -/
import Derived.Test.YtahmadelokofbaaDoorU
import Derived.Lib.Join
namespace Go.Proofs.YtahmadelokofbaaDoor
open Go Go.RowKit

theorem ok_inj {a b : List Tok} (h : Res.ok a = .ok b) : a = b := by injection h
theorem up_end (k n : Nat) : (Res.ok [endT n]).up k = .ok [endT (n + k)] := rfl
theorem dw_head {q : UInt8 → Bool} : ∀ t : List UInt8, t.dropWhile q = [] ∨ ∃ d u, t.dropWhile q = d :: u ∧ q d = false
  | [] => .inl rfl
  | c :: t => by
    by_cases h : q c = true
    · rw [List.dropWhile_cons, if_pos h]; exact dw_head t
    · rw [List.dropWhile_cons, if_neg h]; exact .inr ⟨c, t, rfl, by simpa using h⟩
theorem take_split (a b : List UInt8) (g : Nat) : (a ++ b).take (a.length + g) = a ++ b.take g := by
  rw [List.take_append, List.take_of_length_le (by omega)]; simp
theorem all_tw {q : UInt8 → Bool} : ∀ (t : List UInt8), ∀ x ∈ t.takeWhile q, q x = true
  | [], x, h => by simp at h
  | c :: t, x, h => by
    by_cases hc : q c = true
    · rw [List.takeWhile_cons, if_pos hc] at h
      rcases List.mem_cons.1 h with rfl | h
      · exact hc
      · exact all_tw t x h
    · rw [List.takeWhile_cons, if_neg hc] at h; simp at h
theorem cutL_next : ∀ (n i : Nat) (r : List UInt8), r.length ≤ n → ∀ (t : Tok) (ts : List Tok), cutL i r = .ok (t :: ts) →
    (ts = [] ∧ t = endT (i + r.length) ∧ cutL 0 r = .ok [endT r.length]) ∨
    (∃ g, g + t.s.length ≤ r.length ∧ t.p = i + g ∧ (r.drop g).take t.s.length = t.s ∧ t.s ≠ [] ∧ t.k ≠ 5 ∧ cutL 0 (r.take g) = .ok [endT g] ∧ cutL (i + g + t.s.length) (r.drop (g + t.s.length)) = .ok ts)
  | n, i, [], _, t, ts, h => by
    rw [cutL_nil] at h
    have := ok_inj h
    simp only [List.cons.injEq] at this
    exact .inl ⟨this.2.symm, this.1.symm, rfl⟩
  | 0, i, c :: r, hn, t, ts, h => by simp at hn
  | n + 1, i, c :: r, hn, t, ts, h => by
    have ht : r.length ≤ n := by simpa using hn
    have hd := dropWhile_le (q := nlB) r
    have hp := pc_len_pos c r
    have hpl := pc_le c r
    cases h1 : spB c
    · cases h2 : cmB c
      · by_cases h3 : tokK (pc (c :: r)) = 0
        · rw [cutL_bad h1 h2 h3] at h; cases h
        · rw [cutL_tok h1 h2 h3] at h
          rcases cutL_form ((c :: r).drop (pc (c :: r)).length).length (i + (pc (c :: r)).length) ((c :: r).drop (pc (c :: r)).length) (Nat.le_refl _) with ⟨us, e, _, _⟩ | ⟨p, e, _, _⟩
          · rw [e] at h
            have h := ok_inj h
            simp only [List.cons_append, List.nil_append, List.cons.injEq] at h
            obtain ⟨rfl, rfl⟩ := h
            refine .inr ⟨0, by show 0 + (pc (c :: r)).length ≤ _; omega, rfl, ?_, ?_, ?_, rfl, ?_⟩
            · show ((c :: r).drop 0).take (pc (c :: r)).length = pc (c :: r)
              rw [List.drop_zero, pc_take]
            · intro e'
              have e'' : pc (c :: r) = [] := e'
              rw [e''] at hp; simp at hp
            · show tokK (pc (c :: r)) ≠ 5
              have := tokK_lt (pc (c :: r)); omega
            · show cutL (i + 0 + (pc (c :: r)).length) ((c :: r).drop (0 + (pc (c :: r)).length)) = _
              rw [Nat.add_zero, Nat.zero_add]; exact e
          · rw [e] at h; cases h
      · rw [cutL_cm h1 h2] at h
        have hsum : (r.takeWhile nlB).length + (r.dropWhile nlB).length = r.length := by
          rw [← List.length_append, List.takeWhile_append_dropWhile]
        rcases cutL_next n _ _ (by omega) t ts h with ⟨a1, a2, a3⟩ | ⟨g, b1, b2, b3, b4, b5, b6, b7⟩
        · refine .inl ⟨a1, ?_, ?_⟩
          · rw [a2, List.length_cons]; congr 1; omega
          · rw [cutL_cm h1 h2, cutL_at, a3, up_end, List.length_cons]
            congr 3; omega
        · have ed : ∀ k, (c :: r).drop (1 + (r.takeWhile nlB).length + k) = (r.dropWhile nlB).drop k := fun k => by
            rw [← drop_tw, List.drop_drop, show 1 + (r.takeWhile nlB).length + k = ((r.takeWhile nlB).length + k) + 1 by omega, List.drop_succ_cons]
          refine .inr ⟨1 + (r.takeWhile nlB).length + g, ?_, by omega, by rw [ed]; exact b3, b4, b5, ?_, ?_⟩
          · rw [List.length_cons]; omega
          · have et : (c :: r).take (1 + (r.takeWhile nlB).length + g) = c :: (r.takeWhile nlB ++ (r.dropWhile nlB).take g) := by
              rw [show 1 + (r.takeWhile nlB).length + g = ((r.takeWhile nlB).length + g) + 1 by omega, List.take_succ_cons]
              have := take_split (r.takeWhile nlB) (r.dropWhile nlB) g
              rw [List.takeWhile_append_dropWhile] at this
              rw [this]
            rw [et, cutL_cm h1 h2]
            have hz : (r.takeWhile nlB ++ (r.dropWhile nlB).take g).takeWhile nlB = r.takeWhile nlB ∧ (r.takeWhile nlB ++ (r.dropWhile nlB).take g).dropWhile nlB = (r.dropWhile nlB).take g := by
              have hall : ∀ x ∈ r.takeWhile nlB, nlB x = true := all_tw r
              rw [List.takeWhile_append_of_pos hall, List.dropWhile_append_of_pos hall]
              rcases dw_head (q := nlB) r with e | ⟨d, u, e, hq⟩
              · rw [e]; simp
              · rw [e]
                cases g with
                | zero => simp
                | succ g => simp [hq]
            rw [hz.1, hz.2, cutL_at, b6, up_end]
            congr 3; omega
          · rw [show 1 + (r.takeWhile nlB).length + g + t.s.length = 1 + (r.takeWhile nlB).length + (g + t.s.length) by omega, ed]
            rw [show i + (1 + (r.takeWhile nlB).length + g) + t.s.length = i + 1 + (r.takeWhile nlB).length + g + t.s.length by omega]
            exact b7
    · rw [cutL_sp h1] at h
      rcases cutL_next n _ _ ht t ts h with ⟨a1, a2, a3⟩ | ⟨g, b1, b2, b3, b4, b5, b6, b7⟩
      · refine .inl ⟨a1, ?_, ?_⟩
        · rw [a2, List.length_cons]; congr 1; omega
        · rw [cutL_sp h1, cutL_at, a3, up_end, List.length_cons]
      · refine .inr ⟨g + 1, by rw [List.length_cons]; omega, by omega, by rw [List.drop_succ_cons]; exact b3, b4, b5, ?_, ?_⟩
        · rw [List.take_succ_cons, cutL_sp h1, cutL_at, b6, up_end]
        · rw [show g + 1 + t.s.length = (g + t.s.length) + 1 by omega, List.drop_succ_cons, show i + (g + 1) + t.s.length = i + 1 + g + t.s.length by omega]
          exact b7
/-- tokens joined by single spaces -/
def texts (ts : List Tok) : List (List UInt8) := ts.map fun t => t.s
theorem join_cons2 (x y : List UInt8) (r : List (List UInt8)) : Lib.join (x :: y :: r) [32] = x ++ 32 :: Lib.join (y :: r) [32] := by
  simp [Lib.join, List.intercalate, List.intersperse]
theorem good_one {t : Tok} (h : GT t) (i : Nat) : strip (oneT i t.s) = strip t := by
  obtain ⟨h1, h2, _⟩ := h
  unfold strip oneT; simp only [h1, h2]
theorem cut_join : ∀ (ts : List Tok) (i : Nat), (∀ t ∈ ts, GT t) → ∃ us, cutL i (Lib.join (texts ts) [32]) = .ok (us ++ [endT (i + (Lib.join (texts ts) [32]).length)]) ∧ us.map strip = ts.map strip
  | [], i, _ => ⟨[], by rw [show texts [] = [] from rfl, Lib.join_nil]; rfl, rfl⟩
  | [t], i, hg => by
    have ht := hg t (by simp)
    obtain ⟨h1, h2, h3, c, w', e, s1, s2, hp⟩ := ht
    rw [show texts [t] = [t.s] from rfl, Lib.join_one]
    refine ⟨[oneT i t.s], ?_, ?_⟩
    · rw [e, cutL_tok s1 s2 (by rw [hp, ← e, ← h1]; exact h3), hp, List.drop_length, cutL_nil]; rfl
    · rw [List.map_cons, List.map_cons, good_one (hg t (by simp))]
  | t :: t2 :: r, i, hg => by
    have ht := hg t (by simp)
    obtain ⟨h1, h2, h3, c, w', e, s1, s2, hp⟩ := ht
    obtain ⟨us, e1, e2⟩ := cut_join (t2 :: r) (i + t.s.length + 1) (fun x hx => hg x (List.mem_cons_of_mem _ hx))
    have ej : Lib.join (texts (t :: t2 :: r)) [32] = t.s ++ 32 :: Lib.join (texts (t2 :: r)) [32] := join_cons2 _ _ _
    refine ⟨oneT i t.s :: us, ?_, ?_⟩
    · rw [ej]
      have hpc : pc (t.s ++ 32 :: Lib.join (texts (t2 :: r)) [32]) = t.s := by rw [e, pc_app brk32, hp]
      have hcut : cutL i (t.s ++ 32 :: Lib.join (texts (t2 :: r)) [32]) = (cutL (i + t.s.length) ((t.s ++ 32 :: Lib.join (texts (t2 :: r)) [32]).drop t.s.length)).pre [oneT i t.s] := by
        have : t.s ++ 32 :: Lib.join (texts (t2 :: r)) [32] = c :: (w' ++ 32 :: Lib.join (texts (t2 :: r)) [32]) := by rw [e]; rfl
        rw [this] at hpc ⊢
        rw [cutL_tok s1 s2 (by rw [hpc, ← h1]; exact h3), hpc]
      rw [hcut, List.drop_left, cutL_sp (by decide), e1]
      have en : i + t.s.length + 1 + (Lib.join (texts (t2 :: r)) [32]).length = i + (t.s ++ 32 :: Lib.join (texts (t2 :: r)) [32]).length := by
        rw [List.length_append, List.length_cons]; omega
      rw [en]; rfl
    · rw [List.map_cons, List.map_cons, good_one (hg t (by simp)), e2]
theorem join_len2 : ∀ ts : List Tok, (∀ t ∈ ts, GT t) → (Lib.join (texts ts) [32]).length ≤ 2 * bulk ts
  | [], _ => by rw [show texts [] = [] from rfl, Lib.join_nil]; simp
  | [t], _ => by rw [show texts [t] = [t.s] from rfl, Lib.join_one]; simp [bulk]; omega
  | t :: t2 :: r, hg => by
    have ih := join_len2 (t2 :: r) (fun x hx => hg x (List.mem_cons_of_mem _ hx))
    obtain ⟨_, _, _, c, w', e, _⟩ := hg t (by simp)
    have ej : Lib.join (texts (t :: t2 :: r)) [32] = t.s ++ 32 :: Lib.join (texts (t2 :: r)) [32] := join_cons2 _ _ _
    have hl : 1 ≤ t.s.length := by rw [e]; simp
    have eb : bulk (t :: t2 :: r) = t.s.length + bulk (t2 :: r) := by unfold bulk; rw [List.map_cons, List.sum_cons]
    rw [ej, List.length_append, List.length_cons, eb]
    omega
end Go.Proofs.YtahmadelokofbaaDoor
