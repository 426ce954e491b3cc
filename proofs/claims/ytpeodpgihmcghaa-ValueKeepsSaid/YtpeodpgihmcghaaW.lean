/- PROVED here: what a heap answers behind a Set, plainly; four boxes. No condition but those in each theorem's own head. -/
import Derived.Test.YtpeodpgihmcghaaN
namespace Go.Proofs.Ytpeodpgihmcghaa
open Go Go.RowKit Go.Sort

theorem own25 : Own 25 := ⟨_, Try.func25, by kernel_rfl, by kernel_rfl⟩
theorem row_put (L : List (List Int)) (p : Nat) (r : List Int) (m : Int) : rowAt (L.set p r) m = if p = (m - 1).toNat ∧ p < L.length then r else rowAt L m := by
  unfold rowAt
  rw [List.getD_eq_getElem?_getD, List.getElem?_set, List.getD_eq_getElem?_getD]
  by_cases h : p = (m - 1).toNat
  · subst h
    by_cases h2 : (m - 1).toNat < L.length
    · rw [if_pos rfl, if_pos h2, if_pos ⟨rfl, h2⟩]; rfl
    · rw [if_pos rfl, if_neg h2, if_neg (fun q => h2 q.2), List.getElem?_eq_none (by omega)]
  · rw [if_neg h, if_neg (fun q => h q.1)]
theorem wrong_set (L : List (List Int)) (k n j i vk vn a b c d : Int) : wrongH (setH L k n j i vk vn) a b c d = wrongH L a b c d := by
  unfold setH
  by_cases h : wrongH L k n j i = 0 ∧ vk = 1
  · rw [if_pos h]
    have hl : (rowAt (L.set (n - 1).toNat ((rowAt L n).set i.toNat vn)) b).length = (rowAt L b).length := by
      rw [row_put]
      by_cases h2 : (n - 1).toNat = (b - 1).toNat ∧ (n - 1).toNat < L.length
      · rw [if_pos h2, List.length_set]; unfold rowAt; rw [h2.1]
      · rw [if_neg h2]
    unfold wrongH hasB
    rw [hl, List.length_set]
  · rw [if_neg h]
theorem get_err (L : List (List Int)) (k n j i : Int) : (getV L k n j i).2 = wrongH L k n j i := by
  unfold getV
  by_cases h : wrongH L k n j i = 0
  · rw [if_pos h, h]
  · rw [if_neg h]
theorem get_put {L : List (List Int)} {k n j i : Int} (h : wrongH L k n j i = 0) (x : Int) : getV (setH L k n j i 1 x) k n j i = ((1, x), 0) := by
  obtain ⟨hb, h1, h2, h3⟩ := wrong_zero h
  unfold getV
  rw [wrong_set, if_pos h]
  unfold setH
  rw [if_pos ⟨h, rfl⟩, row_put, if_pos ⟨rfl, by have := (has_yes hb).2; omega⟩, List.getD_eq_getElem?_getD, List.getElem?_set_self (by omega)]
  rfl
theorem get_away {L : List (List Int)} {k n j i : Int} (h : wrongH L k n j i = 0) (x a b c d : Int) : (k = a ∧ n = b ∧ j = c ∧ i = d) ∨ getV (setH L k n j i 1 x) a b c d = getV L a b c d := by
  by_cases h0 : wrongH L a b c d = 0
  · obtain ⟨hb, h1, h2, h3⟩ := wrong_zero h
    obtain ⟨hb', h1', h2', h3'⟩ := wrong_zero h0
    obtain ⟨e1, e2, e3⟩ := has_yes hb
    obtain ⟨e1', e2', e3'⟩ := has_yes hb'
    by_cases hs : n = b ∧ i = d
    · exact .inl ⟨by omega, hs.1, by omega, hs.2⟩
    · refine .inr ?_
      unfold getV
      rw [wrong_set, if_pos h0, if_pos h0]
      unfold setH
      rw [if_pos ⟨h, rfl⟩, row_put]
      by_cases hn : n = b
      · subst hn
        rw [if_pos ⟨rfl, by omega⟩, List.getD_eq_getElem?_getD, List.getElem?_set_ne (by omega), ← List.getD_eq_getElem?_getD]
      · rw [if_neg (fun q => hn (by omega))]
  · refine .inr ?_
    unfold getV
    rw [wrong_set, if_neg h0, if_neg h0]
theorem set_no {L : List (List Int)} {k n j i : Int} (h : wrongH L k n j i ≠ 0) (x y : Int) : setH L k n j i x y = L := by unfold setH; rw [if_neg (fun q => h q.1)]
/-- four boxes -/
def B4 (g : Nat) (a b c d e f p q : Int) (w : World) : Prop := Bx w g 23 [.int .i64 a, .int .i64 b] ∧ Bx w (g + 1) 23 [.int .i64 c, .int .i64 d] ∧ Bx w (g + 1 + 1) 23 [.int .i64 e, .int .i64 f] ∧ Bx w (g + 1 + 1 + 1) 23 [.int .i64 p, .int .i64 q]
theorem B4.below {g : Nat} {a b c d e f p q : Int} {w w' : World} (h : B4 g a b c d e f p q w) (k : Below w.heap.size w w') : B4 g a b c d e f p q w' := ⟨h.1.below k h.1.lt, h.2.1.below k h.2.1.lt, h.2.2.1.below k h.2.2.1.lt, h.2.2.2.below k h.2.2.2.lt⟩
theorem B4.new (w : World) (a b c d e f p q : Int) : B4 w.heap.size a b c d e f p q ((((w.alloc (.cells #[.int .i64 a, .int .i64 b] 23)).alloc (.cells #[.int .i64 c, .int .i64 d] 23)).alloc (.cells #[.int .i64 e, .int .i64 f] 23)).alloc (.cells #[.int .i64 p, .int .i64 q] 23)) := by
  have h1 := ((Bx.new w 23 [.int .i64 a, .int .i64 b]).alloc (.cells #[.int .i64 c, .int .i64 d] 23)).alloc (.cells #[.int .i64 e, .int .i64 f] 23) |>.alloc (.cells #[.int .i64 p, .int .i64 q] 23)
  have h2 := ((Bx.new (w.alloc (.cells #[.int .i64 a, .int .i64 b] 23)) 23 [.int .i64 c, .int .i64 d]).alloc (.cells #[.int .i64 e, .int .i64 f] 23)).alloc (.cells #[.int .i64 p, .int .i64 q] 23)
  have h3 := (Bx.new ((w.alloc (.cells #[.int .i64 a, .int .i64 b] 23)).alloc (.cells #[.int .i64 c, .int .i64 d] 23)) 23 [.int .i64 e, .int .i64 f]).alloc (.cells #[.int .i64 p, .int .i64 q] 23)
  have h4 := Bx.new (((w.alloc (.cells #[.int .i64 a, .int .i64 b] 23)).alloc (.cells #[.int .i64 c, .int .i64 d] 23)).alloc (.cells #[.int .i64 e, .int .i64 f] 23)) 23 [.int .i64 p, .int .i64 q]
  simp only [World.size_alloc] at h2 h3 h4
  exact ⟨h1, h2, h3, h4⟩
theorem B4.grow (w : World) (a b c d e f p q : Int) : Below w.heap.size w ((((w.alloc (.cells #[.int .i64 a, .int .i64 b] 23)).alloc (.cells #[.int .i64 c, .int .i64 d] 23)).alloc (.cells #[.int .i64 e, .int .i64 f] 23)).alloc (.cells #[.int .i64 p, .int .i64 q] 23)) :=
  (((heap1 w _).alloc (by simp only [World.size_alloc]; omega) _).alloc (by simp only [World.size_alloc]; omega) _).alloc (by simp only [World.size_alloc]; omega) _
end Go.Proofs.Ytpeodpgihmcghaa
