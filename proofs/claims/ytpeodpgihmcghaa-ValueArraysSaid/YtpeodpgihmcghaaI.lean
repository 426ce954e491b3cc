/- PROVED here: a cell of a heap that is set, an array more: words. No condition but those in each theorem's own head. -/
import Derived.Test.YtpeodpgihmcghaaH
namespace Go.Proofs.Ytpeodpgihmcghaa
open Go Go.RowKit Go.Sort

def Kc (C : List (List Int) → List Value) : Prop := ∀ L L', cellsL L' = cellsL L → C L' = C L
theorem k46 : Kc C46 := fun L L' h => by unfold C46; rw [h]
theorem k49 : Kc C49 := fun _ _ _ => rfl
section
variable {T : TypeId} {C : List (List Int) → List Value} {w w' : World} {base g : Nat} {v : Value} {vs : List Value} {L : List (List Int)}
theorem Hp.at_ (h : Hp T C w base g v vs L) {i : Nat} (hi : i < L.length) {q : Nat} (hq : q < L[i].length) :
    ∃ b c r d, v = .slice (some ⟨b, 0, none⟩) L.length c ∧ b < w.heap.size ∧ vs[i]? = some (.slice (some ⟨r, 0, none⟩) L[i].length d) ∧ w.cell? ⟨b, i, none⟩ = some (.slice (some ⟨r, 0, none⟩) L[i].length d) ∧ r < w.heap.size ∧ w.cell? ⟨r, q, none⟩ = some (.int .i64 L[i][q]) ∧ w.frozen? ⟨r, q, none⟩ = false := by
  have hiv : i < vs.length := by rw [h.ar.len]; exact hi
  have ho := h.ar.own
  have hr := h.ar.row i hiv hi
  rcases ho.2 with ⟨_, e2⟩ | ⟨b, c, cur, e1, hb, hg, _⟩
  · omega
  · rcases hr.2 with ⟨e3, e4⟩ | ⟨r, d, cur2, e3, _, hg2, _⟩
    · omega
    · rw [e1] at ho
      have hc := ho.cellAt i (by omega)
      rw [List.getElem?_eq_getElem hiv, e3] at hc
      rw [e3] at hr
      refine ⟨b, c, r, d, e1, (Array.getElem?_eq_some_iff.1 hg).1, by rw [List.getElem?_eq_getElem hiv, e3], hc, (Array.getElem?_eq_some_iff.1 hg2).1, ?_, hr.frozenAt q⟩
      rw [hr.cellAt q (by omega)]
      exact ints_get hq
theorem own_set_self {base r n d : Nat} {xs : List Value} {w : World} (h : w.ownsRow base 3 1 (.slice (some ⟨r, 0, none⟩) n d) n xs) (q : Nat) (u : Value) : (w.setCell ⟨r, q, none⟩ u).ownsRow base 3 1 (.slice (some ⟨r, 0, none⟩) n d) n (xs.set q u) := (h.stored q u).1
theorem fr_set (F : Nat → Prop) (w : World) {p : Addr} (hp : F p.block) (u : Value) : Fr F w (w.setCell p u) :=
  ⟨rfl, rfl, rfl, by simp, fun b _ hn => Below.heap_setCell w p u b (fun e => hn (by rw [e]; exact hp))⟩
theorem Hp.set_ (h : Hp T C w base g v vs L) (hC : Kc C) (hT : T ≠ 3) {i : Nat} (hi : i < L.length) {q : Nat} {r d : Nat} (hv : vs[i]? = some (.slice (some ⟨r, 0, none⟩) L[i].length d)) (x : Int) :
    Hp T C (w.setCell ⟨r, q, none⟩ (.int .i64 x)) base g v vs (L.set i (L[i].set q x)) ∧ Fr (Fp g v vs) w (w.setCell ⟨r, q, none⟩ (.int .i64 x)) := by
  have hiv : i < vs.length := by rw [h.ar.len]; exact hi
  have hve : vs[i] = .slice (some ⟨r, 0, none⟩) L[i].length d := by rw [List.getElem?_eq_getElem hiv] at hv; exact Option.some.inj hv
  have hob : vs[i].ownBlock = some r := by rw [hve]; rfl
  have hrow := h.ar.row i hiv hi
  have hcell : cellsL (L.set i (L[i].set q x)) = cellsL L := cells_set _ _ _ fun _ => by rw [List.length_set]
  have F1 : Fr (fun b => b = r) w (w.setCell ⟨r, q, none⟩ (.int .i64 x)) := fr_set (fun b => b = r) w (p := ⟨r, q, none⟩) rfl _
  refine ⟨⟨?_, ⟨by rw [h.ar.len, List.length_set], ?_, ?_, h.ar.ne⟩, by rw [hcell]; exact h.cap, h.ge⟩, F1.mono fun b hb => .inr (.inr ⟨_, List.getElem_mem hiv, by rw [hb]; exact hob⟩)⟩
  · rw [hC _ _ hcell]
    exact h.bx.fr F1 (fun e => own_bx_ne hrow h.bx (fun e => hT e.symm) (by rw [e]; exact hob))
  · rw [List.length_set]
    exact own_fr h.ar.own F1 (fun b hb e => own_ne h.ar.own hrow (by decide) hb (by rw [e]; exact hob))
  · intro j hj hl
    have hl2 : j < L.length := by rw [← h.ar.len]; exact hj
    by_cases e : i = j
    · subst e
      rw [List.getElem_set_self, List.length_set]
      have h2 := own_set_self (show w.ownsRow base 3 1 (.slice (some ⟨r, 0, none⟩) L[i].length d) L[i].length (ints L[i]) by rw [← hve]; exact hrow) q (.int .i64 x)
      rw [hve, ← ints_set]
      exact h2
    · rw [List.getElem_set_ne e]
      exact own_fr (h.ar.row j hj hl2) F1 (fun b hb e2 => h.ar.ne j i hj hiv (fun e3 => e e3.symm) b hb (by rw [e2]; exact hob))
/-- an array more -/
theorem Ars.more (h : Ars w base v vs L) {w2 : World} {l : List Int} {x v' : Value} (k : Fr (fun b => v.ownBlock = some b) w w2) (hx : w2.ownsRow base 3 1 x l.length (ints l)) (hnew : ∀ b, x.ownBlock = some b → w.heap.size ≤ b)
    (hown : w2.ownsRow base 78 1 v' (L.length + 1) (vs ++ [x])) : Ars w2 base v' (vs ++ [x]) (L ++ [l]) := by
  have hold : ∀ i (hi : i < vs.length), ∀ b, vs[i].ownBlock = some b → b < w.heap.size := fun i hi b hb => own_lt (h.row i hi (by rw [← h.len]; exact hi)) hb
  refine ⟨by simp [h.len], by rw [List.length_append]; exact hown, fun i hi hl => ?_, fun i j hi hj hne b hb => ?_⟩
  · by_cases e : i < vs.length
    · have hl2 : i < L.length := by rw [← h.len]; exact e
      rw [List.getElem_append_left e, List.getElem_append_left hl2]
      exact own_fr (h.row i e hl2) k (fun b hb hv => own_ne h.own (h.row i e hl2) (by decide) hv hb)
    · have e1 : i = vs.length := by rw [List.length_append] at hi; simp at hi; omega
      have e2 : i = L.length := by rw [e1, h.len]
      subst e1
      rw [List.getElem_append_right (Nat.le_refl _)]
      simp only [Nat.sub_self, List.getElem_cons_zero]
      rw [List.getElem_append_right (by omega)]
      simp only [h.len, Nat.sub_self, List.getElem_cons_zero]
      exact hx
  · by_cases ei : i < vs.length
    · rw [List.getElem_append_left ei] at hb
      by_cases ej : j < vs.length
      · rw [List.getElem_append_left ej]
        exact h.ne i j ei ej hne b hb
      · rw [List.getElem_append_right (by omega)]
        simp only [show j - vs.length = 0 by rw [List.length_append] at hj; simp at hj; omega, List.getElem_cons_zero]
        intro hx2
        have := hnew b hx2
        have := hold i ei b hb
        omega
    · rw [List.getElem_append_right (by omega)] at hb
      simp only [show i - vs.length = 0 by rw [List.length_append] at hi; simp at hi; omega, List.getElem_cons_zero] at hb
      have ej : j < vs.length := by rw [List.length_append] at hi hj; simp at hi hj; omega
      rw [List.getElem_append_left ej]
      intro hx2
      have := hnew b hb
      have := hold j ej b hx2
      omega
end
end Go.Proofs.Ytpeodpgihmcghaa
