/- PROVED here: plain facts on what moved has made. No condition but those in each theorem's own head. -/
import Derived.Test.YtcnmkmdedeiffaaE
namespace Go.Proofs.Ytcnmkmdedeiffaa
open Go Go.RowKit

/-- the nodes that moved has made, and where their kids lie -/
def mvA (d : Int) (l : List Nd) (g : Nat → Nat) (j : Nat) : AN := ⟨mvN d (nth l j), g j⟩
structure MvI (d : Int) (l : List Nd) (n p : Nat) (g : Nat → Nat) (w wr : World) : Prop where
  n : Nb wr w.heap.size n (fun j f => if j < p then ((mvA d l g j).cv)[f]! else zN[f]!)
  k : ∀ j, j < p → w.heap.size < g j ∧ Ib wr (g j) (mvA d l g j).nd.ks.length (fun i => (mvA d l g j).nd.ks.getD i 0)
  b : Below w.heap.size w wr
theorem MvI.step {d : Int} {l : List Nd} {n p : Nat} {g : Nat → Nat} {w wr W : World} (h : MvI d l n p g w wr) (h1 : Below wr.heap.size wr W) (hz : w.heap.size < wr.heap.size) {kb : Nat} (hkb : wr.heap.size ≤ kb) (hp : p < n)
    (hI : Ib W kb (nth l p).ks.length (fun i => (mvN d (nth l p)).ks.getD i 0)) (v0 v1 v2 v3 v4 : Value) (hv : (AN.mk (mvN d (nth l p)) kb).cv = [v0, v1, v2, v3, v4]) :
    MvI d l n (p + 1) (fun j => if j = p then kb else g j) w (((((W.setCell ⟨w.heap.size, p * 5, none⟩ v0).setCell ⟨w.heap.size, p * 5 + 1, none⟩ v1).setCell ⟨w.heap.size, p * 5 + 2, none⟩ v2).setCell ⟨w.heap.size, p * 5 + 3, none⟩ v3).setCell ⟨w.heap.size, p * 5 + 4, none⟩ v4) := by
  have hN : Nb W w.heap.size n _ := h.n.same (h1.block _ hz)
  have hs : ∀ (k : Nat) (n' : Nat) (m : Nat → Int) (W : World) (o : Nat) (v : Value), k ≠ w.heap.size → Ib W k n' m → Ib (W.setCell ⟨w.heap.size, o, none⟩ v) k n' m := fun k n' m W o v hk hI => hI.far hk v
  have hb : ∀ (W : World) (o : Nat) (v : Value), Below w.heap.size w W → Below w.heap.size w (W.setCell ⟨w.heap.size, o, none⟩ v) := fun W o v hW => hW.setCell (p := ⟨w.heap.size, o, none⟩) (Nat.le_refl _) v
  refine ⟨?_, ?_, ?_⟩
  · refine (((((hN.set_ p 0 (by omega) v0).set_ p 1 (by omega) v1).set_ p 2 (by omega) v2).set_ p 3 (by omega) v3).set_ p 4 (by omega) v4).congr fun j f hj hf => ?_
    by_cases e : j = p
    · subst e
      have hm : mvA d l (fun i => if i = j then kb else g i) j = AN.mk (mvN d (nth l j)) kb := by unfold mvA; dsimp only; rw [if_pos rfl]
      rw [if_pos (show j < j + 1 by omega), hm, hv]
      match f, hf with
      | 0, _ => simp
      | 1, _ => simp
      | 2, _ => simp
      | 3, _ => simp
      | 4, _ => simp
    · simp only [e, false_and, if_false]
      by_cases e2 : j < p
      · have hm : mvA d l (fun i => if i = p then kb else g i) j = mvA d l g j := by unfold mvA; dsimp only; rw [if_neg e]
        rw [if_pos e2, if_pos (by omega), hm]
      · rw [if_neg e2, if_neg (by omega)]
  · intro j hj
    by_cases e : j = p
    · subst e
      have hm : mvA d l (fun i => if i = j then kb else g i) j = AN.mk (mvN d (nth l j)) kb := by unfold mvA; dsimp only; rw [if_pos rfl]
      rw [hm, if_pos rfl]
      have hl : (AN.mk (mvN d (nth l j)) kb).nd.ks.length = (nth l j).ks.length := by show (List.map _ _).length = _; simp
      rw [hl]
      have hne : kb ≠ w.heap.size := by omega
      exact ⟨by omega, hs _ _ _ _ _ _ hne (hs _ _ _ _ _ _ hne (hs _ _ _ _ _ _ hne (hs _ _ _ _ _ _ hne (hs _ _ _ _ _ _ hne hI))))⟩
    · have hm : mvA d l (fun i => if i = p then kb else g i) j = mvA d l g j := by unfold mvA; dsimp only; rw [if_neg e]
      obtain ⟨h2, h3⟩ := h.k j (by omega)
      rw [hm, if_neg e]
      have hne : g j ≠ w.heap.size := by omega
      have h3' := h3.below h1 h3.lt
      exact ⟨h2, hs _ _ _ _ _ _ hne (hs _ _ _ _ _ _ hne (hs _ _ _ _ _ _ hne (hs _ _ _ _ _ _ hne (hs _ _ _ _ _ _ hne h3'))))⟩
  · have hW : Below w.heap.size w W := h.b.trans (h1.mono h.b.size)
    exact hb _ _ _ (hb _ _ _ (hb _ _ _ (hb _ _ _ (hb _ _ _ hW))))
def MvPost (d : Int) (l : List Nd) (n : Nat) (w : World) (e : Ending) (w' : World) : Prop := ∃ ls, e = .returned (.slice (some ⟨w.heap.size, 0, none⟩) n n) ∧ w'.ownsRow w.heap.size 24 5 (.slice (some ⟨w.heap.size, 0, none⟩) n n) n (fl ls) ∧ ls.map AN.nd = l.map (mvN d) ∧ Al w.heap.size w' ls ∧ Below w.heap.size w w'
theorem MvI.post {d : Int} {l : List Nd} {n : Nat} {g : Nat → Nat} {w wr : World} (hn : n = l.length) (hl : n ≤ 10000000) (h : MvI d l n n g w wr) : MvPost d l n w (.returned (.slice (some ⟨w.heap.size, 0, none⟩) n n)) wr := by
  have h1 : Nb wr w.heap.size n (fun j f => ((mvA d l g j).cv)[f]!) := h.n.congr fun j f hj _ => if_pos hj
  refine ⟨(List.range n).map (mvA d l g), rfl, ⟨by rw [fl_len]; simp, .inr ⟨_, _, _, rfl, Nat.le_refl _, h1, Nat.le_refl _, by unfold maxLen; omega, mkN_size _ _, ?_⟩⟩, ?_, ?_, h.b⟩
  · rw [fl_range, List.take_of_length_le (by rw [fl_len]; simp)]
  · rw [List.map_map]
    apply List.ext_getElem
    · simp [hn]
    · intro i h2 h3
      have h4 : i < l.length := by simpa using h3
      rw [List.getElem_map, List.getElem_map, List.getElem_range]
      show mvN d (nth l i) = _
      rw [nth_eq h4]
  · intro x hx
    obtain ⟨j, hj, rfl⟩ := List.mem_map.1 hx
    obtain ⟨h2, h3⟩ := h.k j (by simpa using hj)
    exact ⟨Nat.le_of_lt h2, h3⟩
end Go.Proofs.Ytcnmkmdedeiffaa
