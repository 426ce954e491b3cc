/- PROVED here: words for nodes that the program has made. No condition but those in each theorem's own head. -/
import Derived.Test.YtcnmkmdedeiffaaD
namespace Go.Proofs.Ytcnmkmdedeiffaa
open Go Go.RowKit

/-- a node whose kids are so many places further on -/
def mvN (d : Int) (x : Nd) : Nd := ⟨x.kd, x.n, x.pl, x.tx, x.ks.map fun k => wrap64 (k + d)⟩
def nth (l : List Nd) (j : Nat) : Nd := l.getD j ⟨0, 0, 0, ⟨#[]⟩, []⟩
theorem nth_eq {l : List Nd} {j : Nat} (h : j < l.length) : nth l j = l[j] := by unfold nth; simp [List.getD, h]
/-- a node, and the block of its kids -/
structure AN where
  nd : Nd
  b : Nat
def AN.cv (x : AN) : List Value := [.int .i64 x.nd.kd, .int .i64 x.nd.n, .int .i64 x.nd.pl, .string x.nd.tx, .slice (some ⟨x.b, 0, none⟩) x.nd.ks.length x.nd.ks.length]
def fl (ls : List AN) : List Value := ls.flatMap AN.cv
theorem fl_app (a b : List AN) : fl (a ++ b) = fl a ++ fl b := List.flatMap_append
theorem fl_len (ls : List AN) : (fl ls).length = ls.length * 5 := by
  induction ls with
  | nil => rfl
  | cons x xs ih => show (x.cv ++ fl xs).length = _; rw [List.length_append, ih, List.length_cons]; show 5 + _ = _; omega
theorem fl_get : ∀ (ls : List AN) (j f : Nat) (hj : j < ls.length), f < 5 → (fl ls)[j * 5 + f]? = (ls[j].cv)[f]?
  | [], _, _, hj, _ => by cases hj
  | x :: xs, 0, f, _, hf => by
    show (x.cv ++ fl xs)[0 * 5 + f]? = _
    rw [List.getElem?_append_left (by show _ < 5; omega)]
    simp
  | x :: xs, j + 1, f, hj, hf => by
    show (x.cv ++ fl xs)[(j + 1) * 5 + f]? = _
    rw [List.getElem?_append_right (by show 5 ≤ _; omega), show (j + 1) * 5 + f - x.cv.length = j * 5 + f by show (j + 1) * 5 + f - 5 = _; omega]
    exact fl_get xs j f (by simpa using hj) hf
/-- the kids of the nodes lie each in a block of its own, from base on -/
def Al (base : Nat) (w : World) (ls : List AN) : Prop := ∀ x ∈ ls, base ≤ x.b ∧ Ib w x.b x.nd.ks.length (fun i => x.nd.ks.getD i 0)
theorem Ib.ints' {w : World} {g : Nat} {l : List Int} (h : Ib w g l.length (fun i => l.getD i 0)) : Ints w (some ⟨g, 0, none⟩) l := fun _ => by
  refine ⟨g, 0, rfl, h.lt, fun j hj => ?_⟩
  rw [Nat.zero_add, h.cell hj]; simp [List.getD, hj]
theorem Al.keep {base : Nat} {w w' : World} {ls : List AN} (h : Al base w ls) (hk : ∀ b, base ≤ b → ∀ n m, Ib w b n m → w'.heap[b]? = w.heap[b]?) : Al base w' ls := fun x hx =>
  ⟨(h x hx).1, (h x hx).2.same (hk _ (h x hx).1 _ _ (h x hx).2)⟩
theorem Al.below {base : Nat} {w w' : World} {ls : List AN} (h : Al base w ls) (hb : Below w.heap.size w w') : Al base w' ls := h.keep fun _ _ _ _ hI => hb.block _ hI.lt
theorem Al.grown {base : Nat} {w w' : World} {row : Option Nat} {ls : List AN} (h : Al base w ls) (hg : w.grownBy w' row) (hr : ∀ g, row = some g → ∃ cs, w.heap[g]? = some (.cells cs 24 (0, 0))) : Al base w' ls := h.keep fun b _ n m hI => by
  refine hg.block _ hI.lt fun e => ?_
  obtain ⟨cs, hc⟩ := hr b e.symm
  rw [show w.heap[b]? = _ from hI] at hc
  simp at hc
theorem Al.alloc {base : Nat} {w : World} {ls : List AN} (h : Al base w ls) (o : Obj) : Al base (w.alloc o) ls := h.below (heap1 _ _)
theorem Al.app {base : Nat} {w : World} {ls ms : List AN} (h : Al base w ls) (k : Al base w ms) : Al base w (ls ++ ms) := fun x hx => (List.mem_append.1 hx).elim (h x) (k x)
theorem Al.mono {base base' : Nat} {w : World} {ls : List AN} (h : Al base w ls) (hb : base' ≤ base) : Al base' w ls := fun x hx => ⟨Nat.le_trans hb (h x hx).1, (h x hx).2⟩
/-- a row of nodes that is owned is a slice of nodes -/
theorem nds_own {base : Nat} {w : World} {v : Value} {ls : List AN} (h : w.ownsRow base 24 5 v ls.length (fl ls)) (hA : Al base w ls) : ∃ A c, v = .slice A ls.length c ∧ Nds w A (ls.map AN.nd) ∧ (∀ a, A = some a → base ≤ a.block) := by
  rcases h.2 with ⟨rfl, e⟩ | ⟨g, cap, cur, rfl, hb, hg, hn, _, _, ht⟩
  · exact ⟨none, 0, by rw [e], fun h0 => by simp at h0; omega, fun a e => by cases e⟩
  · refine ⟨_, _, rfl, fun h0 => ?_, fun a e => by cases e; exact hb⟩
    refine ⟨g, 0, rfl, (Array.getElem?_eq_some_iff.1 hg).1, fun j hj => ?_⟩
    have hj' : j < ls.length := by simpa using hj
    have key : ∀ f, f < 5 → w.cell? ⟨g, 0 + j * 5 + f, none⟩ = (ls[j].cv)[f]? := fun f hf => by
      rw [cell_of_row w g _ cur 24 (0, 0) hg, Nat.zero_add, ← fl_get ls j f hj' hf, ← ht, List.getElem?_take, if_pos (by omega)]
      simp
    rw [List.getElem_map]
    exact ⟨_, _, key 0 (by decide), key 1 (by decide), key 2 (by decide), key 3 (by decide), key 4 (by decide), (hA _ (List.getElem_mem _)).2.ints'⟩
/-- a block of nodes -/
def mkN (n : Nat) (m : Nat → Nat → Value) : Array Value := Array.ofFn (n := n * 5) fun i => m (i / 5) (i % 5)
theorem mkN_size (n : Nat) (m : Nat → Nat → Value) : (mkN n m).size = n * 5 := by simp [mkN]
theorem mkN_get {n : Nat} {m : Nat → Nat → Value} {j f : Nat} (hj : j < n) (hf : f < 5) : (mkN n m)[j * 5 + f]? = some (m j f) := by
  have h : j * 5 + f < n * 5 := by omega
  simp only [mkN, Array.getElem?_ofFn, h, dif_pos]
  rw [show (j * 5 + f) / 5 = j by omega, show (j * 5 + f) % 5 = f by omega]
theorem mkN_congr {n : Nat} {m m' : Nat → Nat → Value} (h : ∀ j f, j < n → f < 5 → m j f = m' j f) : mkN n m = mkN n m' := by
  unfold mkN; congr 1; funext i; exact h _ _ (by have := i.2; omega) (by omega)
theorem mkN_set {n : Nat} {m : Nat → Nat → Value} {j f : Nat} {v : Value} (hf : f < 5) : (mkN n m).setIfInBounds (j * 5 + f) v = mkN n (fun i g => if i = j ∧ g = f then v else m i g) := by
  apply Array.ext_getElem?
  intro k
  rw [Array.getElem?_setIfInBounds]
  by_cases hk : k < n * 5
  · have e1 : k = k / 5 * 5 + k % 5 := by omega
    have h1 := mkN_get (m := fun i g => if i = j ∧ g = f then v else m i g) (j := k / 5) (f := k % 5) (n := n) (by omega) (by omega)
    have h2 := mkN_get (m := m) (j := k / 5) (f := k % 5) (n := n) (by omega) (by omega)
    rw [← e1] at h1 h2
    rw [h1, h2, mkN_size]
    by_cases e : j * 5 + f = k
    · rw [if_pos e, if_pos (by omega), if_pos (by omega)]
    · rw [if_neg e, if_neg (by omega)]
  · rw [Array.getElem?_eq_none (by rw [mkN_size]; omega), Array.getElem?_eq_none (by rw [mkN_size]; omega), mkN_size]
    split
    · rw [if_neg (by omega)]
    · rfl
def Nb (w : World) (g n : Nat) (m : Nat → Nat → Value) : Prop := w.heap[g]? = some (.cells (mkN n m) 24 (0, 0))
section
variable {w w' : World} {g n : Nat} {m : Nat → Nat → Value}
theorem Nb.lt (h : Nb w g n m) : g < w.heap.size := (Array.getElem?_eq_some_iff.1 h).1
theorem Nb.cell (h : Nb w g n m) {j f : Nat} (hj : j < n) (hf : f < 5) : w.cell? ⟨g, j * 5 + f, none⟩ = some (m j f) := (cell_of_row w g _ _ 24 (0, 0) h).trans (mkN_get hj hf)
theorem Nb.frozen (h : Nb w g n m) (i : Nat) : w.frozen? ⟨g, i, none⟩ = false := frozen_of_row w g i _ 24 h
theorem Nb.set_ (h : Nb w g n m) (j f : Nat) (hf : f < 5) (v : Value) : Nb (w.setCell ⟨g, j * 5 + f, none⟩ v) g n (fun i k => if i = j ∧ k = f then v else m i k) := (heap_setCell_same w g _ _ 24 _ h).trans (by rw [mkN_set hf])
theorem Nb.far (h : Nb w g n m) {p : Addr} (hp : g ≠ p.block) (u : Value) : Nb (w.setCell p u) g n m := (heap_setCell_other w p g u hp).trans h
theorem Nb.same (h : Nb w g n m) (hg : w'.heap[g]? = w.heap[g]?) : Nb w' g n m := hg.trans h
theorem Nb.grown {row : Option Nat} (h : Nb w g n m) (hb : w.grownBy w' row) (hg : some g ≠ row) : Nb w' g n m := (hb.block g h.lt hg).trans h
theorem Nb.alloc (h : Nb w g n m) (o : Obj) : Nb (w.alloc o) g n m := h.grown (World.grownBy_alloc w o none) (by simp)
theorem Nb.congr {m' : Nat → Nat → Value} (h : Nb w g n m) (e : ∀ j f, j < n → f < 5 → m j f = m' j f) : Nb w g n m' := by unfold Nb at *; rw [h, mkN_congr e]
end
theorem made28 (n : Nat) : madeCells zN (n * 5) = mkN n (fun _ f => zN[f]!) := by
  apply Array.ext_getElem?
  intro k
  by_cases hk : k < n * 5
  · simp only [madeCells, mkN, Array.getElem?_ofFn, hk, dif_pos]
    simp [hk, zN]
  · rw [Array.getElem?_eq_none (by simp [madeCells]; omega), Array.getElem?_eq_none (by rw [mkN_size]; omega)]
theorem fl_range (n : Nat) (a : Nat → AN) : (mkN n fun j f => ((a j).cv)[f]!).toList = fl ((List.range n).map a) := by
  apply List.ext_getElem?
  intro k
  by_cases hk : k < n * 5
  · have e1 : k = k / 5 * 5 + k % 5 := by omega
    have h1 := mkN_get (m := fun j f => ((a j).cv)[f]!) (j := k / 5) (f := k % 5) (n := n) (by omega) (by omega)
    have h2 := fl_get ((List.range n).map a) (k / 5) (k % 5) (by simp; omega) (by omega)
    rw [← e1] at h1 h2
    rw [h2, Array.getElem?_toList, h1]
    have h5 : k % 5 < ((a (k / 5)).cv).length := by show k % 5 < 5; omega
    simp [h5]
  · rw [Array.getElem?_toList, Array.getElem?_eq_none (by rw [mkN_size]; omega), List.getElem?_eq_none (by rw [fl_len]; simp; omega)]
end Go.Proofs.Ytcnmkmdedeiffaa
