/- PROVED here: words for nodes that the document's functions have made: their kids lie in slices that have grown. No condition but those in each theorem's own head. -/
import Derived.Test.YtcnmkmdedeiffaaJ
namespace Go.Proofs.Ytcnmkmdedeiffaa
open Go Go.RowKit

structure RN where
  nd : Nd
  K : Option Addr
  c : Nat
def RN.cv (x : RN) : List Value := [.int .i64 x.nd.kd, .int .i64 x.nd.n, .int .i64 x.nd.pl, .string x.nd.tx, .slice x.K x.nd.ks.length x.c]
def rl (ls : List RN) : List Value := ls.flatMap RN.cv
theorem rl_app (a b : List RN) : rl (a ++ b) = rl a ++ rl b := List.flatMap_append
theorem rl_len (ls : List RN) : (rl ls).length = ls.length * 5 := by
  induction ls with
  | nil => rfl
  | cons x xs ih => show (x.cv ++ rl xs).length = _; rw [List.length_append, ih, List.length_cons]; show 5 + _ = _; omega
theorem rl_get : ∀ (ls : List RN) (j f : Nat) (hj : j < ls.length), f < 5 → (rl ls)[j * 5 + f]? = (ls[j].cv)[f]?
  | [], _, _, hj, _ => by cases hj
  | x :: xs, 0, f, _, hf => by
    show (x.cv ++ rl xs)[0 * 5 + f]? = _
    rw [List.getElem?_append_left (by show _ < 5; omega)]
    simp
  | x :: xs, j + 1, f, hj, hf => by
    show (x.cv ++ rl xs)[(j + 1) * 5 + f]? = _
    rw [List.getElem?_append_right (by show 5 ≤ _; omega), show (j + 1) * 5 + f - x.cv.length = j * 5 + f by show (j + 1) * 5 + f - 5 = _; omega]
    exact rl_get xs j f (by simpa using hj) hf
/-- a block of ints, whatever they are -/
def Is3 (w : World) (b : Nat) : Prop := ∃ cs, w.heap[b]? = some (.cells cs 3 (0, 0))
theorem Is3.lt {w : World} {b : Nat} (h : Is3 w b) : b < w.heap.size := h.elim fun _ h => (Array.getElem?_eq_some_iff.1 h).1
/-- the kids of a node lie apart from the slice rv -/
def Kok (w : World) (rv : Value) (x : RN) : Prop := Ints w x.K x.nd.ks ∧ (∀ b off, x.K = some ⟨b, off, none⟩ → Is3 w b ∧ some b ≠ rv.ownBlock) ∧ (x.K = none → x.c = 0)
def Kal (w : World) (rv : Value) (ls : List RN) : Prop := ∀ x ∈ ls, Kok w rv x
theorem Kok.keep {w w' : World} {rv rv' : Value} {x : RN} (h : Kok w rv x) (hs : w.heap.size ≤ w'.heap.size) (hk : ∀ b, Is3 w b → some b ≠ rv.ownBlock → w'.heap[b]? = w.heap[b]? ∧ some b ≠ rv'.ownBlock) : Kok w' rv' x := by
  refine ⟨h.1.keep hs fun b off e _ => ?_, fun b off e => ?_, h.2.2⟩
  · obtain ⟨h1, h2⟩ := h.2.1 b off e
    exact (hk b h1 h2).1
  · obtain ⟨h1, h2⟩ := h.2.1 b off e
    obtain ⟨h3, h4⟩ := hk b h1 h2
    exact ⟨h1.elim fun cs hc => ⟨cs, h3.trans hc⟩, h4⟩
theorem Kal.keep {w w' : World} {rv rv' : Value} {ls : List RN} (h : Kal w rv ls) (hs : w.heap.size ≤ w'.heap.size) (hk : ∀ b, Is3 w b → some b ≠ rv.ownBlock → w'.heap[b]? = w.heap[b]? ∧ some b ≠ rv'.ownBlock) : Kal w' rv' ls := fun x hx => (h x hx).keep hs hk
theorem Kal.below {w w' : World} {rv : Value} {ls : List RN} (h : Kal w rv ls) (hb : Below w.heap.size w w') : Kal w' rv ls := h.keep hb.size fun b h3 hn => ⟨hb.block b h3.lt, hn⟩
theorem Kal.grown24 {w w' : World} {rv : Value} {row : Option Nat} {ls : List RN} (h : Kal w rv ls) (hg : w.grownBy w' row) (hr : ∀ g, row = some g → ∃ cs, w.heap[g]? = some (.cells cs 24 (0, 0))) : Kal w' rv ls := h.keep hg.size fun b h3 hn => by
  refine ⟨hg.block b h3.lt fun e => ?_, hn⟩
  obtain ⟨cs, hc⟩ := hr b e.symm
  obtain ⟨cs', hc'⟩ := h3
  rw [hc] at hc'
  simp at hc'
/-- the slice rv has grown -/
theorem Kal.roots {w w' : World} {rv rv' : Value} {ls : List RN} (h : Kal w rv ls) (hg : w.grownBy w' rv.ownBlock) (hv : rv'.ownBlock = rv.ownBlock ∨ rv'.ownBlock = some w.heap.size) : Kal w' rv' ls := h.keep hg.size fun b h3 hn => by
  refine ⟨hg.block b h3.lt hn, fun e => ?_⟩
  rcases hv with hv | hv
  · exact hn (e.trans hv)
  · rw [hv] at e
    have := h3.lt
    injection e with e
    omega
/-- a nil list of kids has no room -/
def KN (w : World) (A : Option Addr) (n : Nat) : Prop := ∀ b off, A = some ⟨b, off, none⟩ → ∀ j, j < n → ∀ m c, w.cell? ⟨b, off + j * 5 + 4, none⟩ = some (.slice none m c) → c = 0
theorem KN.below {w w' : World} {A : Option Addr} {n : Nat} (h : KN w A n) (hb : Below w.heap.size w w') (hA : ∀ b off, A = some ⟨b, off, none⟩ → b < w.heap.size) : KN w' A n := fun b off e j hj m c hc => h b off e j hj m c ((hb.cell (p := ⟨b, off + j * 5 + 4, none⟩) (hA b off e)).symm.trans hc)
theorem nds_rn {base n : Nat} {w : World} {v rv : Value} {ls : List RN} (hn : n = ls.length) (h : w.ownsRow base 24 5 v n (rl ls)) (hA : Kal w rv ls) : ∃ A c, v = .slice A n c ∧ Nds w A (ls.map RN.nd) ∧ n ≤ c ∧ KN w A n := by
  subst hn
  rcases h.2 with ⟨rfl, e⟩ | ⟨g, cap, cur, rfl, hb, hg, hn, _, _, ht⟩
  · exact ⟨none, 0, by rw [e], fun h0 => by simp at h0; omega, by omega, fun b off e => by cases e⟩
  · have kn : ∀ j, j < ls.length → ∀ m c, w.cell? ⟨g, 0 + j * 5 + 4, none⟩ = some (.slice none m c) → c = 0 := fun j hj m c hc => by
      rw [cell_of_row w g _ cur 24 (0, 0) hg, Nat.zero_add] at hc
      have h1 := rl_get ls j 4 hj (by omega)
      rw [← ht, List.getElem?_take, if_pos (by omega), Array.getElem?_toList, hc] at h1
      have h2 : Value.slice none m c = .slice ls[j].K ls[j].nd.ks.length ls[j].c := by simpa [RN.cv] using h1
      injection h2 with h3 h4 h5
      rw [h5]
      exact (hA _ (List.getElem_mem hj)).2.2 h3.symm
    refine ⟨_, _, rfl, fun h0 => ?_, hn, fun b off e => by cases e; exact kn⟩
    refine ⟨g, 0, rfl, (Array.getElem?_eq_some_iff.1 hg).1, fun j hj => ?_⟩
    have hj' : j < ls.length := by simpa using hj
    have key : ∀ f, f < 5 → w.cell? ⟨g, 0 + j * 5 + f, none⟩ = (ls[j].cv)[f]? := fun f hf => by
      rw [cell_of_row w g _ cur 24 (0, 0) hg, Nat.zero_add, ← rl_get ls j f hj' hf, ← ht, List.getElem?_take, if_pos (by omega)]
      simp
    rw [List.getElem_map]
    exact ⟨_, _, key 0 (by decide), key 1 (by decide), key 2 (by decide), key 3 (by decide), key 4 (by decide), (hA _ (List.getElem_mem _)).1⟩
def iv (l : List Int) : List Value := l.map fun x => Value.int .i64 x
/-- a slice of ints that has grown -/
theorem own3 {base n : Nat} {w : World} {v : Value} {l : List Int} (hn : n = l.length) (h : w.ownsRow base 3 1 v n (iv l)) : ∃ K c, v = .slice K n c ∧ Ints w K l ∧ (∀ b off, K = some ⟨b, off, none⟩ → (Is3 w b ∧ base ≤ b ∧ v.ownBlock = some b)) ∧ (K = none → c = 0) := by
  subst hn
  rcases h.2 with ⟨rfl, e⟩ | ⟨g, cap, cur, rfl, hb, hg, hn, _, _, ht⟩
  · exact ⟨none, 0, by rw [e], fun h0 => by omega, fun b off e => (by cases e), fun _ => rfl⟩
  · refine ⟨_, _, rfl, fun h0 => ?_, fun b off e => (by cases e; exact ⟨⟨cur, hg⟩, hb, rfl⟩), fun e => (by cases e)⟩
    refine ⟨g, 0, rfl, (Array.getElem?_eq_some_iff.1 hg).1, fun j hj => ?_⟩
    rw [Nat.zero_add, cell_of_row w g j cur 3 (0, 0) hg]
    have h2 : (iv l)[j]? = some (.int .i64 l[j]) := by unfold iv; simp [hj]
    rw [← ht, List.getElem?_take, if_pos (by omega)] at h2
    simpa using h2
theorem own3_set {base k i n : Nat} {v u : Value} {xs : List Value} {w : World} (h : w.ownsRow base 3 1 v n xs) (hk : k < base) : (w.setCell ⟨k, i, none⟩ u).ownsRow base 3 1 v n xs := own_set h hk
theorem own_belowG {base n size : Nat} {e : TypeId} {v : Value} {ls : List Value} {w w' : World} (h : w.ownsRow base e size v n ls) (hb : Below w.heap.size w w') : w'.ownsRow base e size v n ls :=
  ⟨h.1, h.2.imp id fun ⟨g, cap, cur, h1, h2, h3, h4⟩ => ⟨g, cap, cur, h1, h2, (hb.block g (Array.getElem?_eq_some_iff.1 h3).1).trans h3, h4⟩⟩
theorem own_keep {base n size : Nat} {e : TypeId} {v : Value} {ls : List Value} {w w' : World} (h : w.ownsRow base e size v n ls) (hk : ∀ g, v.ownBlock = some g → w'.heap[g]? = w.heap[g]?) : w'.ownsRow base e size v n ls :=
  ⟨h.1, h.2.imp id fun ⟨g, cap, cur, h1, h2, h3, h4⟩ => ⟨g, cap, cur, h1, h2, (hk g (by rw [h1]; rfl)).trans h3, h4⟩⟩
theorem own_rowT {base n size : Nat} {e : TypeId} {v : Value} {ls : List Value} {w : World} (h : w.ownsRow base e size v n ls) : ∀ g, v.ownBlock = some g → ∃ cs, w.heap[g]? = some (.cells cs e (0, 0)) := fun g hg => by
  rcases h.2 with ⟨rfl, _⟩ | ⟨g', cap, cur, rfl, _, h3, _⟩
  · cases hg
  · cases hg; exact ⟨cur, h3⟩
theorem own_sliceG {base n size : Nat} {e : TypeId} {v : Value} {ls : List Value} {w : World} (h : w.ownsRow base e size v n ls) : ∃ A c, v = .slice A n c := by
  rcases h.2 with ⟨rfl, e⟩ | ⟨g, cap, cur, rfl, _⟩
  · exact ⟨_, _, by rw [e]⟩
  · exact ⟨_, _, rfl⟩
/-- what the document's Over has made -/
structure RI (w : World) (nv : List Value) (ts : List Tr) (i : Nat) (L : List Nd) (v rv : Value) (ls : List RN) (wr : World) : Prop where
  x : Bx wr w.heap.size 24 nv
  r : Bx wr (w.heap.size + 1) 30 [.slice none 0 0, .int .i64 0]
  o : wr.ownsRow (w.heap.size + 2) 24 5 v L.length (rl ls)
  q : wr.ownsRow (w.heap.size + 2) 3 1 rv i (iv ((List.range i).map (rtF ts)))
  a : Kal wr rv ls
  e : ls.map RN.nd = L
  b : Below w.heap.size w wr
section
variable {w : World} {nv : List Value} {ts : List Tr} {i : Nat} {L : List Nd} {v rv : Value} {ls : List RN} {wr wr' : World}
theorem RI.below (h : RI w nv ts i L v rv ls wr) (hb : Below wr.heap.size wr wr') : RI w nv ts i L v rv ls wr' :=
  ⟨h.x.below hb h.x.lt, h.r.below hb h.r.lt, own_belowG h.o hb, own_belowG h.q hb, h.a.below hb, h.e, h.b.trans (hb.mono h.b.size)⟩
theorem RI.len (h : RI w nv ts i L v rv ls wr) : ls.length = L.length := by rw [← h.e, List.length_map]
/-- a node more -/
theorem RI.node (h : RI w nv ts i L v rv ls wr) {x : RN} {v' : Value} (hx : Kok wr rv x) (hg : wr.grownBy wr' v.ownBlock) (ho : wr'.ownsRow (w.heap.size + 2) 24 5 v' (L.length + 1) (rl ls ++ x.cv)) : RI w nv ts i (L ++ [x.nd]) v' rv (ls ++ [x]) wr' := by
  have h24 := own_rowT h.o
  have hlt : ∀ b, some b = v.ownBlock → w.heap.size + 2 ≤ b := fun b e => (h.o.lt b e.symm).1
  refine ⟨h.x.grown hg (fun e => by have := hlt _ e; omega), h.r.grown hg (fun e => by have := hlt _ e; omega), ?_, own_keep h.q fun g hgq => ?_, ?_, by rw [List.map_append, h.e]; rfl, h.b.grown hg h.b.size (fun b e => by have := hlt b e.symm; omega)⟩
  · rw [List.length_append, rl_app]
    rw [show rl [x] = x.cv by show x.cv ++ [] = _; rw [List.append_nil]]
    exact ho
  · refine hg.block g (h.q.lt g hgq).2 fun e => ?_
    obtain ⟨cs, hc⟩ := h24 g e.symm
    obtain ⟨cs', hc'⟩ := own_rowT h.q g hgq
    rw [hc] at hc'; simp at hc'
  · have ha : Kal wr rv (ls ++ [x]) := fun y hy => by
      rcases List.mem_append.1 hy with hy | hy
      · exact h.a y hy
      · obtain rfl : y = x := by simpa using hy
        exact hx
    exact ha.grown24 hg h24
/-- a root more -/
theorem RI.root (h : RI w nv ts i L v rv ls wr) {rv' : Value} (hg : wr.grownBy wr' rv.ownBlock) (hv : rv'.ownBlock = rv.ownBlock ∨ rv'.ownBlock = some wr.heap.size) (ho : wr'.ownsRow (w.heap.size + 2) 3 1 rv' (i + 1) (iv ((List.range i).map (rtF ts)) ++ [.int .i64 (rtF ts i)])) : RI w nv ts (i + 1) L v rv' ls wr' := by
  have hlt : ∀ b, some b = rv.ownBlock → w.heap.size + 2 ≤ b := fun b e => (h.q.lt b e.symm).1
  refine ⟨h.x.grown hg (fun e => by have := hlt _ e; omega), h.r.grown hg (fun e => by have := hlt _ e; omega), own_keep h.o fun g hgq => ?_, ?_, h.a.roots hg hv, h.e, h.b.grown hg h.b.size (fun b e => by have := hlt b e.symm; omega)⟩
  · refine hg.block g (h.o.lt g hgq).2 fun e => ?_
    obtain ⟨cs, hc⟩ := own_rowT h.q g e.symm
    obtain ⟨cs', hc'⟩ := own_rowT h.o g hgq
    rw [hc] at hc'; simp at hc'
  · rw [List.range_succ, List.map_append]
    unfold iv at ho ⊢
    rw [List.map_append]
    exact ho
/-- a cell of a later block of another kind is set -/
theorem RI.far (h : RI w nv ts i L v rv ls wr) {k f : Nat} {u : Value} (hk : w.heap.size + 1 < k) {cs : Array Value} (hc : wr.heap[k]? = some (.cells cs 24 (0, 0))) (hv : v.ownBlock ≠ some k) : RI w nv ts i L v rv ls (wr.setCell ⟨k, f, none⟩ u) := by
  refine ⟨h.x.far (by show w.heap.size ≠ k; omega) _, h.r.far (by show w.heap.size + 1 ≠ k; omega) _, own_keep h.o fun g hg => heap_setCell_other wr _ g _ (fun e => hv (by rw [hg]; exact congrArg some e)), own_keep h.q fun g hg => heap_setCell_other wr _ g _ (fun e => ?_), h.a.keep (by rw [World.size_setCell]; exact Nat.le_refl _) fun b h3 hn => ⟨heap_setCell_other wr _ b _ (fun e => ?_), hn⟩, h.e, h.b.setCell (p := ⟨k, f, none⟩) (by show _ ≤ k; omega) _⟩
  · have e' : g = k := e
    subst e'
    obtain ⟨cs', hc'⟩ := own_rowT h.q g hg
    rw [hc] at hc'; simp at hc'
  · have e' : b = k := e
    subst e'
    obtain ⟨cs', hc'⟩ := h3
    rw [hc] at hc'; simp at hc'
end
end Go.Proofs.Ytcnmkmdedeiffaa
