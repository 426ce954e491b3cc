/- PROVED here: the contract of the document's own With over a list that rises. No condition but those in each theorem's own head. -/
import Derived.Test.YtabdhmfjbielaaaDoorRe
namespace Go.Proofs.YtabdhmfjbielaaaDoor
open Go Go.RowKit

/-- worlds in which nothing that was there has turned, and the two blocks of the call lie -/
def WS (w : World) (v : Value) (w' : World) : Prop := Below w.heap.size w w' ∧ w.heap.size + 2 ≤ w'.heap.size ∧ Blk1 w' w.heap.size v ∧ ∃ u, Blk1 w' (w.heap.size + 1) u
theorem WS.alloc {w w' : World} {v : Value} (h : WS w v w') (o : Obj) : WS w v (w'.alloc o) := by
  obtain ⟨h1, h2, h3, u, h4⟩ := h
  exact ⟨h1.alloc h1.size _, by simp; omega, (Below.heap_alloc _ _ _ (by omega)).trans h3, u, (Below.heap_alloc _ _ _ (by omega)).trans h4⟩
theorem WS.grown {w w' w'' : World} {v : Value} {row : Option Nat} (h : WS w v w') (hg : w'.grownBy w'' row) (hr : ∀ g, row = some g → w.heap.size + 2 ≤ g) : WS w v w'' := by
  obtain ⟨h1, h2, h3, u, h4⟩ := h
  exact ⟨h1.grown hg (by omega) (fun q hq => by have := hr q hq; omega), by have := hg.size; omega, (hg.block _ (by omega) (fun e => by have := hr _ e.symm; omega)).trans h3, u, (hg.block _ (by omega) (fun e => by have := hr _ e.symm; omega)).trans h4⟩
theorem WS.set_ {w w' : World} {v : Value} (h : WS w v w') (u : Value) : WS w v (w'.setCell ⟨w.heap.size + 1, 0, none⟩ u) := by
  obtain ⟨h1, h2, h3, u', h4⟩ := h
  exact ⟨h1.setCell (by simp) _, by simpa using h2, h3.far (by simp) _, u, h4.set_ u⟩
theorem WS.cell {w w' : World} {v : Value} (h : WS w v w') : w'.cell? ⟨w.heap.size, 0, none⟩ = some v := h.2.2.1.cell
theorem Ints.grown {w w' : World} {A : Option Addr} {l : List Int} {row : Option Nat} (h : Ints w A l) (hg : w.grownBy w' row) (hr : ∀ a, A = some a → 0 < l.length → row ≠ some a.block) : Ints w' A l := fun h0 => by
  obtain ⟨b, off, e, hb, hc⟩ := h h0
  exact ⟨b, off, e, Nat.lt_of_lt_of_le hb hg.size, fun j hj => (World.cell?_of_block (a := ⟨b, off + j, none⟩) (hg.block b hb (fun e2 => hr _ e h0 e2.symm))).trans (hc j hj)⟩
theorem own_empty (w : World) (base : Nat) (hb : base ≤ w.heap.size) : (w.alloc (.cells #[] 3)).ownsRow base 3 1 (.slice (some ⟨w.heap.size, 0, none⟩) 0 0) ([] : List Int).length (([] : List Int).map (Value.int .i64)) :=
  ⟨rfl, .inr ⟨w.heap.size, 0, #[], rfl, hb, heap_alloc_new w _, Nat.le_refl _, by unfold maxLen; omega, rfl, rfl⟩⟩
theorem own_alloc {w : World} {base : Nat} {v : Value} {l : List Int} (h : w.ownsRow base 3 1 v l.length (l.map (Value.int .i64))) (o : Obj) : (w.alloc o).ownsRow base 3 1 v l.length (l.map (Value.int .i64)) := h.alloc o
section
variable {ops : Array Oper} {Q : Exit → Act → World → Prop} {a : Act} {w0 w : World} {v : Value} {fuel : Nat} {listed : Array Bool} {o0 o5 o7 : Oper} {s x y : Operand} {A : Option Addr} {c : Nat} {l : List Int} {n : Int}
/-- two slices are built and the first one is filled, in whatever order -/
theorem h_fork (i0 : ops[0]? = some o0) (i5 : ops[5]? = some o5) (i7 : ops[7]? = some o7) (g0 : o0.guard = none) (g5 : o5.guard = none) (g7 : o7.guard = none)
    (e0 : o0.op = .buildSlice 22 0 #[]) (e5 : o5.op = .call { callee := .builtin .append, args := #[s, y], argTypes := #[22, 22] }) (e7 : o7.op = .buildSlice 22 1 #[(0, x)])
    (d0 : o0.dst = some 34) (d5 : o5.dst = some 39) (d7 : o7.dst = some 41)
    (r1 : Region.ready .any ops listed = [0, 7]) (r2 : Region.ready .any ops (listed.setIfInBounds 0 true) = [5, 7]) (r3 : Region.ready .any ops (listed.setIfInBounds 7 true) = [0])
    (r4 : Region.ready .any ops ((listed.setIfInBounds 0 true).setIfInBounds 7 true) = [5]) (r5 : Region.ready .any ops ((listed.setIfInBounds 0 true).setIfInBounds 5 true) = [7])
    (x1 : a.eval x = .int .i64 n) (x2 : ∀ u, (a.put (some 34) u).eval x = .int .i64 n) (x3 : ∀ u u', ((a.put (some 34) u).put (some 39) u').eval x = .int .i64 n)
    (s1 : ∀ u, (a.put (some 34) u).eval s = u) (s2 : ∀ u u', ((a.put (some 34) u).put (some 41) u').eval s = u)
    (y1 : ∀ u, (a.put (some 34) u).eval y = .slice A l.length c) (y2 : ∀ u u', ((a.put (some 34) u).put (some 41) u').eval y = .slice A l.length c)
    (hS : WS w0 v w) (hl : l.length ≤ 4096) (hI : ∀ w', WS w0 v w' → Ints w' A l)
    (h : ∀ u0 u5 A7 w', w'.ownsRow (w0.heap.size + 2) 3 1 u5 l.length (l.map (Value.int .i64)) → Ints w' (some A7) [n] → WS w0 v w' →
      wpAnyH Tryd.prog .any ops Q (WS w0 v) fuel (((listed.setIfInBounds 0 true).setIfInBounds 7 true).setIfInBounds 5 true) (((a.put (some 34) u0).put (some 41) (.slice (some A7) 1 1)).put (some 39) u5) w') :
    wpAnyH Tryd.prog .any ops Q (WS w0 v) (fuel + 3) listed a w := by
  have hsz : w0.heap.size + 2 ≤ w.heap.size := hS.2.1
  have far : ∀ (w' : World) (g : Nat), w0.heap.size + 2 ≤ g → ∀ q, Value.ownBlock (.slice (some ⟨g, 0, none⟩) 0 0) = some q → w0.heap.size + 2 ≤ q := fun _ g hg q hq => by
    simp [Value.ownBlock] at hq; omega
  refine wpAnyH_all r1 (by simp) fun i hi => ?_
  simp only [List.mem_cons, List.not_mem_nil, or_false] at hi
  rcases hi with rfl | rfl
  · -- first the empty one
    refine o_build0 i0 g0 e0 ?_
    rw [d0]
    have hS1 := hS.alloc (.cells #[] 3)
    have own1 := own_empty w (w0.heap.size + 2) hsz
    refine ⟨hS1, wpAnyH_all r2 (by simp) fun i hi => ?_⟩
    simp only [List.mem_cons, List.not_mem_nil, or_false] at hi
    rcases hi with rfl | rfl
    · refine o_app (base := w0.heap.size + 2) i5 g5 e5 (s1 _) (y1 _) own1 (hI _ hS1) (by simp; omega) hS1.2.1 ?_
      intro v' w' own2 gr2 _
      rw [d5]
      have hS2 := hS1.grown gr2 (far w _ hsz)
      rw [List.nil_append] at own2
      refine ⟨hS2, wpAnyH_all r5 (by simp) fun i hi => ?_⟩
      simp only [List.mem_cons, List.not_mem_nil, or_false] at hi
      subst hi
      refine o_build1 (n := n) i7 g7 e7 (x3 _ _) ?_
      rw [d7]
      refine ⟨hS2.alloc _, ?_⟩
      rw [Act.put_comm _ _ _ (by simp), Array.setIfInBounds_comm _ _ (by decide)]
      exact h _ _ _ _ (own_alloc own2 _) (ints_new w' [n]) (hS2.alloc _)
    · refine o_build1 (n := n) i7 g7 e7 (x2 _) ?_
      rw [d7]
      have hS2 := hS1.alloc (rowI [n])
      refine ⟨hS2, wpAnyH_all r4 (by simp) fun i hi => ?_⟩
      simp only [List.mem_cons, List.not_mem_nil, or_false] at hi
      subst hi
      refine o_app (base := w0.heap.size + 2) i5 g5 e5 (s2 _ _) (y2 _ _) (own_alloc own1 _) (hI _ hS2) (by simp; omega) hS2.2.1 ?_
      intro v' w' own3 gr3 _
      rw [d5]
      have hS3 := hS2.grown gr3 (far w _ hsz)
      rw [List.nil_append] at own3
      exact ⟨hS3, h _ _ _ _ own3 ((ints_new _ [n]).grown gr3 (fun a e _ => by injection e with e; subst e; simp [Value.ownBlock])) hS3⟩
  · -- first the other one
    refine o_build1 (n := n) i7 g7 e7 x1 ?_
    rw [d7]
    have hS1 := hS.alloc (rowI [n])
    refine ⟨hS1, wpAnyH_all r3 (by simp) fun i hi => ?_⟩
    simp only [List.mem_cons, List.not_mem_nil, or_false] at hi
    subst hi
    refine o_build0 i0 g0 e0 ?_
    rw [d0]
    have hS2 := hS1.alloc (.cells #[] 3)
    rw [Act.put_comm _ _ _ (by simp), Array.setIfInBounds_comm _ _ (by decide)]
    refine ⟨hS2, wpAnyH_all r4 (by simp) fun i hi => ?_⟩
    simp only [List.mem_cons, List.not_mem_nil, or_false] at hi
    subst hi
    have own2 := own_empty (w.alloc (rowI [n])) (w0.heap.size + 2) (by simp; omega)
    refine o_app (base := w0.heap.size + 2) i5 g5 e5 (s2 _ _) (y2 _ _) own2 (hI _ hS2) (by simp; omega) hS2.2.1 ?_
    intro v' w' own3 gr3 _
    rw [d5]
    have hS3 := hS2.grown gr3 (far w _ (by simp; omega))
    rw [List.nil_append] at own3
    exact ⟨hS3, h _ _ _ _ own3 (((ints_new w [n]).alloc _).grown gr3 (fun a e _ => by injection e with e; subst e; simp [Value.ownBlock])) hS3⟩
end
end Go.Proofs.YtabdhmfjbielaaaDoor
