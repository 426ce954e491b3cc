/- PROVED here: the contract of add: begun. No condition but those in each theorem's own head. -/
import Derived.Test.YtdoeinjplgeadaaGreatDoorPf
namespace Go.Proofs.YtdoeinjplgeadaaGreatDoor
open Go Go.RowKit
open Tr (Bx heap1 bt gen_world ret_int ret_bool cell_same info24)

section
variable {ops : Array Oper} {Q : Exit → Act → World → Prop} {S : World → Prop} {fuel : Nat} {listed : Array Bool} {a : Act} {w : World} {o : Oper}
theorem h_pure (i : Nat) (o : Oper) (v : Value) (hs : Region.noSelect ops = true) (hi : ops[i]? = some o) (hf : Region.free .any ops listed i = true) (hr : (Region.ready .any ops listed).contains i = true)
    (hQ : ∀ c a w, Q (.panic c) (a.put o.dst v) w → Q (.panic c) a w) (hw : Region.wanted o (yielded ops a.tmps) = true) (hy : ∀ w, S w → (execOp a.eval o).run Tryz.prog w = .ok (.value v) w) (hS : S w)
    (h : wpAnyH Tryz.prog .any ops Q S fuel (listed.setIfInBounds i true) (a.put o.dst v) w) : wpAnyH Tryz.prog .any ops Q S (fuel + 1) listed a w :=
  wpAnyH_take hi hs hf hr hQ (.inl ⟨hw, hy⟩) hS h
theorem h_one (i : Nat) (o : Oper) (hi : ops[i]? = some o) (hr : Region.ready .any ops listed = [i]) (hw : Region.wanted o (yielded ops a.tmps) = true)
    (h : o.wp Tryz.prog a w (fun a' w' => S w' ∧ wpAnyH Tryz.prog .any ops Q S fuel (listed.setIfInBounds i true) a' w') Q) : wpAnyH Tryz.prog .any ops Q S (fuel + 1) listed a w :=
  wpAnyH_all hr (by simp) fun j hj => by
    obtain rfl : j = i := by simpa using hj
    unfold wpOp
    simp only [hi, hw, if_true]
    exact .inl h
theorem y_move {x : Operand} {v : Value} (ho : o.op = .move x) (hx : a.eval x = v) : ∀ w, S w → (execOp a.eval o).run Tryz.prog w = .ok (.value v) w := fun w _ => by unfold execOp; simp only [ho, hx, Sem.run_pure]
theorem y_bin {op : BinOp} {t : TypeId} {x y : Operand} {u v r : Value} (ho : o.op = .binOp op t x y t) (hx : a.eval x = u) (hy : a.eval y = v)
    (hg : ∀ w, (eqGuard op t x y u v).run Tryz.prog w = .ok () w) (hr : ∀ w, (binOp op t u v).run Tryz.prog w = .ok r w) : ∀ w, S w → (execOp a.eval o).run Tryz.prog w = .ok (.value r) w := fun w _ => by
  unfold execOp; simp only [ho, hx, hy, Sem.run_bind, hg, hr, Sem.run_pure, Result.andThen_ok]
theorem y_load {t : TypeId} {x : Operand} {ad : Addr} {v : Value} (ho : o.op = .load t x) (hx : a.eval x = .pointer (some ad)) (hl : ∀ w, S w → (Instr.loadAt t (.pointer (some ad))).run Tryz.prog w = .ok v w) : ∀ w, S w → (execOp a.eval o).run Tryz.prog w = .ok (.value v) w := fun w hS => by
  unfold execOp; simp only [ho, hx, Sem.run_bind, hl w hS, Sem.run_pure, Result.andThen_ok]
theorem y_field {t : TypeId} {k : Nat} {x : Operand} {ad ad' : Addr} (ho : o.op = .fieldAddr t x k) (hx : a.eval x = .pointer (some ad)) (hl : ∀ w, (Instr.fieldAt t (.pointer (some ad)) k).run Tryz.prog w = .ok (.pointer (some ad')) w) : ∀ w, S w → (execOp a.eval o).run Tryz.prog w = .ok (.value (.pointer (some ad'))) w := fun w _ => by
  unfold execOp; simp only [ho, hx, Sem.run_bind, hl w, Sem.run_pure, Result.andThen_ok]
theorem y_index {t : TypeId} {x y : Operand} {u v r : Value} (ho : o.op = .indexAddr t x y) (hx : a.eval x = u) (hy : a.eval y = v) (hl : ∀ w, (Instr.indexAt t u v).run Tryz.prog w = .ok r w) : ∀ w, S w → (execOp a.eval o).run Tryz.prog w = .ok (.value r) w := fun w _ => by
  unfold execOp; simp only [ho, hx, hy, Sem.run_bind, hl w, Sem.run_pure, Result.andThen_ok]
end
theorem y_nil {S : World → Prop} {a : Act} {o : Oper} {x : Operand} {ad : Addr} (ho : o.op = .nilCheck x) (hx : a.eval x = .pointer (some ad)) : ∀ w, S w → (execOp a.eval o).run Tryz.prog w = .ok (.value (.pointer (some ad))) w := fun w _ => by
  unfold execOp; simp only [ho, hx]; rfl
theorem run_field70_2 (b : Nat) (w : World) : (Instr.fieldAt 70 (.pointer (some ⟨b, 0, none⟩)) 2).run Tryz.prog w = .ok (.pointer (some ⟨b, 2, none⟩)) w := by kernel_rfl
theorem run_load23 {w : World} {b off n c : Nat} {A : Option Addr} (h : w.cell? ⟨b, off, none⟩ = some (.slice A n c)) : (Instr.loadAt 23 (.pointer (some ⟨b, off, none⟩))).run Tryz.prog w = .ok (.slice A n c) w := by
  simp [go_sem, h]
theorem run_load39 {w : World} {b : Nat} {a1 a2 a3 : Int} {s : ByteArray} {n c : Nat} {A : Option Addr} (h : Bx w b 39 [.int .i64 a1, .int .i64 a2, .int .i64 a3, .string s, .slice A n c]) : (Instr.loadAt 39 (.pointer (some ⟨b, 0, none⟩))).run Tryz.prog w = .ok (.agg #[.int .i64 a1, .int .i64 a2, .int .i64 a3, .string s, .slice A n c]) w := by
  have h0 := h.cell 0
  have h1 := h.cell 1
  have h2 := h.cell 2
  have h3 := h.cell 3
  have h4 := h.cell 4
  simp only [List.getElem?_cons_zero, List.getElem?_cons_succ] at h0 h1 h2 h3 h4
  simp [go_sem, h0, h1, h2, h3, h4]
theorem build23 {Q : Exit → Act → World → Prop} {a : Act} {w : World} {o : Oper} {K : Act → World → Prop} {x : Operand} {v0 v1 v2 v3 v4 : Value} (ho : o.op = .buildSlice 23 1 #[(0, x)]) (hx : a.eval x = .agg #[v0, v1, v2, v3, v4])
    (h : K (a.put o.dst (.slice (some ⟨w.heap.size, 0, none⟩) 1 1)) (w.alloc (.cells #[v0, v1, v2, v3, v4] 39))) : o.wp Tryz.prog a w K Q := by
  unfold Oper.wp execOp
  simp only [ho, List.map_toArray, List.map_cons, List.map_nil, hx]
  simp [go_sem]
  exact h
theorem blk_cells (w : World) (l : List Value) (t : TypeId) : ∀ j u, l[j]? = some u → (w.alloc (.cells l.toArray t)).cell? ((⟨w.heap.size, 0, none⟩ : Addr).add j) = some u := fun j u hj => by
  have hB := Bx.new w t l
  rw [show (⟨w.heap.size, 0, none⟩ : Addr).add j = ⟨w.heap.size, j, none⟩ by simp [Addr.add]; omega, hB.cell j, hj]
theorem one5 (a b c : Int) (s : ByteArray) (K : Option Addr) (n d : Nat) : ∀ u ∈ [Value.int .i64 a, .int .i64 b, .int .i64 c, .string s, .slice K n d], u.oneCell' = true := fun u hu => by
  simp at hu; rcases hu with rfl | rfl | rfl | rfl | rfl <;> rfl
theorem own_below {w w' : World} {base e size n : Nat} {v : Value} {xs : List Value} (h : w.ownsRow base e size v n xs) (hb : Below w.heap.size w w') : w'.ownsRow base e size v n xs := by
  refine ⟨h.1, h.2.imp id ?_⟩
  rintro ⟨g, cap, cur, h1, h2, h3, h4⟩
  exact ⟨g, cap, cur, h1, h2, (hb.block g (Array.getElem?_eq_some_iff.1 h3).1).trans h3, h4⟩
/-- kids of a node: a block of ints, none of some blocks -/
def Kd (w : World) (X : Nat → Prop) (K : Option Addr) (ks : List Int) : Prop := 0 < ks.length → ∃ b cs, K = some ⟨b, 0, none⟩ ∧ w.heap[b]? = some (.cells cs 3 (0, 0)) ∧ (∀ j (hj : j < ks.length), cs[j]? = some (.int .i64 ks[j])) ∧ ¬ X b
/-- the nodes so far: a row of five cells each, that the parser owns -/
def Nodes (w : World) (X : Nat → Prop) (base : Nat) (V : Value) (nd : List Nd) : Prop := ∃ xs, w.ownsRow base 39 5 V nd.length xs ∧ ∀ j (hj : j < nd.length), ∃ K c, (xs.drop (j * 5)).take 5 = [.int .i64 nd[j].kd, .int .i64 nd[j].n, .int .i64 nd[j].pl, .string (bs nd[j].tx), .slice K nd[j].ks.length c] ∧ Kd w X K nd[j].ks
theorem own_slice {base n size : Nat} {e : TypeId} {v : Value} {ls : List Value} {w : World} (h : w.ownsRow base e size v n ls) : ∃ A c, v = .slice A n c := by
  rcases h.2 with ⟨e1, e2⟩ | ⟨g, cap, cur, e1, _⟩
  · exact ⟨none, 0, by rw [e1, e2]⟩
  · exact ⟨_, _, e1⟩
theorem Kd.fr {E X : Nat → Prop} {w w' : World} {K : Option Addr} {ks : List Int} (h : Kd w X K ks) (k : Fr E w w') (hE : ∀ b cs, w.heap[b]? = some (.cells cs 3 (0, 0)) → ¬ E b)   : Kd w' X K ks := fun h0 => by
  obtain ⟨b, cs, e, hb, hc⟩ := h h0
  exact ⟨b, cs, e, (k.block b (Array.getElem?_eq_some_iff.1 hb).1 (hE b cs hb)).trans hb, hc⟩
end Go.Proofs.YtdoeinjplgeadaaGreatDoor
