/- PROVED here: steps of a region that draws its order; a pair of strings appended to a slice of the call's own; two lattices in one world. No condition but those in each theorem's own head. -/
import Derived.Test.YtefnbjkmmmdagaaS
import Derived.Test.YtefnbjkmmmdagaaX
namespace Go.Proofs.Ytefnbjkmmmdagaa
open Go Go.RowKit

theorem info45 : (Try.prog.info? 45).map (fun i => (i.zero, i.size, i.bytes)) = some (some (.agg #[.string ⟨#[]⟩, .string ⟨#[]⟩]), 2, 32) := by kernel_rfl
theorem flat_len : ∀ ps : List (ByteArray × ByteArray), (flat ps).length = ps.length * 2
  | [] => rfl
  | p :: ps => by
    have e : flat (p :: ps) = .string p.1 :: .string p.2 :: flat ps := rfl
    rw [e, List.length_cons, List.length_cons, flat_len ps, List.length_cons]; omega
theorem flat_app (ps qs : List (ByteArray × ByteArray)) : flat (ps ++ qs) = flat ps ++ flat qs := by unfold flat; rw [List.flatMap_append]
/-- a slice of pairs that the call owns -/
def OwP (w : World) (base : Nat) (v : Value) (ps : List (ByteArray × ByteArray)) : Prop := w.ownsRow base 45 2 v ps.length (flat ps)
theorem OwP.nil (w : World) (base : Nat) : OwP w base (.slice none 0 0) [] := World.ownsRow_nil _ _ _ _
theorem OwP.prs {w : World} {base : Nat} {v : Value} {l : List (ByteArray × ByteArray)} (h : OwP w base v l) : ∃ A c, v = .slice A l.length c ∧ Prs w A l := by
  rcases h.2 with ⟨rfl, e⟩ | ⟨g, cap, cur, rfl, hb, hg, hn, _, _, ht⟩
  · exact ⟨none, 0, by rw [e], fun h0 => by omega⟩
  · refine ⟨_, cap, rfl, fun h0 => ⟨g, 0, rfl, (Array.getElem?_eq_some_iff.1 hg).1, fun j hj => ?_⟩⟩
    obtain ⟨h1, h2⟩ := flat_get l j hj
    rw [← ht, List.getElem?_take, if_pos (by omega)] at h1
    rw [← ht, List.getElem?_take, if_pos (by omega)] at h2
    rw [Nat.zero_add, cell_of_row w g (j * 2) cur 45 (0, 0) hg, cell_of_row w g (j * 2 + 1) cur 45 (0, 0) hg]
    exact ⟨by simpa using h1, by simpa using h2⟩
theorem OwP.keep {w w' : World} {base : Nat} {v : Value} {l : List (ByteArray × ByteArray)} {row : Option Nat} (h : OwP w base v l) (hg : w.grownBy w' row) (hne : ∀ q, v.ownBlock = some q → row ≠ some q) : OwP w' base v l := by
  refine ⟨h.1, ?_⟩
  rcases h.2 with h2 | ⟨g, cap, cur, rfl, hb, hh, hrest⟩
  · exact .inl h2
  · exact .inr ⟨g, cap, cur, rfl, hb, (hg.block g (Array.getElem?_eq_some_iff.1 hh).1 (fun e => hne g rfl e.symm)).trans hh, hrest⟩
/-- append of one pair that lies in a new block -/
theorem run_appP (w : World) (base : Nat) (ty : TypeId) (v : Value) (l : List (ByteArray × ByteArray)) (s t : ByteArray) (ad : Addr) (c : Nat) (hown : OwP w base v l) (h0 : w.cell? (ad.add 0) = some (.string s)) (h1 : w.cell? (ad.add 1) = some (.string t))
    (hl : l.length ≤ 9000) (hbase : base ≤ w.heap.size) :
    ∃ v' w', (Builtin.append_ #[23, 23] ty #[v, .slice (some ad) 1 c]).run Try.prog w = .ok v' w' ∧ OwP w' base v' (l ++ [(s, t)]) ∧ w.grownBy w' v.ownBlock ∧ (v'.ownBlock = v.ownBlock ∨ v'.ownBlock = some w.heap.size) := by
  obtain ⟨i0, hi, hz0, hz1, hz2⟩ := info_parts info45
  have h := run_append_own_at (P := Try.prog) w base 23 ty 45 i0 (.agg #[.string ⟨#[]⟩, .string ⟨#[]⟩]) 2 32 Try.underlying23 hi hz0 hz1 hz2 rfl (by decide) v l.length _ hown ad 1 c [.string s, .string t] rfl
    (fun j u hu => by
      match j, hu with
      | 0, hu => simp at hu; subst hu; exact h0
      | 1, hu => simp at hu; subst hu; exact h1)
    (fun u hu => by simp at hu; rcases hu with rfl | rfl <;> rfl) (by unfold maxLen; omega) (by omega) hbase
  obtain ⟨v', w', e1, e2, e3, _, e5⟩ := h
  refine ⟨v', w', e1, ?_, e3, e5⟩
  unfold OwP
  rw [flat_app, List.length_append]; exact e2
section
variable {ops : Array Oper} {Q : Exit → Act → World → Prop} {S : World → Prop} {fuel : Nat} {listed : Array Bool} {a : Act} {w : World} {o : Oper} {K : Act → World → Prop}
theorem h_pure (i : Nat) (o : Oper) (v : Value) (hs : Region.noSelect ops = true) (hi : ops[i]? = some o) (hf : Region.free .any ops listed i = true) (hr : (Region.ready .any ops listed).contains i = true)
    (hQ : ∀ c a w, Q (.panic c) (a.put o.dst v) w → Q (.panic c) a w) (hw : Region.wanted o (yielded ops a.tmps) = true) (hy : ∀ w, S w → (execOp a.eval o).run Try.prog w = .ok (.value v) w) (hS : S w)
    (h : wpAnyH Try.prog .any ops Q S fuel (listed.setIfInBounds i true) (a.put o.dst v) w) : wpAnyH Try.prog .any ops Q S (fuel + 1) listed a w :=
  wpAnyH_take hi hs hf hr hQ (.inl ⟨hw, hy⟩) hS h
theorem o_run {i : Nat} {v : Value} {w' : World} (hi : ops[i]? = some o) (hg : o.guard = none) (hr : (execOp a.eval o).run Try.prog w = .ok (.value v) w') (h : K (a.put o.dst v) w') : wpOp Try.prog ops Q i K a w := by
  unfold wpOp
  have hw : Region.wanted o (yielded ops a.tmps) = true := by simp [Region.wanted, hg]
  simp only [hi, hw, if_true, Oper.wp, hr, Oper.upon]
  exact .inl h
theorem run_buildP (s t : ByteArray) (w : World) : (Instr.buildSlice 23 1 #[(0, .agg #[.string s, .string t])]).run Try.prog w = .ok (.slice (some ⟨w.heap.size, 0, none⟩) 1 1) (w.alloc (.cells #[.string s, .string t] 45)) := by
  simp [go_sem]
theorem o_buildP {i : Nat} {x : Operand} {s t : ByteArray} (hi : ops[i]? = some o) (hg : o.guard = none) (ho : o.op = .buildSlice 23 1 #[(0, x)]) (hx : a.eval x = .agg #[.string s, .string t]) (h : K (a.put o.dst (.slice (some ⟨w.heap.size, 0, none⟩) 1 1)) (w.alloc (.cells #[.string s, .string t] 45))) : wpOp Try.prog ops Q i K a w :=
  o_run hi hg (by unfold execOp; simp only [ho, List.map_toArray, List.map_cons, List.map_nil, hx, Sem.run_bind, run_buildP, Sem.run_pure, Result.andThen_ok]) h
theorem o_appP {i : Nat} {sl x : Operand} {v : Value} {l : List (ByteArray × ByteArray)} {s t : ByteArray} {ad : Addr} {c base : Nat} (hi : ops[i]? = some o) (hg : o.guard = none) (ho : o.op = .call { callee := .builtin .append, args := #[sl, x], argTypes := #[23, 23] }) (hs : a.eval sl = v) (hx : a.eval x = .slice (some ad) 1 c)
    (hown : OwP w base v l) (h0 : w.cell? (ad.add 0) = some (.string s)) (h1 : w.cell? (ad.add 1) = some (.string t)) (hl : l.length ≤ 9000) (hbase : base ≤ w.heap.size)
    (h : ∀ v' w', OwP w' base v' (l ++ [(s, t)]) → w.grownBy w' v.ownBlock → (v'.ownBlock = v.ownBlock ∨ v'.ownBlock = some w.heap.size) → K (a.put o.dst v') w') : wpOp Try.prog ops Q i K a w := by
  obtain ⟨v', w', e1, e2, e3, e4⟩ := run_appP w base o.type v l s t ad c hown h0 h1 hl hbase
  refine o_run (v := v') (w' := w') hi hg ?_ (h v' w' e2 e3 e4)
  unfold execOp
  simp only [ho, resolve, invoke, builtin, List.map_toArray, List.map_cons, List.map_nil, hs, hx, Sem.run_bind, Sem.run_pure, Result.andThen_ok, e1]
theorem y_move {x : Operand} {v : Value} (ho : o.op = .move x) (hx : a.eval x = v) : ∀ w, S w → (execOp a.eval o).run Try.prog w = .ok (.value v) w := fun w _ => by unfold execOp; simp only [ho, hx, Sem.run_pure]
theorem y_assign {x : Operand} {v : Value} (ho : o.op = .assign x) (hx : a.eval x = v) : ∀ w, S w → (execOp a.eval o).run Try.prog w = .ok (.value v) w := fun w _ => by unfold execOp; simp only [ho, hx, Sem.run_pure]
theorem y_bin {op : BinOp} {t : TypeId} {x y : Operand} {u v r : Value} (ho : o.op = .binOp op t x y t) (hx : a.eval x = u) (hy : a.eval y = v)
    (hg : ∀ w, (eqGuard op t x y u v).run Try.prog w = .ok () w) (hr : ∀ w, (binOp op t u v).run Try.prog w = .ok r w) : ∀ w, S w → (execOp a.eval o).run Try.prog w = .ok (.value r) w := fun w _ => by
  unfold execOp; simp only [ho, hx, hy, Sem.run_bind, hg, hr, Sem.run_pure, Result.andThen_ok]
theorem y_sub {x y : Operand} {u v r : Int} (ho : o.op = .binOp .sub 3 x y 3) (hx : a.eval x = .int .i64 u) (hy : a.eval y = .int .i64 v) (hr : IntKind.i64.wrap (u - v) = r) : ∀ w, S w → (execOp a.eval o).run Try.prog w = .ok (.value (.int .i64 r)) w :=
  y_bin ho hx hy (fun w => by simp [go_sem]) (fun w => by subst hr; simp [go_sem])
theorem y_add {x y : Operand} {u v r : Int} (ho : o.op = .binOp .add 3 x y 3) (hx : a.eval x = .int .i64 u) (hy : a.eval y = .int .i64 v) (hr : IntKind.i64.wrap (u + v) = r) : ∀ w, S w → (execOp a.eval o).run Try.prog w = .ok (.value (.int .i64 r)) w :=
  y_bin ho hx hy (fun w => by simp [go_sem]) (fun w => by subst hr; simp [go_sem])
theorem run_index22 (b off n c k : Nat) (hk : k < n) (w : World) : (Instr.indexAt 22 (.slice (some ⟨b, off, none⟩) n c) (.int .i64 (k : Int))).run Try.prog w = .ok (.pointer (some ⟨b, off + k, none⟩)) w := by
  have h22 : Try.prog.underlying 22 = some (.slice (Try.prog.elem 22)) := by kernel_rfl
  have hz : (Try.prog.info? 9).map (·.size) = some 1 := by kernel_rfl
  have hlt : (k : Int) < (n : Int) := by omega
  rw [run_indexAt_slice w 22 _ n c .i64 _ h22]
  cases hq : Try.prog.info? 9 with
  | none => rw [hq] at hz; cases hz
  | some i =>
    rw [hq] at hz
    have hz' : i.size = 1 := by simpa using hz
    simp [go_sem, sizeOf, typeInfo, hq, hz', hlt]
theorem y_index {x y : Operand} {b off n c k : Nat} (ho : o.op = .indexAddr 22 x y) (hx : a.eval x = .slice (some ⟨b, off, none⟩) n c) (hy : a.eval y = .int .i64 (k : Int)) (hk : k < n) : ∀ w, S w → (execOp a.eval o).run Try.prog w = .ok (.value (.pointer (some ⟨b, off + k, none⟩))) w := fun w _ => by
  unfold execOp
  simp only [ho, hx, hy, Sem.run_bind, run_index22 b off n c k hk, Sem.run_pure, Result.andThen_ok]
theorem y_load9 {x : Operand} {b off : Nat} {s : ByteArray} (ho : o.op = .load 9 x) (hx : a.eval x = .pointer (some ⟨b, off, none⟩)) (hg : ∀ w, S w → w.cell? ⟨b, off, none⟩ = some (.string s)) : ∀ w, S w → (execOp a.eval o).run Try.prog w = .ok (.value (.string s)) w := fun w hS => by
  have h := hg w hS
  unfold execOp
  simp only [ho, hx]
  simp [go_sem, h]
theorem y_build45 {x y : Operand} {s t : ByteArray} (ho : o.op = .build 45 #[(0, x), (1, y)]) (hx : a.eval x = .string s) (hy : a.eval y = .string t) : ∀ w, S w → (execOp a.eval o).run Try.prog w = .ok (.value (.agg #[.string s, .string t])) w := fun w _ => by
  unfold execOp
  simp only [ho, hx, hy, List.map_toArray, List.map_cons, List.map_nil]
  simp [go_sem]
end
theorem latt_slices {w : World} {g : Nat} {l : List ByteArray} {u d : Nat → Nat} (h : Lat w g l u d) : ∃ A c gu gd dn f, LB w g (.slice A l.length c) (.slice (some ⟨gu, 0, none⟩) l.length l.length) (.slice (some ⟨gd, 0, none⟩) l.length l.length) dn 0 f := by
  obtain ⟨dn, f, ⟨A, c, gu, gd, h1, _⟩, _⟩ := h
  exact ⟨A, c, gu, gd, dn, f, h1⟩
/-- one lattice is kept while the other one's block turns -/
theorem lat_keep {w w' : World} {g g' : Nat} {l l' : List ByteArray} {u d u' d' : Nat → Nat} (h : Lat w g l u d) (h' : Lat w g' l' u' d') (hne : g ≠ g') (hg : w.grownBy w' (some g)) : Lat w' g' l' u' d' := by
  obtain ⟨A, c, gu, gd, dn, f, hB⟩ := latt_slices h
  obtain ⟨dn', f', ⟨A', c', gu', gd', h1, h2, h3, h4⟩, h5⟩ := h'
  have n3 := lb_ne hB h3
  have n4 := lb_ne hB h4
  exact ⟨dn', f', ⟨A', c', gu', gd', (hg.block g' (Array.getElem?_eq_some_iff.1 h1).1 (fun e => by injection e with e; exact hne e.symm)).trans h1, strs_grown h2 hB hg, h3.grown hg (fun e => by injection e with e; exact n3 e.symm), h4.grown hg (fun e => by injection e with e; exact n4 e.symm)⟩, h5⟩
end Go.Proofs.Ytefnbjkmmmdagaa
