/- PROVED here: steps of a region that is carried out in an order left open and makes memory: a slice is built, a slice is appended. No condition but those in each theorem's own head. -/
import Derived.Test.YtabdhmfjbielaaaDoorRd
import Derived.Maps.AppendAt
namespace Go.Proofs.YtabdhmfjbielaaaDoor
open Go Go.RowKit

theorem block_add (a : Addr) (n : Nat) : (a.add n).block = a.block := by unfold Addr.add; split <;> rfl
/-- what is read of a part of a slice -/
theorem Ints.take {w : World} {A : Option Addr} {l : List Int} (h : Ints w A l) (k : Nat) : Ints w A (l.take k) := fun h0 => by
  have hl : 0 < l.length := by simp at h0; omega
  obtain ⟨b, off, e, hb, hc⟩ := h hl
  refine ⟨b, off, e, hb, fun j hj => ?_⟩
  have hj' : j < l.length ∧ j < k := by simp at hj; omega
  rw [hc j hj'.1]; simp [List.getD, hj'.2]
theorem Ints.drop {w : World} {A : Option Addr} {l : List Int} {c : Nat} (h : Ints w A l) (hc : l.length ≤ c) (k : Nat) : Ints w (if c = k then A else A.map (·.add k)) (l.drop k) := fun h0 => by
  have hl : k < l.length := by simp at h0; omega
  obtain ⟨b, off, rfl, hb, hc2⟩ := h (by omega)
  rw [if_neg (by omega)]
  refine ⟨b, off + k, ?_, hb, fun j hj => ?_⟩
  · show some (Addr.add ⟨b, off, none⟩ k) = _
    unfold Addr.add
    split
    · rename_i e; subst e; rfl
    · rfl
  have hj' : k + j < l.length := by simp at hj; omega
  have := hc2 (k + j) hj'
  rw [show off + k + j = off + (k + j) by omega, this]
  simp [List.getD]
/-- append onto a slice that the call owns, whatever slice is appended -/
theorem run_app (w : World) (base : Nat) (ty : TypeId) (v : Value) (l m : List Int) (A : Option Addr) (c : Nat) (hown : w.ownsRow base 3 1 v l.length (l.map (Value.int .i64))) (hI : Ints w A m)
    (hl : l.length + m.length ≤ 9000) (hbase : base ≤ w.heap.size) :
    ∃ v' w', (Builtin.append_ #[22, 22] ty #[v, .slice A m.length c]).run Tryd.prog w = .ok v' w' ∧ w'.ownsRow base 3 1 v' (l ++ m).length ((l ++ m).map (Value.int .i64)) ∧ w.grownBy w' v.ownBlock ∧ (v'.ownBlock = v.ownBlock ∨ v'.ownBlock = some w.heap.size) := by
  obtain ⟨i0, hi, hz0, hz1, hz2⟩ := info_parts info3
  rcases A with _ | ad
  · have hm : m = [] := by
      rcases Nat.eq_zero_or_pos m.length with h0 | h0
      · exact List.eq_nil_of_length_eq_zero h0
      · obtain ⟨_, _, e, _⟩ := hI h0; cases e
    subst hm
    have hown' := hown
    refine ⟨v, w, ?_, by simpa using hown', ⟨rfl, rfl, rfl, Nat.le_refl _, fun _ _ _ => rfl⟩, .inl rfl⟩
    rcases hown.2 with ⟨rfl, e0⟩ | ⟨g, cap, cur, rfl, _, _, hnc, _⟩
    · simp [Builtin.append_, run_underlying Tryd.underlying22, sizeOf, typeInfo, hi, Builtin.lenOf, Builtin.firstCells]
    · simp [Builtin.append_, run_underlying Tryd.underlying22, sizeOf, typeInfo, hi, Builtin.lenOf, Builtin.firstCells, hnc, storeCells]
  · have h := run_append_own_at (P := Tryd.prog) w base 22 ty 3 i0 (.int .i64 0) 1 8 Tryd.underlying22 hi hz0 hz1 hz2 rfl (by decide) v l.length _ hown ad m.length c (m.map (Value.int .i64)) (by simp)
      (fun j u hu => by
        have hj : j < m.length := by
          rcases Nat.lt_or_ge j m.length with h | h
          · exact h
          · rw [List.getElem?_eq_none (by simpa using h)] at hu; cases hu
        obtain ⟨b, off, e, _, hc⟩ := hI (by omega)
        injection e with e
        subst e
        have := hc j hj
        have e2 : Addr.add ⟨b, off, none⟩ j = ⟨b, off + j, none⟩ := by
          unfold Addr.add; split
          · rename_i e; subst e; rfl
          · rfl
        rw [e2, this]
        rw [← hu]; simp [hj])
      (fun u hu => by simp at hu; obtain ⟨x, _, rfl⟩ := hu; rfl) (by unfold maxLen; omega) (by omega) hbase
    obtain ⟨v', w', h1, h2, h3, _, h5⟩ := h
    exact ⟨v', w', h1, by simpa using h2, h3, h5⟩
section
variable {ops : Array Oper} {Q : Exit → Act → World → Prop} {a : Act} {w : World} {o : Oper} {K : Act → World → Prop}
theorem o_run {i : Nat} {v : Value} {w' : World} (hi : ops[i]? = some o) (hg : o.guard = none) (hr : (execOp a.eval o).run Tryd.prog w = .ok (.value v) w') (h : K (a.put o.dst v) w') : wpOp Tryd.prog ops Q i K a w := by
  unfold wpOp
  have hw : Region.wanted o (yielded ops a.tmps) = true := by simp [Region.wanted, hg]
  simp only [hi, hw, if_true, Oper.wp, hr, Oper.upon]
  exact .inl h
theorem run_build0 (w : World) : (Instr.buildSlice 22 0 #[]).run Tryd.prog w = .ok (.slice (some ⟨w.heap.size, 0, none⟩) 0 0) (w.alloc (.cells #[] 3)) := by
  simp [go_sem]
theorem o_build0 {i : Nat} (hi : ops[i]? = some o) (hg : o.guard = none) (ho : o.op = .buildSlice 22 0 #[]) (h : K (a.put o.dst (.slice (some ⟨w.heap.size, 0, none⟩) 0 0)) (w.alloc (.cells #[] 3))) : wpOp Tryd.prog ops Q i K a w :=
  o_run hi hg (by unfold execOp; simp only [ho, List.map_toArray, List.map_nil, Sem.run_bind, run_build0, Sem.run_pure, Result.andThen_ok]) h
theorem o_build1 {i : Nat} {x : Operand} {n : Int} (hi : ops[i]? = some o) (hg : o.guard = none) (ho : o.op = .buildSlice 22 1 #[(0, x)]) (hx : a.eval x = .int .i64 n) (h : K (a.put o.dst (.slice (some ⟨w.heap.size, 0, none⟩) 1 1)) (w.alloc (rowI [n]))) : wpOp Tryd.prog ops Q i K a w :=
  o_run hi hg (by unfold execOp; simp only [ho, List.map_toArray, List.map_cons, List.map_nil, hx, Sem.run_bind, run_build1, Sem.run_pure, Result.andThen_ok]) h
theorem o_app {i : Nat} {s x : Operand} {v : Value} {l m : List Int} {A : Option Addr} {c base : Nat} (hi : ops[i]? = some o) (hg : o.guard = none) (ho : o.op = .call { callee := .builtin .append, args := #[s, x], argTypes := #[22, 22] }) (hs : a.eval s = v) (hx : a.eval x = .slice A m.length c)
    (hown : w.ownsRow base 3 1 v l.length (l.map (Value.int .i64))) (hI : Ints w A m) (hl : l.length + m.length ≤ 9000) (hbase : base ≤ w.heap.size)
    (h : ∀ v' w', w'.ownsRow base 3 1 v' (l ++ m).length ((l ++ m).map (Value.int .i64)) → w.grownBy w' v.ownBlock → (v'.ownBlock = v.ownBlock ∨ v'.ownBlock = some w.heap.size) → K (a.put o.dst v') w') : wpOp Tryd.prog ops Q i K a w := by
  obtain ⟨v', w', h1, h2, h3, h4⟩ := run_app w base o.type v l m A c hown hI hl hbase
  refine o_run (v := v') (w' := w') hi hg ?_ (h v' w' h2 h3 h4)
  unfold execOp
  simp only [ho, resolve, invoke, builtin, List.map_toArray, List.map_cons, List.map_nil, hs, hx, Sem.run_bind, Sem.run_pure, Result.andThen_ok, h1]
end
end Go.Proofs.YtabdhmfjbielaaaDoor
