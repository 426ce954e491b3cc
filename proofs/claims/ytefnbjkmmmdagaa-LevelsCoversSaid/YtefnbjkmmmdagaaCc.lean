/- PROVED here: steps of a region that draws its order: a call, an operation that is not wanted, loads and indexes at pairs. No condition but those in each theorem's own head. -/
import Derived.Test.YtefnbjkmmmdagaaCa
namespace Go.Proofs.Ytefnbjkmmmdagaa
open Go Go.RowKit
section
variable {ops : Array Oper} {Q : Exit → Act → World → Prop} {S : World → Prop} {fuel : Nat} {listed : Array Bool} {a : Act} {w : World} {o : Oper}
theorem h_one (i : Nat) (o : Oper) (hi : ops[i]? = some o) (hr : Region.ready .any ops listed = [i]) (hw : Region.wanted o (yielded ops a.tmps) = true)
    (h : o.wp Try.prog a w (fun a' w' => S w' ∧ wpAnyH Try.prog .any ops Q S fuel (listed.setIfInBounds i true) a' w') Q) : wpAnyH Try.prog .any ops Q S (fuel + 1) listed a w :=
  wpAnyH_all hr (by simp) fun j hj => by
    obtain rfl : j = i := by simpa using hj
    unfold wpOp
    simp only [hi, hw, if_true]
    exact .inl h
theorem h_call (i : Nat) (o : Oper) {F : Nat} {xs : Array Operand} {ts : Array TypeId} {args : Array Value} {v : Value} {C : World → Prop} (hF : Own F) (ho : o.op = .call { callee := .value (.func F), args := xs, argTypes := ts }) (hi : ops[i]? = some o) (hr : Region.ready .any ops listed = [i])
    (hw : Region.wanted o (yielded ops a.tmps) = true) (ha' : (xs.toList.map a.eval).toArray = args) (hc : Calls Try.prog F args w fun e w' => e = .returned v ∧ C w')
    (h : ∀ w', C w' → S w' ∧ wpAnyH Try.prog .any ops Q S fuel (listed.setIfInBounds i true) (a.put o.dst v) w') : wpAnyH Try.prog .any ops Q S (fuel + 1) listed a w :=
  h_one i o hi hr hw (by
    have ha : xs.map a.eval = args := by rw [← ha']; exact Array.ext' (by rw [Array.toList_map])
    unfold Oper.wp execOp
    have e : a.eval (.func F) = .func (.func F) #[] #[] := rfl
    have e2 : (#[] ++ args : Array Value) ++ #[] = args := by simp
    simp only [ho, resolve, e, ha, Deferred.ofValue, invoke, Sem.run_bind, Sem.run_pure, Result.andThen_ok]
    rw [e2, run_own hF]
    exact hc.mono fun e w' ⟨he, hR⟩ => by subst he; exact h w' hR)
theorem h_skip (i : Nat) (o : Oper) (hs : Region.noSelect ops = true) (hi : ops[i]? = some o) (hf : Region.free .any ops listed i = true) (hr : (Region.ready .any ops listed).contains i = true)
    (hQ : ∀ c a w, Q (.panic c) (a.put o.dst undef) w → Q (.panic c) a w) (hw : Region.wanted o (yielded ops a.tmps) = false) (hS : S w)
    (h : wpAnyH Try.prog .any ops Q S fuel (listed.setIfInBounds i true) (a.put o.dst undef) w) : wpAnyH Try.prog .any ops Q S (fuel + 1) listed a w :=
  wpAnyH_take hi hs hf hr hQ (.inr ⟨hw, rfl⟩) hS h
theorem y_not {x : Operand} {b : Bool} (ho : o.op = .unOp .not 4 x) (hx : a.eval x = .bool (!b)) : ∀ w, S w → (execOp a.eval o).run Try.prog w = .ok (.value (.bool b)) w := fun w _ => by
  unfold execOp; simp only [ho, hx]; simp [go_sem]
theorem y_eqlI {x y : Operand} {u v : Int} {b : Bool} (ho : o.op = .binOp .eql 3 x y 3) (hx : a.eval x = .int .i64 u) (hy : a.eval y = .int .i64 v) (hb : (u == v) = b) : ∀ w, S w → (execOp a.eval o).run Try.prog w = .ok (.value (.bool b)) w :=
  y_bin ho hx hy (fun w => by simp [go_sem]) (fun w => by simp [go_sem, hb])
theorem y_pickF {c x y : Operand} {v : Value} (ho : o.op = .pick c x y) (hc : a.eval c = .bool false) (hy : a.eval y = v) : ∀ w, S w → (execOp a.eval o).run Try.prog w = .ok (.value v) w := fun w _ => by
  unfold execOp; simp [ho, hc, hy, asBool]
theorem run_load3 {w : World} {b off : Nat} {n : Int} (h : w.cell? ⟨b, off, none⟩ = some (.int .i64 n)) : (Instr.loadAt 3 (.pointer (some ⟨b, off, none⟩))).run Try.prog w = .ok (.int .i64 n) w := by
  simp [go_sem, h]
theorem y_load3 {x : Operand} {b off : Nat} {n : Int} (ho : o.op = .load 3 x) (hx : a.eval x = .pointer (some ⟨b, off, none⟩)) (h1 : ∀ w, S w → w.cell? ⟨b, off, none⟩ = some (.int .i64 n)) : ∀ w, S w → (execOp a.eval o).run Try.prog w = .ok (.value (.int .i64 n)) w := fun w hS => by
  unfold execOp
  simp only [ho, hx, Sem.run_bind, run_load3 (h1 w hS), Sem.run_pure, Result.andThen_ok]
theorem run_index46_0 (b off : Nat) (w : World) : (Instr.indexAt 46 (.pointer (some ⟨b, off, none⟩)) (.int .i64 0)).run Try.prog w = .ok (.pointer (some ⟨b, off, none⟩)) w := by kernel_rfl
theorem run_index46_1 (b off : Nat) (w : World) : (Instr.indexAt 46 (.pointer (some ⟨b, off, none⟩)) (.int .i64 1)).run Try.prog w = .ok (.pointer (some ⟨b, off + 1, none⟩)) w := by kernel_rfl
theorem run_index45_0 (b off : Nat) (w : World) : (Instr.indexAt 45 (.pointer (some ⟨b, off, none⟩)) (.int .i64 0)).run Try.prog w = .ok (.pointer (some ⟨b, off, none⟩)) w := by kernel_rfl
theorem run_index45_1 (b off : Nat) (w : World) : (Instr.indexAt 45 (.pointer (some ⟨b, off, none⟩)) (.int .i64 1)).run Try.prog w = .ok (.pointer (some ⟨b, off + 1, none⟩)) w := by kernel_rfl
theorem run_index23 (b off n c k : Nat) (hk : k < n) (w : World) : (Instr.indexAt 23 (.slice (some ⟨b, off, none⟩) n c) (.int .i64 (k : Int))).run Try.prog w = .ok (.pointer (some ⟨b, off + k * 2, none⟩)) w := by
  have h23 : Try.prog.underlying 23 = some (.slice (Try.prog.elem 23)) := by kernel_rfl
  have hz : (Try.prog.info? 45).map (·.size) = some 2 := by kernel_rfl
  have hlt : (k : Int) < (n : Int) := by omega
  rw [run_indexAt_slice w 23 _ n c .i64 _ h23]
  cases hq : Try.prog.info? 45 with
  | none => rw [hq] at hz; cases hz
  | some i =>
    rw [hq] at hz
    have hz' : i.size = 2 := by simpa using hz
    simp [go_sem, sizeOf, typeInfo, hq, hz', hlt]
theorem y_index23 {x y : Operand} {b off n c k : Nat} (ho : o.op = .indexAddr 23 x y) (hx : a.eval x = .slice (some ⟨b, off, none⟩) n c) (hy : a.eval y = .int .i64 (k : Int)) (hk : k < n) : ∀ w, S w → (execOp a.eval o).run Try.prog w = .ok (.value (.pointer (some ⟨b, off + k * 2, none⟩))) w := fun w _ => by
  unfold execOp
  simp only [ho, hx, hy, Sem.run_bind, run_index23 b off n c k hk, Sem.run_pure, Result.andThen_ok]
/-- an index at a constant place -/
theorem y_at {t : TypeId} {x y : Operand} {p : Value} {k : Int} {r : Value} (ho : o.op = .indexAddr t x y) (hx : a.eval x = p) (hy : a.eval y = .int .i64 k) (hr : ∀ w, (Instr.indexAt t p (.int .i64 k)).run Try.prog w = .ok r w) : ∀ w, S w → (execOp a.eval o).run Try.prog w = .ok (.value r) w := fun w _ => by
  unfold execOp
  simp only [ho, hx, hy, Sem.run_bind, hr, Sem.run_pure, Result.andThen_ok]
theorem own23 : Own 23 := ⟨_, Try.func23, by kernel_rfl, by kernel_rfl⟩
end
end Go.Proofs.Ytefnbjkmmmdagaa
