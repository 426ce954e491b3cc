/- PROVED here: steps of a region that is carried out in an order left open, where what only reads is taken first. No condition but those in each theorem's own head. -/
import Derived.Test.YtabdhmfjbielaaaDoorV
import Derived.OrdersHeld
namespace Go.Proofs.YtabdhmfjbielaaaDoor
open Go Go.RowKit

section
variable {ops : Array Oper} {Q : Exit → Act → World → Prop} {S : World → Prop} {fuel : Nat} {listed : Array Bool} {a : Act} {w : World} {o : Oper}
theorem h_region {id : Nat} {l : List Oper} (h : Cl w { w with drawn := w.drawn + 1 } → wpAnyH Tryd.prog .any l.toArray Q (Cl w) l.toArray.size (Array.replicate l.toArray.size false) a { w with drawn := w.drawn + 1 }) :
    (Code.region id l.toArray true).wp Tryd.prog Q a w := wp_region_held (by kernel_rfl) (h ⟨rfl, rfl, rfl, Nat.le_refl _, fun _ _ => rfl⟩)
theorem h_pure (i : Nat) (o : Oper) (v : Value) (hs : Region.noSelect ops = true) (hi : ops[i]? = some o) (hf : Region.free .any ops listed i = true) (hr : (Region.ready .any ops listed).contains i = true)
    (hQ : ∀ c a w, Q (.panic c) (a.put o.dst v) w → Q (.panic c) a w) (hw : Region.wanted o (yielded ops a.tmps) = true) (hy : ∀ w, S w → (execOp a.eval o).run Tryd.prog w = .ok (.value v) w) (hS : S w)
    (h : wpAnyH Tryd.prog .any ops Q S fuel (listed.setIfInBounds i true) (a.put o.dst v) w) : wpAnyH Tryd.prog .any ops Q S (fuel + 1) listed a w :=
  wpAnyH_take hi hs hf hr hQ (.inl ⟨hw, hy⟩) hS h
theorem h_one (i : Nat) (o : Oper) (hi : ops[i]? = some o) (hr : Region.ready .any ops listed = [i]) (hw : Region.wanted o (yielded ops a.tmps) = true)
    (h : o.wp Tryd.prog a w (fun a' w' => S w' ∧ wpAnyH Tryd.prog .any ops Q S fuel (listed.setIfInBounds i true) a' w') Q) : wpAnyH Tryd.prog .any ops Q S (fuel + 1) listed a w :=
  wpAnyH_all hr (by simp) fun j hj => by
    obtain rfl : j = i := by simpa using hj
    unfold wpOp
    simp only [hi, hw, if_true]
    exact .inl h
theorem h_call (i : Nat) (o : Oper) {F : Nat} {xs : Array Operand} {ts : Array TypeId} {args : Array Value} (R : Value → World → Prop) (hF : Own F) (ho : o.op = .call { callee := .value (.func F), args := xs, argTypes := ts }) (hi : ops[i]? = some o) (hr : Region.ready .any ops listed = [i])
    (hw : Region.wanted o (yielded ops a.tmps) = true) (ha' : (xs.toList.map a.eval).toArray = args) (hc : Calls Tryd.prog F args w fun e w' => ∃ v, e = .returned v ∧ R v w')
    (h : ∀ v w', R v w' → S w' ∧ wpAnyH Tryd.prog .any ops Q S fuel (listed.setIfInBounds i true) (a.put o.dst v) w') : wpAnyH Tryd.prog .any ops Q S (fuel + 1) listed a w :=
  h_one i o hi hr hw (by
    have ha : xs.map a.eval = args := by rw [← ha']; exact Array.ext' (by rw [Array.toList_map])
    unfold Oper.wp execOp
    have e : a.eval (.func F) = .func (.func F) #[] #[] := rfl
    have e2 : (#[] ++ args : Array Value) ++ #[] = args := by simp
    simp only [ho, resolve, e, ha, Deferred.ofValue, invoke, Sem.run_bind, Sem.run_pure, Result.andThen_ok]
    rw [e2, run_own hF]
    exact hc.mono fun e w' ⟨v, he, hR⟩ => by subst he; exact h v w' hR)
/-- a call whose answer is known -/
theorem h_callv (i : Nat) (o : Oper) {F : Nat} {xs : Array Operand} {ts : Array TypeId} {args : Array Value} {v : Value} {w0 : World} (hF : Own F) (ho : o.op = .call { callee := .value (.func F), args := xs, argTypes := ts }) (hi : ops[i]? = some o) (hr : Region.ready .any ops listed = [i])
    (hw : Region.wanted o (yielded ops a.tmps) = true) (ha' : (xs.toList.map a.eval).toArray = args) (hS : Cl w0 w) (hc : Calls Tryd.prog F args w fun e w' => e = .returned v ∧ Below w.heap.size w w')
    (h : ∀ w', Below w.heap.size w w' → Cl w0 w' → wpAnyH Tryd.prog .any ops Q (Cl w0) fuel (listed.setIfInBounds i true) (a.put o.dst v) w') : wpAnyH Tryd.prog .any ops Q (Cl w0) (fuel + 1) listed a w :=
  h_call i o (fun u w' => u = v ∧ Below w.heap.size w w') hF ho hi hr hw ha' (hc.mono fun _ _ ⟨he, hb⟩ => ⟨v, he, rfl, hb⟩) fun u w' ⟨hu, hb⟩ => by subst hu; exact ⟨hS.trans hb, h w' hb (hS.trans hb)⟩
theorem run_build1 (n : Int) (w : World) : (Instr.buildSlice 22 1 #[(0, .int .i64 n)]).run Tryd.prog w = .ok (.slice (some ⟨w.heap.size, 0, none⟩) 1 1) (w.alloc (rowI [n])) := by
  simp [go_sem, rowI]
theorem h_build1 (i : Nat) (o : Oper) {x : Operand} {n : Int} {w0 : World} (ho : o.op = .buildSlice 22 1 #[(0, x)]) (hi : ops[i]? = some o) (hr : Region.ready .any ops listed = [i])
    (hw : Region.wanted o (yielded ops a.tmps) = true) (hx : a.eval x = .int .i64 n) (hS : Cl w0 w)
    (h : ∀ (A : Addr) (w' : World), Ints w' (some A) [n] → Cl w0 w' → wpAnyH Tryd.prog .any ops Q (Cl w0) fuel (listed.setIfInBounds i true) (a.put o.dst (.slice (some A) 1 1)) w') : wpAnyH Tryd.prog .any ops Q (Cl w0) (fuel + 1) listed a w :=
  h_one i o hi hr hw (by
    unfold Oper.wp execOp
    simp only [ho, List.map_toArray, List.map_cons, List.map_nil, hx, Sem.run_bind, run_build1, Sem.run_pure, Result.andThen_ok]
    exact ⟨hS.trans (heap1 w _), h _ _ (ints_new w [n]) (hS.trans (heap1 w _))⟩)
theorem y_load {x : Operand} {g : Nat} {f : Nat → Nat} (ho : o.op = .load 27 x) (hx : a.eval x = .pointer (some ⟨g, 0, none⟩)) (hg : ∀ w, S w → Blk w g (ofF f)) : ∀ w, S w → (execOp a.eval o).run Tryd.prog w = .ok (.value (.agg (ofF f))) w := fun w hS => by
  unfold execOp
  simp only [ho, hx, Instr.loadAt, Instr.sureAddr, Sem.run_bind, Sem.run_pure, Result.andThen_ok, run_loadVar_row w g 27 27 (ofF f) (0, 0) _ (hg w hS) under27 rfl (by rw [ofF_size]; exact size27)]
theorem y_move {x : Operand} {v : Value} (ho : o.op = .move x) (hx : a.eval x = v) : ∀ w, S w → (execOp a.eval o).run Tryd.prog w = .ok (.value v) w := fun w _ => by
  unfold execOp; simp only [ho, hx, Sem.run_pure]
theorem y_assign {x : Operand} {v : Value} (ho : o.op = .assign x) (hx : a.eval x = v) : ∀ w, S w → (execOp a.eval o).run Tryd.prog w = .ok (.value v) w := fun w _ => by
  unfold execOp; simp only [ho, hx, Sem.run_pure]
theorem y_pick {c x y : Operand} {v : Value} (ho : o.op = .pick c x y) (hc : a.eval c = .bool true) (hx : a.eval x = v) : ∀ w, S w → (execOp a.eval o).run Tryd.prog w = .ok (.value v) w := fun w _ => by
  unfold execOp; simp [ho, hc, hx, asBool]
theorem y_bin {op : BinOp} {t : TypeId} {x y : Operand} {u v r : Value} (ho : o.op = .binOp op t x y t) (hx : a.eval x = u) (hy : a.eval y = v)
    (hg : ∀ w, (eqGuard op t x y u v).run Tryd.prog w = .ok () w) (hr : ∀ w, (binOp op t u v).run Tryd.prog w = .ok r w) : ∀ w, S w → (execOp a.eval o).run Tryd.prog w = .ok (.value r) w := fun w _ => by
  unfold execOp; simp only [ho, hx, hy, Sem.run_bind, hg, hr, Sem.run_pure, Result.andThen_ok]
theorem y_eqlI {x y : Operand} {u v : Int} {b : Bool} (ho : o.op = .binOp .eql 3 x y 3) (hx : a.eval x = .int .i64 u) (hy : a.eval y = .int .i64 v) (hb : (u == v) = b) : ∀ w, S w → (execOp a.eval o).run Tryd.prog w = .ok (.value (.bool b)) w :=
  y_bin ho hx hy (fun w => by simp [go_sem]) (fun w => by simp [go_sem, hb])
theorem y_eqlB {x y : Operand} {u v b : Bool} (ho : o.op = .binOp .eql 4 x y 4) (hx : a.eval x = .bool u) (hy : a.eval y = .bool v) (hb : (u == v) = b) : ∀ w, S w → (execOp a.eval o).run Tryd.prog w = .ok (.value (.bool b)) w :=
  y_bin ho hx hy (fun w => by simp [go_sem]) (fun w => by subst hb; have := lit4; simp [go_sem, this])
theorem y_len {x : Operand} {A : Option Addr} {n c : Nat} (ho : o.op = .call { callee := .builtin .len, args := #[x], argTypes := #[22] }) (hx : a.eval x = .slice A n c) : ∀ w, S w → (execOp a.eval o).run Tryd.prog w = .ok (.value (.int .i64 (n : Int))) w := fun w _ => by
  have h22 : Tryd.prog.underlying 22 = some (.slice (Tryd.prog.elem 22)) := by kernel_rfl
  have hl := run_len_slice (P := Tryd.prog) w 22 o.type A n c h22
  unfold execOp
  simp only [ho, resolve, invoke, builtin, Sem.run_bind, Sem.run_pure, Result.andThen_ok, List.map_toArray, List.map_cons, List.map_nil, hx]
  simp [hl]
  rfl
end
end Go.Proofs.YtabdhmfjbielaaaDoor
