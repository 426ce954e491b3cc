/- PROVED here: steps of a plain region, one by one. No condition but those in each theorem's own head. -/
import Derived.Test.YtefnbjkmmmdagaaR
namespace Go.Proofs.Ytefnbjkmmmdagaa
open Go Go.RowKit
theorem lit4 : Try.prog.underlying 4 = some .bool := by kernel_rfl
section
variable {ops : Array Oper} {Q : Exit → Act → World → Prop} {rest : List Oper} {a : Act} {w : World} {d : Option Tmp} {ty : TypeId} {p : String} {af : Array Edge} {gd : Option (Nat × Bool)}
theorem p_region {id : Nat} {l : List Oper} (h : wpList Try.prog l.toArray Q l a w) : (Code.region id l.toArray false).wp Try.prog Q a w := wp_region_list (by simpa using h)
theorem p_val {op : Op} {v : Value} (hw : Region.wanted ⟨d, op, ty, p, af, gd⟩ (yielded ops a.tmps) = true) (hy : (execOp a.eval ⟨d, op, ty, p, af, gd⟩).run Try.prog w = .ok (.value v) w)
    (h : wpList Try.prog ops Q rest (a.put d v) w) : wpList Try.prog ops Q (⟨d, op, ty, p, af, gd⟩ :: rest) a w :=
  wpList_step fun K hK => by
    rw [if_pos hw]
    unfold Oper.wp
    rw [hy]
    exact hK _ _ h
theorem p_skip {op : Op} (hw : Region.wanted ⟨d, op, ty, p, af, gd⟩ (yielded ops a.tmps) = false) (h : wpList Try.prog ops Q rest (a.put d undef) w) : wpList Try.prog ops Q (⟨d, op, ty, p, af, gd⟩ :: rest) a w :=
  wpList_skip hw h
theorem p_move {x : Operand} {v : Value} (hw : Region.wanted ⟨d, .move x, ty, p, af, gd⟩ (yielded ops a.tmps) = true) (hx : a.eval x = v) (h : wpList Try.prog ops Q rest (a.put d v) w) : wpList Try.prog ops Q (⟨d, .move x, ty, p, af, gd⟩ :: rest) a w :=
  p_val hw (by unfold execOp; simp only [hx, Sem.run_pure]) h
theorem p_assign {x : Operand} {v : Value} (hw : Region.wanted ⟨d, .assign x, ty, p, af, gd⟩ (yielded ops a.tmps) = true) (hx : a.eval x = v) (h : wpList Try.prog ops Q rest (a.put d v) w) : wpList Try.prog ops Q (⟨d, .assign x, ty, p, af, gd⟩ :: rest) a w :=
  p_val hw (by unfold execOp; simp only [hx, Sem.run_pure]) h
theorem p_pickT {c x y : Operand} {v : Value} (hw : Region.wanted ⟨d, .pick c x y, ty, p, af, gd⟩ (yielded ops a.tmps) = true) (hc : a.eval c = .bool true) (hx : a.eval x = v) (h : wpList Try.prog ops Q rest (a.put d v) w) : wpList Try.prog ops Q (⟨d, .pick c x y, ty, p, af, gd⟩ :: rest) a w :=
  p_val hw (by unfold execOp; simp [hc, hx, asBool]) h
theorem p_pickF {c x y : Operand} {v : Value} (hw : Region.wanted ⟨d, .pick c x y, ty, p, af, gd⟩ (yielded ops a.tmps) = true) (hc : a.eval c = .bool false) (hy : a.eval y = v) (h : wpList Try.prog ops Q rest (a.put d v) w) : wpList Try.prog ops Q (⟨d, .pick c x y, ty, p, af, gd⟩ :: rest) a w :=
  p_val hw (by unfold execOp; simp [hc, hy, asBool]) h
theorem p_not {x : Operand} {u b : Bool} (hw : Region.wanted ⟨d, .unOp .not 4 x, ty, p, af, gd⟩ (yielded ops a.tmps) = true) (hx : a.eval x = .bool u) (hb : (!u) = b) (h : wpList Try.prog ops Q rest (a.put d (.bool b)) w) : wpList Try.prog ops Q (⟨d, .unOp .not 4 x, ty, p, af, gd⟩ :: rest) a w :=
  p_val hw (by
    unfold execOp
    have : (Op.unary .not (.bool u)).run Try.prog w = .ok (.bool b) w := by subst hb; simp [go_sem]
    simp only [hx, Sem.run_bind, this, Sem.run_pure, Result.andThen_ok]) h
theorem p_bin {op : BinOp} {t : TypeId} {x y : Operand} {u v r : Value} (hw : Region.wanted ⟨d, .binOp op t x y t, ty, p, af, gd⟩ (yielded ops a.tmps) = true) (hx : a.eval x = u) (hy : a.eval y = v)
    (hg : (eqGuard op t x y u v).run Try.prog w = .ok () w) (hr : (binOp op t u v).run Try.prog w = .ok r w) (h : wpList Try.prog ops Q rest (a.put d r) w) : wpList Try.prog ops Q (⟨d, .binOp op t x y t, ty, p, af, gd⟩ :: rest) a w :=
  p_val hw (by unfold execOp; simp only [hx, hy, Sem.run_bind, hg, hr, Sem.run_pure, Result.andThen_ok]) h
theorem p_eqlI {x y : Operand} {u v : Int} {b : Bool} (hw : Region.wanted ⟨d, .binOp .eql 3 x y 3, ty, p, af, gd⟩ (yielded ops a.tmps) = true) (hx : a.eval x = .int .i64 u) (hy : a.eval y = .int .i64 v) (hb : (u == v) = b)
    (h : wpList Try.prog ops Q rest (a.put d (.bool b)) w) : wpList Try.prog ops Q (⟨d, .binOp .eql 3 x y 3, ty, p, af, gd⟩ :: rest) a w :=
  p_bin hw hx hy (by simp [go_sem]) (by simp [go_sem, hb]) h
theorem p_eqlB {x y : Operand} {u v b : Bool} (hw : Region.wanted ⟨d, .binOp .eql 4 x y 4, ty, p, af, gd⟩ (yielded ops a.tmps) = true) (hx : a.eval x = .bool u) (hy : a.eval y = .bool v) (hb : (u == v) = b)
    (h : wpList Try.prog ops Q rest (a.put d (.bool b)) w) : wpList Try.prog ops Q (⟨d, .binOp .eql 4 x y 4, ty, p, af, gd⟩ :: rest) a w :=
  p_bin hw hx hy (by simp [go_sem]) (by subst hb; have := lit4; simp [go_sem, this]) h
/-- is it a function of the program's own -/
def Own (F : Nat) : Prop := ∃ fn, Try.prog.funcs[F]? = some fn ∧ (fn.name == "runtime.NumGoroutine") = false ∧ fn.body.isNone = false
theorem run_own {F : Nat} (h : Own F) (args : Array Value) (w : World) : (callFunc F args).run Try.prog w = .ok (.enter F args) w := by
  obtain ⟨fn, h1, h2, h3⟩ := h
  simp only [callFunc, Sem.run_bind, run_program, Result.andThen_ok, h1, h2, h3, Bool.false_eq_true, if_false, Sem.run_pure]
theorem p_call {F : Nat} {xs : Array Operand} {ts : Array TypeId} {args : Array Value} {v : Value} {C : World → Prop} (hF : Own F) (hw : Region.wanted ⟨d, .call { callee := .value (.func F), args := xs, argTypes := ts }, ty, p, af, gd⟩ (yielded ops a.tmps) = true)
    (ha' : (xs.toList.map a.eval).toArray = args) (hc : Calls Try.prog F args w fun e w' => e = .returned v ∧ C w')
    (h : ∀ w', C w' → wpList Try.prog ops Q rest (a.put d v) w') : wpList Try.prog ops Q (⟨d, .call { callee := .value (.func F), args := xs, argTypes := ts }, ty, p, af, gd⟩ :: rest) a w :=
  wpList_step fun K hK => by
    rw [if_pos hw]
    unfold Oper.wp execOp
    have ha : xs.map a.eval = args := by rw [← ha']; exact Array.ext' (by rw [Array.toList_map])
    have e : a.eval (.func F) = .func (.func F) #[] #[] := rfl
    have e2 : (#[] ++ args : Array Value) ++ #[] = args := by simp
    simp only [resolve, e, ha, Deferred.ofValue, invoke, Sem.run_bind, Sem.run_pure, Result.andThen_ok]
    rw [e2, run_own hF]
    exact hc.mono fun e w' ⟨he, hC⟩ => by subst he; exact hK _ _ (h w' hC)
end
theorem own14 : Own 14 := ⟨_, Try.func14, by kernel_rfl, by kernel_rfl⟩
theorem own16 : Own 16 := ⟨_, Try.func16, by kernel_rfl, by kernel_rfl⟩
theorem own18 : Own 18 := ⟨_, Try.func18, by kernel_rfl, by kernel_rfl⟩
theorem own25 : Own 25 := ⟨_, Try.func25, by kernel_rfl, by kernel_rfl⟩
theorem own27 : Own 27 := ⟨_, Try.func27, by kernel_rfl, by kernel_rfl⟩
end Go.Proofs.Ytefnbjkmmmdagaa
