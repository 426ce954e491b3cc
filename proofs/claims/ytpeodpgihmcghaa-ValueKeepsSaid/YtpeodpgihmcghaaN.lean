/- PROVED here: steps of a drawn region whose guards are partly not wanted. No condition but those in each theorem's own head. -/
import Derived.Test.YtpeodpgihmcghaaX
import Derived.OrdersHeld
namespace Go.Proofs.Ytpeodpgihmcghaa
open Go Go.RowKit Go.Sort

def Own (F : Nat) : Prop := ∃ fn, Try.prog.funcs[F]? = some fn ∧ (fn.name == "runtime.NumGoroutine") = false ∧ fn.body.isNone = false
theorem run_own {F : Nat} (h : Own F) (args : Array Value) (w : World) : (callFunc F args).run Try.prog w = .ok (.enter F args) w := by
  obtain ⟨fn, h1, h2, h3⟩ := h
  simp only [callFunc, Sem.run_bind, run_program, Result.andThen_ok, h1, h2, h3, Bool.false_eq_true, if_false, Sem.run_pure]
theorem own16 : Own 16 := ⟨_, Try.func16, by kernel_rfl, by kernel_rfl⟩
theorem own18 : Own 18 := ⟨_, Try.func18, by kernel_rfl, by kernel_rfl⟩
theorem own21 : Own 21 := ⟨_, Try.func21, by kernel_rfl, by kernel_rfl⟩
theorem own23 : Own 23 := ⟨_, Try.func23, by kernel_rfl, by kernel_rfl⟩
section
variable {ops : Array Oper} {Q : Exit → Act → World → Prop} {S : World → Prop} {fuel : Nat} {listed : Array Bool} {a : Act} {w : World}
/-- what is not wanted -/
theorem h_off (i : Nat) {o : Oper} {t : Tmp} (hc : (Region.noSelect ops && (Region.free .any ops listed i && (Region.ready .any ops listed).contains i)) = true) (hi : ops[i]? = some o) (hd : o.dst = some t)
    (hQ : ∀ c a w, Q (.panic c) (a.put (some t) undef) w → Q (.panic c) a w) (hw : Region.wanted o (yielded ops a.tmps) = false) (hS : S w)
    (h : wpAnyH Try.prog .any ops Q S fuel (listed.setIfInBounds i true) (a.put (some t) undef) w) : wpAnyH Try.prog .any ops Q S (fuel + 1) listed a w := by
  simp only [Bool.and_eq_true] at hc
  rw [← hd] at hQ h
  exact wpAnyH_take hi hc.1 hc.2.1 hc.2.2 hQ (.inr ⟨hw, rfl⟩) hS h
theorem h_call (i : Nat) (o : Oper) {F : Nat} {t : Tmp} {xs : Array Operand} {ts : Array TypeId} {args : Array Value} (R : Value → World → Prop) (hF : Own F) (ho : o.op = .call { callee := .value (.func F), args := xs, argTypes := ts }) (hd : o.dst = some t) (hi : ops[i]? = some o) (hr : Region.ready .any ops listed = [i])
    (hw : Region.wanted o (yielded ops a.tmps) = true) (ha' : (xs.toList.map a.eval).toArray = args) (hc : Calls Try.prog F args w fun e w' => ∃ v, e = .returned v ∧ R v w')
    (h : ∀ v w', R v w' → S w' ∧ wpAnyH Try.prog .any ops Q S fuel (listed.setIfInBounds i true) (a.put (some t) v) w') : wpAnyH Try.prog .any ops Q S (fuel + 1) listed a w :=
  h_one i o hi hr hw (by
    have ha : xs.map a.eval = args := by rw [← ha']; exact Array.ext' (by rw [Array.toList_map])
    unfold Oper.wp execOp
    have e : a.eval (.func F) = .func (.func F) #[] #[] := rfl
    have e2 : (#[] ++ args : Array Value) ++ #[] = args := by simp
    simp only [ho, resolve, e, ha, Deferred.ofValue, invoke, Sem.run_bind, Sem.run_pure, Result.andThen_ok]
    rw [e2, run_own hF]
    exact hc.mono fun e w' ⟨v, he, hR⟩ => by subst he; rw [hd]; exact h v w' hR)
end
end Go.Proofs.Ytpeodpgihmcghaa
