/- PROVED here: steps of a region that draws its order and whose calls leave old memory alone. No condition but those in each theorem's own head. -/
import Derived.Test.YtcnmkmdedeiffaaQ
namespace Go.Proofs.Ytcnmkmdedeiffaa
open Go Go.RowKit

/-- worlds in which nothing that was there has turned -/
def Cl (w w' : World) : Prop := Below w.heap.size w w'
theorem Cl.trans {w a b : World} (h : Cl w a) (k : Below a.heap.size a b) : Cl w b := Below.trans (b := a) h (k.mono h.size)
theorem q_region {id : Nat} {Q : Exit → Act → World → Prop} {a : Act} {w : World} {l : List Oper} (hB : Region.lexB .any l.toArray = true)
    (h : wpQuiet Try.prog l.toArray (Cl w) (fun a' => ∀ w', Cl w w' → Q .normal a' w') l a) : (Code.region id l.toArray true).wp Try.prog Q a w :=
  wp_region_quiet (C := Cl w) (by kernel_rfl) hB ⟨rfl, rfl, rfl, Nat.le_refl _, fun _ _ => rfl⟩ (by simpa using h)
theorem ub4 : Try.prog.underlying 4 = some .bool := by kernel_rfl
def Own (F : Nat) : Prop := ∃ fn, Try.prog.funcs[F]? = some fn ∧ (fn.name == "runtime.NumGoroutine") = false ∧ fn.body.isNone = false
theorem run_own {F : Nat} (h : Own F) (args : Array Value) (w : World) : (callFunc F args).run Try.prog w = .ok (.enter F args) w := by
  obtain ⟨fn, h1, h2, h3⟩ := h
  simp only [callFunc, Sem.run_bind, run_program, Result.andThen_ok, h1, h2, h3, Bool.false_eq_true, if_false, Sem.run_pure]
theorem own15 : Own 15 := ⟨_, Try.func15, by kernel_rfl, by kernel_rfl⟩
theorem own19 : Own 19 := ⟨_, Try.func19, by kernel_rfl, by kernel_rfl⟩
theorem own24 : Own 24 := ⟨_, Try.func24, by kernel_rfl, by kernel_rfl⟩
theorem run_field30_0 (b : Nat) (w : World) : (Instr.fieldAt 30 (.pointer (some ⟨b, 0, none⟩)) 0).run Try.prog w = .ok (.pointer (some ⟨b, 0, none⟩)) w := by kernel_rfl
theorem run_field30_1 (b : Nat) (w : World) : (Instr.fieldAt 30 (.pointer (some ⟨b, 0, none⟩)) 1).run Try.prog w = .ok (.pointer (some ⟨b, 1, none⟩)) w := by kernel_rfl
theorem run_field24_0 (b off : Nat) (w : World) : (Instr.fieldAt 24 (.pointer (some ⟨b, off, none⟩)) 0).run Try.prog w = .ok (.pointer (some ⟨b, off, none⟩)) w := by kernel_rfl
theorem run_field24_4 (b off : Nat) (w : World) : (Instr.fieldAt 24 (.pointer (some ⟨b, off, none⟩)) 4).run Try.prog w = .ok (.pointer (some ⟨b, off + 4, none⟩)) w := by kernel_rfl
theorem run_load3 {w : World} {b off : Nat} {n : Int} (h : w.cell? ⟨b, off, none⟩ = some (.int .i64 n)) : (Instr.loadAt 3 (.pointer (some ⟨b, off, none⟩))).run Try.prog w = .ok (.int .i64 n) w := by
  simp [go_sem, h]
theorem run_load22 {w : World} {b off n c : Nat} {A : Option Addr} (h : w.cell? ⟨b, off, none⟩ = some (.slice A n c)) : (Instr.loadAt 22 (.pointer (some ⟨b, off, none⟩))).run Try.prog w = .ok (.slice A n c) w := by
  simp [go_sem, h]
theorem run_load28 {w : World} {b off n c : Nat} {A : Option Addr} (h : w.cell? ⟨b, off, none⟩ = some (.slice A n c)) : (Instr.loadAt 28 (.pointer (some ⟨b, off, none⟩))).run Try.prog w = .ok (.slice A n c) w := by
  simp [go_sem, h]
theorem run_load30 {w : World} {b n c : Nat} {r : Int} {A : Option Addr} (h : Bx w b 30 [.slice A n c, .int .i64 r]) : (Instr.loadAt 30 (.pointer (some ⟨b, 0, none⟩))).run Try.prog w = .ok (.agg #[.slice A n c, .int .i64 r]) w := by
  have h0 := h.cell 0
  have h1 := h.cell 1
  simp only [List.getElem?_cons_zero, List.getElem?_cons_succ] at h0 h1
  simp [go_sem, h0, h1]
theorem run_idx {t e : TypeId} {sz : Nat} (ht : Try.prog.underlying t = some (.slice (Try.prog.elem t))) (he : Try.prog.elem t = e) (hz : (Try.prog.info? e).map (·.size) = some sz) (b off n c k : Nat) (hk : k < n) (w : World) : (Instr.indexAt t (.slice (some ⟨b, off, none⟩) n c) (.int .i64 (k : Int))).run Try.prog w = .ok (.pointer (some ⟨b, off + k * sz, none⟩)) w := by
  have hlt : (k : Int) < (n : Int) := by omega
  rw [run_indexAt_slice w t _ n c .i64 _ ht, he]
  cases hq : Try.prog.info? e with
  | none => rw [hq] at hz; cases hz
  | some i =>
    rw [hq] at hz
    have hz' : i.size = sz := by simpa using hz
    simp [go_sem, sizeOf, typeInfo, hq, hz', hlt]
theorem run_index22 (b off n c k : Nat) (hk : k < n) (w : World) : (Instr.indexAt 22 (.slice (some ⟨b, off, none⟩) n c) (.int .i64 (k : Int))).run Try.prog w = .ok (.pointer (some ⟨b, off + k, none⟩)) w := by
  have := run_idx (t := 22) (e := 3) (sz := 1) (by kernel_rfl) (by kernel_rfl) (by kernel_rfl) b off n c k hk w
  rw [Nat.mul_one] at this; exact this
theorem run_index28 (b off n c k : Nat) (hk : k < n) (w : World) : (Instr.indexAt 28 (.slice (some ⟨b, off, none⟩) n c) (.int .i64 (k : Int))).run Try.prog w = .ok (.pointer (some ⟨b, off + k * 5, none⟩)) w :=
  run_idx (t := 28) (e := 24) (sz := 5) (by kernel_rfl) (by kernel_rfl) (by kernel_rfl) b off n c k hk w
section
variable {ops : Array Oper} {C : World → Prop} {Q : Act → Prop} {rest : List Oper} {d : Option Tmp} {ty : TypeId} {p : String} {af : Array Edge} {gd : Option (Nat × Bool)} {a : Act}
theorem q_op {op : Op} {v : Value} (hw : Region.wanted ⟨d, op, ty, p, af, gd⟩ (yielded ops a.tmps) = true) (hr : ∀ w, C w → Oper.quietAt Try.prog ⟨d, op, ty, p, af, gd⟩ a C w v)
    (h : wpQuiet Try.prog ops C Q rest (a.put d v)) : wpQuiet Try.prog ops C Q (⟨d, op, ty, p, af, gd⟩ :: rest) a := by
  unfold wpQuiet; rw [if_pos hw]; exact ⟨v, hr, h⟩
theorem q_move {x : Operand} {v : Value} (hw : Region.wanted ⟨d, .move x, ty, p, af, gd⟩ (yielded ops a.tmps) = true) (hx : a.eval x = v)
    (h : wpQuiet Try.prog ops C Q rest (a.put d v)) : wpQuiet Try.prog ops C Q (⟨d, .move x, ty, p, af, gd⟩ :: rest) a :=
  q_op hw (fun w _ => by unfold Oper.quietAt execOp; simp only [hx, Sem.run_pure]; exact ⟨rfl, rfl⟩) h
theorem q_assign {x : Operand} {v : Value} (hw : Region.wanted ⟨d, .assign x, ty, p, af, gd⟩ (yielded ops a.tmps) = true) (hx : a.eval x = v)
    (h : wpQuiet Try.prog ops C Q rest (a.put d v)) : wpQuiet Try.prog ops C Q (⟨d, .assign x, ty, p, af, gd⟩ :: rest) a :=
  q_op hw (fun w _ => by unfold Oper.quietAt execOp; simp only [hx, Sem.run_pure]; exact ⟨rfl, rfl⟩) h
theorem q_pick {c x y : Operand} {v : Value} (hw : Region.wanted ⟨d, .pick c x y, ty, p, af, gd⟩ (yielded ops a.tmps) = true) (hc : a.eval c = .bool true) (hx : a.eval x = v)
    (h : wpQuiet Try.prog ops C Q rest (a.put d v)) : wpQuiet Try.prog ops C Q (⟨d, .pick c x y, ty, p, af, gd⟩ :: rest) a :=
  q_op hw (fun w _ => by unfold Oper.quietAt execOp; simp [hc, hx, asBool, Oper.quietUpon]) h
theorem q_bin {op : BinOp} {t : TypeId} {x y : Operand} {u v r : Value} (hw : Region.wanted ⟨d, .binOp op t x y t, ty, p, af, gd⟩ (yielded ops a.tmps) = true) (hx : a.eval x = u) (hy : a.eval y = v)
    (hg : ∀ w, (eqGuard op t x y u v).run Try.prog w = .ok () w) (hr : ∀ w, (binOp op t u v).run Try.prog w = .ok r w)
    (h : wpQuiet Try.prog ops C Q rest (a.put d r)) : wpQuiet Try.prog ops C Q (⟨d, .binOp op t x y t, ty, p, af, gd⟩ :: rest) a :=
  q_op hw (fun w _ => by unfold Oper.quietAt execOp; simp only [hx, hy, Sem.run_bind, hg, hr, Sem.run_pure, Result.andThen_ok]; exact ⟨rfl, rfl⟩) h
theorem q_eqlB {x y : Operand} {u v b : Bool} (hw : Region.wanted ⟨d, .binOp .eql 4 x y 4, ty, p, af, gd⟩ (yielded ops a.tmps) = true) (hx : a.eval x = .bool u) (hy : a.eval y = .bool v) (hb : (u == v) = b)
    (h : wpQuiet Try.prog ops C Q rest (a.put d (.bool b))) : wpQuiet Try.prog ops C Q (⟨d, .binOp .eql 4 x y 4, ty, p, af, gd⟩ :: rest) a :=
  q_bin hw hx hy (fun w => by simp [go_sem]) (fun w => by subst hb; have := ub4; simp [go_sem, this]) h
theorem q_eqlI {x y : Operand} {u v : Int} {b : Bool} (hw : Region.wanted ⟨d, .binOp .eql 3 x y 3, ty, p, af, gd⟩ (yielded ops a.tmps) = true) (hx : a.eval x = .int .i64 u) (hy : a.eval y = .int .i64 v) (hb : (u == v) = b)
    (h : wpQuiet Try.prog ops C Q rest (a.put d (.bool b))) : wpQuiet Try.prog ops C Q (⟨d, .binOp .eql 3 x y 3, ty, p, af, gd⟩ :: rest) a :=
  q_bin hw hx hy (fun w => by simp [go_sem]) (fun w => by simp [go_sem, hb]) h
theorem q_leqI {x y : Operand} {u v : Int} {b : Bool} (hw : Region.wanted ⟨d, .binOp .leq 3 x y 3, ty, p, af, gd⟩ (yielded ops a.tmps) = true) (hx : a.eval x = .int .i64 u) (hy : a.eval y = .int .i64 v) (hb : decide (u ≤ v) = b)
    (h : wpQuiet Try.prog ops C Q rest (a.put d (.bool b))) : wpQuiet Try.prog ops C Q (⟨d, .binOp .leq 3 x y 3, ty, p, af, gd⟩ :: rest) a :=
  q_bin hw hx hy (fun w => by simp [go_sem]) (fun w => by simp [go_sem, hb]) h
theorem q_load {t : TypeId} {x : Operand} {ad : Addr} {v : Value} (hw : Region.wanted ⟨d, .load t x, ty, p, af, gd⟩ (yielded ops a.tmps) = true) (hx : a.eval x = .pointer (some ad)) (hl : ∀ w, C w → (Instr.loadAt t (.pointer (some ad))).run Try.prog w = .ok v w)
    (h : wpQuiet Try.prog ops C Q rest (a.put d v)) : wpQuiet Try.prog ops C Q (⟨d, .load t x, ty, p, af, gd⟩ :: rest) a :=
  q_op hw (fun w hC => by unfold Oper.quietAt execOp; simp only [hx, Sem.run_bind, hl w hC, Sem.run_pure, Result.andThen_ok]; exact ⟨rfl, rfl⟩) h
theorem q_field {t : TypeId} {k : Nat} {x : Operand} {ad ad' : Addr} (hw : Region.wanted ⟨d, .fieldAddr t x k, ty, p, af, gd⟩ (yielded ops a.tmps) = true) (hx : a.eval x = .pointer (some ad)) (hl : ∀ w, (Instr.fieldAt t (.pointer (some ad)) k).run Try.prog w = .ok (.pointer (some ad')) w)
    (h : wpQuiet Try.prog ops C Q rest (a.put d (.pointer (some ad')))) : wpQuiet Try.prog ops C Q (⟨d, .fieldAddr t x k, ty, p, af, gd⟩ :: rest) a :=
  q_op hw (fun w _ => by unfold Oper.quietAt execOp; simp only [hx, Sem.run_bind, hl w, Sem.run_pure, Result.andThen_ok]; exact ⟨rfl, rfl⟩) h
theorem q_index {t : TypeId} {x y : Operand} {u v r : Value} (hw : Region.wanted ⟨d, .indexAddr t x y, ty, p, af, gd⟩ (yielded ops a.tmps) = true) (hx : a.eval x = u) (hy : a.eval y = v) (hl : ∀ w, (Instr.indexAt t u v).run Try.prog w = .ok r w)
    (h : wpQuiet Try.prog ops C Q rest (a.put d r)) : wpQuiet Try.prog ops C Q (⟨d, .indexAddr t x y, ty, p, af, gd⟩ :: rest) a :=
  q_op hw (fun w _ => by unfold Oper.quietAt execOp; simp only [hx, hy, Sem.run_bind, hl w, Sem.run_pure, Result.andThen_ok]; exact ⟨rfl, rfl⟩) h
theorem q_len {t : TypeId} {x : Operand} {A : Option Addr} {n c : Nat} (ht : t = 22 ∨ t = 28) (hw : Region.wanted ⟨d, .call { callee := .builtin .len, args := #[x], argTypes := #[t] }, 3, p, af, gd⟩ (yielded ops a.tmps) = true) (hx : a.eval x = .slice A n c)
    (h : wpQuiet Try.prog ops C Q rest (a.put d (.int .i64 (n : Int)))) : wpQuiet Try.prog ops C Q (⟨d, .call { callee := .builtin .len, args := #[x], argTypes := #[t] }, 3, p, af, gd⟩ :: rest) a :=
  q_op hw (fun w _ => by
    have hl : (Builtin.len_ #[t] 3 #[.slice A n c]).run Try.prog w = .ok (.int .i64 (n : Int)) w := by
      rcases ht with rfl | rfl <;> simp [go_sem]
    unfold Oper.quietAt execOp
    simp only [resolve, invoke, builtin, List.map_toArray, List.map_cons, List.map_nil, hx, Sem.run_bind, Sem.run_pure, Result.andThen_ok, hl]
    exact ⟨rfl, rfl⟩) h
theorem q_call {F : Nat} {xs : Array Operand} {ts : Array TypeId} {args : Array Value} {v : Value} (hF : Own F) (hw : Region.wanted ⟨d, .call { callee := .value (.func F), args := xs, argTypes := ts }, ty, p, af, gd⟩ (yielded ops a.tmps) = true)
    (ha' : (xs.toList.map a.eval).toArray = args) (hc : ∀ w, C w → Calls Try.prog F args w fun e w' => e = .returned v ∧ C w')
    (h : wpQuiet Try.prog ops C Q rest (a.put d v)) : wpQuiet Try.prog ops C Q (⟨d, .call { callee := .value (.func F), args := xs, argTypes := ts }, ty, p, af, gd⟩ :: rest) a :=
  q_op hw (fun w hC => by
    unfold Oper.quietAt execOp
    have ha : xs.map a.eval = args := by rw [← ha']; exact Array.ext' (by rw [Array.toList_map])
    have e : a.eval (.func F) = .func (.func F) #[] #[] := rfl
    simp only [resolve, e, ha, Deferred.ofValue, invoke, Sem.run_bind, Sem.run_pure, Result.andThen_ok]
    have e2 : (#[] ++ args : Array Value) ++ #[] = args := by simp
    rw [e2, run_own hF]
    exact ⟨rfl, hc w hC⟩) h
end
section
variable {ops : Array Oper} {Q : Exit → Act → World → Prop} {S : World → Prop} {fuel : Nat} {listed : Array Bool} {a : Act} {w : World} {o : Oper}
theorem h_pure (i : Nat) (o : Oper) (v : Value) (hs : Region.noSelect ops = true) (hi : ops[i]? = some o) (hf : Region.free .any ops listed i = true) (hr : (Region.ready .any ops listed).contains i = true)
    (hQ : ∀ c a w, Q (.panic c) (a.put o.dst v) w → Q (.panic c) a w) (hw : Region.wanted o (yielded ops a.tmps) = true) (hy : ∀ w, S w → (execOp a.eval o).run Try.prog w = .ok (.value v) w) (hS : S w)
    (h : wpAnyH Try.prog .any ops Q S fuel (listed.setIfInBounds i true) (a.put o.dst v) w) : wpAnyH Try.prog .any ops Q S (fuel + 1) listed a w :=
  wpAnyH_take hi hs hf hr hQ (.inl ⟨hw, hy⟩) hS h
theorem h_one (i : Nat) (o : Oper) (hi : ops[i]? = some o) (hr : Region.ready .any ops listed = [i]) (hw : Region.wanted o (yielded ops a.tmps) = true)
    (h : o.wp Try.prog a w (fun a' w' => S w' ∧ wpAnyH Try.prog .any ops Q S fuel (listed.setIfInBounds i true) a' w') Q) : wpAnyH Try.prog .any ops Q S (fuel + 1) listed a w :=
  wpAnyH_all hr (by simp) fun j hj => by
    obtain rfl : j = i := by simpa using hj
    unfold wpOp
    simp only [hi, hw, if_true]
    exact .inl h
/-- a call, whatever it answers -/
theorem h_call (i : Nat) (o : Oper) {F : Nat} {xs : Array Operand} {ts : Array TypeId} {args : Array Value} {C : Value → World → Prop} (hF : Own F) (ho : o.op = .call { callee := .value (.func F), args := xs, argTypes := ts }) (hi : ops[i]? = some o) (hr : Region.ready .any ops listed = [i])
    (hw : Region.wanted o (yielded ops a.tmps) = true) (ha' : (xs.toList.map a.eval).toArray = args) (hc : Calls Try.prog F args w fun e w' => ∃ v, e = .returned v ∧ C v w')
    (h : ∀ v w', C v w' → S w' ∧ wpAnyH Try.prog .any ops Q S fuel (listed.setIfInBounds i true) (a.put o.dst v) w') : wpAnyH Try.prog .any ops Q S (fuel + 1) listed a w :=
  h_one i o hi hr hw (by
    have ha : xs.map a.eval = args := by rw [← ha']; exact Array.ext' (by rw [Array.toList_map])
    unfold Oper.wp execOp
    have e : a.eval (.func F) = .func (.func F) #[] #[] := rfl
    have e2 : (#[] ++ args : Array Value) ++ #[] = args := by simp
    simp only [ho, resolve, e, ha, Deferred.ofValue, invoke, Sem.run_bind, Sem.run_pure, Result.andThen_ok]
    rw [e2, run_own hF]
    exact hc.mono fun e w' ⟨v, he, hR⟩ => by subst he; exact h v w' hR)
theorem y_move {x : Operand} {v : Value} (ho : o.op = .move x) (hx : a.eval x = v) : ∀ w, S w → (execOp a.eval o).run Try.prog w = .ok (.value v) w := fun w _ => by unfold execOp; simp only [ho, hx, Sem.run_pure]
theorem y_bin {op : BinOp} {t : TypeId} {x y : Operand} {u v r : Value} (ho : o.op = .binOp op t x y t) (hx : a.eval x = u) (hy : a.eval y = v)
    (hg : ∀ w, (eqGuard op t x y u v).run Try.prog w = .ok () w) (hr : ∀ w, (binOp op t u v).run Try.prog w = .ok r w) : ∀ w, S w → (execOp a.eval o).run Try.prog w = .ok (.value r) w := fun w _ => by
  unfold execOp; simp only [ho, hx, hy, Sem.run_bind, hg, hr, Sem.run_pure, Result.andThen_ok]
theorem y_geqI {x y : Operand} {u v : Int} {b : Bool} (ho : o.op = .binOp .geq 3 x y 3) (hx : a.eval x = .int .i64 u) (hy : a.eval y = .int .i64 v) (hb : decide (v ≤ u) = b) : ∀ w, S w → (execOp a.eval o).run Try.prog w = .ok (.value (.bool b)) w :=
  y_bin ho hx hy (fun w => by simp [go_sem]) (fun w => by simp [go_sem, hb])
theorem y_load {t : TypeId} {x : Operand} {ad : Addr} {v : Value} (ho : o.op = .load t x) (hx : a.eval x = .pointer (some ad)) (hl : ∀ w, S w → (Instr.loadAt t (.pointer (some ad))).run Try.prog w = .ok v w) : ∀ w, S w → (execOp a.eval o).run Try.prog w = .ok (.value v) w := fun w hS => by
  unfold execOp; simp only [ho, hx, Sem.run_bind, hl w hS, Sem.run_pure, Result.andThen_ok]
theorem y_field {t : TypeId} {k : Nat} {x : Operand} {ad ad' : Addr} (ho : o.op = .fieldAddr t x k) (hx : a.eval x = .pointer (some ad)) (hl : ∀ w, (Instr.fieldAt t (.pointer (some ad)) k).run Try.prog w = .ok (.pointer (some ad')) w) : ∀ w, S w → (execOp a.eval o).run Try.prog w = .ok (.value (.pointer (some ad'))) w := fun w _ => by
  unfold execOp; simp only [ho, hx, Sem.run_bind, hl w, Sem.run_pure, Result.andThen_ok]
theorem y_index {t : TypeId} {x y : Operand} {u v r : Value} (ho : o.op = .indexAddr t x y) (hx : a.eval x = u) (hy : a.eval y = v) (hl : ∀ w, (Instr.indexAt t u v).run Try.prog w = .ok r w) : ∀ w, S w → (execOp a.eval o).run Try.prog w = .ok (.value r) w := fun w _ => by
  unfold execOp; simp only [ho, hx, hy, Sem.run_bind, hl w, Sem.run_pure, Result.andThen_ok]
end
end Go.Proofs.Ytcnmkmdedeiffaa
