/- PROVED here: steps of a region whose calls leave old memory alone, and the contract of Within. No condition but those in each theorem's own head. -/
import Derived.Test.YtabdhmfjbielaaaDoorF
namespace Go.Proofs.YtabdhmfjbielaaaDoor
open Go Go.RowKit

/-- worlds in which nothing that was there has turned -/
def Cl (w w' : World) : Prop := Below w.heap.size w w'
theorem Cl.trans {w a b : World} (h : Cl w a) (k : Below a.heap.size a b) : Cl w b := Below.trans (b := a) h (k.mono h.size)
theorem Cl.blk {w w' : World} {g : Nat} {cs : Array Value} (h : Cl w w') (hg : Blk w g cs) (hl : g < w.heap.size) : Blk w' g cs := (h.block g hl).trans hg

theorem q_region {id : Nat} {Q : Exit → Act → World → Prop} {a : Act} {w : World} {l : List Oper} (hB : Region.lexB .any l.toArray = true)
    (h : wpQuiet Tryd.prog l.toArray (Cl w) (fun a' => ∀ w', Cl w w' → Q .normal a' w') l a) : (Code.region id l.toArray true).wp Tryd.prog Q a w :=
  wp_region_quiet (C := Cl w) (by kernel_rfl) hB ⟨rfl, rfl, rfl, Nat.le_refl _, fun _ _ => rfl⟩ (by simpa using h)

theorem lit4 : Tryd.prog.underlying 4 = some .bool := by kernel_rfl
section
variable {ops : Array Oper} {C : World → Prop} {Q : Act → Prop} {rest : List Oper} {d : Option Tmp} {ty : TypeId} {p : String} {af : Array Edge} {gd : Option (Nat × Bool)} {a : Act}
theorem q_op {op : Op} {v : Value} (hw : Region.wanted ⟨d, op, ty, p, af, gd⟩ (yielded ops a.tmps) = true) (hr : ∀ w, C w → Oper.quietAt Tryd.prog ⟨d, op, ty, p, af, gd⟩ a C w v)
    (h : wpQuiet Tryd.prog ops C Q rest (a.put d v)) : wpQuiet Tryd.prog ops C Q (⟨d, op, ty, p, af, gd⟩ :: rest) a := by
  unfold wpQuiet; rw [if_pos hw]; exact ⟨v, hr, h⟩
theorem q_load {x : Operand} {g : Nat} {f : Nat → Nat} (hw : Region.wanted ⟨d, .load 27 x, ty, p, af, gd⟩ (yielded ops a.tmps) = true) (hx : a.eval x = .pointer (some ⟨g, 0, none⟩)) (hg : ∀ w, C w → Blk w g (ofF f))
    (h : wpQuiet Tryd.prog ops C Q rest (a.put d (.agg (ofF f)))) : wpQuiet Tryd.prog ops C Q (⟨d, .load 27 x, ty, p, af, gd⟩ :: rest) a :=
  q_op hw (fun w hC => by
    unfold Oper.quietAt execOp
    simp only [hx, Instr.loadAt, Instr.sureAddr, Sem.run_bind, Sem.run_pure, Result.andThen_ok, run_loadVar_row w g 27 27 (ofF f) (0, 0) _ (hg w hC) under27 rfl (by rw [ofF_size]; exact size27)]
    exact ⟨rfl, rfl⟩) h
theorem q_eql27 {x y : Operand} {f g : Nat → Nat} {b : Bool} (hw : Region.wanted ⟨d, .binOp .eql 27 x y 27, ty, p, af, gd⟩ (yielded ops a.tmps) = true) (hx : a.eval x = .agg (ofF f)) (hy : a.eval y = .agg (ofF g)) (hb : sameF f g = b)
    (h : wpQuiet Tryd.prog ops C Q rest (a.put d (.bool b))) : wpQuiet Tryd.prog ops C Q (⟨d, .binOp .eql 27 x y 27, ty, p, af, gd⟩ :: rest) a :=
  q_op hw (fun w _ => by
    have hg : (eqGuard .eql 27 x y (.agg (ofF f)) (.agg (ofF g))).run Tryd.prog w = .ok () w := run_eqGuard_agg w .eql 27 x y _ _ (by kernel_rfl)
    have he : (binOp .eql 27 (.agg (ofF f)) (.agg (ofF g))).run Tryd.prog w = .ok (.bool b) w := by rw [run_eql_struct, run_eq27, hb]; rfl
    unfold Oper.quietAt execOp
    simp only [hx, hy, Sem.run_bind, hg, he, Sem.run_pure, Result.andThen_ok]
    exact ⟨rfl, rfl⟩) h
theorem q_move {x : Operand} {v : Value} (hw : Region.wanted ⟨d, .move x, ty, p, af, gd⟩ (yielded ops a.tmps) = true) (hx : a.eval x = v)
    (h : wpQuiet Tryd.prog ops C Q rest (a.put d v)) : wpQuiet Tryd.prog ops C Q (⟨d, .move x, ty, p, af, gd⟩ :: rest) a :=
  q_op hw (fun w _ => by unfold Oper.quietAt execOp; simp only [hx, Sem.run_pure]; exact ⟨rfl, rfl⟩) h
theorem q_assign {x : Operand} {v : Value} (hw : Region.wanted ⟨d, .assign x, ty, p, af, gd⟩ (yielded ops a.tmps) = true) (hx : a.eval x = v)
    (h : wpQuiet Tryd.prog ops C Q rest (a.put d v)) : wpQuiet Tryd.prog ops C Q (⟨d, .assign x, ty, p, af, gd⟩ :: rest) a :=
  q_op hw (fun w _ => by unfold Oper.quietAt execOp; simp only [hx, Sem.run_pure]; exact ⟨rfl, rfl⟩) h
theorem q_pick {c x y : Operand} {v : Value} (hw : Region.wanted ⟨d, .pick c x y, ty, p, af, gd⟩ (yielded ops a.tmps) = true) (hc : a.eval c = .bool true) (hx : a.eval x = v)
    (h : wpQuiet Tryd.prog ops C Q rest (a.put d v)) : wpQuiet Tryd.prog ops C Q (⟨d, .pick c x y, ty, p, af, gd⟩ :: rest) a :=
  q_op hw (fun w _ => by unfold Oper.quietAt execOp; simp [hc, hx, asBool, Oper.quietUpon]) h
theorem q_bin {op : BinOp} {t : TypeId} {x y : Operand} {u v r : Value} (hw : Region.wanted ⟨d, .binOp op t x y t, ty, p, af, gd⟩ (yielded ops a.tmps) = true) (hx : a.eval x = u) (hy : a.eval y = v)
    (hg : ∀ w, (eqGuard op t x y u v).run Tryd.prog w = .ok () w) (hr : ∀ w, (binOp op t u v).run Tryd.prog w = .ok r w)
    (h : wpQuiet Tryd.prog ops C Q rest (a.put d r)) : wpQuiet Tryd.prog ops C Q (⟨d, .binOp op t x y t, ty, p, af, gd⟩ :: rest) a :=
  q_op hw (fun w _ => by unfold Oper.quietAt execOp; simp only [hx, hy, Sem.run_bind, hg, hr, Sem.run_pure, Result.andThen_ok]; exact ⟨rfl, rfl⟩) h
theorem q_eqlB {x y : Operand} {u v b : Bool} (hw : Region.wanted ⟨d, .binOp .eql 4 x y 4, ty, p, af, gd⟩ (yielded ops a.tmps) = true) (hx : a.eval x = .bool u) (hy : a.eval y = .bool v) (hb : (u == v) = b)
    (h : wpQuiet Tryd.prog ops C Q rest (a.put d (.bool b))) : wpQuiet Tryd.prog ops C Q (⟨d, .binOp .eql 4 x y 4, ty, p, af, gd⟩ :: rest) a :=
  q_bin hw hx hy (fun w => by simp [go_sem]) (fun w => by subst hb; have := lit4; simp [go_sem, this]) h
theorem q_eqlI {x y : Operand} {u v : Int} {b : Bool} (hw : Region.wanted ⟨d, .binOp .eql 3 x y 3, ty, p, af, gd⟩ (yielded ops a.tmps) = true) (hx : a.eval x = .int .i64 u) (hy : a.eval y = .int .i64 v) (hb : (u == v) = b)
    (h : wpQuiet Tryd.prog ops C Q rest (a.put d (.bool b))) : wpQuiet Tryd.prog ops C Q (⟨d, .binOp .eql 3 x y 3, ty, p, af, gd⟩ :: rest) a :=
  q_bin hw hx hy (fun w => by simp [go_sem]) (fun w => by simp [go_sem, hb]) h
theorem q_addI {x y : Operand} {u v r : Int} (hw : Region.wanted ⟨d, .binOp .add 3 x y 3, ty, p, af, gd⟩ (yielded ops a.tmps) = true) (hx : a.eval x = .int .i64 u) (hy : a.eval y = .int .i64 v) (hr : IntKind.i64.wrap (u + v) = r)
    (h : wpQuiet Tryd.prog ops C Q rest (a.put d (.int .i64 r))) : wpQuiet Tryd.prog ops C Q (⟨d, .binOp .add 3 x y 3, ty, p, af, gd⟩ :: rest) a :=
  q_bin hw hx hy (fun w => by simp [go_sem]) (fun w => by subst hr; simp [go_sem]) h
theorem q_subI {x y : Operand} {u v r : Int} (hw : Region.wanted ⟨d, .binOp .sub 3 x y 3, ty, p, af, gd⟩ (yielded ops a.tmps) = true) (hx : a.eval x = .int .i64 u) (hy : a.eval y = .int .i64 v) (hr : IntKind.i64.wrap (u - v) = r)
    (h : wpQuiet Tryd.prog ops C Q rest (a.put d (.int .i64 r))) : wpQuiet Tryd.prog ops C Q (⟨d, .binOp .sub 3 x y 3, ty, p, af, gd⟩ :: rest) a :=
  q_bin hw hx hy (fun w => by simp [go_sem]) (fun w => by subst hr; simp [go_sem]) h
theorem q_not {x : Operand} {u b : Bool} (hw : Region.wanted ⟨d, .unOp .not 4 x, ty, p, af, gd⟩ (yielded ops a.tmps) = true) (hx : a.eval x = .bool u) (hb : (!u) = b)
    (h : wpQuiet Tryd.prog ops C Q rest (a.put d (.bool b))) : wpQuiet Tryd.prog ops C Q (⟨d, .unOp .not 4 x, ty, p, af, gd⟩ :: rest) a :=
  q_op hw (fun w _ => by
    unfold Oper.quietAt execOp
    have : (Op.unary .not (.bool u)).run Tryd.prog w = .ok (.bool b) w := by subst hb; simp [go_sem]
    simp only [hx, Sem.run_bind, this, Sem.run_pure, Result.andThen_ok]
    exact ⟨rfl, rfl⟩) h
/-- is it a function of the program's own -/
def Own (F : Nat) : Prop := ∃ fn, Tryd.prog.funcs[F]? = some fn ∧ (fn.name == "runtime.NumGoroutine") = false ∧ fn.body.isNone = false
theorem run_own {F : Nat} (h : Own F) (args : Array Value) (w : World) : (callFunc F args).run Tryd.prog w = .ok (.enter F args) w := by
  obtain ⟨fn, h1, h2, h3⟩ := h
  simp only [callFunc, Sem.run_bind, run_program, Result.andThen_ok, h1, h2, h3, Bool.false_eq_true, if_false, Sem.run_pure]
theorem q_call {F : Nat} {xs : Array Operand} {ts : Array TypeId} {args : Array Value} {v : Value} (hF : Own F) (hw : Region.wanted ⟨d, .call { callee := .value (.func F), args := xs, argTypes := ts }, ty, p, af, gd⟩ (yielded ops a.tmps) = true)
    (ha' : (xs.toList.map a.eval).toArray = args) (hc : ∀ w, C w → Calls Tryd.prog F args w fun e w' => e = .returned v ∧ C w')
    (h : wpQuiet Tryd.prog ops C Q rest (a.put d v)) : wpQuiet Tryd.prog ops C Q (⟨d, .call { callee := .value (.func F), args := xs, argTypes := ts }, ty, p, af, gd⟩ :: rest) a :=
  q_op hw (fun w hC => by
    unfold Oper.quietAt execOp
    have ha : xs.map a.eval = args := by rw [← ha']; exact Array.ext' (by rw [Array.toList_map])
    have e : a.eval (.func F) = .func (.func F) #[] #[] := rfl
    simp only [resolve, e, ha, Deferred.ofValue, invoke, Sem.run_bind, Sem.run_pure, Result.andThen_ok]
    have e2 : (#[] ++ args : Array Value) ++ #[] = args := by simp
    rw [e2, run_own hF]
    exact ⟨rfl, hc w hC⟩) h
end
theorem own9 : Own 9 := ⟨_, Tryd.func9, by kernel_rfl, by kernel_rfl⟩
theorem own10 : Own 10 := ⟨_, Tryd.func10, by kernel_rfl, by kernel_rfl⟩
theorem own12 : Own 12 := ⟨_, Tryd.func12, by kernel_rfl, by kernel_rfl⟩
theorem own13 : Own 13 := ⟨_, Tryd.func13, by kernel_rfl, by kernel_rfl⟩
theorem own15 : Own 15 := ⟨_, Tryd.func15, by kernel_rfl, by kernel_rfl⟩
theorem own17 : Own 17 := ⟨_, Tryd.func17, by kernel_rfl, by kernel_rfl⟩
theorem own19 : Own 19 := ⟨_, Tryd.func19, by kernel_rfl, by kernel_rfl⟩
theorem own21 : Own 21 := ⟨_, Tryd.func21, by kernel_rfl, by kernel_rfl⟩
theorem own23 : Own 23 := ⟨_, Tryd.func23, by kernel_rfl, by kernel_rfl⟩
theorem own24 : Own 24 := ⟨_, Tryd.func24, by kernel_rfl, by kernel_rfl⟩
theorem own26 : Own 26 := ⟨_, Tryd.func26, by kernel_rfl, by kernel_rfl⟩
theorem own28 : Own 28 := ⟨_, Tryd.func28, by kernel_rfl, by kernel_rfl⟩
theorem own30 : Own 30 := ⟨_, Tryd.func30, by kernel_rfl, by kernel_rfl⟩
theorem own32 : Own 32 := ⟨_, Tryd.func32, by kernel_rfl, by kernel_rfl⟩
theorem own34 : Own 34 := ⟨_, Tryd.func34, by kernel_rfl, by kernel_rfl⟩
theorem own35 : Own 35 := ⟨_, Tryd.func35, by kernel_rfl, by kernel_rfl⟩
theorem own36 : Own 36 := ⟨_, Tryd.func36, by kernel_rfl, by kernel_rfl⟩

theorem load_blk {w : World} {g : Nat} {cs : Array Value} (h : Blk w g cs) (hl : g < w.heap.size) : ∀ w', Cl w w' → Blk w' g cs := fun _ hc => hc.blk h hl
theorem call_cl {F : Nat} {args : Array Value} {v : Value} {w : World} (h : ∀ w, Calls Tryd.prog F args w fun e w' => e = .returned v ∧ Below w.heap.size w w') : ∀ w', Cl w w' → Calls Tryd.prog F args w' fun e w'' => e = .returned v ∧ Cl w w'' :=
  fun w' hc => (h w').mono fun _ _ ⟨he, hb⟩ => ⟨he, hc.trans hb⟩
/-- is one set within another one -/
def withinB (a b : Nat) : Bool := decide (a ||| b = b)
set_option maxHeartbeats 1000000 in
theorem Within (a b : Nat) (ha : Small a) (hb : Small b) (w : World) : Calls Tryd.prog 32 #[.agg (ofF (wd a)), .agg (ofF (wd b))] w fun e w' => e = .returned (.bool (withinB a b)) ∧ Below w.heap.size w w' := by
  have hs : sameF (wd (a ||| b)) (wd b) = withinB a b := sameF_wd (small_or ha hb) hb
  have HS := Lib.hid hs
  clear hs
  go_enter Tryd.func32, Tryd.ntmps32
  go_upto_region 1 with fail
  refine gen_world (fun w1 => Below w.heap.size w w1 ∧ w1.heap.size = w.heap.size + 2 ∧ Blk w1 w.heap.size (ofF (wd a)) ∧ Blk w1 (w.heap.size + 1) (ofF (wd b))) ⟨below2 w _ _, by simp, heap_alloc2_old w _ _, heap_alloc2_new w _ _⟩ ?_
  rintro w1 ⟨hbw, hz, h1, h2⟩
  refine q_region (by kernel_rfl) ?_
  refine q_load (g := w.heap.size) (f := wd a) rfl rfl (load_blk h1 (by omega)) ?_
  refine q_load (g := w.heap.size + 1) (f := wd b) rfl rfl (load_blk h2 (by omega)) ?_
  refine q_call own24 rfl (args := #[.agg (ofF (wd a)), .agg (ofF (wd b))]) (v := .agg (ofF (wd (a ||| b)))) rfl (call_cl (Or a b)) ?_
  refine q_load (g := w.heap.size + 1) (f := wd b) rfl rfl (load_blk h2 (by omega)) ?_
  refine q_eql27 (f := wd (a ||| b)) (g := wd b) (b := withinB a b) rfl rfl rfl HS.out ?_
  refine q_assign (v := .bool (withinB a b)) rfl rfl ?_
  refine wpQuiet_nil ?_
  intro w2 hc
  have hb2 : Below w.heap.size w w2 := Cl.trans (w := w) hbw hc
  clear hc HS
  go_wp2
  go_ret
  exact ⟨rfl, hb2⟩
end Go.Proofs.YtabdhmfjbielaaaDoor
