/- PROVED here: the contract of Same. No condition but those in each theorem's own head. -/
import Derived.Test.YtabdhmfjbielaaaDoorE
import Derived.Laws.StructEq
namespace Go.Proofs.YtabdhmfjbielaaaDoor
open Go Go.RowKit

theorem run_part24 (f : Nat → Nat) (k : Nat) (hk : k < 64) (w : World) : (part 24 (ofF f) k).run Tryd.prog w = .ok (.int .u64 (f k : Int)) w := by
  simp [part, isAgg, run_underlying lit24, ofF_get f k hk]
theorem run_size24 (w : World) : (sizeOf 24).run Tryd.prog w = .ok 1 w := by
  have hz := size24
  cases hq : Tryd.prog.info? 24 with
  | none => rw [hq] at hz; cases hz
  | some i =>
    rw [hq] at hz
    have hz' : i.size = 1 := by simpa using hz
    simp [sizeOf, typeInfo, hq, hz']
theorem beq_cast (a b : Nat) : ((a : Int) == (b : Int)) = (a == b) := by
  rw [Bool.eq_iff_iff, beq_iff_eq, beq_iff_eq]; omega
theorem run_eq24 (d : Nat) (a b : Nat) (w : World) : (Op.equalIn (d + 1) 24 (.int .u64 (a : Int)) (.int .u64 (b : Int))).run Tryd.prog w = .ok (a == b) w := by
  rw [run_equalIn_int w d 24 .u64 .u64 _ _ lit24, beq_cast]
theorem run_eq25 (d : Nat) (hd : ∀ (a b : Nat) (w : World), (Op.equalIn d 24 (.int .u64 (a : Int)) (.int .u64 (b : Int))).run Tryd.prog w = .ok (a == b) w) (f g : Nat → Nat) (w : World) :
    (Op.equalIn (d + 1) 25 (.agg (ofF f)) (.agg (ofF g))).run Tryd.prog w = .ok ((List.range 64).all fun i => f i == g i) w := by
  have e : List.range' 0 64 1 = List.range 64 := by decide
  simp only [Op.equalIn, Sem.run_bind, run_underlying lit25, Result.andThen_ok, run_size24, Std.Legacy.Range.forIn_eq_forIn_range', Std.Legacy.Range.size, Nat.sub_zero, Nat.add_one_sub_one, Nat.div_one, e]
  have key : ∀ l : List Nat, (∀ i ∈ l, i < 64) → ((forIn l (none, PUnit.unit) fun i (_ : Option Bool × PUnit) => do
      let a ← part 24 (ofF f) (i * 1)
      let b ← part 24 (ofF g) (i * 1)
      let r ← Op.equalIn d 24 a b
      if (!r) = true then pure (ForInStep.done (some false, PUnit.unit)) else pure (ForInStep.yield (none, PUnit.unit)) : Sem (Option Bool × PUnit)).run Tryd.prog w) =
      .ok (if l.all (fun i => f i == g i) then (none, PUnit.unit) else (some false, PUnit.unit)) w := by
    intro l
    induction l with
    | nil => intro _; simp
    | cons i l ih =>
      intro hl
      have hi : i < 64 := hl i (by simp)
      have ih' := ih (fun j hj => hl j (by simp [hj]))
      simp only [List.forIn_cons, Sem.run_bind, Nat.mul_one, run_part24 f i hi w, run_part24 g i hi w, Result.andThen_ok, hd] at ih' ⊢
      by_cases h : f i = g i
      · simp [h]
        simpa using ih'
      · simp [h]
  have hk := key (List.range 64) (fun i hi => by simpa using hi)
  rw [hk]
  cases (List.range 64).all (fun i => f i == g i) <;> simp

def sameF (f g : Nat → Nat) : Bool := (List.range 64).all fun i => f i == g i
theorem fields27 : (Tryd.prog.fieldsOf 27).toList.map (fun f => (decide (f.name = "_"), f.type, f.offset)) = [(false, 25, 0)] := by kernel_rfl
theorem run_part25 (f : Nat → Nat) (w : World) : (part 25 (ofF f) 0).run Tryd.prog w = .ok (.agg (ofF f)) w := by
  have hz := size25
  cases hq : Tryd.prog.info? 25 with
  | none => rw [hq] at hz; cases hz
  | some i =>
    rw [hq] at hz
    have hz' : i.size = 64 := by simpa using hz
    have hx : (ofF f).extract 0 64 = ofF f := by rw [← ofF_size f]; simp
    simp [part, isAgg, run_underlying lit25, sizeOf, typeInfo, hq, hz', hx]
theorem run_eq27 (f g : Nat → Nat) (w : World) : (Op.equalIn 10000 27 (.agg (ofF f)) (.agg (ofF g))).run Tryd.prog w = .ok (sameF f g) w := by
  rw [show (10000 : Nat) = 9999 + 1 by decide, run_equalIn_struct w 9999 27 _ _ under27 (by kernel_rfl)]
  have hf := fields27
  generalize (Tryd.prog.fieldsOf 27).toList = l at hf
  have hl : l.length = 1 := by simpa using congrArg List.length hf
  obtain ⟨fd, rfl⟩ := List.length_eq_one_iff.1 hl
  simp only [List.map_cons, List.map_nil, List.cons.injEq, Prod.mk.injEq, decide_eq_false_iff_not, and_true] at hf
  obtain ⟨h1, h2, h3⟩ := hf
  have he := run_eq25 9998 (fun a b w => run_eq24 9997 a b w) f g w
  simp only [Op.eqFields, ne_eq, h1, not_false_eq_true, if_true, h2, h3, Sem.run_bind, run_part25, Result.andThen_ok, he]
  cases hb : sameF f g <;> (unfold sameF at hb; simp [hb])
theorem eql_lit {ops : Array Oper} {rest : List Oper} {d : Option Tmp} {ty : TypeId} {p : String} {af : Array Edge} {x y : Operand} {a : Act} {w : World} {Q : Exit → Act → World → Prop}
    {f g : Nat → Nat} (hx : a.eval x = .agg (ofF f)) (hy : a.eval y = .agg (ofF g)) (h : wpList Tryd.prog ops Q rest (a.put d (.bool (sameF f g))) w) :
    wpList Tryd.prog ops Q (⟨d, .binOp .eql 27 x y 27, ty, p, af, none⟩ :: rest) a w :=
  wpList_plain rfl fun K hK => by
    have hg : (eqGuard .eql 27 x y (.agg (ofF f)) (.agg (ofF g))).run Tryd.prog w = .ok () w := run_eqGuard_agg w .eql 27 x y _ _ (by kernel_rfl)
    have he : (binOp .eql 27 (.agg (ofF f)) (.agg (ofF g))).run Tryd.prog w = .ok (.bool (sameF f g)) w := by rw [run_eql_struct, run_eq27]; rfl
    unfold Oper.wp execOp
    simp only [hx, hy, Sem.run_bind, hg, he, Sem.run_pure, Result.andThen_ok]
    exact hK _ _ h

/-- are two sets the same -/
def sameB (a b : Nat) : Bool := decide (a = b)
theorem sameF_wd {a b : Nat} (ha : Small a) (hb : Small b) : sameF (wd a) (wd b) = sameB a b := by
  unfold sameF sameB
  rw [Bool.eq_iff_iff, List.all_eq_true]
  simp only [List.mem_range, beq_iff_eq, decide_eq_true_eq]
  exact ⟨fun h => wd_ext ha hb h, fun h => by subst h; exact fun _ _ => rfl⟩
theorem below2 (w : World) (A B : Obj) : Below w.heap.size w ((w.alloc A).alloc B) := ((Below.refl _ _).alloc (Nat.le_refl _) _).alloc (by simp) _
theorem Same (a b : Nat) (ha : Small a) (hb : Small b) (w : World) : Calls Tryd.prog 30 #[.agg (ofF (wd a)), .agg (ofF (wd b))] w fun e w' => e = .returned (.bool (sameB a b)) ∧ Below w.heap.size w w' := by
  rw [← sameF_wd ha hb]
  clear ha hb
  go_enter Tryd.func30, Tryd.ntmps30
  go_upto_region 1 with fail
  refine gen_world (fun w1 => Below w.heap.size w w1 ∧ Blk w1 w.heap.size (ofF (wd a)) ∧ Blk w1 (w.heap.size + 1) (ofF (wd b))) ⟨below2 w _ _, heap_alloc2_old w _ _, heap_alloc2_new w _ _⟩ ?_
  rintro w1 ⟨hb, h1, h2⟩
  go_wp2_with (first | ((with_reducible apply load_lit); (exact rfl); assumption) | ((with_reducible apply eql_lit); (exact rfl); (exact rfl)))
  go_ret
  exact ⟨rfl, hb⟩
end Go.Proofs.YtabdhmfjbielaaaDoor
