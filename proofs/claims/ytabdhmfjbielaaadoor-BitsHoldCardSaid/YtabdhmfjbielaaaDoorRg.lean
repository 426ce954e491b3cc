/- PROVED here: more steps that only read, of a region whose order is left open. No condition but those in each theorem's own head. -/
import Derived.Test.YtabdhmfjbielaaaDoorRf
namespace Go.Proofs.YtabdhmfjbielaaaDoor
open Go Go.RowKit
section
variable {S : World → Prop} {a : Act} {o : Oper}
theorem y_field {x : Operand} {g : Nat} (ho : o.op = .fieldAddr 30 x 0) (hx : a.eval x = .pointer (some ⟨g, 0, none⟩)) : ∀ w, S w → (execOp a.eval o).run Tryd.prog w = .ok (.value (.pointer (some ⟨g, 0, none⟩))) w := fun w _ => by
  have h := under30
  unfold execOp
  simp only [ho, hx]
  simp [go_sem]
theorem y_load22 {x : Operand} {g : Nat} {v : Value} (ho : o.op = .load 22 x) (hx : a.eval x = .pointer (some ⟨g, 0, none⟩)) (hg : ∀ w, S w → w.cell? ⟨g, 0, none⟩ = some v) : ∀ w, S w → (execOp a.eval o).run Tryd.prog w = .ok (.value v) w := fun w hS => by
  have h := hg w hS
  unfold execOp
  simp only [ho, hx]
  simp [go_sem, h]
theorem y_sliceH {x y : Operand} {A : Option Addr} {n c k : Nat} (ho : o.op = .slice 22 x none (some y) none) (hx : a.eval x = .slice A n c) (hy : a.eval y = .int .i64 (k : Int)) (hk : k ≤ c) : ∀ w, S w → (execOp a.eval o).run Tryd.prog w = .ok (.value (.slice A k c)) w := fun w _ => by
  have hk' : (k : Int) ≤ (c : Int) := by omega
  unfold execOp
  simp only [ho, hx, hy, Option.map_some, Option.map_none]
  simp [go_sem, hk']
theorem y_sliceL {x y : Operand} {A : Option Addr} {n c k : Nat} (ho : o.op = .slice 22 x (some y) none none) (hx : a.eval x = .slice A n c) (hy : a.eval y = .int .i64 (k : Int)) (hk : k ≤ n) : ∀ w, S w → (execOp a.eval o).run Tryd.prog w = .ok (.value (.slice (if c = k then A else A.map (·.add k)) (n - k) (c - k))) w := fun w _ => by
  have hk' : (k : Int) ≤ (n : Int) := by omega
  unfold execOp
  simp only [ho, hx, hy, Option.map_some, Option.map_none]
  simp [go_sem, hk']
theorem y_build30 {x : Operand} {A : Option Addr} {n c : Nat} (ho : o.op = .build 30 #[(0, x)]) (hx : a.eval x = .slice A n c) : ∀ w, S w → (execOp a.eval o).run Tryd.prog w = .ok (.value (.agg #[.slice A n c])) w := fun w _ => by
  have h := under30
  unfold execOp
  simp only [ho, hx, List.map_toArray, List.map_cons, List.map_nil]
  simp [go_sem]
end
end Go.Proofs.YtabdhmfjbielaaaDoor
