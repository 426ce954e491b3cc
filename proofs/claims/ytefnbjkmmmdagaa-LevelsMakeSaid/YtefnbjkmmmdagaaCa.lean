/- PROVED here: the contract of samePairs at two slices that hold the same pairs of numbers. No condition but those in each theorem's own head. -/
import Derived.Test.YtefnbjkmmmdagaaCb
namespace Go.Proofs.Ytefnbjkmmmdagaa
open Go Go.RowKit
section
variable {S : World → Prop} {a : Act} {o : Oper}
theorem y_index41 {x y : Operand} {b off n c k : Nat} (ho : o.op = .indexAddr 41 x y) (hx : a.eval x = .slice (some ⟨b, off, none⟩) n c) (hy : a.eval y = .int .i64 (k : Int)) (hk : k < n) : ∀ w, S w → (execOp a.eval o).run Try.prog w = .ok (.value (.pointer (some ⟨b, off + k * 2, none⟩))) w := fun w _ => by
  unfold execOp
  simp only [ho, hx, hy, Sem.run_bind, run_index41 b off n c k hk, Sem.run_pure, Result.andThen_ok]
theorem y_load46 {x : Operand} {b off : Nat} {u v : Value} (ho : o.op = .load 46 x) (hx : a.eval x = .pointer (some ⟨b, off, none⟩)) (h1 : ∀ w, S w → w.cell? ⟨b, off, none⟩ = some u) (h2 : ∀ w, S w → w.cell? ⟨b, off + 1, none⟩ = some v) : ∀ w, S w → (execOp a.eval o).run Try.prog w = .ok (.value (.agg #[u, v])) w := fun w hS => by
  unfold execOp
  simp only [ho, hx, Sem.run_bind, run_load46 (h1 w hS) (h2 w hS), Sem.run_pure, Result.andThen_ok]
theorem y_neq46 {x y : Operand} {u v : Int} (ho : o.op = .binOp .neq 46 x y 46) (hx : a.eval x = .agg #[.int .i64 u, .int .i64 v]) (hy : a.eval y = .agg #[.int .i64 u, .int .i64 v]) : ∀ w, S w → (execOp a.eval o).run Try.prog w = .ok (.value (.bool false)) w :=
  y_bin ho hx hy (fun w => by simp [go_sem]) (fun w => run_neq46 u v w)
end
set_option maxRecDepth 100000 in
set_option maxHeartbeats 2000000 in
theorem same_any (A B : Option Addr) (c d : Nat) (l : List (Nat × Nat)) (w : World) (hl : l.length ≤ 256) (hA : Nps w A l) (hB : Nps w B l) :
    Calls Try.prog 29 #[.slice A l.length c, .slice B l.length d] w fun e w' => e = .returned (.bool true) ∧ ∃ k, w' = w.drewN k := by
  have HA := Lib.hid hA
  have HB := Lib.hid hB
  clear hA hB
  go_enter Try.func29, Try.ntmps29
  go_upto_region 4 with fail
  go_loopw [5] (fun i wr => ∃ k : Nat, k ≤ l.length ∧ i = .int .i64 (k : Int) ∧ ∃ q, wr = w.drewN q) (fun i _ => l.length - (intOf i).toNat)
  case atStart => exact ⟨0, by omega, rfl, 0, rfl⟩
  case round =>
    obtain ⟨k, hk, rfl, q, rfl⟩ := hrel
    by_cases hlt : k < l.length
    · have hlz : (k : Int) < (l.length : Int) := by omega
      obtain ⟨b1, o1, rfl, hb1, hc1⟩ := HA.out (by omega)
      obtain ⟨b2, o2, rfl, hb2, hc2⟩ := HB.out (by omega)
      obtain ⟨c1, c2⟩ := hc1 k hlt
      obtain ⟨c3, c4⟩ := hc2 k hlt
      clear hc1 hc2
      generalize l[k].1 = x at *
      generalize l[k].2 = y at *
      go_upto_region 6 with fail
      refine wp_region_held (S := fun w' => w'.cell? ⟨b1, o1 + k * 2, none⟩ = some (.int .i64 (x : Int)) ∧ w'.cell? ⟨b1, o1 + k * 2 + 1, none⟩ = some (.int .i64 (y : Int)) ∧ w'.cell? ⟨b2, o2 + k * 2, none⟩ = some (.int .i64 (x : Int)) ∧ w'.cell? ⟨b2, o2 + k * 2 + 1, none⟩ = some (.int .i64 (y : Int))) (by kernel_rfl) ?_
      have hS : (w.drewN (q + 1)).cell? ⟨b1, o1 + k * 2, none⟩ = some (.int .i64 (x : Int)) ∧ (w.drewN (q + 1)).cell? ⟨b1, o1 + k * 2 + 1, none⟩ = some (.int .i64 (y : Int)) ∧ (w.drewN (q + 1)).cell? ⟨b2, o2 + k * 2, none⟩ = some (.int .i64 (x : Int)) ∧ (w.drewN (q + 1)).cell? ⟨b2, o2 + k * 2 + 1, none⟩ = some (.int .i64 (y : Int)) := ⟨c1, c2, c3, c4⟩
      refine h_pure 0 ({ dst := some 17, op := Op.move (Operand.tmp 0), type := 41, pos := "law.go:35", after := #[], guard := none } : Oper) (.slice (some ⟨b1, o1, none⟩) l.length c) (by kernel_rfl) rfl (by kernel_rfl) (by kernel_rfl) (fun _ _ _ h => h) rfl (y_move rfl rfl) hS ?_
      simp only [Act.put, List.setIfInBounds_toArray, List.set_cons_zero, List.set_cons_succ]
      refine h_pure 1 ({ dst := some 18, op := Op.move (Operand.tmp 5), type := 3, pos := "law.go:35", after := #[], guard := none } : Oper) (.int .i64 (k : Int)) (by kernel_rfl) rfl (by kernel_rfl) (by kernel_rfl) (fun _ _ _ h => h) rfl (y_move rfl rfl) hS ?_
      simp only [Act.put, List.setIfInBounds_toArray, List.set_cons_zero, List.set_cons_succ]
      refine h_pure 2 ({ dst := some 19, op := Op.indexAddr 41 (Operand.tmp 17) (Operand.tmp 18), type := 0, pos := "law.go:35", after := #[{ on := 0, ground := Ground.data }, { on := 1, ground := Ground.data }], guard := none } : Oper) (.pointer (some ⟨b1, o1 + k * 2, none⟩)) (by kernel_rfl) rfl (by kernel_rfl) (by kernel_rfl) (fun _ _ _ h => h) rfl (y_index41 rfl rfl rfl hlt) hS ?_
      simp only [Act.put, List.setIfInBounds_toArray, List.set_cons_zero, List.set_cons_succ]
      refine h_pure 3 ({ dst := some 20, op := Op.load 46 (Operand.tmp 19), type := 46, pos := "law.go:35", after := #[{ on := 2, ground := Ground.data }], guard := none } : Oper) (.agg #[.int .i64 (x : Int), .int .i64 (y : Int)]) (by kernel_rfl) rfl (by kernel_rfl) (by kernel_rfl) (fun _ _ _ h => h) rfl (y_load46 rfl rfl (fun _ h => h.1) (fun _ h => h.2.1)) hS ?_
      simp only [Act.put, List.setIfInBounds_toArray, List.set_cons_zero, List.set_cons_succ]
      refine h_pure 4 ({ dst := some 21, op := Op.move (Operand.tmp 1), type := 41, pos := "law.go:35", after := #[], guard := none } : Oper) (.slice (some ⟨b2, o2, none⟩) l.length d) (by kernel_rfl) rfl (by kernel_rfl) (by kernel_rfl) (fun _ _ _ h => h) rfl (y_move rfl rfl) hS ?_
      simp only [Act.put, List.setIfInBounds_toArray, List.set_cons_zero, List.set_cons_succ]
      refine h_pure 5 ({ dst := some 22, op := Op.move (Operand.tmp 5), type := 3, pos := "law.go:35", after := #[], guard := none } : Oper) (.int .i64 (k : Int)) (by kernel_rfl) rfl (by kernel_rfl) (by kernel_rfl) (fun _ _ _ h => h) rfl (y_move rfl rfl) hS ?_
      simp only [Act.put, List.setIfInBounds_toArray, List.set_cons_zero, List.set_cons_succ]
      refine h_pure 6 ({ dst := some 23, op := Op.indexAddr 41 (Operand.tmp 21) (Operand.tmp 22), type := 0, pos := "law.go:35", after := #[{ on := 4, ground := Ground.data }, { on := 5, ground := Ground.data }], guard := none } : Oper) (.pointer (some ⟨b2, o2 + k * 2, none⟩)) (by kernel_rfl) rfl (by kernel_rfl) (by kernel_rfl) (fun _ _ _ h => h) rfl (y_index41 rfl rfl rfl hlt) hS ?_
      simp only [Act.put, List.setIfInBounds_toArray, List.set_cons_zero, List.set_cons_succ]
      refine h_pure 7 ({ dst := some 24, op := Op.load 46 (Operand.tmp 23), type := 46, pos := "law.go:35", after := #[{ on := 6, ground := Ground.data }], guard := none } : Oper) (.agg #[.int .i64 (x : Int), .int .i64 (y : Int)]) (by kernel_rfl) rfl (by kernel_rfl) (by kernel_rfl) (fun _ _ _ h => h) rfl (y_load46 rfl rfl (fun _ h => h.2.2.1) (fun _ h => h.2.2.2)) hS ?_
      simp only [Act.put, List.setIfInBounds_toArray, List.set_cons_zero, List.set_cons_succ]
      refine h_pure 8 ({ dst := some 25, op := Op.binOp BinOp.neq 46 (Operand.tmp 20) (Operand.tmp 24) 46, type := 4, pos := "law.go:35", after := #[{ on := 3, ground := Ground.data }, { on := 7, ground := Ground.data }], guard := none } : Oper) (.bool false) (by kernel_rfl) rfl (by kernel_rfl) (by kernel_rfl) (fun _ _ _ h => h) rfl (y_neq46 rfl rfl rfl) hS ?_
      simp only [Act.put, List.setIfInBounds_toArray, List.set_cons_zero, List.set_cons_succ]
      refine wpAnyH_done (by kernel_rfl) ?_ _
      go_wp2
      go_roundw
      case rel => exact ⟨k + 1, by omega, by go_num, q + 1, rfl⟩
      case measure => simp [intOf]; omega
    · have hlz : ¬ (k : Int) < (l.length : Int) := by omega
      go_wp2
      go_ret
      exact ⟨rfl, q, rfl⟩
end Go.Proofs.Ytefnbjkmmmdagaa
