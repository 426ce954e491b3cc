/- PROVED here: steps at a slice of pairs of numbers. No condition but those in each theorem's own head. -/
import Derived.Test.YtefnbjkmmmdagaaN
import Derived.Test.YtefnbjkmmmdagaaZ
namespace Go.Proofs.Ytefnbjkmmmdagaa
open Go Go.RowKit
theorem run_index41 (b off n c k : Nat) (hk : k < n) (w : World) : (Instr.indexAt 41 (.slice (some ⟨b, off, none⟩) n c) (.int .i64 (k : Int))).run Try.prog w = .ok (.pointer (some ⟨b, off + k * 2, none⟩)) w := by
  have h41 : Try.prog.underlying 41 = some (.slice (Try.prog.elem 41)) := by kernel_rfl
  have hz : (Try.prog.info? 46).map (·.size) = some 2 := by kernel_rfl
  have hlt : (k : Int) < (n : Int) := by omega
  rw [run_indexAt_slice w 41 _ n c .i64 _ h41]
  cases hq : Try.prog.info? 46 with
  | none => rw [hq] at hz; cases hz
  | some i =>
    rw [hq] at hz
    have hz' : i.size = 2 := by simpa using hz
    simp [go_sem, sizeOf, typeInfo, hq, hz', hlt]
theorem under46 : Try.prog.underlying 46 = some (.array 2 3) := by kernel_rfl
theorem run_load46 {b off : Nat} {x y : Value} {w : World} (h1 : w.cell? ⟨b, off, none⟩ = some x) (h2 : w.cell? ⟨b, off + 1, none⟩ = some y) : (Instr.loadAt 46 (.pointer (some ⟨b, off, none⟩))).run Try.prog w = .ok (.agg #[x, y]) w :=
  run_loadAt_mid w b off 46 [x, y] (.array 2 3) (fun j v hv => by
    match j, hv with
    | 0, hv => simp at hv; subst hv; exact h1
    | 1, hv => simp at hv; subst hv; exact h2) under46 rfl (by kernel_rfl)
theorem size3 (w : World) : (sizeOf 3).run Try.prog w = .ok 1 w := by kernel_rfl
theorem part0 (x y : Int) (w : World) : (part 3 #[.int .i64 x, .int .i64 y] 0).run Try.prog w = .ok (.int .i64 x) w := by kernel_rfl
theorem part1 (x y : Int) (w : World) : (part 3 #[.int .i64 x, .int .i64 y] 1).run Try.prog w = .ok (.int .i64 y) w := by kernel_rfl
theorem run_neq46 (x y : Int) (w : World) : (binOp .neq 46 (.agg #[.int .i64 x, .int .i64 y]) (.agg #[.int .i64 x, .int .i64 y])).run Try.prog w = .ok (.bool false) w := by
  have h : (Op.equalIn 10000 46 (.agg #[.int .i64 x, .int .i64 y]) (.agg #[.int .i64 x, .int .i64 y])).run Try.prog w = .ok true w := by
    rw [Op.equalIn]
    simp only [Sem.run_bind, run_underlying under46, Result.andThen_ok, size3]
    have hr : List.range' 0 2 = [0, 1] := rfl
    have e3 := fun (a : Int) (w : World) => run_equalIn_int (P := Try.prog) w 9998 3 .i64 .i64 a a Try.underlying3
    simp [Std.Legacy.Range.forIn_eq_forIn_range', hr, List.forIn_cons, part0, part1, e3]
  simp [go_sem, h]
end Go.Proofs.Ytefnbjkmmmdagaa
