/- PROVED here: the contract of Count. No condition but those in each theorem's own head. -/
import Derived.Test.YtabdhmfjbielaaaDoorD
namespace Go.Proofs.YtabdhmfjbielaaaDoor
open Go Go.RowKit
theorem under25 : Tryd.prog.underlying 25 = some (.array (Tryd.prog.arrayLen 25) (Tryd.prog.elem 25)) := by kernel_rfl
theorem size25 : (Tryd.prog.info? 25).map (·.size) = some 64 := by kernel_rfl
theorem load_lit25 {ops : Array Oper} {rest : List Oper} {d : Option Tmp} {ty : TypeId} {p : String} {af : Array Edge} {x : Operand} {a : Act} {w : World} {Q : Exit → Act → World → Prop}
    {g : Nat} {f : Nat → Nat} (hx : a.eval x = .pointer (some ⟨g, 0, none⟩)) (hg : Blk w g (ofF f)) (h : wpList Tryd.prog ops Q rest (a.put d (.agg (ofF f))) w) :
    wpList Tryd.prog ops Q (⟨d, .load 25 x, ty, p, af, none⟩ :: rest) a w :=
  wpList_load_row rfl 25 x rfl g hx 27 (ofF f) (0, 0) _ hg under25 rfl (by rw [ofF_size]; exact size25) h

theorem lit25 : Tryd.prog.underlying 25 = some (.array 64 24) := by kernel_rfl
theorem lit24 : Tryd.prog.underlying 24 = some (.int .u64) := by kernel_rfl
theorem size24 : (Tryd.prog.info? 24).map (·.size) = some 1 := by kernel_rfl
/-- a word of an array's value -/
theorem run_index25 (f : Nat → Nat) (k : Nat) (hk : k < 64) (w : World) : (Instr.index 25 (.agg (ofF f)) (.int .i64 (k : Int))).run Tryd.prog w = .ok (.int .u64 (f k : Int)) w := by
  have h : 0 ≤ (k : Int) ∧ (k : Int) < 64 := by omega
  have hz := size24
  cases hq : Tryd.prog.info? 24 with
  | none => rw [hq] at hz; cases hz
  | some i =>
    rw [hq] at hz
    have hz' : i.size = 1 := by simpa using hz
    simp [Instr.index, asIntOf, run_underlying lit25, run_underlying lit24, isAgg, part, sizeOf, typeInfo, hq, hz', ofF_get f k hk]
    omega

/-- how many bits the first k words have -/
def cntK (s : Nat) : Nat → Nat
  | 0 => 0
  | k + 1 => cntK s k + popK 64 (wd s k)
theorem popK_le : ∀ (k x : Nat), popK k x ≤ k
  | 0, _ => Nat.le_refl _
  | k + 1, x => by have := popK_le k (x / 2); simp only [popK]; omega
theorem cntK_le (s : Nat) : ∀ k, cntK s k ≤ 64 * k
  | 0 => Nat.le_refl _
  | k + 1 => by have := cntK_le s k; have := popK_le 64 (wd s k); simp only [cntK]; omega

set_option maxHeartbeats 1000000 in
theorem Count (s : Nat) (w : World) : Calls Tryd.prog 34 #[.agg (ofF (wd s))] w fun e w' => e = .returned (.int .i64 (cntK s 64 : Int)) ∧ Below w.heap.size w w' := by
  go_enter Tryd.func34, Tryd.ntmps34
  go_upto_region 2 with fail
  refine gen_world (fun w1 => Below w.heap.size w w1 ∧ Blk w1 w.heap.size (ofF (wd s))) ⟨(Below.refl _ _).alloc (Nat.le_refl _) _, heap_alloc_new w _⟩ ?_
  rintro w1 ⟨hb, h1⟩
  go_wp2_with (first | ((with_reducible apply load_lit25); (exact rfl); assumption))
  go_loop [3, 8] (fun c i => ∃ k : Nat, k ≤ 64 ∧ i = .int .i64 k ∧ c = .int .i64 (cntK s k : Int)) (fun _ i => 64 - (intOf i).toNat)
  case atStart => exact ⟨0, by omega, rfl, rfl⟩
  case round =>
    obtain ⟨k, hk, rfl, rfl⟩ := hrel
    by_cases hlt : k < 64
    · have hlz : (k : Int) < 64 := by omega
      have hg := run_index25 (wd s) k hlt w1
      have hc := cntK_le s k
      have hp := popK_le 64 (wd s k)
      go_wp2_with (first | (go_at_call 45; refine (Ones _ (wd_lt _ _) _).mono ?_; rintro e w' ⟨rfl, rfl⟩))
      go_round
      case rel => exact ⟨k + 1, by omega, by go_num, by simp only [cntK]; go_num⟩
      case measure => simp [intOf]; omega
    · have hlz : ¬ (k : Int) < 64 := by omega
      obtain rfl : k = 64 := by omega
      go_wp2
      go_ret
      exact ⟨rfl, hb⟩
end Go.Proofs.YtabdhmfjbielaaaDoor
