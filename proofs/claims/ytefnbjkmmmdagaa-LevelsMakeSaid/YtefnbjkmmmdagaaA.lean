/- PROVED here: words for memory; contracts of bit, isLetter, isDigit, pick. No condition but those in each theorem's own head. -/
import Derived.Test.YtefnbjkmmmdagaaProg
import Derived.Tactics
import Derived.Tactics2
import Derived.WalkKit
import Derived.IntWalk
import Derived.KernelRfl
import Derived.Lib.Hide
import Derived.Below
import Derived.Deep.Draws
import Derived.Deep.QuietTactic
import Derived.BigQuiet
import Derived.StillTailTactics
import Derived.Deep.DeepCutAuto
import Derived.Laws.OwnMore
import Derived.Laws.Rows
import Derived.Laws.BitsAllLaws
import Derived.Laws.BitsLemmas
import Derived.OrdersHeld
import Derived.Deep.RegionWith
import Derived.Maps.AppendAt
namespace Go.Proofs.Ytefnbjkmmmdagaa
open Go Go.RowKit

theorem ret_int {k : IntKind} {a b : Int} (h : a = b) : Ending.returned (.int k a) = .returned (.int k b) := by rw [h]
theorem ret_bool {a b : Bool} (h : a = b) : Ending.returned (.bool a) = .returned (.bool b) := by rw [h]
theorem gen_world {P : Program} {c : Code} {Q : Exit → Act → World → Prop} {a : Act} {w : World} (R : World → Prop) (h : R w) (k : ∀ w', R w' → Code.wp P c Q a w') : Code.wp P c Q a w := k w h
theorem heap1 (w : World) (A : Obj) : Below w.heap.size w (w.alloc A) := (Below.refl _ _).alloc (Nat.le_refl _) _
theorem bt {a b c : World} (h : Below a.heap.size a b) (k : Below b.heap.size b c) : Below a.heap.size a c := h.trans (k.mono h.size)
theorem below_drewN {B : Nat} {a w : World} (h : Below B a w) (n : Nat) : Below B a (w.drewN n) := ⟨h.os, h.tape, h.output, h.size, h.block⟩

/-- the bit of a number -/
theorem bit_any (n : Nat) (hn : n < 32) (w : World) : Calls Try.prog 36 #[.int .i64 (n : Int)] w fun e w' => e = .returned (.int .u32 ((2 ^ n : Nat) : Int)) ∧ w = w' := by
  have hp : 2 ^ n < 4294967296 := by
    have : (2 : Nat) ^ n < 2 ^ 32 := Nat.pow_lt_pow_right (by omega) hn
    simpa using this
  go_enter Try.func36, Try.ntmps36
  go_wp2
  go_ret
  refine ⟨ret_int ?_, rfl⟩
  have e : ((2 ^ n : Nat) : Int) = 2 ^ n := by simp
  rw [← e]
  generalize 2 ^ n = p at *
  omega
def letB (c : UInt8) : Bool := decide (97 ≤ c.toNat) && decide (c.toNat ≤ 122)
def digB (c : UInt8) : Bool := decide (48 ≤ c.toNat) && decide (c.toNat ≤ 57)
theorem letter_any (c : UInt8) (w : World) : Calls Try.prog 44 #[.int .u8 (c.toNat : Int)] w fun e w' => e = .returned (.bool (letB c)) ∧ w = w' := by
  by_cases h1 : 97 ≤ (c.toNat : Int)
  · by_cases h2 : (c.toNat : Int) ≤ 122
    · have hb : letB c = true := by unfold letB; rw [decide_eq_true (by omega), decide_eq_true (by omega)]; rfl
      rw [hb]; clear hb
      go_enter Try.func44, Try.ntmps44
      go_wp2
      go_ret
      simp
    · have hb : letB c = false := by unfold letB; rw [decide_eq_true (by omega), decide_eq_false (by omega)]; rfl
      rw [hb]; clear hb
      go_enter Try.func44, Try.ntmps44
      go_wp2
      go_ret
      simp
  · have hb : letB c = false := by unfold letB; rw [decide_eq_false (by omega)]; rfl
    rw [hb]; clear hb
    go_enter Try.func44, Try.ntmps44
    go_wp2
    go_ret
    simp
theorem digit_any (c : UInt8) (w : World) : Calls Try.prog 45 #[.int .u8 (c.toNat : Int)] w fun e w' => e = .returned (.bool (digB c)) ∧ w = w' := by
  by_cases h1 : 48 ≤ (c.toNat : Int)
  · by_cases h2 : (c.toNat : Int) ≤ 57
    · have hb : digB c = true := by unfold digB; rw [decide_eq_true (by omega), decide_eq_true (by omega)]; rfl
      rw [hb]; clear hb
      go_enter Try.func45, Try.ntmps45
      go_wp2
      go_ret
      simp
    · have hb : digB c = false := by unfold digB; rw [decide_eq_true (by omega), decide_eq_false (by omega)]; rfl
      rw [hb]; clear hb
      go_enter Try.func45, Try.ntmps45
      go_wp2
      go_ret
      simp
  · have hb : digB c = false := by unfold digB; rw [decide_eq_false (by omega)]; rfl
    rw [hb]; clear hb
    go_enter Try.func45, Try.ntmps45
    go_wp2
    go_ret
    simp
/-- which of n things a number speaks of -/
def pickF (c : Int) (n : Nat) : Nat := (if c < 0 then -(c + 1) else c).toNat % n
theorem pickF_lt (c : Int) (n : Nat) (hn : 0 < n) : pickF c n < n := Nat.mod_lt _ hn
theorem pick_any (c : Int) (n : Nat) (hn : 0 < n) (hn2 : n ≤ 1000) (hc1 : -9223372036854775808 ≤ c) (hc2 : c ≤ 9223372036854775807) (w : World) : Calls Try.prog 32 #[.int .i64 c, .int .i64 (n : Int)] w fun e w' => e = .returned (.int .i64 (pickF c n : Int)) ∧ w = w' := by
  by_cases h : c < 0
  · have e : ((pickF c n : Nat) : Int) = (-(c + 1)) % (n : Int) := by
      unfold pickF; rw [if_pos h]
      obtain ⟨m, hm⟩ : ∃ m : Nat, -(c + 1) = m := ⟨(-(c + 1)).toNat, by omega⟩
      rw [hm]; simp
    rw [e]; clear e
    go_enter Try.func32, Try.ntmps32
    go_wp2
    go_ret
    exact ⟨ret_int (by rw [← Int.neg_tmod, Int.tmod_eq_emod_of_nonneg (by omega)]), rfl⟩
  · have e : ((pickF c n : Nat) : Int) = c % (n : Int) := by
      unfold pickF; rw [if_neg h]
      obtain ⟨m, hm⟩ : ∃ m : Nat, c = m := ⟨c.toNat, by omega⟩
      rw [hm]; simp
    rw [e]; clear e
    go_enter Try.func32, Try.ntmps32
    go_wp2
    go_ret
    exact ⟨rfl, rfl⟩
end Go.Proofs.Ytefnbjkmmmdagaa
