/- PROVED here: contracts of isSpace, isComment, isDigit, isWordByte, and of the document's digit and part. No condition but those in each theorem's own head. -/
import Derived.Test.YtahmadelokofbaaDoorProg
import Derived.Tactics
import Derived.Tactics2
import Derived.WalkKit
import Derived.IntWalk
import Derived.KernelRfl
import Derived.Lib.Hide
import Derived.Below
import Derived.Deep.Draws
import Derived.Deep.QuietTactic
import Derived.BigQuiet
import Derived.StillTailTactics
import Derived.Deep.DeepCutAuto
import Derived.Laws.OwnMore
import Derived.Laws.Rows
import Derived.OrdersHeld
import Derived.Deep.RegionWith
import Derived.Maps.AppendAt
namespace Go.Proofs.YtahmadelokofbaaDoor
open Go Go.RowKit

theorem ret_int {k : IntKind} {a b : Int} (h : a = b) : Ending.returned (.int k a) = .returned (.int k b) := by rw [h]
theorem ret_bool {a b : Bool} (h : a = b) : Ending.returned (.bool a) = .returned (.bool b) := by rw [h]
theorem gen_world {P : Program} {c : Code} {Q : Exit → Act → World → Prop} {a : Act} {w : World} (R : World → Prop) (h : R w) (k : ∀ w', R w' → Code.wp P c Q a w') : Code.wp P c Q a w := k w h
theorem heap1 (w : World) (A : Obj) : Below w.heap.size w (w.alloc A) := (Below.refl _ _).alloc (Nat.le_refl _) _
theorem bt {a b c : World} (h : Below a.heap.size a b) (k : Below b.heap.size b c) : Below a.heap.size a c := h.trans (k.mono h.size)
theorem below_drewN {B : Nat} {a w : World} (h : Below B a w) (n : Nat) : Below B a (w.drewN n) := ⟨h.os, h.tape, h.output, h.size, h.block⟩

def spB (c : UInt8) : Bool := c.toNat == 32 || c.toNat == 9 || c.toNat == 10
def cmB (c : UInt8) : Bool := c.toNat == 35
def dgB (c : UInt8) : Bool := decide (48 ≤ c.toNat) && decide (c.toNat ≤ 57)
def wdB (c : UInt8) : Bool := decide (97 ≤ c.toNat) && decide (c.toNat ≤ 122) || decide (65 ≤ c.toNat) && decide (c.toNat ≤ 90) || dgB c || c.toNat == 95

theorem space_any (c : UInt8) (w : World) : Calls Tryd.prog 24 #[.int .u8 (c.toNat : Int)] w fun e w' => e = .returned (.bool (spB c)) ∧ w = w' := by
  by_cases h1 : (c.toNat : Int) = 32
  · have hb : spB c = true := by unfold spB; simp; omega
    have q1 : ((c.toNat : Int) == 32) = true := by simpa using h1
    rw [hb]; clear hb h1
    go_enter Tryd.func24, Tryd.ntmps24
    go_wp2
    go_ret
    simp
  · have q1 : ((c.toNat : Int) == 32) = false := by simpa using h1
    by_cases h2 : (c.toNat : Int) = 9
    · have hb : spB c = true := by unfold spB; simp; omega
      have q2 : ((c.toNat : Int) == 9) = true := by simpa using h2
      rw [hb]; clear hb h1 h2
      go_enter Tryd.func24, Tryd.ntmps24
      go_wp2
      go_ret
      simp
    · have q2 : ((c.toNat : Int) == 9) = false := by simpa using h2
      have hb : spB c = ((c.toNat : Int) == 10) := by
        unfold spB; rw [Bool.eq_iff_iff]; simp; omega
      rw [hb]; clear hb h1 h2
      generalize hq : ((c.toNat : Int) == 10) = b at *
      go_enter Tryd.func24, Tryd.ntmps24
      go_wp2
      go_ret
      simp
theorem comment_any (c : UInt8) (w : World) : Calls Tryd.prog 25 #[.int .u8 (c.toNat : Int)] w fun e w' => e = .returned (.bool (cmB c)) ∧ w = w' := by
  have hb : cmB c = ((c.toNat : Int) == 35) := by unfold cmB; rw [Bool.eq_iff_iff]; simp; omega
  rw [hb]; clear hb
  generalize hq : ((c.toNat : Int) == 35) = b at *
  go_enter Tryd.func25, Tryd.ntmps25
  go_wp2
  go_ret
  simp
theorem digit_any (c : UInt8) (w : World) : Calls Tryd.prog 33 #[.int .u8 (c.toNat : Int)] w fun e w' => e = .returned (.bool (dgB c)) ∧ w = w' := by
  by_cases h1 : 48 ≤ (c.toNat : Int)
  · have q1 : decide (48 ≤ (c.toNat : Int)) = true := by simpa using h1
    have hb : dgB c = decide ((c.toNat : Int) ≤ 57) := by unfold dgB; rw [Bool.eq_iff_iff]; simp; omega
    rw [hb]; clear hb
    by_cases h2 : (c.toNat : Int) ≤ 57
    · rw [decide_eq_true h2]
      go_enter Tryd.func33, Tryd.ntmps33
      go_wp2
      go_ret
      simp
    · rw [decide_eq_false h2]
      go_enter Tryd.func33, Tryd.ntmps33
      go_wp2
      go_ret
      simp
  · have hb : dgB c = false := by unfold dgB; rw [decide_eq_false (by omega)]; rfl
    rw [hb]; clear hb
    go_enter Tryd.func33, Tryd.ntmps33
    go_wp2
    go_ret
    simp
end Go.Proofs.YtahmadelokofbaaDoor
