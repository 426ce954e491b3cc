/- PROVED here: part Fj of the claim. No condition but those in each theorem's own head. -/
import Derived.Test.YtedkgofehbecmaaGreatDoorN01
import Derived.Test.YtedkgofehbecmaaGreatDoorN02
import Derived.Test.YtedkgofehbecmaaGreatDoorN03
import Derived.Test.YtedkgofehbecmaaGreatDoorN04
import Derived.Test.YtedkgofehbecmaaGreatDoorN05
import Derived.Test.YtedkgofehbecmaaGreatDoorN06
import Derived.Test.YtedkgofehbecmaaGreatDoorN07
import Derived.Test.YtedkgofehbecmaaGreatDoorN08
import Derived.Test.YtedkgofehbecmaaGreatDoorN09
import Derived.Test.YtedkgofehbecmaaGreatDoorN10
import Derived.Test.YtedkgofehbecmaaGreatDoorN11
import Derived.Test.YtedkgofehbecmaaGreatDoorN12
import Derived.Test.YtedkgofehbecmaaGreatDoorN13
import Derived.Test.YtedkgofehbecmaaGreatDoorN14
import Derived.Test.YtedkgofehbecmaaGreatDoorN15
import Derived.Test.YtedkgofehbecmaaGreatDoorN16
import Derived.Test.YtedkgofehbecmaaGreatDoorN17
import Derived.Test.YtedkgofehbecmaaGreatDoorN18
import Derived.Test.YtedkgofehbecmaaGreatDoorN19
import Derived.Test.YtedkgofehbecmaaGreatDoorN20
import Derived.Test.YtedkgofehbecmaaGreatDoorN21
import Derived.Test.YtedkgofehbecmaaGreatDoorN22
import Derived.Test.YtedkgofehbecmaaGreatDoorN23
import Derived.Test.YtedkgofehbecmaaGreatDoorN24
import Derived.Test.YtedkgofehbecmaaGreatDoorN25
import Derived.Test.YtedkgofehbecmaaGreatDoorN26
import Derived.Test.YtedkgofehbecmaaGreatDoorN27
import Derived.Test.YtedkgofehbecmaaGreatDoorN28
import Derived.Test.YtedkgofehbecmaaGreatDoorN29
import Derived.Test.YtedkgofehbecmaaGreatDoorN30
import Derived.Test.YtedkgofehbecmaaGreatDoorN31
import Derived.Test.YtedkgofehbecmaaGreatDoorN32
import Derived.Test.YtedkgofehbecmaaGreatDoorN33
import Derived.Test.YtedkgofehbecmaaGreatDoorN34
import Derived.Test.YtedkgofehbecmaaGreatDoorN35
import Derived.Test.YtedkgofehbecmaaGreatDoorN36
import Derived.Test.YtedkgofehbecmaaGreatDoorN37
import Derived.Test.YtedkgofehbecmaaGreatDoorN38
import Derived.Test.YtedkgofehbecmaaGreatDoorN39
import Derived.Test.YtedkgofehbecmaaGreatDoorN40
import Derived.Test.YtedkgofehbecmaaGreatDoorN41
import Derived.Test.YtedkgofehbecmaaGreatDoorN42
import Derived.Test.YtedkgofehbecmaaGreatDoorN43
import Derived.Test.YtedkgofehbecmaaGreatDoorN44
namespace Go.Proofs.YtedkgofehbecmaaGreatDoor
open Go Go.RowKit
open Tr (Bx heap1 bt)
set_option maxRecDepth 100000 in
set_option maxHeartbeats 1000000 in
theorem ghas_any (w : World) (NA PA : Option Addr) (N cN np cp : Nat) (n : Int) : Calls Tryz.prog 63 #[.agg #[.slice NA N cN, .slice PA np cp], .int .i64 n] w (VPost (.bool (decide (0 ≤ n ∧ n < (N : Int)))) w) := by
  have HB := Lib.hid (heap1 w (.cells #[.slice NA N cN, .slice PA np cp] 30))
  by_cases h0 : 0 ≤ n
  · by_cases h1 : n < (N : Int)
    · have e : decide (0 ≤ n ∧ n < (N : Int)) = true := by simp [h0, h1]
      rw [e]
      go_enter Tryz.func63, Tryz.ntmps63
      go_wp2
      exact bodyPost_ret (v := .bool true) (by simp [results, Tryz.f63, go_sem]) rfl ⟨rfl, HB.out⟩
    · have e : decide (0 ≤ n ∧ n < (N : Int)) = false := by simp [h1]
      rw [e]
      go_enter Tryz.func63, Tryz.ntmps63
      go_wp2
      exact bodyPost_ret (v := .bool false) (by simp [results, Tryz.f63, go_sem]) rfl ⟨rfl, HB.out⟩
  · have e : decide (0 ≤ n ∧ n < (N : Int)) = false := by simp [h0]
    rw [e]
    go_enter Tryz.func63, Tryz.ntmps63
    go_wp2
    exact bodyPost_ret (v := .bool false) (by simp [results, Tryz.f63, go_sem]) rfl ⟨rfl, HB.out⟩
end Go.Proofs.YtedkgofehbecmaaGreatDoor
