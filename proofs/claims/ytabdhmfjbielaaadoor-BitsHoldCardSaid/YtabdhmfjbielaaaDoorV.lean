/- PROVED here: the contract of short, and small facts. No condition but those in each theorem's own head. -/
import Derived.Test.YtabdhmfjbielaaaDoorU
namespace Go.Proofs.YtabdhmfjbielaaaDoor
open Go Go.RowKit

/-- can these lists be gone through -/
def shortB (a b c : Nat) : Bool := decide (a ≤ 300) && (decide (b ≤ 300) && decide (c ≤ 300))
theorem short_any (A B C : Option Addr) (a b c ca cb cc : Nat) (w : World) : Calls Tryd.prog 23 #[.slice A a ca, .slice B b cb, .slice C c cc] w fun e w' => e = .returned (.bool (shortB a b c)) ∧ w = w' := by
  by_cases ha : a ≤ 300
  · by_cases hb : b ≤ 300
    · by_cases hc : c ≤ 300
      · have : shortB a b c = true := by simp [shortB, ha, hb, hc]
        rw [this]; clear this
        go_enter Tryd.func23, Tryd.ntmps23
        go_wp2
        go_ret
        simp
        omega
      · have : shortB a b c = false := by simp [shortB, hc]
        rw [this]; clear this
        go_enter Tryd.func23, Tryd.ntmps23
        go_wp2
        go_ret
        simp
        omega
    · have : shortB a b c = false := by simp [shortB, hb]
      rw [this]; clear this
      go_enter Tryd.func23, Tryd.ntmps23
      go_wp2
      go_ret
      simp
  · have : shortB a b c = false := by simp [shortB, ha]
    rw [this]; clear this
    go_enter Tryd.func23, Tryd.ntmps23
    go_wp2
    go_ret
    simp
theorem small_delI {s : Nat} (hs : Small s) (n : Int) : Small (delI s n) := by
  unfold delI; split
  · exact small_minus hs
  · exact hs
theorem same_true {a b : Nat} (ha : Small a) (hb : Small b) (h : a = b) (w : World) : Calls Tryd.prog 30 #[.agg (ofF (wd a)), .agg (ofF (wd b))] w fun e w' => e = .returned (.bool true) ∧ Below w.heap.size w w' := by
  have := Same a b ha hb w
  rwa [show sameB a b = true by simp [sameB, h]] at this
theorem within_true {a b : Nat} (ha : Small a) (hb : Small b) (h : a ||| b = b) (w : World) : Calls Tryd.prog 32 #[.agg (ofF (wd a)), .agg (ofF (wd b))] w fun e w' => e = .returned (.bool true) ∧ Below w.heap.size w w' := by
  have := Within a b ha hb w
  rwa [show withinB a b = true by simp [withinB, h]] at this
theorem call_clT {F : Nat} {args : Array Value} {v : Value} {w : World} (hT : Hid (∀ w', Cl w w' → Tabs w')) (h : ∀ w, Tabs w → Calls Tryd.prog F args w fun e w' => e = .returned v ∧ Below w.heap.size w w') : ∀ w', Cl w w' → Calls Tryd.prog F args w' fun e w'' => e = .returned v ∧ Cl w w'' :=
  fun w' hc => (h w' (hT.out w' hc)).mono fun _ _ ⟨he, hb⟩ => ⟨he, hc.trans hb⟩
theorem popK_zero : ∀ k, popK k 0 = 0
  | 0 => rfl
  | k + 1 => by simp [popK, popK_zero k]
theorem cntK_zero : ∀ k, cntK 0 k = 0
  | 0 => rfl
  | k + 1 => by simp [cntK, cntK_zero k, wd_zero, popK_zero]
end Go.Proofs.YtabdhmfjbielaaaDoor
