/- PROVED here: the law as its row calls it, its walk as the row asks it, and the row. No condition but those in each theorem's own head. -/
import Derived.Test.YtedkgofehbecmaaGreatDoorE07
import Derived.SevenTiedAt
import Derived.ChangeMaps5
import Derived.Test.YtedkgofehbecmaaGreatDoorEQ1
namespace Go.Proofs.YtedkgofehbecmaaGreatDoor
open Go Go.RowKit
open Tr (Nds)
theorem flowEntries_w (A : Option Addr) (c : Nat) (l : List Tr.Nd) (r : Int) (w : World) (hE : Tk.Errs w) (hN : Nds w A l) (hnum : ∀ x ∈ l, x.n ≤ 9223372036854775807) (hc : Caps w A l) : Calls Tryz.prog 9 #[.agg #[.slice A l.length c, .int .i64 r]] w (VPost (.bool true) w) := flowEntries_any A c l.length l r w rfl hE hN hnum hc
end Go.Proofs.YtedkgofehbecmaaGreatDoor

namespace Go.Proofs.YtedkgofehbecmaaGreatDoor
open Go Go.ChangeShapes Go.WideShapes Go.ChangeAt Go.RowKit
set_option maxRecDepth 100000 in
theorem flowEntries_lifted (os : Os) (started : os.Started) (H : Type) (enc : TypeId × Value → H) :
    ReturnsInHanded {} Tryz.checked os 9 .any (fun w args => (Rows.flowEntriesSpec.pre enc Tryz.prog Tryz.f9 [] false w args ∧ laidMetH Tryz.prog laid5 w) ∧ sizedMet enc Tryz.prog Tryz.f9 (OpenSpec.ofChange Rows.flowEntriesSpec) false w args)
      (Rows.flowEntriesSpec.post enc Tryz.prog Tryz.f9 false true false false) := by
  refine returnsInHanded_of_change_and (C := Tryz.checked) (X := fun w _ => laidMetH Tryz.prog laid5 w) (fun _ _ _ hh h => h.of_heap hh) ownK started (by kernel_rfl) Tryz.func9
    (ChangeSpec.witness_shaped (enc := enc) (C := Tryz.checked) (os := os) (X := fun w _ => laidMetH Tryz.prog laid5 w) false (World.doorLaid Tryz.prog 62 os) #[.agg #[.slice none 0 0, .int .i64 0]] 8 rfl (World.shaped_of_RefB (by kernel_rfl) (by kernel_rfl)) (by kernel_rfl) (by kernel_rfl) (by kernel_rfl) (door_met os _)) ?_
  intro W base args ds gs before hval0 hW _ _ hL _
  have hval : ∀ (j : Nat) t v, Tryz.f9.params[j]? = some t → args[j]? = some v → Value.okWide Tryz.prog W .any base t v := hval0
  have hW' := hW
  obtain ⟨p, q, hA0, hV, rfl, hfz, hnd⟩ := hW
  have hA : DataW.TrodAll enc Tryz.prog W 0 (fun _ => true) true Tryz.f9.params.toList args.toList ds p := hA0
  rw [Tryz.params9] at hA hval
  obtain ⟨v0, vs0, d0, ds0, p0, q0, hargs, rfl, rfl, h0, r0⟩ := trodAll_cons hA
  obtain ⟨rfl, rfl, rfl⟩ := trodAll_nil r0
  obtain rfl : args = #[v0] := by cases args; simp_all
  obtain ⟨rfl, rfl⟩ := trodVars_none hV
  have hT := errs_of_laid hL
  clear hA0 hval0
  simp only [List.append_nil] at hW'
  have hlt : ∀ x ∈ p0, x.block < W.heap.size := fun x hx => by simpa using hW'.lt x (by simpa using hx)
  obtain ⟨A0, c0, l0, r0t, rfl, hN0, hc0, hm0, hC0⟩ := Vw.viewTr (hval 0 24 v0 rfl rfl) h0
  refine (flowEntries_w A0 c0 l0 r0t W hT hN0 hm0 hC0).mono ?_
  rintro e W' ⟨rfl, hnx⟩
  refine ⟨_, rfl, _, _, _, [], _, [], hW', trodAll_cons_mk (shut_bool lit4 _) trodAll_mk0, trodAll_cons_mk (Below.trod laidOut (by kernel_rfl) (of_decide_eq_true (by kernel_rfl)) h0 hnx (fun x hx => hlt x (by simp [hx]))) trodAll_mk0, rfl, hnx.frame _, fun h => by cases h⟩

end Go.Proofs.YtedkgofehbecmaaGreatDoor

namespace Go.Proofs.YtedkgofehbecmaaGreatDoor
open Go Go.ChangeShapes Go.WideShapes Go.ChangeAt Go.RowKit

set_option maxRecDepth 100000 in
theorem flowEntries_closed : joinedFacts Tryz.prog 9 Tryz.f9 Rows.flowEntriesSpec Rows.flowEntriesRow = true := (flowEntries_and (flowEntries_and (flowEntries_and (flowEntries_and (flowEntries_and (flowEntries_and (flowEntries_and (flowEntries_and (flowEntries_and (flowEntries_and (flowEntries_and (flowEntries_and (flowEntries_and (flowEntries_and (flowEntries_and (flowEntries_and (flowEntries_and (flowEntries_and (flowEntries_and (flowEntries_and (flowEntries_and (flowEntries_and (flowEntries_and (flowEntries_and (flowEntries_and (flowEntries_and (flowEntries_and (flowEntries_and (flowEntries_and (flowEntries_and (flowEntries_and flowEntries_k0 flowEntries_k1) flowEntries_k2) flowEntries_k3) flowEntries_k4) flowEntries_k5) flowEntries_k6) flowEntries_k7) flowEntries_k8) flowEntries_k9) flowEntries_k10) flowEntries_k11) flowEntries_k12) flowEntries_k13) flowEntries_k14) flowEntries_k15) flowEntries_k16) flowEntries_k17) flowEntries_k18) flowEntries_k19) flowEntries_k20) flowEntries_k21) flowEntries_k22) flowEntries_k23) flowEntries_k24) flowEntries_k25) flowEntries_k26) flowEntries_k27) flowEntries_k28) flowEntries_k29) flowEntries_k30) flowEntries_k31)
set_option maxRecDepth 100000 in
set_option maxHeartbeats 4000000 in
theorem flowEntries_row : Rows.FlowEntriesSaid :=
  OpenClaim.holds_of_wide 9 Tryz.f9 rfl rfl rfl rfl rfl rfl rfl ⟨rfl, rfl, rfl, rfl, rfl⟩ rfl rfl rfl rfl rfl flowEntries_kn Tryz.func9 flowEntries_closed flowEntries_inst flowEntries_wrap
    (fun os started H enc _ => flowEntries_lifted os started H enc)

end Go.Proofs.YtedkgofehbecmaaGreatDoor
