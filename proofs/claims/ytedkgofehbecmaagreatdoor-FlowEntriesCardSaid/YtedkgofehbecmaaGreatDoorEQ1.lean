/- PROVED here: the closed facts that the row of FlowEntries asks of the program, one by one. No condition but those in each theorem's own head. -/
import Derived.Test.YtedkgofehbecmaaGreatDoorRows
import Derived.Test.YtedkgofehbecmaaGreatDoorN01
import Derived.JoinedOf
namespace Go.Proofs.YtedkgofehbecmaaGreatDoor
open Go Go.ChangeShapes Go.WideShapes Go.ChangeAt Go.RowKit

theorem flowEntries_and {a b : Bool} (h : a = true) (k : b = true) : (a && b) = true := by rw [h, k]; rfl
theorem flowEntries_k0 : (Rows.flowEntriesRow.wf (OpenSpec.ofChange Rows.flowEntriesSpec)) = true := by kernel_rfl
theorem flowEntries_k1 : (laidOutB Tryz.prog) = true := by kernel_rfl
theorem flowEntries_k2 : (mapsRowed Tryz.prog) = true := by kernel_rfl
theorem flowEntries_k3 : (Tryz.f9.params.all (Tryz.prog.readableRec ·)) = true := by kernel_rfl
theorem flowEntries_k4 : (namedTie Tryz.prog Rows.flowEntriesRow.named Rows.flowEntriesSpec.vars) = true := by kernel_rfl
theorem flowEntries_k5 : ((Rows.flowEntriesRow.stops == [])) = true := by kernel_rfl
theorem flowEntries_k6 : ((Tryz.prog.stops == [])) = true := by kernel_rfl
theorem flowEntries_k7 : ((Rows.flowEntriesRow.knobs == [])) = true := by kernel_rfl
theorem flowEntries_k8 : ((Tryz.prog.stopKnobs == [])) = true := by kernel_rfl
theorem flowEntries_k9 : ((Rows.flowEntriesRow.inPlace == Tryz.prog.inPlace 9)) = true := by kernel_rfl
theorem flowEntries_k10 : ((Rows.flowEntriesRow.unfollowed == Tryz.prog.unfollowed 9)) = true := by kernel_rfl
theorem flowEntries_k11 : ((Rows.flowEntriesRow.recurses == Tryz.prog.recurses 9)) = true := by kernel_rfl
theorem flowEntries_k12 : ((Rows.flowEntriesRow.named == Tryz.prog.varsNamed 9)) = true := by kernel_rfl
theorem flowEntries_k13 : ((Rows.flowEntriesRow.maps == (Tryz.f9.params.toList ++ Rows.flowEntriesSpec.plain.varTypes Tryz.prog).any (Tryz.prog.mapsRec ·))) = true := by kernel_rfl
theorem flowEntries_k14 : ((Rows.flowEntriesRow.ifaces == (Tryz.f9.params.toList ++ Rows.flowEntriesSpec.plain.varTypes Tryz.prog).any (Tryz.prog.ifacesRec ·))) = true := by kernel_rfl
theorem flowEntries_k15 : ((Rows.flowEntriesRow.mapsOut == Tryz.prog.mapsAmong Tryz.f9.resultTypes.toList)) = true := by kernel_rfl
theorem flowEntries_k16 : ((Rows.flowEntriesRow.loops == (Tryz.f9.params.toList ++ Rows.flowEntriesSpec.plain.varTypes Tryz.prog).any (Tryz.prog.loopsFrom ·))) = true := by kernel_rfl
theorem flowEntries_k17 : ((Rows.flowEntriesRow.wideKeys == (Tryz.f9.params.toList ++ Rows.flowEntriesSpec.plain.varTypes Tryz.prog ++ Tryz.f9.resultTypes.toList).any (Tryz.prog.wideKeysFrom ·))) = true := by kernel_rfl
theorem flowEntries_k18 : (Rows.flowEntriesSpec.vars.all (Tryz.prog.varReadable ·)) = true := by kernel_rfl
theorem flowEntries_k19 : (Tryz.f9.resultTypes.all (fun t => Tryz.prog.readableRec t && decide (t < Tryz.prog.types.size))) = true := by kernel_rfl
theorem flowEntries_k20 : ((Rows.flowEntriesRow.ifacesOut == Tryz.f9.resultTypes.toList.any (Tryz.prog.ifacesRec ·))) = true := by kernel_rfl
theorem flowEntries_k21 : ((Rows.flowEntriesRow.loopsOut == Tryz.f9.resultTypes.toList.any (Tryz.prog.loopsFrom ·))) = true := by kernel_rfl
theorem flowEntries_k22 : ((Rows.flowEntriesRow.plainKeys == Tryz.prog.plainKeys)) = true := by kernel_rfl
theorem flowEntries_k23 : (Rows.flowEntriesRow.shortTexts.isNone) = true := by kernel_rfl
theorem flowEntries_k24 : (Tryz.prog.stopsHeard) = true := by kernel_rfl
theorem flowEntries_k25 : (Tryz.prog.mayEnter) = true := by kernel_rfl
theorem flowEntries_k26 : ((Rows.flowEntriesRow.lifted == Tryz.prog.liftsFinal)) = true := by kernel_rfl
theorem flowEntries_k27 : ((Tryz.prog.make == some Rows.flowEntriesRow.make)) = true := by kernel_rfl
theorem flowEntries_k28 : ((Rows.flowEntriesRow.kinds == (if Rows.flowEntriesRow.domain.isEmpty then [] else Tryz.f9.params.toList.map fun t => match Tryz.prog.underlying t with | some (.int k) => some k | _ => none))) = true := by kernel_rfl
theorem flowEntries_k29 : ((Rows.flowEntriesRow.pinned == Rows.flowEntriesRow.pinnedBy)) = true := by kernel_rfl
theorem flowEntries_k30 : ((Rows.flowEntriesRow.veiled == (Tryz.f9.params.toList ++ Rows.flowEntriesSpec.plain.varTypes Tryz.prog ++ Tryz.f9.resultTypes.toList).any (Tryz.prog.veiledRec ·))) = true := by kernel_rfl
theorem flowEntries_k31 : (Rows.flowEntriesRow.veiledFits Tryz.prog Tryz.f9.params.toList (Tryz.f9.params.toList ++ Rows.flowEntriesSpec.plain.varTypes Tryz.prog ++ Tryz.f9.resultTypes.toList)) = true := by kernel_rfl
theorem flowEntries_kn : Tryz.prog.funcNamed "runnel/runnellaw8.FlowEntries" = some 9 := by kernel_rfl
theorem flowEntries_inst : Tryz.f9.isInstance Tryz.prog Rows.flowEntriesRow.origin Rows.flowEntriesRow.targs := of_decide_eq_true (by kernel_rfl)
theorem flowEntries_wrap : Tryz.f9.isWrapper Tryz.prog Rows.flowEntriesRow.wrapper Rows.flowEntriesRow.mainSum := by
  unfold Func.isWrapper
  first
    | (rw [if_pos (by decide +kernel)]; kernel_rfl)
    | (rw [if_neg (by decide +kernel)]; exact ⟨rfl, rfl⟩)
end Go.Proofs.YtedkgofehbecmaaGreatDoor
