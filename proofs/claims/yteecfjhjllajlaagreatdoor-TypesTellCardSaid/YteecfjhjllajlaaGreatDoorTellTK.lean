/- PROVED here: the closed facts that the row of TypesTell asks of the program, one by one. No condition but those in each theorem's own head. -/
import Derived.Test.YteecfjhjllajlaaGreatDoorRows
import Derived.Test.YteecfjhjllajlaaGreatDoorI01
import Derived.JoinedOf
namespace Go.Proofs.YteecfjhjllajlaaGreatDoor
open Go Go.ChangeShapes Go.WideShapes Go.ChangeAt Go.RowKit

theorem typesTell_and {a b : Bool} (h : a = true) (k : b = true) : (a && b) = true := by rw [h, k]; rfl
theorem typesTell_k0 : (Rows.typesTellRow.wf (OpenSpec.ofChange Rows.typesTellSpec)) = true := by kernel_rfl
theorem typesTell_k1 : (laidOutB Tryz.prog) = true := by kernel_rfl
theorem typesTell_k2 : (mapsRowed Tryz.prog) = true := by kernel_rfl
theorem typesTell_k3 : (Tryz.f10.params.all (Tryz.prog.readableRec ·)) = true := by kernel_rfl
theorem typesTell_k4 : (namedTie Tryz.prog Rows.typesTellRow.named Rows.typesTellSpec.vars) = true := by kernel_rfl
theorem typesTell_k5 : ((Rows.typesTellRow.stops == [])) = true := by kernel_rfl
theorem typesTell_k6 : ((Tryz.prog.stops == [])) = true := by kernel_rfl
theorem typesTell_k7 : ((Rows.typesTellRow.knobs == [])) = true := by kernel_rfl
theorem typesTell_k8 : ((Tryz.prog.stopKnobs == [])) = true := by kernel_rfl
theorem typesTell_k9 : ((Rows.typesTellRow.inPlace == Tryz.prog.inPlace 10)) = true := by kernel_rfl
theorem typesTell_k10 : ((Rows.typesTellRow.unfollowed == Tryz.prog.unfollowed 10)) = true := by kernel_rfl
theorem typesTell_k11 : ((Rows.typesTellRow.recurses == Tryz.prog.recurses 10)) = true := by kernel_rfl
theorem typesTell_k12 : ((Rows.typesTellRow.named == Tryz.prog.varsNamed 10)) = true := by kernel_rfl
theorem typesTell_k13 : ((Rows.typesTellRow.maps == (Tryz.f10.params.toList ++ Rows.typesTellSpec.plain.varTypes Tryz.prog).any (Tryz.prog.mapsRec ·))) = true := by kernel_rfl
theorem typesTell_k14 : ((Rows.typesTellRow.ifaces == (Tryz.f10.params.toList ++ Rows.typesTellSpec.plain.varTypes Tryz.prog).any (Tryz.prog.ifacesRec ·))) = true := by kernel_rfl
theorem typesTell_k15 : ((Rows.typesTellRow.mapsOut == Tryz.prog.mapsAmong Tryz.f10.resultTypes.toList)) = true := by kernel_rfl
theorem typesTell_k16 : ((Rows.typesTellRow.loops == (Tryz.f10.params.toList ++ Rows.typesTellSpec.plain.varTypes Tryz.prog).any (Tryz.prog.loopsFrom ·))) = true := by kernel_rfl
theorem typesTell_k17 : ((Rows.typesTellRow.wideKeys == (Tryz.f10.params.toList ++ Rows.typesTellSpec.plain.varTypes Tryz.prog ++ Tryz.f10.resultTypes.toList).any (Tryz.prog.wideKeysFrom ·))) = true := by kernel_rfl
theorem typesTell_k18 : (Rows.typesTellSpec.vars.all (Tryz.prog.varReadable ·)) = true := by kernel_rfl
theorem typesTell_k19 : (Tryz.f10.resultTypes.all (fun t => Tryz.prog.readableRec t && decide (t < Tryz.prog.types.size))) = true := by kernel_rfl
theorem typesTell_k20 : ((Rows.typesTellRow.ifacesOut == Tryz.f10.resultTypes.toList.any (Tryz.prog.ifacesRec ·))) = true := by kernel_rfl
theorem typesTell_k21 : ((Rows.typesTellRow.loopsOut == Tryz.f10.resultTypes.toList.any (Tryz.prog.loopsFrom ·))) = true := by kernel_rfl
theorem typesTell_k22 : ((Rows.typesTellRow.plainKeys == Tryz.prog.plainKeys)) = true := by kernel_rfl
theorem typesTell_k23 : (Rows.typesTellRow.shortTexts.isNone) = true := by kernel_rfl
theorem typesTell_k24 : (Tryz.prog.stopsHeard) = true := by kernel_rfl
theorem typesTell_k25 : (Tryz.prog.mayEnter) = true := by kernel_rfl
theorem typesTell_k26 : ((Rows.typesTellRow.lifted == Tryz.prog.liftsFinal)) = true := by kernel_rfl
theorem typesTell_k27 : ((Tryz.prog.make == some Rows.typesTellRow.make)) = true := by kernel_rfl
theorem typesTell_k28 : ((Rows.typesTellRow.kinds == (if Rows.typesTellRow.domain.isEmpty then [] else Tryz.f10.params.toList.map fun t => match Tryz.prog.underlying t with | some (.int k) => some k | _ => none))) = true := by kernel_rfl
theorem typesTell_k29 : ((Rows.typesTellRow.pinned == Rows.typesTellRow.pinnedBy)) = true := by kernel_rfl
theorem typesTell_k30 : ((Rows.typesTellRow.veiled == (Tryz.f10.params.toList ++ Rows.typesTellSpec.plain.varTypes Tryz.prog ++ Tryz.f10.resultTypes.toList).any (Tryz.prog.veiledRec ·))) = true := by kernel_rfl
theorem typesTell_k31 : (Rows.typesTellRow.veiledFits Tryz.prog Tryz.f10.params.toList (Tryz.f10.params.toList ++ Rows.typesTellSpec.plain.varTypes Tryz.prog ++ Tryz.f10.resultTypes.toList)) = true := by kernel_rfl
theorem typesTell_kn : Tryz.prog.funcNamed "runnel/runnellaw7.TypesTell" = some 10 := by kernel_rfl
theorem typesTell_inst : Tryz.f10.isInstance Tryz.prog Rows.typesTellRow.origin Rows.typesTellRow.targs := of_decide_eq_true (by kernel_rfl)
theorem typesTell_wrap : Tryz.f10.isWrapper Tryz.prog Rows.typesTellRow.wrapper Rows.typesTellRow.mainSum := by
  unfold Func.isWrapper
  first
    | (rw [if_pos (by decide +kernel)]; kernel_rfl)
    | (rw [if_neg (by decide +kernel)]; exact ⟨rfl, rfl⟩)
end Go.Proofs.YteecfjhjllajlaaGreatDoor
