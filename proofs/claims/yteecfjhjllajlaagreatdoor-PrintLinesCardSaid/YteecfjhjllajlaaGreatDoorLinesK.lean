/- PROVED here: the closed facts that the row of PrintLines asks of the program, one by one. No condition but those in each theorem's own head. -/
import Derived.Test.YteecfjhjllajlaaGreatDoorRows
import Derived.Test.YteecfjhjllajlaaGreatDoorM01
import Derived.JoinedOf
namespace Go.Proofs.YteecfjhjllajlaaGreatDoor
open Go Go.ChangeShapes Go.WideShapes Go.ChangeAt Go.RowKit

theorem printLines_and {a b : Bool} (h : a = true) (k : b = true) : (a && b) = true := by rw [h, k]; rfl
theorem printLines_k0 : (Rows.printLinesRow.wf (OpenSpec.ofChange Rows.printLinesSpec)) = true := by kernel_rfl
theorem printLines_k1 : (laidOutB Tryz.prog) = true := by kernel_rfl
theorem printLines_k2 : (mapsRowed Tryz.prog) = true := by kernel_rfl
theorem printLines_k3 : (Tryz.f7.params.all (Tryz.prog.readableRec ·)) = true := by kernel_rfl
theorem printLines_k4 : (namedTie Tryz.prog Rows.printLinesRow.named Rows.printLinesSpec.vars) = true := by kernel_rfl
theorem printLines_k5 : ((Rows.printLinesRow.stops == [])) = true := by kernel_rfl
theorem printLines_k6 : ((Tryz.prog.stops == [])) = true := by kernel_rfl
theorem printLines_k7 : ((Rows.printLinesRow.knobs == [])) = true := by kernel_rfl
theorem printLines_k8 : ((Tryz.prog.stopKnobs == [])) = true := by kernel_rfl
theorem printLines_k9 : ((Rows.printLinesRow.inPlace == Tryz.prog.inPlace 7)) = true := by kernel_rfl
theorem printLines_k10 : ((Rows.printLinesRow.unfollowed == Tryz.prog.unfollowed 7)) = true := by kernel_rfl
theorem printLines_k11 : ((Rows.printLinesRow.recurses == Tryz.prog.recurses 7)) = true := by kernel_rfl
theorem printLines_k12 : ((Rows.printLinesRow.named == Tryz.prog.varsNamed 7)) = true := by kernel_rfl
theorem printLines_k13 : ((Rows.printLinesRow.maps == (Tryz.f7.params.toList ++ Rows.printLinesSpec.plain.varTypes Tryz.prog).any (Tryz.prog.mapsRec ·))) = true := by kernel_rfl
theorem printLines_k14 : ((Rows.printLinesRow.ifaces == (Tryz.f7.params.toList ++ Rows.printLinesSpec.plain.varTypes Tryz.prog).any (Tryz.prog.ifacesRec ·))) = true := by kernel_rfl
theorem printLines_k15 : ((Rows.printLinesRow.mapsOut == Tryz.prog.mapsAmong Tryz.f7.resultTypes.toList)) = true := by kernel_rfl
theorem printLines_k16 : ((Rows.printLinesRow.loops == (Tryz.f7.params.toList ++ Rows.printLinesSpec.plain.varTypes Tryz.prog).any (Tryz.prog.loopsFrom ·))) = true := by kernel_rfl
theorem printLines_k17 : ((Rows.printLinesRow.wideKeys == (Tryz.f7.params.toList ++ Rows.printLinesSpec.plain.varTypes Tryz.prog ++ Tryz.f7.resultTypes.toList).any (Tryz.prog.wideKeysFrom ·))) = true := by kernel_rfl
theorem printLines_k18 : (Rows.printLinesSpec.vars.all (Tryz.prog.varReadable ·)) = true := by kernel_rfl
theorem printLines_k19 : (Tryz.f7.resultTypes.all (fun t => Tryz.prog.readableRec t && decide (t < Tryz.prog.types.size))) = true := by kernel_rfl
theorem printLines_k20 : ((Rows.printLinesRow.ifacesOut == Tryz.f7.resultTypes.toList.any (Tryz.prog.ifacesRec ·))) = true := by kernel_rfl
theorem printLines_k21 : ((Rows.printLinesRow.loopsOut == Tryz.f7.resultTypes.toList.any (Tryz.prog.loopsFrom ·))) = true := by kernel_rfl
theorem printLines_k22 : ((Rows.printLinesRow.plainKeys == Tryz.prog.plainKeys)) = true := by kernel_rfl
theorem printLines_k23 : (Rows.printLinesRow.shortTexts.isNone) = true := by kernel_rfl
theorem printLines_k24 : (Tryz.prog.stopsHeard) = true := by kernel_rfl
theorem printLines_k25 : (Tryz.prog.mayEnter) = true := by kernel_rfl
theorem printLines_k26 : ((Rows.printLinesRow.lifted == Tryz.prog.liftsFinal)) = true := by kernel_rfl
theorem printLines_k27 : ((Tryz.prog.make == some Rows.printLinesRow.make)) = true := by kernel_rfl
theorem printLines_k28 : ((Rows.printLinesRow.kinds == (if Rows.printLinesRow.domain.isEmpty then [] else Tryz.f7.params.toList.map fun t => match Tryz.prog.underlying t with | some (.int k) => some k | _ => none))) = true := by kernel_rfl
theorem printLines_k29 : ((Rows.printLinesRow.pinned == Rows.printLinesRow.pinnedBy)) = true := by kernel_rfl
theorem printLines_k30 : ((Rows.printLinesRow.veiled == (Tryz.f7.params.toList ++ Rows.printLinesSpec.plain.varTypes Tryz.prog ++ Tryz.f7.resultTypes.toList).any (Tryz.prog.veiledRec ·))) = true := by kernel_rfl
theorem printLines_k31 : (Rows.printLinesRow.veiledFits Tryz.prog Tryz.f7.params.toList (Tryz.f7.params.toList ++ Rows.printLinesSpec.plain.varTypes Tryz.prog ++ Tryz.f7.resultTypes.toList)) = true := by kernel_rfl
theorem printLines_kn : Tryz.prog.funcNamed "runnel/runnellaw6.PrintLines" = some 7 := by kernel_rfl
theorem printLines_inst : Tryz.f7.isInstance Tryz.prog Rows.printLinesRow.origin Rows.printLinesRow.targs := of_decide_eq_true (by kernel_rfl)
theorem printLines_wrap : Tryz.f7.isWrapper Tryz.prog Rows.printLinesRow.wrapper Rows.printLinesRow.mainSum := by
  unfold Func.isWrapper
  first
    | (rw [if_pos (by decide +kernel)]; kernel_rfl)
    | (rw [if_neg (by decide +kernel)]; exact ⟨rfl, rfl⟩)
end Go.Proofs.YteecfjhjllajlaaGreatDoor
