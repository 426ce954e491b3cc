/- PROVED here: the closed facts that the row of PrintExprs asks of the program, one by one. No condition but those in each theorem's own head. -/
import Derived.Test.YteecfjhjllajlaaGreatDoorRows
import Derived.Test.YteecfjhjllajlaaGreatDoorM01
import Derived.JoinedOf
namespace Go.Proofs.YteecfjhjllajlaaGreatDoor
open Go Go.ChangeShapes Go.WideShapes Go.ChangeAt Go.RowKit

theorem printExprs_and {a b : Bool} (h : a = true) (k : b = true) : (a && b) = true := by rw [h, k]; rfl
theorem printExprs_k0 : (Rows.printExprsRow.wf (OpenSpec.ofChange Rows.printExprsSpec)) = true := by kernel_rfl
theorem printExprs_k1 : (laidOutB Tryz.prog) = true := by kernel_rfl
theorem printExprs_k2 : (mapsRowed Tryz.prog) = true := by kernel_rfl
theorem printExprs_k3 : (Tryz.f8.params.all (Tryz.prog.readableRec ·)) = true := by kernel_rfl
theorem printExprs_k4 : (namedTie Tryz.prog Rows.printExprsRow.named Rows.printExprsSpec.vars) = true := by kernel_rfl
theorem printExprs_k5 : ((Rows.printExprsRow.stops == [])) = true := by kernel_rfl
theorem printExprs_k6 : ((Tryz.prog.stops == [])) = true := by kernel_rfl
theorem printExprs_k7 : ((Rows.printExprsRow.knobs == [])) = true := by kernel_rfl
theorem printExprs_k8 : ((Tryz.prog.stopKnobs == [])) = true := by kernel_rfl
theorem printExprs_k9 : ((Rows.printExprsRow.inPlace == Tryz.prog.inPlace 8)) = true := by kernel_rfl
theorem printExprs_k10 : ((Rows.printExprsRow.unfollowed == Tryz.prog.unfollowed 8)) = true := by kernel_rfl
theorem printExprs_k11 : ((Rows.printExprsRow.recurses == Tryz.prog.recurses 8)) = true := by kernel_rfl
theorem printExprs_k12 : ((Rows.printExprsRow.named == Tryz.prog.varsNamed 8)) = true := by kernel_rfl
theorem printExprs_k13 : ((Rows.printExprsRow.maps == (Tryz.f8.params.toList ++ Rows.printExprsSpec.plain.varTypes Tryz.prog).any (Tryz.prog.mapsRec ·))) = true := by kernel_rfl
theorem printExprs_k14 : ((Rows.printExprsRow.ifaces == (Tryz.f8.params.toList ++ Rows.printExprsSpec.plain.varTypes Tryz.prog).any (Tryz.prog.ifacesRec ·))) = true := by kernel_rfl
theorem printExprs_k15 : ((Rows.printExprsRow.mapsOut == Tryz.prog.mapsAmong Tryz.f8.resultTypes.toList)) = true := by kernel_rfl
theorem printExprs_k16 : ((Rows.printExprsRow.loops == (Tryz.f8.params.toList ++ Rows.printExprsSpec.plain.varTypes Tryz.prog).any (Tryz.prog.loopsFrom ·))) = true := by kernel_rfl
theorem printExprs_k17 : ((Rows.printExprsRow.wideKeys == (Tryz.f8.params.toList ++ Rows.printExprsSpec.plain.varTypes Tryz.prog ++ Tryz.f8.resultTypes.toList).any (Tryz.prog.wideKeysFrom ·))) = true := by kernel_rfl
theorem printExprs_k18 : (Rows.printExprsSpec.vars.all (Tryz.prog.varReadable ·)) = true := by kernel_rfl
theorem printExprs_k19 : (Tryz.f8.resultTypes.all (fun t => Tryz.prog.readableRec t && decide (t < Tryz.prog.types.size))) = true := by kernel_rfl
theorem printExprs_k20 : ((Rows.printExprsRow.ifacesOut == Tryz.f8.resultTypes.toList.any (Tryz.prog.ifacesRec ·))) = true := by kernel_rfl
theorem printExprs_k21 : ((Rows.printExprsRow.loopsOut == Tryz.f8.resultTypes.toList.any (Tryz.prog.loopsFrom ·))) = true := by kernel_rfl
theorem printExprs_k22 : ((Rows.printExprsRow.plainKeys == Tryz.prog.plainKeys)) = true := by kernel_rfl
theorem printExprs_k23 : (Rows.printExprsRow.shortTexts.isNone) = true := by kernel_rfl
theorem printExprs_k24 : (Tryz.prog.stopsHeard) = true := by kernel_rfl
theorem printExprs_k25 : (Tryz.prog.mayEnter) = true := by kernel_rfl
theorem printExprs_k26 : ((Rows.printExprsRow.lifted == Tryz.prog.liftsFinal)) = true := by kernel_rfl
theorem printExprs_k27 : ((Tryz.prog.make == some Rows.printExprsRow.make)) = true := by kernel_rfl
theorem printExprs_k28 : ((Rows.printExprsRow.kinds == (if Rows.printExprsRow.domain.isEmpty then [] else Tryz.f8.params.toList.map fun t => match Tryz.prog.underlying t with | some (.int k) => some k | _ => none))) = true := by kernel_rfl
theorem printExprs_k29 : ((Rows.printExprsRow.pinned == Rows.printExprsRow.pinnedBy)) = true := by kernel_rfl
theorem printExprs_k30 : ((Rows.printExprsRow.veiled == (Tryz.f8.params.toList ++ Rows.printExprsSpec.plain.varTypes Tryz.prog ++ Tryz.f8.resultTypes.toList).any (Tryz.prog.veiledRec ·))) = true := by kernel_rfl
theorem printExprs_k31 : (Rows.printExprsRow.veiledFits Tryz.prog Tryz.f8.params.toList (Tryz.f8.params.toList ++ Rows.printExprsSpec.plain.varTypes Tryz.prog ++ Tryz.f8.resultTypes.toList)) = true := by kernel_rfl
theorem printExprs_kn : Tryz.prog.funcNamed "runnel/runnellaw6.PrintExprs" = some 8 := by kernel_rfl
theorem printExprs_inst : Tryz.f8.isInstance Tryz.prog Rows.printExprsRow.origin Rows.printExprsRow.targs := of_decide_eq_true (by kernel_rfl)
theorem printExprs_wrap : Tryz.f8.isWrapper Tryz.prog Rows.printExprsRow.wrapper Rows.printExprsRow.mainSum := by
  unfold Func.isWrapper
  first
    | (rw [if_pos (by decide +kernel)]; kernel_rfl)
    | (rw [if_neg (by decide +kernel)]; exact ⟨rfl, rfl⟩)
end Go.Proofs.YteecfjhjllajlaaGreatDoor
