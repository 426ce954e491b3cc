/- PROVED here: the closed facts that the row of PrintReads asks of the program, one by one. No condition but those in each theorem's own head. -/
import Derived.Test.YteecfjhjllajlaaGreatDoorRows
import Derived.Test.YteecfjhjllajlaaGreatDoorM01
import Derived.JoinedOf
namespace Go.Proofs.YteecfjhjllajlaaGreatDoor
open Go Go.ChangeShapes Go.WideShapes Go.ChangeAt Go.RowKit

theorem printReads_and {a b : Bool} (h : a = true) (k : b = true) : (a && b) = true := by rw [h, k]; rfl
theorem printReads_k0 : (Rows.printReadsRow.wf (OpenSpec.ofChange Rows.printReadsSpec)) = true := by kernel_rfl
theorem printReads_k1 : (laidOutB Tryz.prog) = true := by kernel_rfl
theorem printReads_k2 : (mapsRowed Tryz.prog) = true := by kernel_rfl
theorem printReads_k3 : (Tryz.f6.params.all (Tryz.prog.readableRec ·)) = true := by kernel_rfl
theorem printReads_k4 : (namedTie Tryz.prog Rows.printReadsRow.named Rows.printReadsSpec.vars) = true := by kernel_rfl
theorem printReads_k5 : ((Rows.printReadsRow.stops == [])) = true := by kernel_rfl
theorem printReads_k6 : ((Tryz.prog.stops == [])) = true := by kernel_rfl
theorem printReads_k7 : ((Rows.printReadsRow.knobs == [])) = true := by kernel_rfl
theorem printReads_k8 : ((Tryz.prog.stopKnobs == [])) = true := by kernel_rfl
theorem printReads_k9 : ((Rows.printReadsRow.inPlace == Tryz.prog.inPlace 6)) = true := by kernel_rfl
theorem printReads_k10 : ((Rows.printReadsRow.unfollowed == Tryz.prog.unfollowed 6)) = true := by kernel_rfl
theorem printReads_k11 : ((Rows.printReadsRow.recurses == Tryz.prog.recurses 6)) = true := by kernel_rfl
theorem printReads_k12 : ((Rows.printReadsRow.named == Tryz.prog.varsNamed 6)) = true := by kernel_rfl
theorem printReads_k13 : ((Rows.printReadsRow.maps == (Tryz.f6.params.toList ++ Rows.printReadsSpec.plain.varTypes Tryz.prog).any (Tryz.prog.mapsRec ·))) = true := by kernel_rfl
theorem printReads_k14 : ((Rows.printReadsRow.ifaces == (Tryz.f6.params.toList ++ Rows.printReadsSpec.plain.varTypes Tryz.prog).any (Tryz.prog.ifacesRec ·))) = true := by kernel_rfl
theorem printReads_k15 : ((Rows.printReadsRow.mapsOut == Tryz.prog.mapsAmong Tryz.f6.resultTypes.toList)) = true := by kernel_rfl
theorem printReads_k16 : ((Rows.printReadsRow.loops == (Tryz.f6.params.toList ++ Rows.printReadsSpec.plain.varTypes Tryz.prog).any (Tryz.prog.loopsFrom ·))) = true := by kernel_rfl
theorem printReads_k17 : ((Rows.printReadsRow.wideKeys == (Tryz.f6.params.toList ++ Rows.printReadsSpec.plain.varTypes Tryz.prog ++ Tryz.f6.resultTypes.toList).any (Tryz.prog.wideKeysFrom ·))) = true := by kernel_rfl
theorem printReads_k18 : (Rows.printReadsSpec.vars.all (Tryz.prog.varReadable ·)) = true := by kernel_rfl
theorem printReads_k19 : (Tryz.f6.resultTypes.all (fun t => Tryz.prog.readableRec t && decide (t < Tryz.prog.types.size))) = true := by kernel_rfl
theorem printReads_k20 : ((Rows.printReadsRow.ifacesOut == Tryz.f6.resultTypes.toList.any (Tryz.prog.ifacesRec ·))) = true := by kernel_rfl
theorem printReads_k21 : ((Rows.printReadsRow.loopsOut == Tryz.f6.resultTypes.toList.any (Tryz.prog.loopsFrom ·))) = true := by kernel_rfl
theorem printReads_k22 : ((Rows.printReadsRow.plainKeys == Tryz.prog.plainKeys)) = true := by kernel_rfl
theorem printReads_k23 : (Rows.printReadsRow.shortTexts.isNone) = true := by kernel_rfl
theorem printReads_k24 : (Tryz.prog.stopsHeard) = true := by kernel_rfl
theorem printReads_k25 : (Tryz.prog.mayEnter) = true := by kernel_rfl
theorem printReads_k26 : ((Rows.printReadsRow.lifted == Tryz.prog.liftsFinal)) = true := by kernel_rfl
theorem printReads_k27 : ((Tryz.prog.make == some Rows.printReadsRow.make)) = true := by kernel_rfl
theorem printReads_k28 : ((Rows.printReadsRow.kinds == (if Rows.printReadsRow.domain.isEmpty then [] else Tryz.f6.params.toList.map fun t => match Tryz.prog.underlying t with | some (.int k) => some k | _ => none))) = true := by kernel_rfl
theorem printReads_k29 : ((Rows.printReadsRow.pinned == Rows.printReadsRow.pinnedBy)) = true := by kernel_rfl
theorem printReads_k30 : ((Rows.printReadsRow.veiled == (Tryz.f6.params.toList ++ Rows.printReadsSpec.plain.varTypes Tryz.prog ++ Tryz.f6.resultTypes.toList).any (Tryz.prog.veiledRec ·))) = true := by kernel_rfl
theorem printReads_k31 : (Rows.printReadsRow.veiledFits Tryz.prog Tryz.f6.params.toList (Tryz.f6.params.toList ++ Rows.printReadsSpec.plain.varTypes Tryz.prog ++ Tryz.f6.resultTypes.toList)) = true := by kernel_rfl
theorem printReads_kn : Tryz.prog.funcNamed "runnel/runnellaw6.PrintReads" = some 6 := by kernel_rfl
theorem printReads_inst : Tryz.f6.isInstance Tryz.prog Rows.printReadsRow.origin Rows.printReadsRow.targs := of_decide_eq_true (by kernel_rfl)
theorem printReads_wrap : Tryz.f6.isWrapper Tryz.prog Rows.printReadsRow.wrapper Rows.printReadsRow.mainSum := by
  unfold Func.isWrapper
  first
    | (rw [if_pos (by decide +kernel)]; kernel_rfl)
    | (rw [if_neg (by decide +kernel)]; exact ⟨rfl, rfl⟩)
end Go.Proofs.YteecfjhjllajlaaGreatDoor
