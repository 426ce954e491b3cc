/- PROVED here: the closed facts that the row of PrintBack asks of the program, one by one. No condition but those in each theorem's own head. -/
import Derived.Test.YteecfjhjllajlaaGreatDoorRows
import Derived.Test.YteecfjhjllajlaaGreatDoorM01
import Derived.JoinedOf
namespace Go.Proofs.YteecfjhjllajlaaGreatDoor
open Go Go.ChangeShapes Go.WideShapes Go.ChangeAt Go.RowKit

theorem printBack_and {a b : Bool} (h : a = true) (k : b = true) : (a && b) = true := by rw [h, k]; rfl
theorem printBack_k0 : (Rows.printBackRow.wf (OpenSpec.ofChange Rows.printBackSpec)) = true := by kernel_rfl
theorem printBack_k1 : (laidOutB Tryz.prog) = true := by kernel_rfl
theorem printBack_k2 : (mapsRowed Tryz.prog) = true := by kernel_rfl
theorem printBack_k3 : (Tryz.f5.params.all (Tryz.prog.readableRec ·)) = true := by kernel_rfl
theorem printBack_k4 : (namedTie Tryz.prog Rows.printBackRow.named Rows.printBackSpec.vars) = true := by kernel_rfl
theorem printBack_k5 : ((Rows.printBackRow.stops == [])) = true := by kernel_rfl
theorem printBack_k6 : ((Tryz.prog.stops == [])) = true := by kernel_rfl
theorem printBack_k7 : ((Rows.printBackRow.knobs == [])) = true := by kernel_rfl
theorem printBack_k8 : ((Tryz.prog.stopKnobs == [])) = true := by kernel_rfl
theorem printBack_k9 : ((Rows.printBackRow.inPlace == Tryz.prog.inPlace 5)) = true := by kernel_rfl
theorem printBack_k10 : ((Rows.printBackRow.unfollowed == Tryz.prog.unfollowed 5)) = true := by kernel_rfl
theorem printBack_k11 : ((Rows.printBackRow.recurses == Tryz.prog.recurses 5)) = true := by kernel_rfl
theorem printBack_k12 : ((Rows.printBackRow.named == Tryz.prog.varsNamed 5)) = true := by kernel_rfl
theorem printBack_k13 : ((Rows.printBackRow.maps == (Tryz.f5.params.toList ++ Rows.printBackSpec.plain.varTypes Tryz.prog).any (Tryz.prog.mapsRec ·))) = true := by kernel_rfl
theorem printBack_k14 : ((Rows.printBackRow.ifaces == (Tryz.f5.params.toList ++ Rows.printBackSpec.plain.varTypes Tryz.prog).any (Tryz.prog.ifacesRec ·))) = true := by kernel_rfl
theorem printBack_k15 : ((Rows.printBackRow.mapsOut == Tryz.prog.mapsAmong Tryz.f5.resultTypes.toList)) = true := by kernel_rfl
theorem printBack_k16 : ((Rows.printBackRow.loops == (Tryz.f5.params.toList ++ Rows.printBackSpec.plain.varTypes Tryz.prog).any (Tryz.prog.loopsFrom ·))) = true := by kernel_rfl
theorem printBack_k17 : ((Rows.printBackRow.wideKeys == (Tryz.f5.params.toList ++ Rows.printBackSpec.plain.varTypes Tryz.prog ++ Tryz.f5.resultTypes.toList).any (Tryz.prog.wideKeysFrom ·))) = true := by kernel_rfl
theorem printBack_k18 : (Rows.printBackSpec.vars.all (Tryz.prog.varReadable ·)) = true := by kernel_rfl
theorem printBack_k19 : (Tryz.f5.resultTypes.all (fun t => Tryz.prog.readableRec t && decide (t < Tryz.prog.types.size))) = true := by kernel_rfl
theorem printBack_k20 : ((Rows.printBackRow.ifacesOut == Tryz.f5.resultTypes.toList.any (Tryz.prog.ifacesRec ·))) = true := by kernel_rfl
theorem printBack_k21 : ((Rows.printBackRow.loopsOut == Tryz.f5.resultTypes.toList.any (Tryz.prog.loopsFrom ·))) = true := by kernel_rfl
theorem printBack_k22 : ((Rows.printBackRow.plainKeys == Tryz.prog.plainKeys)) = true := by kernel_rfl
theorem printBack_k23 : (Rows.printBackRow.shortTexts.isNone) = true := by kernel_rfl
theorem printBack_k24 : (Tryz.prog.stopsHeard) = true := by kernel_rfl
theorem printBack_k25 : (Tryz.prog.mayEnter) = true := by kernel_rfl
theorem printBack_k26 : ((Rows.printBackRow.lifted == Tryz.prog.liftsFinal)) = true := by kernel_rfl
theorem printBack_k27 : ((Tryz.prog.make == some Rows.printBackRow.make)) = true := by kernel_rfl
theorem printBack_k28 : ((Rows.printBackRow.kinds == (if Rows.printBackRow.domain.isEmpty then [] else Tryz.f5.params.toList.map fun t => match Tryz.prog.underlying t with | some (.int k) => some k | _ => none))) = true := by kernel_rfl
theorem printBack_k29 : ((Rows.printBackRow.pinned == Rows.printBackRow.pinnedBy)) = true := by kernel_rfl
theorem printBack_k30 : ((Rows.printBackRow.veiled == (Tryz.f5.params.toList ++ Rows.printBackSpec.plain.varTypes Tryz.prog ++ Tryz.f5.resultTypes.toList).any (Tryz.prog.veiledRec ·))) = true := by kernel_rfl
theorem printBack_k31 : (Rows.printBackRow.veiledFits Tryz.prog Tryz.f5.params.toList (Tryz.f5.params.toList ++ Rows.printBackSpec.plain.varTypes Tryz.prog ++ Tryz.f5.resultTypes.toList)) = true := by kernel_rfl
theorem printBack_kn : Tryz.prog.funcNamed "runnel/runnellaw6.PrintBack" = some 5 := by kernel_rfl
theorem printBack_inst : Tryz.f5.isInstance Tryz.prog Rows.printBackRow.origin Rows.printBackRow.targs := of_decide_eq_true (by kernel_rfl)
theorem printBack_wrap : Tryz.f5.isWrapper Tryz.prog Rows.printBackRow.wrapper Rows.printBackRow.mainSum := by
  unfold Func.isWrapper
  first
    | (rw [if_pos (by decide +kernel)]; kernel_rfl)
    | (rw [if_neg (by decide +kernel)]; exact ⟨rfl, rfl⟩)
end Go.Proofs.YteecfjhjllajlaaGreatDoor
