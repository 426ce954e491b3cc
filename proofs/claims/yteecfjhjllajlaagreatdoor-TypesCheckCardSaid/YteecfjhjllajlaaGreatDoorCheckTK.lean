/- PROVED here: the closed facts that the row of TypesCheck asks of the program, one by one. No condition but those in each theorem's own head. -/
import Derived.Test.YteecfjhjllajlaaGreatDoorRows
import Derived.Test.YteecfjhjllajlaaGreatDoorG01
import Derived.JoinedOf
namespace Go.Proofs.YteecfjhjllajlaaGreatDoor
open Go Go.ChangeShapes Go.WideShapes Go.ChangeAt Go.RowKit

theorem typesCheck_and {a b : Bool} (h : a = true) (k : b = true) : (a && b) = true := by rw [h, k]; rfl
theorem typesCheck_k0 : (Rows.typesCheckRow.wf (OpenSpec.ofChange Rows.typesCheckSpec)) = true := by kernel_rfl
theorem typesCheck_k1 : (laidOutB Tryz.prog) = true := by kernel_rfl
theorem typesCheck_k2 : (mapsRowed Tryz.prog) = true := by kernel_rfl
theorem typesCheck_k3 : (Tryz.f9.params.all (Tryz.prog.readableRec ·)) = true := by kernel_rfl
theorem typesCheck_k4 : (namedTie Tryz.prog Rows.typesCheckRow.named Rows.typesCheckSpec.vars) = true := by kernel_rfl
theorem typesCheck_k5 : ((Rows.typesCheckRow.stops == [])) = true := by kernel_rfl
theorem typesCheck_k6 : ((Tryz.prog.stops == [])) = true := by kernel_rfl
theorem typesCheck_k7 : ((Rows.typesCheckRow.knobs == [])) = true := by kernel_rfl
theorem typesCheck_k8 : ((Tryz.prog.stopKnobs == [])) = true := by kernel_rfl
theorem typesCheck_k9 : ((Rows.typesCheckRow.inPlace == Tryz.prog.inPlace 9)) = true := by kernel_rfl
theorem typesCheck_k10 : ((Rows.typesCheckRow.unfollowed == Tryz.prog.unfollowed 9)) = true := by kernel_rfl
theorem typesCheck_k11 : ((Rows.typesCheckRow.recurses == Tryz.prog.recurses 9)) = true := by kernel_rfl
theorem typesCheck_k12 : ((Rows.typesCheckRow.named == Tryz.prog.varsNamed 9)) = true := by kernel_rfl
theorem typesCheck_k13 : ((Rows.typesCheckRow.maps == (Tryz.f9.params.toList ++ Rows.typesCheckSpec.plain.varTypes Tryz.prog).any (Tryz.prog.mapsRec ·))) = true := by kernel_rfl
theorem typesCheck_k14 : ((Rows.typesCheckRow.ifaces == (Tryz.f9.params.toList ++ Rows.typesCheckSpec.plain.varTypes Tryz.prog).any (Tryz.prog.ifacesRec ·))) = true := by kernel_rfl
theorem typesCheck_k15 : ((Rows.typesCheckRow.mapsOut == Tryz.prog.mapsAmong Tryz.f9.resultTypes.toList)) = true := by kernel_rfl
theorem typesCheck_k16 : ((Rows.typesCheckRow.loops == (Tryz.f9.params.toList ++ Rows.typesCheckSpec.plain.varTypes Tryz.prog).any (Tryz.prog.loopsFrom ·))) = true := by kernel_rfl
theorem typesCheck_k17 : ((Rows.typesCheckRow.wideKeys == (Tryz.f9.params.toList ++ Rows.typesCheckSpec.plain.varTypes Tryz.prog ++ Tryz.f9.resultTypes.toList).any (Tryz.prog.wideKeysFrom ·))) = true := by kernel_rfl
theorem typesCheck_k18 : (Rows.typesCheckSpec.vars.all (Tryz.prog.varReadable ·)) = true := by kernel_rfl
theorem typesCheck_k19 : (Tryz.f9.resultTypes.all (fun t => Tryz.prog.readableRec t && decide (t < Tryz.prog.types.size))) = true := by kernel_rfl
theorem typesCheck_k20 : ((Rows.typesCheckRow.ifacesOut == Tryz.f9.resultTypes.toList.any (Tryz.prog.ifacesRec ·))) = true := by kernel_rfl
theorem typesCheck_k21 : ((Rows.typesCheckRow.loopsOut == Tryz.f9.resultTypes.toList.any (Tryz.prog.loopsFrom ·))) = true := by kernel_rfl
theorem typesCheck_k22 : ((Rows.typesCheckRow.plainKeys == Tryz.prog.plainKeys)) = true := by kernel_rfl
theorem typesCheck_k23 : (Rows.typesCheckRow.shortTexts.isNone) = true := by kernel_rfl
theorem typesCheck_k24 : (Tryz.prog.stopsHeard) = true := by kernel_rfl
theorem typesCheck_k25 : (Tryz.prog.mayEnter) = true := by kernel_rfl
theorem typesCheck_k26 : ((Rows.typesCheckRow.lifted == Tryz.prog.liftsFinal)) = true := by kernel_rfl
theorem typesCheck_k27 : ((Tryz.prog.make == some Rows.typesCheckRow.make)) = true := by kernel_rfl
theorem typesCheck_k28 : ((Rows.typesCheckRow.kinds == (if Rows.typesCheckRow.domain.isEmpty then [] else Tryz.f9.params.toList.map fun t => match Tryz.prog.underlying t with | some (.int k) => some k | _ => none))) = true := by kernel_rfl
theorem typesCheck_k29 : ((Rows.typesCheckRow.pinned == Rows.typesCheckRow.pinnedBy)) = true := by kernel_rfl
theorem typesCheck_k30 : ((Rows.typesCheckRow.veiled == (Tryz.f9.params.toList ++ Rows.typesCheckSpec.plain.varTypes Tryz.prog ++ Tryz.f9.resultTypes.toList).any (Tryz.prog.veiledRec ·))) = true := by kernel_rfl
theorem typesCheck_k31 : (Rows.typesCheckRow.veiledFits Tryz.prog Tryz.f9.params.toList (Tryz.f9.params.toList ++ Rows.typesCheckSpec.plain.varTypes Tryz.prog ++ Tryz.f9.resultTypes.toList)) = true := by kernel_rfl
theorem typesCheck_kn : Tryz.prog.funcNamed "runnel/runnellaw7.TypesCheck" = some 9 := by kernel_rfl
theorem typesCheck_inst : Tryz.f9.isInstance Tryz.prog Rows.typesCheckRow.origin Rows.typesCheckRow.targs := of_decide_eq_true (by kernel_rfl)
theorem typesCheck_wrap : Tryz.f9.isWrapper Tryz.prog Rows.typesCheckRow.wrapper Rows.typesCheckRow.mainSum := by
  unfold Func.isWrapper
  first
    | (rw [if_pos (by decide +kernel)]; kernel_rfl)
    | (rw [if_neg (by decide +kernel)]; exact ⟨rfl, rfl⟩)
end Go.Proofs.YteecfjhjllajlaaGreatDoor
