/- PROVED here: the closed facts that the row of TypesMean asks of the program, one by one. No condition but those in each theorem's own head. -/
import Derived.Test.YteecfjhjllajlaaGreatDoorRows
import Derived.Test.YteecfjhjllajlaaGreatDoorE01
import Derived.JoinedOf
namespace Go.Proofs.YteecfjhjllajlaaGreatDoor
open Go Go.ChangeShapes Go.WideShapes Go.ChangeAt Go.RowKit

theorem typesMean_and {a b : Bool} (h : a = true) (k : b = true) : (a && b) = true := by rw [h, k]; rfl
theorem typesMean_k0 : (Rows.typesMeanRow.wf (OpenSpec.ofChange Rows.typesMeanSpec)) = true := by kernel_rfl
theorem typesMean_k1 : (laidOutB Tryz.prog) = true := by kernel_rfl
theorem typesMean_k2 : (mapsRowed Tryz.prog) = true := by kernel_rfl
theorem typesMean_k3 : (Tryz.f11.params.all (Tryz.prog.readableRec ·)) = true := by kernel_rfl
theorem typesMean_k4 : (namedTie Tryz.prog Rows.typesMeanRow.named Rows.typesMeanSpec.vars) = true := by kernel_rfl
theorem typesMean_k5 : ((Rows.typesMeanRow.stops == [])) = true := by kernel_rfl
theorem typesMean_k6 : ((Tryz.prog.stops == [])) = true := by kernel_rfl
theorem typesMean_k7 : ((Rows.typesMeanRow.knobs == [])) = true := by kernel_rfl
theorem typesMean_k8 : ((Tryz.prog.stopKnobs == [])) = true := by kernel_rfl
theorem typesMean_k9 : ((Rows.typesMeanRow.inPlace == Tryz.prog.inPlace 11)) = true := by kernel_rfl
theorem typesMean_k10 : ((Rows.typesMeanRow.unfollowed == Tryz.prog.unfollowed 11)) = true := by kernel_rfl
theorem typesMean_k11 : ((Rows.typesMeanRow.recurses == Tryz.prog.recurses 11)) = true := by kernel_rfl
theorem typesMean_k12 : ((Rows.typesMeanRow.named == Tryz.prog.varsNamed 11)) = true := by kernel_rfl
theorem typesMean_k13 : ((Rows.typesMeanRow.maps == (Tryz.f11.params.toList ++ Rows.typesMeanSpec.plain.varTypes Tryz.prog).any (Tryz.prog.mapsRec ·))) = true := by kernel_rfl
theorem typesMean_k14 : ((Rows.typesMeanRow.ifaces == (Tryz.f11.params.toList ++ Rows.typesMeanSpec.plain.varTypes Tryz.prog).any (Tryz.prog.ifacesRec ·))) = true := by kernel_rfl
theorem typesMean_k15 : ((Rows.typesMeanRow.mapsOut == Tryz.prog.mapsAmong Tryz.f11.resultTypes.toList)) = true := by kernel_rfl
theorem typesMean_k16 : ((Rows.typesMeanRow.loops == (Tryz.f11.params.toList ++ Rows.typesMeanSpec.plain.varTypes Tryz.prog).any (Tryz.prog.loopsFrom ·))) = true := by kernel_rfl
theorem typesMean_k17 : ((Rows.typesMeanRow.wideKeys == (Tryz.f11.params.toList ++ Rows.typesMeanSpec.plain.varTypes Tryz.prog ++ Tryz.f11.resultTypes.toList).any (Tryz.prog.wideKeysFrom ·))) = true := by kernel_rfl
theorem typesMean_k18 : (Rows.typesMeanSpec.vars.all (Tryz.prog.varReadable ·)) = true := by kernel_rfl
theorem typesMean_k19 : (Tryz.f11.resultTypes.all (fun t => Tryz.prog.readableRec t && decide (t < Tryz.prog.types.size))) = true := by kernel_rfl
theorem typesMean_k20 : ((Rows.typesMeanRow.ifacesOut == Tryz.f11.resultTypes.toList.any (Tryz.prog.ifacesRec ·))) = true := by kernel_rfl
theorem typesMean_k21 : ((Rows.typesMeanRow.loopsOut == Tryz.f11.resultTypes.toList.any (Tryz.prog.loopsFrom ·))) = true := by kernel_rfl
theorem typesMean_k22 : ((Rows.typesMeanRow.plainKeys == Tryz.prog.plainKeys)) = true := by kernel_rfl
theorem typesMean_k23 : (Rows.typesMeanRow.shortTexts.isNone) = true := by kernel_rfl
theorem typesMean_k24 : (Tryz.prog.stopsHeard) = true := by kernel_rfl
theorem typesMean_k25 : (Tryz.prog.mayEnter) = true := by kernel_rfl
theorem typesMean_k26 : ((Rows.typesMeanRow.lifted == Tryz.prog.liftsFinal)) = true := by kernel_rfl
theorem typesMean_k27 : ((Tryz.prog.make == some Rows.typesMeanRow.make)) = true := by kernel_rfl
theorem typesMean_k28 : ((Rows.typesMeanRow.kinds == (if Rows.typesMeanRow.domain.isEmpty then [] else Tryz.f11.params.toList.map fun t => match Tryz.prog.underlying t with | some (.int k) => some k | _ => none))) = true := by kernel_rfl
theorem typesMean_k29 : ((Rows.typesMeanRow.pinned == Rows.typesMeanRow.pinnedBy)) = true := by kernel_rfl
theorem typesMean_k30 : ((Rows.typesMeanRow.veiled == (Tryz.f11.params.toList ++ Rows.typesMeanSpec.plain.varTypes Tryz.prog ++ Tryz.f11.resultTypes.toList).any (Tryz.prog.veiledRec ·))) = true := by kernel_rfl
theorem typesMean_k31 : (Rows.typesMeanRow.veiledFits Tryz.prog Tryz.f11.params.toList (Tryz.f11.params.toList ++ Rows.typesMeanSpec.plain.varTypes Tryz.prog ++ Tryz.f11.resultTypes.toList)) = true := by kernel_rfl
theorem typesMean_kn : Tryz.prog.funcNamed "runnel/runnellaw7.TypesMean" = some 11 := by kernel_rfl
theorem typesMean_inst : Tryz.f11.isInstance Tryz.prog Rows.typesMeanRow.origin Rows.typesMeanRow.targs := of_decide_eq_true (by kernel_rfl)
theorem typesMean_wrap : Tryz.f11.isWrapper Tryz.prog Rows.typesMeanRow.wrapper Rows.typesMeanRow.mainSum := by
  unfold Func.isWrapper
  first
    | (rw [if_pos (by decide +kernel)]; kernel_rfl)
    | (rw [if_neg (by decide +kernel)]; exact ⟨rfl, rfl⟩)
end Go.Proofs.YteecfjhjllajlaaGreatDoor
