/- PROVED here: the closed facts that the row of TypesOwner asks of the program, one by one. No condition but those in each theorem's own head. -/
import Derived.Test.YteecfjhjllajlaaGreatDoorRows
import Derived.Test.YteecfjhjllajlaaGreatDoorE01
import Derived.JoinedOf
namespace Go.Proofs.YteecfjhjllajlaaGreatDoor
open Go Go.ChangeShapes Go.WideShapes Go.ChangeAt Go.RowKit

theorem typesOwner_and {a b : Bool} (h : a = true) (k : b = true) : (a && b) = true := by rw [h, k]; rfl
theorem typesOwner_k0 : (Rows.typesOwnerRow.wf (OpenSpec.ofChange Rows.typesOwnerSpec)) = true := by kernel_rfl
theorem typesOwner_k1 : (laidOutB Tryz.prog) = true := by kernel_rfl
theorem typesOwner_k2 : (mapsRowed Tryz.prog) = true := by kernel_rfl
theorem typesOwner_k3 : (Tryz.f13.params.all (Tryz.prog.readableRec ·)) = true := by kernel_rfl
theorem typesOwner_k4 : (namedTie Tryz.prog Rows.typesOwnerRow.named Rows.typesOwnerSpec.vars) = true := by kernel_rfl
theorem typesOwner_k5 : ((Rows.typesOwnerRow.stops == [])) = true := by kernel_rfl
theorem typesOwner_k6 : ((Tryz.prog.stops == [])) = true := by kernel_rfl
theorem typesOwner_k7 : ((Rows.typesOwnerRow.knobs == [])) = true := by kernel_rfl
theorem typesOwner_k8 : ((Tryz.prog.stopKnobs == [])) = true := by kernel_rfl
theorem typesOwner_k9 : ((Rows.typesOwnerRow.inPlace == Tryz.prog.inPlace 13)) = true := by kernel_rfl
theorem typesOwner_k10 : ((Rows.typesOwnerRow.unfollowed == Tryz.prog.unfollowed 13)) = true := by kernel_rfl
theorem typesOwner_k11 : ((Rows.typesOwnerRow.recurses == Tryz.prog.recurses 13)) = true := by kernel_rfl
theorem typesOwner_k12 : ((Rows.typesOwnerRow.named == Tryz.prog.varsNamed 13)) = true := by kernel_rfl
theorem typesOwner_k13 : ((Rows.typesOwnerRow.maps == (Tryz.f13.params.toList ++ Rows.typesOwnerSpec.plain.varTypes Tryz.prog).any (Tryz.prog.mapsRec ·))) = true := by kernel_rfl
theorem typesOwner_k14 : ((Rows.typesOwnerRow.ifaces == (Tryz.f13.params.toList ++ Rows.typesOwnerSpec.plain.varTypes Tryz.prog).any (Tryz.prog.ifacesRec ·))) = true := by kernel_rfl
theorem typesOwner_k15 : ((Rows.typesOwnerRow.mapsOut == Tryz.prog.mapsAmong Tryz.f13.resultTypes.toList)) = true := by kernel_rfl
theorem typesOwner_k16 : ((Rows.typesOwnerRow.loops == (Tryz.f13.params.toList ++ Rows.typesOwnerSpec.plain.varTypes Tryz.prog).any (Tryz.prog.loopsFrom ·))) = true := by kernel_rfl
theorem typesOwner_k17 : ((Rows.typesOwnerRow.wideKeys == (Tryz.f13.params.toList ++ Rows.typesOwnerSpec.plain.varTypes Tryz.prog ++ Tryz.f13.resultTypes.toList).any (Tryz.prog.wideKeysFrom ·))) = true := by kernel_rfl
theorem typesOwner_k18 : (Rows.typesOwnerSpec.vars.all (Tryz.prog.varReadable ·)) = true := by kernel_rfl
theorem typesOwner_k19 : (Tryz.f13.resultTypes.all (fun t => Tryz.prog.readableRec t && decide (t < Tryz.prog.types.size))) = true := by kernel_rfl
theorem typesOwner_k20 : ((Rows.typesOwnerRow.ifacesOut == Tryz.f13.resultTypes.toList.any (Tryz.prog.ifacesRec ·))) = true := by kernel_rfl
theorem typesOwner_k21 : ((Rows.typesOwnerRow.loopsOut == Tryz.f13.resultTypes.toList.any (Tryz.prog.loopsFrom ·))) = true := by kernel_rfl
theorem typesOwner_k22 : ((Rows.typesOwnerRow.plainKeys == Tryz.prog.plainKeys)) = true := by kernel_rfl
theorem typesOwner_k23 : (Rows.typesOwnerRow.shortTexts.isNone) = true := by kernel_rfl
theorem typesOwner_k24 : (Tryz.prog.stopsHeard) = true := by kernel_rfl
theorem typesOwner_k25 : (Tryz.prog.mayEnter) = true := by kernel_rfl
theorem typesOwner_k26 : ((Rows.typesOwnerRow.lifted == Tryz.prog.liftsFinal)) = true := by kernel_rfl
theorem typesOwner_k27 : ((Tryz.prog.make == some Rows.typesOwnerRow.make)) = true := by kernel_rfl
theorem typesOwner_k28 : ((Rows.typesOwnerRow.kinds == (if Rows.typesOwnerRow.domain.isEmpty then [] else Tryz.f13.params.toList.map fun t => match Tryz.prog.underlying t with | some (.int k) => some k | _ => none))) = true := by kernel_rfl
theorem typesOwner_k29 : ((Rows.typesOwnerRow.pinned == Rows.typesOwnerRow.pinnedBy)) = true := by kernel_rfl
theorem typesOwner_k30 : ((Rows.typesOwnerRow.veiled == (Tryz.f13.params.toList ++ Rows.typesOwnerSpec.plain.varTypes Tryz.prog ++ Tryz.f13.resultTypes.toList).any (Tryz.prog.veiledRec ·))) = true := by kernel_rfl
theorem typesOwner_k31 : (Rows.typesOwnerRow.veiledFits Tryz.prog Tryz.f13.params.toList (Tryz.f13.params.toList ++ Rows.typesOwnerSpec.plain.varTypes Tryz.prog ++ Tryz.f13.resultTypes.toList)) = true := by kernel_rfl
theorem typesOwner_kn : Tryz.prog.funcNamed "runnel/runnellaw7.TypesOwner" = some 13 := by kernel_rfl
theorem typesOwner_inst : Tryz.f13.isInstance Tryz.prog Rows.typesOwnerRow.origin Rows.typesOwnerRow.targs := of_decide_eq_true (by kernel_rfl)
theorem typesOwner_wrap : Tryz.f13.isWrapper Tryz.prog Rows.typesOwnerRow.wrapper Rows.typesOwnerRow.mainSum := by
  unfold Func.isWrapper
  first
    | (rw [if_pos (by decide +kernel)]; kernel_rfl)
    | (rw [if_neg (by decide +kernel)]; exact ⟨rfl, rfl⟩)
end Go.Proofs.YteecfjhjllajlaaGreatDoor
