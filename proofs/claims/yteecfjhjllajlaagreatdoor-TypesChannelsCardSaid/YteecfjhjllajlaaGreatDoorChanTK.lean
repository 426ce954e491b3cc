/- PROVED here: the closed facts that the row of TypesChannels asks of the program, one by one. No condition but those in each theorem's own head. -/
import Derived.Test.YteecfjhjllajlaaGreatDoorRows
import Derived.Test.YteecfjhjllajlaaGreatDoorH01
import Derived.JoinedOf
namespace Go.Proofs.YteecfjhjllajlaaGreatDoor
open Go Go.ChangeShapes Go.WideShapes Go.ChangeAt Go.RowKit

theorem typesChannels_and {a b : Bool} (h : a = true) (k : b = true) : (a && b) = true := by rw [h, k]; rfl
theorem typesChannels_k0 : (Rows.typesChannelsRow.wf (OpenSpec.ofChange Rows.typesChannelsSpec)) = true := by kernel_rfl
theorem typesChannels_k1 : (laidOutB Tryz.prog) = true := by kernel_rfl
theorem typesChannels_k2 : (mapsRowed Tryz.prog) = true := by kernel_rfl
theorem typesChannels_k3 : (Tryz.f14.params.all (Tryz.prog.readableRec ·)) = true := by kernel_rfl
theorem typesChannels_k4 : (namedTie Tryz.prog Rows.typesChannelsRow.named Rows.typesChannelsSpec.vars) = true := by kernel_rfl
theorem typesChannels_k5 : ((Rows.typesChannelsRow.stops == [])) = true := by kernel_rfl
theorem typesChannels_k6 : ((Tryz.prog.stops == [])) = true := by kernel_rfl
theorem typesChannels_k7 : ((Rows.typesChannelsRow.knobs == [])) = true := by kernel_rfl
theorem typesChannels_k8 : ((Tryz.prog.stopKnobs == [])) = true := by kernel_rfl
theorem typesChannels_k9 : ((Rows.typesChannelsRow.inPlace == Tryz.prog.inPlace 14)) = true := by kernel_rfl
theorem typesChannels_k10 : ((Rows.typesChannelsRow.unfollowed == Tryz.prog.unfollowed 14)) = true := by kernel_rfl
theorem typesChannels_k11 : ((Rows.typesChannelsRow.recurses == Tryz.prog.recurses 14)) = true := by kernel_rfl
theorem typesChannels_k12 : ((Rows.typesChannelsRow.named == Tryz.prog.varsNamed 14)) = true := by kernel_rfl
theorem typesChannels_k13 : ((Rows.typesChannelsRow.maps == (Tryz.f14.params.toList ++ Rows.typesChannelsSpec.plain.varTypes Tryz.prog).any (Tryz.prog.mapsRec ·))) = true := by kernel_rfl
theorem typesChannels_k14 : ((Rows.typesChannelsRow.ifaces == (Tryz.f14.params.toList ++ Rows.typesChannelsSpec.plain.varTypes Tryz.prog).any (Tryz.prog.ifacesRec ·))) = true := by kernel_rfl
theorem typesChannels_k15 : ((Rows.typesChannelsRow.mapsOut == Tryz.prog.mapsAmong Tryz.f14.resultTypes.toList)) = true := by kernel_rfl
theorem typesChannels_k16 : ((Rows.typesChannelsRow.loops == (Tryz.f14.params.toList ++ Rows.typesChannelsSpec.plain.varTypes Tryz.prog).any (Tryz.prog.loopsFrom ·))) = true := by kernel_rfl
theorem typesChannels_k17 : ((Rows.typesChannelsRow.wideKeys == (Tryz.f14.params.toList ++ Rows.typesChannelsSpec.plain.varTypes Tryz.prog ++ Tryz.f14.resultTypes.toList).any (Tryz.prog.wideKeysFrom ·))) = true := by kernel_rfl
theorem typesChannels_k18 : (Rows.typesChannelsSpec.vars.all (Tryz.prog.varReadable ·)) = true := by kernel_rfl
theorem typesChannels_k19 : (Tryz.f14.resultTypes.all (fun t => Tryz.prog.readableRec t && decide (t < Tryz.prog.types.size))) = true := by kernel_rfl
theorem typesChannels_k20 : ((Rows.typesChannelsRow.ifacesOut == Tryz.f14.resultTypes.toList.any (Tryz.prog.ifacesRec ·))) = true := by kernel_rfl
theorem typesChannels_k21 : ((Rows.typesChannelsRow.loopsOut == Tryz.f14.resultTypes.toList.any (Tryz.prog.loopsFrom ·))) = true := by kernel_rfl
theorem typesChannels_k22 : ((Rows.typesChannelsRow.plainKeys == Tryz.prog.plainKeys)) = true := by kernel_rfl
theorem typesChannels_k23 : (Rows.typesChannelsRow.shortTexts.isNone) = true := by kernel_rfl
theorem typesChannels_k24 : (Tryz.prog.stopsHeard) = true := by kernel_rfl
theorem typesChannels_k25 : (Tryz.prog.mayEnter) = true := by kernel_rfl
theorem typesChannels_k26 : ((Rows.typesChannelsRow.lifted == Tryz.prog.liftsFinal)) = true := by kernel_rfl
theorem typesChannels_k27 : ((Tryz.prog.make == some Rows.typesChannelsRow.make)) = true := by kernel_rfl
theorem typesChannels_k28 : ((Rows.typesChannelsRow.kinds == (if Rows.typesChannelsRow.domain.isEmpty then [] else Tryz.f14.params.toList.map fun t => match Tryz.prog.underlying t with | some (.int k) => some k | _ => none))) = true := by kernel_rfl
theorem typesChannels_k29 : ((Rows.typesChannelsRow.pinned == Rows.typesChannelsRow.pinnedBy)) = true := by kernel_rfl
theorem typesChannels_k30 : ((Rows.typesChannelsRow.veiled == (Tryz.f14.params.toList ++ Rows.typesChannelsSpec.plain.varTypes Tryz.prog ++ Tryz.f14.resultTypes.toList).any (Tryz.prog.veiledRec ·))) = true := by kernel_rfl
theorem typesChannels_k31 : (Rows.typesChannelsRow.veiledFits Tryz.prog Tryz.f14.params.toList (Tryz.f14.params.toList ++ Rows.typesChannelsSpec.plain.varTypes Tryz.prog ++ Tryz.f14.resultTypes.toList)) = true := by kernel_rfl
theorem typesChannels_kn : Tryz.prog.funcNamed "runnel/runnellaw7.TypesChannels" = some 14 := by kernel_rfl
theorem typesChannels_inst : Tryz.f14.isInstance Tryz.prog Rows.typesChannelsRow.origin Rows.typesChannelsRow.targs := of_decide_eq_true (by kernel_rfl)
theorem typesChannels_wrap : Tryz.f14.isWrapper Tryz.prog Rows.typesChannelsRow.wrapper Rows.typesChannelsRow.mainSum := by
  unfold Func.isWrapper
  first
    | (rw [if_pos (by decide +kernel)]; kernel_rfl)
    | (rw [if_neg (by decide +kernel)]; exact ⟨rfl, rfl⟩)
end Go.Proofs.YteecfjhjllajlaaGreatDoor
