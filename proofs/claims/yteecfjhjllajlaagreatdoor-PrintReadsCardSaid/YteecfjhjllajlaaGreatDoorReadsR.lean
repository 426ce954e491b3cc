/- PROVED here: a part of the closing of the law PrintReads. No condition but those in each theorem's own head. -/
import Derived.Test.YteecfjhjllajlaaGreatDoorReadsL
import Derived.Test.YteecfjhjllajlaaGreatDoorReadsK
import Derived.SevenTiedAt
import Derived.ChangeMaps5
namespace Go.Proofs.YteecfjhjllajlaaGreatDoor
open Go Go.ChangeShapes Go.WideShapes Go.ChangeAt Go.RowKit

set_option maxRecDepth 100000 in
theorem printReads_closed : joinedFacts Tryz.prog 6 Tryz.f6 Rows.printReadsSpec Rows.printReadsRow = true := (printReads_and (printReads_and (printReads_and (printReads_and (printReads_and (printReads_and (printReads_and (printReads_and (printReads_and (printReads_and (printReads_and (printReads_and (printReads_and (printReads_and (printReads_and (printReads_and (printReads_and (printReads_and (printReads_and (printReads_and (printReads_and (printReads_and (printReads_and (printReads_and (printReads_and (printReads_and (printReads_and (printReads_and (printReads_and (printReads_and (printReads_and printReads_k0 printReads_k1) printReads_k2) printReads_k3) printReads_k4) printReads_k5) printReads_k6) printReads_k7) printReads_k8) printReads_k9) printReads_k10) printReads_k11) printReads_k12) printReads_k13) printReads_k14) printReads_k15) printReads_k16) printReads_k17) printReads_k18) printReads_k19) printReads_k20) printReads_k21) printReads_k22) printReads_k23) printReads_k24) printReads_k25) printReads_k26) printReads_k27) printReads_k28) printReads_k29) printReads_k30) printReads_k31)
set_option maxRecDepth 100000 in
set_option maxHeartbeats 4000000 in
theorem printReads_row : Rows.PrintReadsSaid :=
  OpenClaim.holds_of_wide 6 Tryz.f6 rfl rfl rfl rfl rfl rfl rfl ⟨rfl, rfl, rfl, rfl, rfl⟩ rfl rfl rfl rfl rfl printReads_kn Tryz.func6 printReads_closed printReads_inst printReads_wrap
    (fun os started H enc _ => printReads_lifted os started H enc)

end Go.Proofs.YteecfjhjllajlaaGreatDoor
