/- PROVED here: a part of the closing of the law PrintLines. No condition but those in each theorem's own head. -/
import Derived.Test.YteecfjhjllajlaaGreatDoorLinesL
import Derived.Test.YteecfjhjllajlaaGreatDoorLinesK
import Derived.SevenTiedAt
import Derived.ChangeMaps5
namespace Go.Proofs.YteecfjhjllajlaaGreatDoor
open Go Go.ChangeShapes Go.WideShapes Go.ChangeAt Go.RowKit

set_option maxRecDepth 100000 in
theorem printLines_closed : joinedFacts Tryz.prog 7 Tryz.f7 Rows.printLinesSpec Rows.printLinesRow = true := (printLines_and (printLines_and (printLines_and (printLines_and (printLines_and (printLines_and (printLines_and (printLines_and (printLines_and (printLines_and (printLines_and (printLines_and (printLines_and (printLines_and (printLines_and (printLines_and (printLines_and (printLines_and (printLines_and (printLines_and (printLines_and (printLines_and (printLines_and (printLines_and (printLines_and (printLines_and (printLines_and (printLines_and (printLines_and (printLines_and (printLines_and printLines_k0 printLines_k1) printLines_k2) printLines_k3) printLines_k4) printLines_k5) printLines_k6) printLines_k7) printLines_k8) printLines_k9) printLines_k10) printLines_k11) printLines_k12) printLines_k13) printLines_k14) printLines_k15) printLines_k16) printLines_k17) printLines_k18) printLines_k19) printLines_k20) printLines_k21) printLines_k22) printLines_k23) printLines_k24) printLines_k25) printLines_k26) printLines_k27) printLines_k28) printLines_k29) printLines_k30) printLines_k31)
set_option maxRecDepth 100000 in
set_option maxHeartbeats 4000000 in
theorem printLines_row : Rows.PrintLinesSaid :=
  OpenClaim.holds_of_wide 7 Tryz.f7 rfl rfl rfl rfl rfl rfl rfl ⟨rfl, rfl, rfl, rfl, rfl⟩ rfl rfl rfl rfl rfl printLines_kn Tryz.func7 printLines_closed printLines_inst printLines_wrap
    (fun os started H enc _ => printLines_lifted os started H enc)

end Go.Proofs.YteecfjhjllajlaaGreatDoor
