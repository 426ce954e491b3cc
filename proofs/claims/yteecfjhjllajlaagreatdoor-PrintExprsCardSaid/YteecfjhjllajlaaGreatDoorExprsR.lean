/- PROVED here: a part of the closing of the law PrintExprs. No condition but those in each theorem's own head. -/
import Derived.Test.YteecfjhjllajlaaGreatDoorExprsL
import Derived.Test.YteecfjhjllajlaaGreatDoorExprsK
import Derived.SevenTiedAt
import Derived.ChangeMaps5
namespace Go.Proofs.YteecfjhjllajlaaGreatDoor
open Go Go.ChangeShapes Go.WideShapes Go.ChangeAt Go.RowKit

set_option maxRecDepth 100000 in
theorem printExprs_closed : joinedFacts Tryz.prog 8 Tryz.f8 Rows.printExprsSpec Rows.printExprsRow = true := (printExprs_and (printExprs_and (printExprs_and (printExprs_and (printExprs_and (printExprs_and (printExprs_and (printExprs_and (printExprs_and (printExprs_and (printExprs_and (printExprs_and (printExprs_and (printExprs_and (printExprs_and (printExprs_and (printExprs_and (printExprs_and (printExprs_and (printExprs_and (printExprs_and (printExprs_and (printExprs_and (printExprs_and (printExprs_and (printExprs_and (printExprs_and (printExprs_and (printExprs_and (printExprs_and (printExprs_and printExprs_k0 printExprs_k1) printExprs_k2) printExprs_k3) printExprs_k4) printExprs_k5) printExprs_k6) printExprs_k7) printExprs_k8) printExprs_k9) printExprs_k10) printExprs_k11) printExprs_k12) printExprs_k13) printExprs_k14) printExprs_k15) printExprs_k16) printExprs_k17) printExprs_k18) printExprs_k19) printExprs_k20) printExprs_k21) printExprs_k22) printExprs_k23) printExprs_k24) printExprs_k25) printExprs_k26) printExprs_k27) printExprs_k28) printExprs_k29) printExprs_k30) printExprs_k31)
set_option maxRecDepth 100000 in
set_option maxHeartbeats 4000000 in
theorem printExprs_row : Rows.PrintExprsSaid :=
  OpenClaim.holds_of_wide 8 Tryz.f8 rfl rfl rfl rfl rfl rfl rfl ⟨rfl, rfl, rfl, rfl, rfl⟩ rfl rfl rfl rfl rfl printExprs_kn Tryz.func8 printExprs_closed printExprs_inst printExprs_wrap
    (fun os started H enc _ => printExprs_lifted os started H enc)

end Go.Proofs.YteecfjhjllajlaaGreatDoor
