/- PROVED here: a part of the closing of the law PrintBack. No condition but those in each theorem's own head. -/
import Derived.Test.YteecfjhjllajlaaGreatDoorBackL
import Derived.Test.YteecfjhjllajlaaGreatDoorBackK
import Derived.SevenTiedAt
import Derived.ChangeMaps5
namespace Go.Proofs.YteecfjhjllajlaaGreatDoor
open Go Go.ChangeShapes Go.WideShapes Go.ChangeAt Go.RowKit

set_option maxRecDepth 100000 in
theorem printBack_closed : joinedFacts Tryz.prog 5 Tryz.f5 Rows.printBackSpec Rows.printBackRow = true := (printBack_and (printBack_and (printBack_and (printBack_and (printBack_and (printBack_and (printBack_and (printBack_and (printBack_and (printBack_and (printBack_and (printBack_and (printBack_and (printBack_and (printBack_and (printBack_and (printBack_and (printBack_and (printBack_and (printBack_and (printBack_and (printBack_and (printBack_and (printBack_and (printBack_and (printBack_and (printBack_and (printBack_and (printBack_and (printBack_and (printBack_and printBack_k0 printBack_k1) printBack_k2) printBack_k3) printBack_k4) printBack_k5) printBack_k6) printBack_k7) printBack_k8) printBack_k9) printBack_k10) printBack_k11) printBack_k12) printBack_k13) printBack_k14) printBack_k15) printBack_k16) printBack_k17) printBack_k18) printBack_k19) printBack_k20) printBack_k21) printBack_k22) printBack_k23) printBack_k24) printBack_k25) printBack_k26) printBack_k27) printBack_k28) printBack_k29) printBack_k30) printBack_k31)
set_option maxRecDepth 100000 in
set_option maxHeartbeats 4000000 in
theorem printBack_row : Rows.PrintBackSaid :=
  OpenClaim.holds_of_wide 5 Tryz.f5 rfl rfl rfl rfl rfl rfl rfl ⟨rfl, rfl, rfl, rfl, rfl⟩ rfl rfl rfl rfl rfl printBack_kn Tryz.func5 printBack_closed printBack_inst printBack_wrap
    (fun os started H enc _ => printBack_lifted os started H enc)

end Go.Proofs.YteecfjhjllajlaaGreatDoor
