/- PROVED here: a part of the closing of the law TypesTell. No condition but those in each theorem's own head. -/
import Derived.Test.YteecfjhjllajlaaGreatDoorTellTL
import Derived.Test.YteecfjhjllajlaaGreatDoorTellTK
import Derived.SevenTiedAt
import Derived.ChangeMaps5
namespace Go.Proofs.YteecfjhjllajlaaGreatDoor
open Go Go.ChangeShapes Go.WideShapes Go.ChangeAt Go.RowKit

set_option maxRecDepth 100000 in
theorem typesTell_closed : joinedFacts Tryz.prog 10 Tryz.f10 Rows.typesTellSpec Rows.typesTellRow = true := (typesTell_and (typesTell_and (typesTell_and (typesTell_and (typesTell_and (typesTell_and (typesTell_and (typesTell_and (typesTell_and (typesTell_and (typesTell_and (typesTell_and (typesTell_and (typesTell_and (typesTell_and (typesTell_and (typesTell_and (typesTell_and (typesTell_and (typesTell_and (typesTell_and (typesTell_and (typesTell_and (typesTell_and (typesTell_and (typesTell_and (typesTell_and (typesTell_and (typesTell_and (typesTell_and (typesTell_and typesTell_k0 typesTell_k1) typesTell_k2) typesTell_k3) typesTell_k4) typesTell_k5) typesTell_k6) typesTell_k7) typesTell_k8) typesTell_k9) typesTell_k10) typesTell_k11) typesTell_k12) typesTell_k13) typesTell_k14) typesTell_k15) typesTell_k16) typesTell_k17) typesTell_k18) typesTell_k19) typesTell_k20) typesTell_k21) typesTell_k22) typesTell_k23) typesTell_k24) typesTell_k25) typesTell_k26) typesTell_k27) typesTell_k28) typesTell_k29) typesTell_k30) typesTell_k31)
set_option maxRecDepth 100000 in
set_option maxHeartbeats 4000000 in
theorem typesTell_row : Rows.TypesTellSaid :=
  OpenClaim.holds_of_wide 10 Tryz.f10 rfl rfl rfl rfl rfl rfl rfl ⟨rfl, rfl, rfl, rfl, rfl⟩ rfl rfl rfl rfl rfl typesTell_kn Tryz.func10 typesTell_closed typesTell_inst typesTell_wrap
    (fun os started H enc _ => typesTell_lifted os started H enc)

end Go.Proofs.YteecfjhjllajlaaGreatDoor
