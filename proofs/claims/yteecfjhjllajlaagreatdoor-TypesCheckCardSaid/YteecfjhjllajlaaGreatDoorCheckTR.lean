/- PROVED here: a part of the closing of the law TypesCheck. No condition but those in each theorem's own head. -/
import Derived.Test.YteecfjhjllajlaaGreatDoorCheckTL
import Derived.Test.YteecfjhjllajlaaGreatDoorCheckTK
import Derived.SevenTiedAt
import Derived.ChangeMaps5
namespace Go.Proofs.YteecfjhjllajlaaGreatDoor
open Go Go.ChangeShapes Go.WideShapes Go.ChangeAt Go.RowKit

set_option maxRecDepth 100000 in
theorem typesCheck_closed : joinedFacts Tryz.prog 9 Tryz.f9 Rows.typesCheckSpec Rows.typesCheckRow = true := (typesCheck_and (typesCheck_and (typesCheck_and (typesCheck_and (typesCheck_and (typesCheck_and (typesCheck_and (typesCheck_and (typesCheck_and (typesCheck_and (typesCheck_and (typesCheck_and (typesCheck_and (typesCheck_and (typesCheck_and (typesCheck_and (typesCheck_and (typesCheck_and (typesCheck_and (typesCheck_and (typesCheck_and (typesCheck_and (typesCheck_and (typesCheck_and (typesCheck_and (typesCheck_and (typesCheck_and (typesCheck_and (typesCheck_and (typesCheck_and (typesCheck_and typesCheck_k0 typesCheck_k1) typesCheck_k2) typesCheck_k3) typesCheck_k4) typesCheck_k5) typesCheck_k6) typesCheck_k7) typesCheck_k8) typesCheck_k9) typesCheck_k10) typesCheck_k11) typesCheck_k12) typesCheck_k13) typesCheck_k14) typesCheck_k15) typesCheck_k16) typesCheck_k17) typesCheck_k18) typesCheck_k19) typesCheck_k20) typesCheck_k21) typesCheck_k22) typesCheck_k23) typesCheck_k24) typesCheck_k25) typesCheck_k26) typesCheck_k27) typesCheck_k28) typesCheck_k29) typesCheck_k30) typesCheck_k31)
set_option maxRecDepth 100000 in
set_option maxHeartbeats 4000000 in
theorem typesCheck_row : Rows.TypesCheckSaid :=
  OpenClaim.holds_of_wide 9 Tryz.f9 rfl rfl rfl rfl rfl rfl rfl ⟨rfl, rfl, rfl, rfl, rfl⟩ rfl rfl rfl rfl rfl typesCheck_kn Tryz.func9 typesCheck_closed typesCheck_inst typesCheck_wrap
    (fun os started H enc _ => typesCheck_lifted os started H enc)

end Go.Proofs.YteecfjhjllajlaaGreatDoor
