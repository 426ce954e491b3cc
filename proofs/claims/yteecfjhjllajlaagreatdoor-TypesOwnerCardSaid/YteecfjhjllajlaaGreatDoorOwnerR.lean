/- PROVED here: a part of the closing of the law TypesOwner. No condition but those in each theorem's own head. -/
import Derived.Test.YteecfjhjllajlaaGreatDoorOwnerL
import Derived.Test.YteecfjhjllajlaaGreatDoorOwnerK
import Derived.SevenTiedAt
import Derived.ChangeMaps5
namespace Go.Proofs.YteecfjhjllajlaaGreatDoor
open Go Go.ChangeShapes Go.WideShapes Go.ChangeAt Go.RowKit

set_option maxRecDepth 100000 in
theorem typesOwner_closed : joinedFacts Tryz.prog 13 Tryz.f13 Rows.typesOwnerSpec Rows.typesOwnerRow = true := (typesOwner_and (typesOwner_and (typesOwner_and (typesOwner_and (typesOwner_and (typesOwner_and (typesOwner_and (typesOwner_and (typesOwner_and (typesOwner_and (typesOwner_and (typesOwner_and (typesOwner_and (typesOwner_and (typesOwner_and (typesOwner_and (typesOwner_and (typesOwner_and (typesOwner_and (typesOwner_and (typesOwner_and (typesOwner_and (typesOwner_and (typesOwner_and (typesOwner_and (typesOwner_and (typesOwner_and (typesOwner_and (typesOwner_and (typesOwner_and (typesOwner_and typesOwner_k0 typesOwner_k1) typesOwner_k2) typesOwner_k3) typesOwner_k4) typesOwner_k5) typesOwner_k6) typesOwner_k7) typesOwner_k8) typesOwner_k9) typesOwner_k10) typesOwner_k11) typesOwner_k12) typesOwner_k13) typesOwner_k14) typesOwner_k15) typesOwner_k16) typesOwner_k17) typesOwner_k18) typesOwner_k19) typesOwner_k20) typesOwner_k21) typesOwner_k22) typesOwner_k23) typesOwner_k24) typesOwner_k25) typesOwner_k26) typesOwner_k27) typesOwner_k28) typesOwner_k29) typesOwner_k30) typesOwner_k31)
set_option maxRecDepth 100000 in
set_option maxHeartbeats 4000000 in
theorem typesOwner_row : Rows.TypesOwnerSaid :=
  OpenClaim.holds_of_wide 13 Tryz.f13 rfl rfl rfl rfl rfl rfl rfl ⟨rfl, rfl, rfl, rfl, rfl⟩ rfl rfl rfl rfl rfl typesOwner_kn Tryz.func13 typesOwner_closed typesOwner_inst typesOwner_wrap
    (fun os started H enc _ => typesOwner_lifted os started H enc)

end Go.Proofs.YteecfjhjllajlaaGreatDoor
