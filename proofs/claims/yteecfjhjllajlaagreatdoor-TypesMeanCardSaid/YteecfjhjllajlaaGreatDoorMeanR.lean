/- PROVED here: a part of the closing of the law TypesMean. No condition but those in each theorem's own head. -/
import Derived.Test.YteecfjhjllajlaaGreatDoorMeanL
import Derived.Test.YteecfjhjllajlaaGreatDoorMeanK
import Derived.SevenTiedAt
import Derived.ChangeMaps5
namespace Go.Proofs.YteecfjhjllajlaaGreatDoor
open Go Go.ChangeShapes Go.WideShapes Go.ChangeAt Go.RowKit

set_option maxRecDepth 100000 in
theorem typesMean_closed : joinedFacts Tryz.prog 11 Tryz.f11 Rows.typesMeanSpec Rows.typesMeanRow = true := (typesMean_and (typesMean_and (typesMean_and (typesMean_and (typesMean_and (typesMean_and (typesMean_and (typesMean_and (typesMean_and (typesMean_and (typesMean_and (typesMean_and (typesMean_and (typesMean_and (typesMean_and (typesMean_and (typesMean_and (typesMean_and (typesMean_and (typesMean_and (typesMean_and (typesMean_and (typesMean_and (typesMean_and (typesMean_and (typesMean_and (typesMean_and (typesMean_and (typesMean_and (typesMean_and (typesMean_and typesMean_k0 typesMean_k1) typesMean_k2) typesMean_k3) typesMean_k4) typesMean_k5) typesMean_k6) typesMean_k7) typesMean_k8) typesMean_k9) typesMean_k10) typesMean_k11) typesMean_k12) typesMean_k13) typesMean_k14) typesMean_k15) typesMean_k16) typesMean_k17) typesMean_k18) typesMean_k19) typesMean_k20) typesMean_k21) typesMean_k22) typesMean_k23) typesMean_k24) typesMean_k25) typesMean_k26) typesMean_k27) typesMean_k28) typesMean_k29) typesMean_k30) typesMean_k31)
set_option maxRecDepth 100000 in
set_option maxHeartbeats 4000000 in
theorem typesMean_row : Rows.TypesMeanSaid :=
  OpenClaim.holds_of_wide 11 Tryz.f11 rfl rfl rfl rfl rfl rfl rfl ⟨rfl, rfl, rfl, rfl, rfl⟩ rfl rfl rfl rfl rfl typesMean_kn Tryz.func11 typesMean_closed typesMean_inst typesMean_wrap
    (fun os started H enc _ => typesMean_lifted os started H enc)

end Go.Proofs.YteecfjhjllajlaaGreatDoor
