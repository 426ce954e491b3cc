/- PROVED here: a part of the closing of the law TypesChannels. No condition but those in each theorem's own head. -/
import Derived.Test.YteecfjhjllajlaaGreatDoorChanTL
import Derived.Test.YteecfjhjllajlaaGreatDoorChanTK
import Derived.SevenTiedAt
import Derived.ChangeMaps5
namespace Go.Proofs.YteecfjhjllajlaaGreatDoor
open Go Go.ChangeShapes Go.WideShapes Go.ChangeAt Go.RowKit

set_option maxRecDepth 100000 in
theorem typesChannels_closed : joinedFacts Tryz.prog 14 Tryz.f14 Rows.typesChannelsSpec Rows.typesChannelsRow = true := (typesChannels_and (typesChannels_and (typesChannels_and (typesChannels_and (typesChannels_and (typesChannels_and (typesChannels_and (typesChannels_and (typesChannels_and (typesChannels_and (typesChannels_and (typesChannels_and (typesChannels_and (typesChannels_and (typesChannels_and (typesChannels_and (typesChannels_and (typesChannels_and (typesChannels_and (typesChannels_and (typesChannels_and (typesChannels_and (typesChannels_and (typesChannels_and (typesChannels_and (typesChannels_and (typesChannels_and (typesChannels_and (typesChannels_and (typesChannels_and (typesChannels_and typesChannels_k0 typesChannels_k1) typesChannels_k2) typesChannels_k3) typesChannels_k4) typesChannels_k5) typesChannels_k6) typesChannels_k7) typesChannels_k8) typesChannels_k9) typesChannels_k10) typesChannels_k11) typesChannels_k12) typesChannels_k13) typesChannels_k14) typesChannels_k15) typesChannels_k16) typesChannels_k17) typesChannels_k18) typesChannels_k19) typesChannels_k20) typesChannels_k21) typesChannels_k22) typesChannels_k23) typesChannels_k24) typesChannels_k25) typesChannels_k26) typesChannels_k27) typesChannels_k28) typesChannels_k29) typesChannels_k30) typesChannels_k31)
set_option maxRecDepth 100000 in
set_option maxHeartbeats 4000000 in
theorem typesChannels_row : Rows.TypesChannelsSaid :=
  OpenClaim.holds_of_wide 14 Tryz.f14 rfl rfl rfl rfl rfl rfl rfl ⟨rfl, rfl, rfl, rfl, rfl⟩ rfl rfl rfl rfl rfl typesChannels_kn Tryz.func14 typesChannels_closed typesChannels_inst typesChannels_wrap
    (fun os started H enc _ => typesChannels_lifted os started H enc)

end Go.Proofs.YteecfjhjllajlaaGreatDoor
