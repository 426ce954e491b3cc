/-
  PROVED: FlowReach: of every tree that is small, and that is taken, and of every number: what Reach tells of a node of the graph rises, has that node, is closed under After, and has, but that node, nothing that does not come after one of it; of a number that is no node Reach and After tell nothing; other trees, and trees that are not taken, pass.
  CONDITIONS: those that the given row and card print: the tables and the two errors of the library that the card ties to the program's text; each argument can be read as data.
-/
import Derived.Test.YtedkgofehbecmaaGreatDoorU46
import Derived.Test.YtedkgofehbecmaaGreatDoorTie
import Derived.Test.YtedkgofehbecmaaGreatDoorCards
import Derived.SevenTiedAt
import Derived.ChangeMaps5
namespace Go.Proofs.YtedkgofehbecmaaGreatDoor
open Go Go.ChangeShapes Go.WideShapes Go.ChangeAt Go.RowKit

set_option maxRecDepth 100000 in
set_option maxHeartbeats 4000000 in
theorem flowReach_holds : Rows.FlowReachCardSaid :=
  Claim7.holds_tied_plain_at .later [] [.data, .data, .data, .sentinel, .sentinel] true (true, "cf3582845b6a0d9f31df4525fc0798dfc5552acd5c0ab87f5eb7f34f089c65d3") true
    flowReach_row (λ_ h => by cases h) (by as_aux_lemma => kernel_rfl) (λ_ h => by cases h) flowReach_row_tie rfl ⟨rfl, rfl⟩ (by as_aux_lemma => kernel_rfl) rfl
    (λf fn hf hfn => by
      obtain rfl : f = 7 := Option.some.inj ((show Tryz.prog.funcNamed "runnel/runnellaw8.FlowReach" = some 7 by kernel_rfl).symm.trans hf) |>.symm
      obtain rfl : fn = Tryz.f7 := (Option.some.inj (Tryz.func7.symm.trans hfn)).symm
      exact ⟨by as_aux_lemma => kernel_rfl, λj t ht => by
        rw [Tryz.params7] at ht
        have hm : t ∈ [24, 3] := by
          have := Array.mem_of_getElem? ht
          simp at this
          simp [this]
        have hall : ([24, 3].all λu => !Tryz.prog.wantsStandIn u) = true := by as_aux_lemma => kernel_rfl
        exact (show Tryz.prog.wantsStandIn t = false by simpa using List.all_eq_true.1 hall t hm)⟩)
    (by as_aux_lemma => kernel_rfl)
#print axioms flowReach_holds
end Go.Proofs.YtedkgofehbecmaaGreatDoor
