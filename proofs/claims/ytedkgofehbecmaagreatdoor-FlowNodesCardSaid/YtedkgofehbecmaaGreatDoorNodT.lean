/-
  PROVED: FlowNodes: of every tree that is small each statement has one node, of its own procedure, with a handler just if it may raise, and two ways just if it is an If or a While; other trees, and trees that are not taken, pass.
  CONDITIONS: those that the given row and card print: the tables and the two errors of the library that the card ties to the program's text; each argument can be read as data.
-/
import Derived.Test.YtedkgofehbecmaaGreatDoorN46
import Derived.Test.YtedkgofehbecmaaGreatDoorTie
import Derived.Test.YtedkgofehbecmaaGreatDoorCards
import Derived.SevenTiedAt
import Derived.ChangeMaps5
namespace Go.Proofs.YtedkgofehbecmaaGreatDoor
open Go Go.ChangeShapes Go.WideShapes Go.ChangeAt Go.RowKit

set_option maxRecDepth 100000 in
set_option maxHeartbeats 4000000 in
theorem flowNodes_holds : Rows.FlowNodesCardSaid :=
  Claim7.holds_tied_plain_at .later [] [.data, .data, .data, .sentinel, .sentinel] true (true, "cf3582845b6a0d9f31df4525fc0798dfc5552acd5c0ab87f5eb7f34f089c65d3") true
    flowNodes_row (fun _ h => by cases h) (by as_aux_lemma => kernel_rfl) (fun _ h => by cases h) flowNodes_row_tie rfl ⟨rfl, rfl⟩ (by as_aux_lemma => kernel_rfl) rfl
    (fun f fn hf hfn => by
      obtain rfl : f = 6 := Option.some.inj ((show Tryz.prog.funcNamed "runnel/runnellaw8.FlowNodes" = some 6 by kernel_rfl).symm.trans hf) |>.symm
      obtain rfl : fn = Tryz.f6 := (Option.some.inj (Tryz.func6.symm.trans hfn)).symm
      exact ⟨by as_aux_lemma => kernel_rfl, fun j t ht => by
        rw [Tryz.params6] at ht
        have hm : t ∈ [24] := by
          have := Array.mem_of_getElem? ht
          simp at this
          simp [this]
        have hall : ([24].all fun u => !Tryz.prog.wantsStandIn u) = true := by as_aux_lemma => kernel_rfl
        exact (show Tryz.prog.wantsStandIn t = false by simpa using List.all_eq_true.1 hall t hm)⟩)
    (by as_aux_lemma => kernel_rfl)
#print axioms flowNodes_holds
end Go.Proofs.YtedkgofehbecmaaGreatDoor
