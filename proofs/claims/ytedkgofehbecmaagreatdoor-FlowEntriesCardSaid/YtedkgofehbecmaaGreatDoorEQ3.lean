/-
  PROVED: FlowEntries: of every tree that is small no way of a node (Next or Raise) comes to an Entry, a node has no way just if it is an Exit or a Fail, and each procedure's Entry, Exit and Fail are its own and stand one behind the other; other trees, and trees that are not taken, pass.
  CONDITIONS: those that the given row and card print: the tables and the two errors of the library that the card ties to the program's text; each argument can be read as data.
-/
import Derived.Test.YtedkgofehbecmaaGreatDoorEQ2
import Derived.Test.YtedkgofehbecmaaGreatDoorTie
import Derived.Test.YtedkgofehbecmaaGreatDoorCards
import Derived.SevenTiedAt
import Derived.ChangeMaps5
namespace Go.Proofs.YtedkgofehbecmaaGreatDoor
open Go Go.ChangeShapes Go.WideShapes Go.ChangeAt Go.RowKit

set_option maxRecDepth 100000 in
set_option maxHeartbeats 4000000 in
theorem flowEntries_holds : Rows.FlowEntriesCardSaid :=
  Claim7.holds_tied_plain_at .later [] [.data, .data, .data, .sentinel, .sentinel] true (true, "cf3582845b6a0d9f31df4525fc0798dfc5552acd5c0ab87f5eb7f34f089c65d3") true
    flowEntries_row (fun _ h => by cases h) (by as_aux_lemma => kernel_rfl) (fun _ h => by cases h) flowEntries_row_tie rfl ⟨rfl, rfl⟩ (by as_aux_lemma => kernel_rfl) rfl
    (fun f fn hf hfn => by
      obtain rfl : f = 9 := Option.some.inj ((show Tryz.prog.funcNamed "runnel/runnellaw8.FlowEntries" = some 9 by kernel_rfl).symm.trans hf) |>.symm
      obtain rfl : fn = Tryz.f9 := (Option.some.inj (Tryz.func9.symm.trans hfn)).symm
      exact ⟨by as_aux_lemma => kernel_rfl, fun j t ht => by
        rw [Tryz.params9] at ht
        have hm : t ∈ [24] := by
          have := Array.mem_of_getElem? ht
          simp at this
          simp [this]
        have hall : ([24].all fun u => !Tryz.prog.wantsStandIn u) = true := by as_aux_lemma => kernel_rfl
        exact (show Tryz.prog.wantsStandIn t = false by simpa using List.all_eq_true.1 hall t hm)⟩)
    (by as_aux_lemma => kernel_rfl)
#print axioms flowEntries_holds
end Go.Proofs.YtedkgofehbecmaaGreatDoor
