/-
  DERIVED. GIVEN WITH THE SEED: THE CARDS: each row of YtedkgofehbecmaaGreatDoorRows.lean that lists a variable, with what it lists TIED to the program's text (the seventh form; the later family's looks); each row that meets fmt, with fmt's text TOLD by the authors' own Lean function (tested against real Go, not proved from fmt's source: count such statements apart). THE CARD IS WHAT COUNTS. Prove the row's statement (the work); the ties are given (YtedkgofehbecmaaGreatDoorTie.lean); close each card by the builder's one call (the guide's Derived/Test/ToyasCard.lean, 'card_holds'). Laid BY PROGRAM, IN A SANDBOX (cutbox-door.mjs). By AI agents, Wed Nov 11 2026. No macro, syntax, notation, axiom, sorry.
-/
import Derived.Test.YtedkgofehbecmaaGreatDoorRows
import GoSem.ClaimSeven
namespace Go.Proofs.YtedkgofehbecmaaGreatDoor
namespace Rows

/-- THE TIED CARD OF 'runnellaw8.FlowBuilds'. -/
def flowBuildsCard : Claim7 := { stood := { row := flowBuildsRow, standIns := [], harness := (true, "cf3582845b6a0d9f31df4525fc0798dfc5552acd5c0ab87f5eb7f34f089c65d3"), looks := true }, kinds := [], alts := [], laidByText := true, laidKinds := [.data, .data, .data, .sentinel, .sentinel], laidTests := true, laidLooks := .later }
def FlowBuildsCardSaid : Prop := Claim7.holds Tryz.pinned (.plain (OpenSpec.ofChange flowBuildsSpec)) flowBuildsCard

/-- THE TIED CARD OF 'runnellaw8.FlowTells'. -/
def flowTellsCard : Claim7 := { stood := { row := flowTellsRow, standIns := [], harness := (true, "cf3582845b6a0d9f31df4525fc0798dfc5552acd5c0ab87f5eb7f34f089c65d3"), looks := true }, kinds := [], alts := [], laidByText := true, laidKinds := [.data, .data, .data, .sentinel, .sentinel], laidTests := true, laidLooks := .later }
def FlowTellsCardSaid : Prop := Claim7.holds Tryz.pinned (.plain (OpenSpec.ofChange flowTellsSpec)) flowTellsCard

/-- THE TIED CARD OF 'runnellaw8.FlowEnds'. -/
def flowEndsCard : Claim7 := { stood := { row := flowEndsRow, standIns := [], harness := (true, "cf3582845b6a0d9f31df4525fc0798dfc5552acd5c0ab87f5eb7f34f089c65d3"), looks := true }, kinds := [], alts := [], laidByText := true, laidKinds := [.data, .data, .data, .sentinel, .sentinel], laidTests := true, laidLooks := .later }
def FlowEndsCardSaid : Prop := Claim7.holds Tryz.pinned (.plain (OpenSpec.ofChange flowEndsSpec)) flowEndsCard

/-- THE TIED CARD OF 'runnellaw8.FlowNodes'. -/
def flowNodesCard : Claim7 := { stood := { row := flowNodesRow, standIns := [], harness := (true, "cf3582845b6a0d9f31df4525fc0798dfc5552acd5c0ab87f5eb7f34f089c65d3"), looks := true }, kinds := [], alts := [], laidByText := true, laidKinds := [.data, .data, .data, .sentinel, .sentinel], laidTests := true, laidLooks := .later }
def FlowNodesCardSaid : Prop := Claim7.holds Tryz.pinned (.plain (OpenSpec.ofChange flowNodesSpec)) flowNodesCard

/-- THE TIED CARD OF 'runnellaw8.FlowReach'. -/
def flowReachCard : Claim7 := { stood := { row := flowReachRow, standIns := [], harness := (true, "cf3582845b6a0d9f31df4525fc0798dfc5552acd5c0ab87f5eb7f34f089c65d3"), looks := true }, kinds := [], alts := [], laidByText := true, laidKinds := [.data, .data, .data, .sentinel, .sentinel], laidTests := true, laidLooks := .later }
def FlowReachCardSaid : Prop := Claim7.holds Tryz.pinned (.plain (OpenSpec.ofChange flowReachSpec)) flowReachCard

/-- THE TIED CARD OF 'runnellaw8.FlowJoins'. -/
def flowJoinsCard : Claim7 := { stood := { row := flowJoinsRow, standIns := [], harness := (true, "cf3582845b6a0d9f31df4525fc0798dfc5552acd5c0ab87f5eb7f34f089c65d3"), looks := true }, kinds := [], alts := [], laidByText := true, laidKinds := [.data, .data, .data, .sentinel, .sentinel], laidTests := true, laidLooks := .later }
def FlowJoinsCardSaid : Prop := Claim7.holds Tryz.pinned (.plain (OpenSpec.ofChange flowJoinsSpec)) flowJoinsCard

/-- THE TIED CARD OF 'runnellaw8.FlowEntries'. -/
def flowEntriesCard : Claim7 := { stood := { row := flowEntriesRow, standIns := [], harness := (true, "cf3582845b6a0d9f31df4525fc0798dfc5552acd5c0ab87f5eb7f34f089c65d3"), looks := true }, kinds := [], alts := [], laidByText := true, laidKinds := [.data, .data, .data, .sentinel, .sentinel], laidTests := true, laidLooks := .later }
def FlowEntriesCardSaid : Prop := Claim7.holds Tryz.pinned (.plain (OpenSpec.ofChange flowEntriesSpec)) flowEntriesCard

/-- THE TIED CARD OF 'runnellaw11.PostOrder'. -/
def postOrderCard : Claim7 := { stood := { row := postOrderRow, standIns := [], harness := (true, "cf3582845b6a0d9f31df4525fc0798dfc5552acd5c0ab87f5eb7f34f089c65d3"), looks := true }, kinds := [], alts := [], laidByText := true, laidKinds := [.data, .data, .data, .sentinel, .sentinel], laidTests := true, laidLooks := .later }
def PostOrderCardSaid : Prop := Claim7.holds Tryz.pinned (.plain (OpenSpec.ofChange postOrderSpec)) postOrderCard

/-- THE TIED CARD OF 'runnellaw11.PostWays'. -/
def postWaysCard : Claim7 := { stood := { row := postWaysRow, standIns := [], harness := (true, "cf3582845b6a0d9f31df4525fc0798dfc5552acd5c0ab87f5eb7f34f089c65d3"), looks := true }, kinds := [], alts := [], laidByText := true, laidKinds := [.data, .data, .data, .sentinel, .sentinel], laidTests := true, laidLooks := .later }
def PostWaysCardSaid : Prop := Claim7.holds Tryz.pinned (.plain (OpenSpec.ofChange postWaysSpec)) postWaysCard

/-- THE TIED CARD OF 'runnellaw11.PostPrograms'. -/
def postProgramsCard : Claim7 := { stood := { row := postProgramsRow, standIns := [], harness := (true, "cf3582845b6a0d9f31df4525fc0798dfc5552acd5c0ab87f5eb7f34f089c65d3"), looks := true }, kinds := [], alts := [], laidByText := true, laidKinds := [.data, .data, .data, .sentinel, .sentinel], laidTests := true, laidLooks := .later }
def PostProgramsCardSaid : Prop := Claim7.holds Tryz.pinned (.plain (OpenSpec.ofChange postProgramsSpec)) postProgramsCard

/-- THE TIED CARD OF 'runnellaw11.PostChains'. -/
def postChainsCard : Claim7 := { stood := { row := postChainsRow, standIns := [], harness := (true, "cf3582845b6a0d9f31df4525fc0798dfc5552acd5c0ab87f5eb7f34f089c65d3"), looks := true }, kinds := [], alts := [], laidByText := true, laidKinds := [.data, .data, .data, .sentinel, .sentinel], laidTests := true, laidLooks := .later }
def PostChainsCardSaid : Prop := Claim7.holds Tryz.pinned (.plain (OpenSpec.ofChange postChainsSpec)) postChainsCard

/-- THE SECOND FORM's CARD OF 'runnellaw8.FlowBuilds'. -/
def flowBuildsUptoCard : Claim7 := { stood := { row := flowBuildsUptoRow, standIns := [], harness := (true, "cf3582845b6a0d9f31df4525fc0798dfc5552acd5c0ab87f5eb7f34f089c65d3"), looks := true }, kinds := [], alts := [], laidByText := true, laidKinds := [.data, .data, .data, .sentinel, .sentinel], laidTests := true, laidLooks := .later }
def FlowBuildsUptoCardSaid : Prop := Claim7.holds Tryz.pinned (.plain (OpenSpec.upto flowBuildsSpec)) flowBuildsUptoCard

/-- THE SECOND FORM's CARD OF 'runnellaw8.FlowTells'. -/
def flowTellsUptoCard : Claim7 := { stood := { row := flowTellsUptoRow, standIns := [], harness := (true, "cf3582845b6a0d9f31df4525fc0798dfc5552acd5c0ab87f5eb7f34f089c65d3"), looks := true }, kinds := [], alts := [], laidByText := true, laidKinds := [.data, .data, .data, .sentinel, .sentinel], laidTests := true, laidLooks := .later }
def FlowTellsUptoCardSaid : Prop := Claim7.holds Tryz.pinned (.plain (OpenSpec.upto flowTellsSpec)) flowTellsUptoCard

/-- THE SECOND FORM's CARD OF 'runnellaw8.FlowEnds'. -/
def flowEndsUptoCard : Claim7 := { stood := { row := flowEndsUptoRow, standIns := [], harness := (true, "cf3582845b6a0d9f31df4525fc0798dfc5552acd5c0ab87f5eb7f34f089c65d3"), looks := true }, kinds := [], alts := [], laidByText := true, laidKinds := [.data, .data, .data, .sentinel, .sentinel], laidTests := true, laidLooks := .later }
def FlowEndsUptoCardSaid : Prop := Claim7.holds Tryz.pinned (.plain (OpenSpec.upto flowEndsSpec)) flowEndsUptoCard

/-- THE SECOND FORM's CARD OF 'runnellaw8.FlowNodes'. -/
def flowNodesUptoCard : Claim7 := { stood := { row := flowNodesUptoRow, standIns := [], harness := (true, "cf3582845b6a0d9f31df4525fc0798dfc5552acd5c0ab87f5eb7f34f089c65d3"), looks := true }, kinds := [], alts := [], laidByText := true, laidKinds := [.data, .data, .data, .sentinel, .sentinel], laidTests := true, laidLooks := .later }
def FlowNodesUptoCardSaid : Prop := Claim7.holds Tryz.pinned (.plain (OpenSpec.upto flowNodesSpec)) flowNodesUptoCard

/-- THE SECOND FORM's CARD OF 'runnellaw8.FlowReach'. -/
def flowReachUptoCard : Claim7 := { stood := { row := flowReachUptoRow, standIns := [], harness := (true, "cf3582845b6a0d9f31df4525fc0798dfc5552acd5c0ab87f5eb7f34f089c65d3"), looks := true }, kinds := [], alts := [], laidByText := true, laidKinds := [.data, .data, .data, .sentinel, .sentinel], laidTests := true, laidLooks := .later }
def FlowReachUptoCardSaid : Prop := Claim7.holds Tryz.pinned (.plain (OpenSpec.upto flowReachSpec)) flowReachUptoCard

/-- THE SECOND FORM's CARD OF 'runnellaw8.FlowJoins'. -/
def flowJoinsUptoCard : Claim7 := { stood := { row := flowJoinsUptoRow, standIns := [], harness := (true, "cf3582845b6a0d9f31df4525fc0798dfc5552acd5c0ab87f5eb7f34f089c65d3"), looks := true }, kinds := [], alts := [], laidByText := true, laidKinds := [.data, .data, .data, .sentinel, .sentinel], laidTests := true, laidLooks := .later }
def FlowJoinsUptoCardSaid : Prop := Claim7.holds Tryz.pinned (.plain (OpenSpec.upto flowJoinsSpec)) flowJoinsUptoCard

/-- THE SECOND FORM's CARD OF 'runnellaw8.FlowEntries'. -/
def flowEntriesUptoCard : Claim7 := { stood := { row := flowEntriesUptoRow, standIns := [], harness := (true, "cf3582845b6a0d9f31df4525fc0798dfc5552acd5c0ab87f5eb7f34f089c65d3"), looks := true }, kinds := [], alts := [], laidByText := true, laidKinds := [.data, .data, .data, .sentinel, .sentinel], laidTests := true, laidLooks := .later }
def FlowEntriesUptoCardSaid : Prop := Claim7.holds Tryz.pinned (.plain (OpenSpec.upto flowEntriesSpec)) flowEntriesUptoCard

/-- THE SECOND FORM's CARD OF 'runnellaw11.PostOrder'. -/
def postOrderUptoCard : Claim7 := { stood := { row := postOrderUptoRow, standIns := [], harness := (true, "cf3582845b6a0d9f31df4525fc0798dfc5552acd5c0ab87f5eb7f34f089c65d3"), looks := true }, kinds := [], alts := [], laidByText := true, laidKinds := [.data, .data, .data, .sentinel, .sentinel], laidTests := true, laidLooks := .later }
def PostOrderUptoCardSaid : Prop := Claim7.holds Tryz.pinned (.plain (OpenSpec.upto postOrderSpec)) postOrderUptoCard

/-- THE SECOND FORM's CARD OF 'runnellaw11.PostWays'. -/
def postWaysUptoCard : Claim7 := { stood := { row := postWaysUptoRow, standIns := [], harness := (true, "cf3582845b6a0d9f31df4525fc0798dfc5552acd5c0ab87f5eb7f34f089c65d3"), looks := true }, kinds := [], alts := [], laidByText := true, laidKinds := [.data, .data, .data, .sentinel, .sentinel], laidTests := true, laidLooks := .later }
def PostWaysUptoCardSaid : Prop := Claim7.holds Tryz.pinned (.plain (OpenSpec.upto postWaysSpec)) postWaysUptoCard

/-- THE SECOND FORM's CARD OF 'runnellaw11.PostPrograms'. -/
def postProgramsUptoCard : Claim7 := { stood := { row := postProgramsUptoRow, standIns := [], harness := (true, "cf3582845b6a0d9f31df4525fc0798dfc5552acd5c0ab87f5eb7f34f089c65d3"), looks := true }, kinds := [], alts := [], laidByText := true, laidKinds := [.data, .data, .data, .sentinel, .sentinel], laidTests := true, laidLooks := .later }
def PostProgramsUptoCardSaid : Prop := Claim7.holds Tryz.pinned (.plain (OpenSpec.upto postProgramsSpec)) postProgramsUptoCard

/-- THE SECOND FORM's CARD OF 'runnellaw11.PostChains'. -/
def postChainsUptoCard : Claim7 := { stood := { row := postChainsUptoRow, standIns := [], harness := (true, "cf3582845b6a0d9f31df4525fc0798dfc5552acd5c0ab87f5eb7f34f089c65d3"), looks := true }, kinds := [], alts := [], laidByText := true, laidKinds := [.data, .data, .data, .sentinel, .sentinel], laidTests := true, laidLooks := .later }
def PostChainsUptoCardSaid : Prop := Claim7.holds Tryz.pinned (.plain (OpenSpec.upto postChainsSpec)) postChainsUptoCard
end Rows
end Go.Proofs.YtedkgofehbecmaaGreatDoor
