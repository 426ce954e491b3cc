/-
  DERIVED. GIVEN WITH THE SEED: THE CARDS: each row of YteecfjhjllajlaaGreatDoorRows.lean that lists a variable, with what it lists TIED to the program's text (the seventh form; the later family's looks); each row that meets fmt, with fmt's text TOLD by the authors' own Lean function (tested against real Go, not proved from fmt's source: count such statements apart). THE CARD IS WHAT COUNTS. Prove the row's statement (the work); the ties are given (YteecfjhjllajlaaGreatDoorTie.lean); close each card by the builder's one call (the guide's Derived/Test/ToyasCard.lean, 'card_holds'). Laid BY PROGRAM, IN A SANDBOX (cutbox-door.mjs). By AI agents, Wed Nov 11 2026. No macro, syntax, notation, axiom, sorry.
-/
import Derived.Test.YteecfjhjllajlaaGreatDoorRows
import GoSem.ClaimSeven
namespace Go.Proofs.YteecfjhjllajlaaGreatDoor
namespace Rows

/-- THE TIED CARD OF 'runnellaw5.ParsePrograms'. -/
def parseProgramsCard : Claim7 := { stood := { row := parseProgramsRow, standIns := [], harness := (true, "893de091614b2d35be1d384e4ad011e49a0bb79341d94c4484a14ec018cb89bf"), looks := true }, kinds := [], alts := [], laidByText := true, laidKinds := [.data, .data, .data, .sentinel, .sentinel], laidTests := true, laidLooks := .later }
def ParseProgramsCardSaid : Prop := Claim7.holds Tryz.pinned (.plain (OpenSpec.ofChange parseProgramsSpec)) parseProgramsCard

/-- THE TIED CARD OF 'runnellaw6.PrintWrites'. -/
def printWritesCard : Claim7 := { stood := { row := printWritesRow, standIns := [], harness := (true, "893de091614b2d35be1d384e4ad011e49a0bb79341d94c4484a14ec018cb89bf"), looks := true }, kinds := [], alts := [], laidByText := true, laidKinds := [.data, .data, .data, .sentinel, .sentinel], laidTests := true, laidLooks := .later }
def PrintWritesCardSaid : Prop := Claim7.holds Tryz.pinned (.plain (OpenSpec.ofChange printWritesSpec)) printWritesCard

/-- THE TIED CARD OF 'runnellaw6.PrintBack'. -/
def printBackCard : Claim7 := { stood := { row := printBackRow, standIns := [], harness := (true, "893de091614b2d35be1d384e4ad011e49a0bb79341d94c4484a14ec018cb89bf"), looks := true }, kinds := [], alts := [], laidByText := true, laidKinds := [.data, .data, .data, .sentinel, .sentinel], laidTests := true, laidLooks := .later }
def PrintBackCardSaid : Prop := Claim7.holds Tryz.pinned (.plain (OpenSpec.ofChange printBackSpec)) printBackCard

/-- THE TIED CARD OF 'runnellaw6.PrintReads'. -/
def printReadsCard : Claim7 := { stood := { row := printReadsRow, standIns := [], harness := (true, "893de091614b2d35be1d384e4ad011e49a0bb79341d94c4484a14ec018cb89bf"), looks := true }, kinds := [], alts := [], laidByText := true, laidKinds := [.data, .data, .data, .sentinel, .sentinel], laidTests := true, laidLooks := .later }
def PrintReadsCardSaid : Prop := Claim7.holds Tryz.pinned (.plain (OpenSpec.ofChange printReadsSpec)) printReadsCard

/-- THE TIED CARD OF 'runnellaw6.PrintLines'. -/
def printLinesCard : Claim7 := { stood := { row := printLinesRow, standIns := [], harness := (true, "893de091614b2d35be1d384e4ad011e49a0bb79341d94c4484a14ec018cb89bf"), looks := true }, kinds := [], alts := [], laidByText := true, laidKinds := [.data, .data, .data, .sentinel, .sentinel], laidTests := true, laidLooks := .later }
def PrintLinesCardSaid : Prop := Claim7.holds Tryz.pinned (.plain (OpenSpec.ofChange printLinesSpec)) printLinesCard

/-- THE TIED CARD OF 'runnellaw6.PrintExprs'. -/
def printExprsCard : Claim7 := { stood := { row := printExprsRow, standIns := [], harness := (true, "893de091614b2d35be1d384e4ad011e49a0bb79341d94c4484a14ec018cb89bf"), looks := true }, kinds := [], alts := [], laidByText := true, laidKinds := [.data, .data, .data, .sentinel, .sentinel], laidTests := true, laidLooks := .later }
def PrintExprsCardSaid : Prop := Claim7.holds Tryz.pinned (.plain (OpenSpec.ofChange printExprsSpec)) printExprsCard

/-- THE TIED CARD OF 'runnellaw7.TypesCheck'. -/
def typesCheckCard : Claim7 := { stood := { row := typesCheckRow, standIns := [], harness := (true, "893de091614b2d35be1d384e4ad011e49a0bb79341d94c4484a14ec018cb89bf"), looks := true }, kinds := [], alts := [], laidByText := true, laidKinds := [.data, .data, .data, .sentinel, .sentinel], laidTests := true, laidLooks := .later }
def TypesCheckCardSaid : Prop := Claim7.holds Tryz.pinned (.plain (OpenSpec.ofChange typesCheckSpec)) typesCheckCard

/-- THE TIED CARD OF 'runnellaw7.TypesTell'. -/
def typesTellCard : Claim7 := { stood := { row := typesTellRow, standIns := [], harness := (true, "893de091614b2d35be1d384e4ad011e49a0bb79341d94c4484a14ec018cb89bf"), looks := true }, kinds := [], alts := [], laidByText := true, laidKinds := [.data, .data, .data, .sentinel, .sentinel], laidTests := true, laidLooks := .later }
def TypesTellCardSaid : Prop := Claim7.holds Tryz.pinned (.plain (OpenSpec.ofChange typesTellSpec)) typesTellCard

/-- THE TIED CARD OF 'runnellaw7.TypesMean'. -/
def typesMeanCard : Claim7 := { stood := { row := typesMeanRow, standIns := [], harness := (true, "893de091614b2d35be1d384e4ad011e49a0bb79341d94c4484a14ec018cb89bf"), looks := true }, kinds := [], alts := [], laidByText := true, laidKinds := [.data, .data, .data, .sentinel, .sentinel], laidTests := true, laidLooks := .later }
def TypesMeanCardSaid : Prop := Claim7.holds Tryz.pinned (.plain (OpenSpec.ofChange typesMeanSpec)) typesMeanCard

/-- THE TIED CARD OF 'runnellaw7.TypesText'. -/
def typesTextCard : Claim7 := { stood := { row := typesTextRow, standIns := [], harness := (true, "893de091614b2d35be1d384e4ad011e49a0bb79341d94c4484a14ec018cb89bf"), looks := true }, kinds := [], alts := [], laidByText := true, laidKinds := [.data, .data, .data, .sentinel, .sentinel], laidTests := true, laidLooks := .later }
def TypesTextCardSaid : Prop := Claim7.holds Tryz.pinned (.plain (OpenSpec.ofChange typesTextSpec)) typesTextCard

/-- THE TIED CARD OF 'runnellaw7.TypesOwner'. -/
def typesOwnerCard : Claim7 := { stood := { row := typesOwnerRow, standIns := [], harness := (true, "893de091614b2d35be1d384e4ad011e49a0bb79341d94c4484a14ec018cb89bf"), looks := true }, kinds := [], alts := [], laidByText := true, laidKinds := [.data, .data, .data, .sentinel, .sentinel], laidTests := true, laidLooks := .later }
def TypesOwnerCardSaid : Prop := Claim7.holds Tryz.pinned (.plain (OpenSpec.ofChange typesOwnerSpec)) typesOwnerCard

/-- THE TIED CARD OF 'runnellaw7.TypesChannels'. -/
def typesChannelsCard : Claim7 := { stood := { row := typesChannelsRow, standIns := [], harness := (true, "893de091614b2d35be1d384e4ad011e49a0bb79341d94c4484a14ec018cb89bf"), looks := true }, kinds := [], alts := [], laidByText := true, laidKinds := [.data, .data, .data, .sentinel, .sentinel], laidTests := true, laidLooks := .later }
def TypesChannelsCardSaid : Prop := Claim7.holds Tryz.pinned (.plain (OpenSpec.ofChange typesChannelsSpec)) typesChannelsCard

/-- THE SECOND FORM's CARD OF 'runnellaw5.ParsePrograms'. -/
def parseProgramsUptoCard : Claim7 := { stood := { row := parseProgramsUptoRow, standIns := [], harness := (true, "893de091614b2d35be1d384e4ad011e49a0bb79341d94c4484a14ec018cb89bf"), looks := true }, kinds := [], alts := [], laidByText := true, laidKinds := [.data, .data, .data, .sentinel, .sentinel], laidTests := true, laidLooks := .later }
def ParseProgramsUptoCardSaid : Prop := Claim7.holds Tryz.pinned (.plain (OpenSpec.upto parseProgramsSpec)) parseProgramsUptoCard

/-- THE SECOND FORM's CARD OF 'runnellaw6.PrintWrites'. -/
def printWritesUptoCard : Claim7 := { stood := { row := printWritesUptoRow, standIns := [], harness := (true, "893de091614b2d35be1d384e4ad011e49a0bb79341d94c4484a14ec018cb89bf"), looks := true }, kinds := [], alts := [], laidByText := true, laidKinds := [.data, .data, .data, .sentinel, .sentinel], laidTests := true, laidLooks := .later }
def PrintWritesUptoCardSaid : Prop := Claim7.holds Tryz.pinned (.plain (OpenSpec.upto printWritesSpec)) printWritesUptoCard

/-- THE SECOND FORM's CARD OF 'runnellaw6.PrintBack'. -/
def printBackUptoCard : Claim7 := { stood := { row := printBackUptoRow, standIns := [], harness := (true, "893de091614b2d35be1d384e4ad011e49a0bb79341d94c4484a14ec018cb89bf"), looks := true }, kinds := [], alts := [], laidByText := true, laidKinds := [.data, .data, .data, .sentinel, .sentinel], laidTests := true, laidLooks := .later }
def PrintBackUptoCardSaid : Prop := Claim7.holds Tryz.pinned (.plain (OpenSpec.upto printBackSpec)) printBackUptoCard

/-- THE SECOND FORM's CARD OF 'runnellaw6.PrintReads'. -/
def printReadsUptoCard : Claim7 := { stood := { row := printReadsUptoRow, standIns := [], harness := (true, "893de091614b2d35be1d384e4ad011e49a0bb79341d94c4484a14ec018cb89bf"), looks := true }, kinds := [], alts := [], laidByText := true, laidKinds := [.data, .data, .data, .sentinel, .sentinel], laidTests := true, laidLooks := .later }
def PrintReadsUptoCardSaid : Prop := Claim7.holds Tryz.pinned (.plain (OpenSpec.upto printReadsSpec)) printReadsUptoCard

/-- THE SECOND FORM's CARD OF 'runnellaw6.PrintLines'. -/
def printLinesUptoCard : Claim7 := { stood := { row := printLinesUptoRow, standIns := [], harness := (true, "893de091614b2d35be1d384e4ad011e49a0bb79341d94c4484a14ec018cb89bf"), looks := true }, kinds := [], alts := [], laidByText := true, laidKinds := [.data, .data, .data, .sentinel, .sentinel], laidTests := true, laidLooks := .later }
def PrintLinesUptoCardSaid : Prop := Claim7.holds Tryz.pinned (.plain (OpenSpec.upto printLinesSpec)) printLinesUptoCard

/-- THE SECOND FORM's CARD OF 'runnellaw6.PrintExprs'. -/
def printExprsUptoCard : Claim7 := { stood := { row := printExprsUptoRow, standIns := [], harness := (true, "893de091614b2d35be1d384e4ad011e49a0bb79341d94c4484a14ec018cb89bf"), looks := true }, kinds := [], alts := [], laidByText := true, laidKinds := [.data, .data, .data, .sentinel, .sentinel], laidTests := true, laidLooks := .later }
def PrintExprsUptoCardSaid : Prop := Claim7.holds Tryz.pinned (.plain (OpenSpec.upto printExprsSpec)) printExprsUptoCard

/-- THE SECOND FORM's CARD OF 'runnellaw7.TypesCheck'. -/
def typesCheckUptoCard : Claim7 := { stood := { row := typesCheckUptoRow, standIns := [], harness := (true, "893de091614b2d35be1d384e4ad011e49a0bb79341d94c4484a14ec018cb89bf"), looks := true }, kinds := [], alts := [], laidByText := true, laidKinds := [.data, .data, .data, .sentinel, .sentinel], laidTests := true, laidLooks := .later }
def TypesCheckUptoCardSaid : Prop := Claim7.holds Tryz.pinned (.plain (OpenSpec.upto typesCheckSpec)) typesCheckUptoCard

/-- THE SECOND FORM's CARD OF 'runnellaw7.TypesTell'. -/
def typesTellUptoCard : Claim7 := { stood := { row := typesTellUptoRow, standIns := [], harness := (true, "893de091614b2d35be1d384e4ad011e49a0bb79341d94c4484a14ec018cb89bf"), looks := true }, kinds := [], alts := [], laidByText := true, laidKinds := [.data, .data, .data, .sentinel, .sentinel], laidTests := true, laidLooks := .later }
def TypesTellUptoCardSaid : Prop := Claim7.holds Tryz.pinned (.plain (OpenSpec.upto typesTellSpec)) typesTellUptoCard

/-- THE SECOND FORM's CARD OF 'runnellaw7.TypesMean'. -/
def typesMeanUptoCard : Claim7 := { stood := { row := typesMeanUptoRow, standIns := [], harness := (true, "893de091614b2d35be1d384e4ad011e49a0bb79341d94c4484a14ec018cb89bf"), looks := true }, kinds := [], alts := [], laidByText := true, laidKinds := [.data, .data, .data, .sentinel, .sentinel], laidTests := true, laidLooks := .later }
def TypesMeanUptoCardSaid : Prop := Claim7.holds Tryz.pinned (.plain (OpenSpec.upto typesMeanSpec)) typesMeanUptoCard

/-- THE SECOND FORM's CARD OF 'runnellaw7.TypesText'. -/
def typesTextUptoCard : Claim7 := { stood := { row := typesTextUptoRow, standIns := [], harness := (true, "893de091614b2d35be1d384e4ad011e49a0bb79341d94c4484a14ec018cb89bf"), looks := true }, kinds := [], alts := [], laidByText := true, laidKinds := [.data, .data, .data, .sentinel, .sentinel], laidTests := true, laidLooks := .later }
def TypesTextUptoCardSaid : Prop := Claim7.holds Tryz.pinned (.plain (OpenSpec.upto typesTextSpec)) typesTextUptoCard

/-- THE SECOND FORM's CARD OF 'runnellaw7.TypesOwner'. -/
def typesOwnerUptoCard : Claim7 := { stood := { row := typesOwnerUptoRow, standIns := [], harness := (true, "893de091614b2d35be1d384e4ad011e49a0bb79341d94c4484a14ec018cb89bf"), looks := true }, kinds := [], alts := [], laidByText := true, laidKinds := [.data, .data, .data, .sentinel, .sentinel], laidTests := true, laidLooks := .later }
def TypesOwnerUptoCardSaid : Prop := Claim7.holds Tryz.pinned (.plain (OpenSpec.upto typesOwnerSpec)) typesOwnerUptoCard

/-- THE SECOND FORM's CARD OF 'runnellaw7.TypesChannels'. -/
def typesChannelsUptoCard : Claim7 := { stood := { row := typesChannelsUptoRow, standIns := [], harness := (true, "893de091614b2d35be1d384e4ad011e49a0bb79341d94c4484a14ec018cb89bf"), looks := true }, kinds := [], alts := [], laidByText := true, laidKinds := [.data, .data, .data, .sentinel, .sentinel], laidTests := true, laidLooks := .later }
def TypesChannelsUptoCardSaid : Prop := Claim7.holds Tryz.pinned (.plain (OpenSpec.upto typesChannelsSpec)) typesChannelsUptoCard
end Rows
end Go.Proofs.YteecfjhjllajlaaGreatDoor
