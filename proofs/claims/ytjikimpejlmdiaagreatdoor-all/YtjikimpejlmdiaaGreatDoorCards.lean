/-
  DERIVED. GIVEN WITH THE SEED: THE CARDS: each row of YtjikimpejlmdiaaGreatDoorRows.lean that lists a variable, with what it lists TIED to the program's text (the seventh form; the later family's looks); each row that meets fmt, with fmt's text TOLD by the authors' own Lean function (tested against real Go, not proved from fmt's source: count such statements apart). THE CARD IS WHAT COUNTS. Prove the row's statement (the work); the ties are given (YtjikimpejlmdiaaGreatDoorTie.lean); close each card by the builder's one call (the guide's Derived/Test/ToyasCard.lean, 'card_holds'). Laid BY PROGRAM, IN A SANDBOX (cutbox-door.mjs). By AI agents, Wed Nov 11 2026. No macro, syntax, notation, axiom, sorry.
-/
import Derived.Test.YtjikimpejlmdiaaGreatDoorRows
import GoSem.ClaimSeven
namespace Go.Proofs.YtjikimpejlmdiaaGreatDoor
namespace Rows

/-- THE TIED CARD OF 'chainslaw.Interprets'. -/
def interpretsCard : Claim7 := { stood := { row := interpretsRow, standIns := [], harness := (true, "cb6847907e3a10d93de8c01d968082f1df6644eff1b9f3a38681b9ef4ef52f78"), looks := true }, kinds := [], alts := [], laidByText := true, laidKinds := [.data, .data, .data, .data, .data, .data, .data], laidTests := true, laidLooks := .later }
def InterpretsCardSaid : Prop := Claim7.holds Tryz.pinned (.plain (OpenSpec.ofChange interpretsSpec)) interpretsCard

/-- THE TIED CARD OF 'chainslaw.Runs'. -/
def runsCard : Claim7 := { stood := { row := runsRow, standIns := [], harness := (true, "cb6847907e3a10d93de8c01d968082f1df6644eff1b9f3a38681b9ef4ef52f78"), looks := true }, kinds := [], alts := [], laidByText := true, laidKinds := [.data, .data, .data, .data, .data, .data, .data], laidTests := true, laidLooks := .later }
def RunsCardSaid : Prop := Claim7.holds Tryz.pinned (.plain (OpenSpec.ofChange runsSpec)) runsCard

/-- THE TIED CARD OF 'chainslaw.Profiles'. -/
def profilesCard : Claim7 := { stood := { row := profilesRow, standIns := [], harness := (true, "cb6847907e3a10d93de8c01d968082f1df6644eff1b9f3a38681b9ef4ef52f78"), looks := true }, kinds := [], alts := [], laidByText := true, laidKinds := [.data, .data, .data, .data, .data, .data, .data], laidTests := true, laidLooks := .later }
def ProfilesCardSaid : Prop := Claim7.holds Tryz.pinned (.plain (OpenSpec.ofChange profilesSpec)) profilesCard

/-- THE TIED CARD OF 'chainslaw.All'. -/
def allCard : Claim7 := { stood := { row := allRow, standIns := [], harness := (true, "cb6847907e3a10d93de8c01d968082f1df6644eff1b9f3a38681b9ef4ef52f78"), looks := true }, kinds := [], alts := [], laidByText := true, laidKinds := [.data, .data, .data, .data, .data, .data, .data], laidTests := true, laidLooks := .later }
def AllCardSaid : Prop := Claim7.holds Tryz.pinned (.plain (OpenSpec.ofChange allSpec)) allCard

/-- THE TIED CARD OF 'chainskeep.Alike'. -/
def alikeCard : Claim7 := { stood := { row := alikeRow, standIns := [], harness := (true, "cb6847907e3a10d93de8c01d968082f1df6644eff1b9f3a38681b9ef4ef52f78"), looks := true }, kinds := [], alts := [], laidByText := true, laidKinds := [.data, .data, .data, .data, .data, .data, .data], laidTests := true, laidLooks := .later }
def AlikeCardSaid : Prop := Claim7.holds Tryz.pinned (.plain (OpenSpec.ofChange alikeSpec)) alikeCard

/-- THE TIED CARD OF 'chainskeep.Sober'. -/
def soberCard : Claim7 := { stood := { row := soberRow, standIns := [], harness := (true, "cb6847907e3a10d93de8c01d968082f1df6644eff1b9f3a38681b9ef4ef52f78"), looks := true }, kinds := [], alts := [], laidByText := true, laidKinds := [.data, .data, .data, .data, .data, .data, .data], laidTests := true, laidLooks := .later }
def SoberCardSaid : Prop := Claim7.holds Tryz.pinned (.plain (OpenSpec.ofChange soberSpec)) soberCard

/-- THE TIED CARD OF 'chainskeep.Further'. -/
def furtherCard : Claim7 := { stood := { row := furtherRow, standIns := [], harness := (true, "cb6847907e3a10d93de8c01d968082f1df6644eff1b9f3a38681b9ef4ef52f78"), looks := true }, kinds := [], alts := [], laidByText := true, laidKinds := [.data, .data, .data, .data, .data, .data, .data], laidTests := true, laidLooks := .later }
def FurtherCardSaid : Prop := Claim7.holds Tryz.pinned (.plain (OpenSpec.ofChange furtherSpec)) furtherCard

/-- THE TIED CARD OF 'chainskeep.Changed'. -/
def changedCard : Claim7 := { stood := { row := changedRow, standIns := [], harness := (true, "cb6847907e3a10d93de8c01d968082f1df6644eff1b9f3a38681b9ef4ef52f78"), looks := true }, kinds := [], alts := [], laidByText := true, laidKinds := [.data, .data, .data, .data, .data, .data, .data], laidTests := true, laidLooks := .later }
def ChangedCardSaid : Prop := Claim7.holds Tryz.pinned (.plain (OpenSpec.ofChange changedSpec)) changedCard

/-- THE TIED CARD OF 'chainskeep.Sums'. -/
def sumsCard : Claim7 := { stood := { row := sumsRow, standIns := [], harness := (true, "cb6847907e3a10d93de8c01d968082f1df6644eff1b9f3a38681b9ef4ef52f78"), looks := true }, kinds := [], alts := [], laidByText := true, laidKinds := [.data, .data, .data, .data, .data, .data, .data], laidTests := true, laidLooks := .later }
def SumsCardSaid : Prop := Claim7.holds Tryz.pinned (.plain (OpenSpec.ofChange sumsSpec)) sumsCard

/-- THE SECOND FORM's CARD OF 'chainslaw.Interprets'. -/
def interpretsUptoCard : Claim7 := { stood := { row := interpretsUptoRow, standIns := [], harness := (true, "cb6847907e3a10d93de8c01d968082f1df6644eff1b9f3a38681b9ef4ef52f78"), looks := true }, kinds := [], alts := [], laidByText := true, laidKinds := [.data, .data, .data, .data, .data, .data, .data], laidTests := true, laidLooks := .later }
def InterpretsUptoCardSaid : Prop := Claim7.holds Tryz.pinned (.plain (OpenSpec.upto interpretsSpec)) interpretsUptoCard

/-- THE SECOND FORM's CARD OF 'chainslaw.Runs'. -/
def runsUptoCard : Claim7 := { stood := { row := runsUptoRow, standIns := [], harness := (true, "cb6847907e3a10d93de8c01d968082f1df6644eff1b9f3a38681b9ef4ef52f78"), looks := true }, kinds := [], alts := [], laidByText := true, laidKinds := [.data, .data, .data, .data, .data, .data, .data], laidTests := true, laidLooks := .later }
def RunsUptoCardSaid : Prop := Claim7.holds Tryz.pinned (.plain (OpenSpec.upto runsSpec)) runsUptoCard

/-- THE SECOND FORM's CARD OF 'chainslaw.Profiles'. -/
def profilesUptoCard : Claim7 := { stood := { row := profilesUptoRow, standIns := [], harness := (true, "cb6847907e3a10d93de8c01d968082f1df6644eff1b9f3a38681b9ef4ef52f78"), looks := true }, kinds := [], alts := [], laidByText := true, laidKinds := [.data, .data, .data, .data, .data, .data, .data], laidTests := true, laidLooks := .later }
def ProfilesUptoCardSaid : Prop := Claim7.holds Tryz.pinned (.plain (OpenSpec.upto profilesSpec)) profilesUptoCard

/-- THE SECOND FORM's CARD OF 'chainslaw.All'. -/
def allUptoCard : Claim7 := { stood := { row := allUptoRow, standIns := [], harness := (true, "cb6847907e3a10d93de8c01d968082f1df6644eff1b9f3a38681b9ef4ef52f78"), looks := true }, kinds := [], alts := [], laidByText := true, laidKinds := [.data, .data, .data, .data, .data, .data, .data], laidTests := true, laidLooks := .later }
def AllUptoCardSaid : Prop := Claim7.holds Tryz.pinned (.plain (OpenSpec.upto allSpec)) allUptoCard

/-- THE SECOND FORM's CARD OF 'chainskeep.Alike'. -/
def alikeUptoCard : Claim7 := { stood := { row := alikeUptoRow, standIns := [], harness := (true, "cb6847907e3a10d93de8c01d968082f1df6644eff1b9f3a38681b9ef4ef52f78"), looks := true }, kinds := [], alts := [], laidByText := true, laidKinds := [.data, .data, .data, .data, .data, .data, .data], laidTests := true, laidLooks := .later }
def AlikeUptoCardSaid : Prop := Claim7.holds Tryz.pinned (.plain (OpenSpec.upto alikeSpec)) alikeUptoCard

/-- THE SECOND FORM's CARD OF 'chainskeep.Sober'. -/
def soberUptoCard : Claim7 := { stood := { row := soberUptoRow, standIns := [], harness := (true, "cb6847907e3a10d93de8c01d968082f1df6644eff1b9f3a38681b9ef4ef52f78"), looks := true }, kinds := [], alts := [], laidByText := true, laidKinds := [.data, .data, .data, .data, .data, .data, .data], laidTests := true, laidLooks := .later }
def SoberUptoCardSaid : Prop := Claim7.holds Tryz.pinned (.plain (OpenSpec.upto soberSpec)) soberUptoCard

/-- THE SECOND FORM's CARD OF 'chainskeep.Further'. -/
def furtherUptoCard : Claim7 := { stood := { row := furtherUptoRow, standIns := [], harness := (true, "cb6847907e3a10d93de8c01d968082f1df6644eff1b9f3a38681b9ef4ef52f78"), looks := true }, kinds := [], alts := [], laidByText := true, laidKinds := [.data, .data, .data, .data, .data, .data, .data], laidTests := true, laidLooks := .later }
def FurtherUptoCardSaid : Prop := Claim7.holds Tryz.pinned (.plain (OpenSpec.upto furtherSpec)) furtherUptoCard

/-- THE SECOND FORM's CARD OF 'chainskeep.Changed'. -/
def changedUptoCard : Claim7 := { stood := { row := changedUptoRow, standIns := [], harness := (true, "cb6847907e3a10d93de8c01d968082f1df6644eff1b9f3a38681b9ef4ef52f78"), looks := true }, kinds := [], alts := [], laidByText := true, laidKinds := [.data, .data, .data, .data, .data, .data, .data], laidTests := true, laidLooks := .later }
def ChangedUptoCardSaid : Prop := Claim7.holds Tryz.pinned (.plain (OpenSpec.upto changedSpec)) changedUptoCard

/-- THE SECOND FORM's CARD OF 'chainskeep.Sums'. -/
def sumsUptoCard : Claim7 := { stood := { row := sumsUptoRow, standIns := [], harness := (true, "cb6847907e3a10d93de8c01d968082f1df6644eff1b9f3a38681b9ef4ef52f78"), looks := true }, kinds := [], alts := [], laidByText := true, laidKinds := [.data, .data, .data, .data, .data, .data, .data], laidTests := true, laidLooks := .later }
def SumsUptoCardSaid : Prop := Claim7.holds Tryz.pinned (.plain (OpenSpec.upto sumsSpec)) sumsUptoCard
end Rows
end Go.Proofs.YtjikimpejlmdiaaGreatDoor
