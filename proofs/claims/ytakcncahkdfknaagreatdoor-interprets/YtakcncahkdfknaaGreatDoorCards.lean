/-
  DERIVED. GIVEN WITH THE SEED: THE CARDS: each row of YtakcncahkdfknaaGreatDoorRows.lean that lists a variable, with what it lists TIED to the program's text (the seventh form; the later family's looks); each row that meets fmt, with fmt's text TOLD by the authors' own Lean function (tested against real Go, not proved from fmt's source: count such statements apart). THE CARD IS WHAT COUNTS. Prove the row's statement (the work); the ties are given (YtakcncahkdfknaaGreatDoorTie.lean); close each card by the builder's one call (the guide's Derived/Test/ToyasCard.lean, 'card_holds'). Laid BY PROGRAM, IN A SANDBOX (cutbox-door.mjs). By AI agents, Wed Nov 11 2026. No macro, syntax, notation, axiom, sorry.
-/
import Derived.Test.YtakcncahkdfknaaGreatDoorRows
import GoSem.ClaimSeven
namespace Go.Proofs.YtakcncahkdfknaaGreatDoor
namespace Rows

/-- THE TIED CARD OF 'chainslaw.Interprets'. -/
def interpretsCard : Claim7 := { stood := { row := interpretsRow, standIns := [], harness := (true, "d82acbdfd6aa84f6a66a23be9806ca6896dd653db54c5a1f16ed66e170bd1c7d"), looks := true }, kinds := [], alts := [], laidByText := true, laidKinds := [.data, .data, .data, .data, .data, .data, .data], laidTests := true, laidLooks := .later }
def InterpretsCardSaid : Prop := Claim7.holds Tryz.pinned (.plain (OpenSpec.ofChange interpretsSpec)) interpretsCard

/-- THE SECOND FORM's CARD OF 'chainslaw.Interprets'. -/
def interpretsUptoCard : Claim7 := { stood := { row := interpretsUptoRow, standIns := [], harness := (true, "d82acbdfd6aa84f6a66a23be9806ca6896dd653db54c5a1f16ed66e170bd1c7d"), looks := true }, kinds := [], alts := [], laidByText := true, laidKinds := [.data, .data, .data, .data, .data, .data, .data], laidTests := true, laidLooks := .later }
def InterpretsUptoCardSaid : Prop := Claim7.holds Tryz.pinned (.plain (OpenSpec.upto interpretsSpec)) interpretsUptoCard
end Rows
end Go.Proofs.YtakcncahkdfknaaGreatDoor
