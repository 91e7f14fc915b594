/-
  DERIVED. GIVEN WITH THE SEED: THE CARDS: each row of YtlcgfdijohgnpaaGreatDoorRows.lean that lists a variable, with what it lists TIED to the program's text (the seventh form; the later family's looks); each row that meets fmt, with fmt's text TOLD by the authors' own Lean function (tested against real Go, not proved from fmt's source: count such statements apart). THE CARD IS WHAT COUNTS. Prove the row's statement (the work); the ties are given (YtlcgfdijohgnpaaGreatDoorTie.lean); close each card by the builder's one call (the guide's Derived/Test/ToyasCard.lean, 'card_holds'). Laid BY PROGRAM, IN A SANDBOX (cutbox-door.mjs). By AI agents, Wed Nov 11 2026. No macro, syntax, notation, axiom, sorry.
-/
import Derived.Test.YtlcgfdijohgnpaaGreatDoorRows
import GoSem.ClaimSeven
namespace Go.Proofs.YtlcgfdijohgnpaaGreatDoor
namespace Rows

/-- THE TIED CARD OF 'tinderboxlaw12.DeriveStands'. -/
def deriveStandsCard : Claim7 := { stood := { row := deriveStandsRow, standIns := [], harness := (true, "0e75d39e977749a1b32d4343bdb4003834e66dd0cc3da083de38d8686b5d532b"), looks := false }, kinds := [], alts := [], laidByText := true, laidKinds := [.data, .data, .data, .data, .data, .data, .pinned], laidTests := true, laidLooks := .later }
def DeriveStandsCardSaid : Prop := Claim7.holds Tryz.pinned (.plain (OpenSpec.ofChange deriveStandsSpec)) deriveStandsCard

/-- THE SECOND FORM's CARD OF 'tinderboxlaw12.DeriveStands'. -/
def deriveStandsUptoCard : Claim7 := { stood := { row := deriveStandsUptoRow, standIns := [], harness := (true, "0e75d39e977749a1b32d4343bdb4003834e66dd0cc3da083de38d8686b5d532b"), looks := false }, kinds := [], alts := [], laidByText := true, laidKinds := [.data, .data, .data, .data, .data, .data, .pinned], laidTests := true, laidLooks := .later }
def DeriveStandsUptoCardSaid : Prop := Claim7.holds Tryz.pinned (.plain (OpenSpec.upto deriveStandsSpec)) deriveStandsUptoCard
end Rows
end Go.Proofs.YtlcgfdijohgnpaaGreatDoor
