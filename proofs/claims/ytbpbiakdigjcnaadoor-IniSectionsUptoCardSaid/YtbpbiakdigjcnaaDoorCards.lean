/-
  DERIVED. GIVEN WITH THE SEED: THE CARDS: each row of YtbpbiakdigjcnaaDoorRows.lean that lists a variable, with what it lists TIED to the program's text (the seventh form; the later family's looks); each row that meets fmt, with fmt's text TOLD by the authors' own Lean function (tested against real Go, not proved from fmt's source: count such statements apart). THE CARD IS WHAT COUNTS. Prove the row's statement (the work); the ties are given (YtbpbiakdigjcnaaDoorTie.lean); close each card by the builder's one call (the guide's Derived/Test/ToyasCard.lean, 'card_holds'). Laid BY PROGRAM, IN A SANDBOX (cutbox-door.mjs). By AI agents, Wed Nov 11 2026. No macro, syntax, notation, axiom, sorry.
-/
import Derived.Test.YtbpbiakdigjcnaaDoorRows
import GoSem.ClaimSeven
namespace Go.Proofs.YtbpbiakdigjcnaaDoor
namespace Rows

/-- THE TIED CARD OF 'tinderboxlaw06.IniParses'. -/
def iniParsesCard : Claim7 := { stood := { row := iniParsesRow, standIns := [], harness := (true, "adc68c0ec1574a9d13794b67489c304b7151293bc5eaf1649e9deb9d87cf7811"), looks := true }, kinds := [], alts := [], laidByText := true, laidKinds := [.data, .data, .data, .data, .data, .pinned], laidTests := true, laidLooks := .later }
def IniParsesCardSaid : Prop := Claim7.holds Tryd.pinned (.plain (OpenSpec.ofChange iniParsesSpec)) iniParsesCard

/-- THE TIED CARD OF 'tinderboxlaw06.IniNear'. -/
def iniNearCard : Claim7 := { stood := { row := iniNearRow, standIns := [], harness := (true, "adc68c0ec1574a9d13794b67489c304b7151293bc5eaf1649e9deb9d87cf7811"), looks := true }, kinds := [], alts := [], laidByText := true, laidKinds := [.data, .data, .data, .data, .data, .pinned], laidTests := true, laidLooks := .later }
def IniNearCardSaid : Prop := Claim7.holds Tryd.pinned (.plain (OpenSpec.ofChange iniNearSpec)) iniNearCard

/-- THE TIED CARD OF 'tinderboxlaw06.IniPrints'. -/
def iniPrintsCard : Claim7 := { stood := { row := iniPrintsRow, standIns := [], harness := (true, "adc68c0ec1574a9d13794b67489c304b7151293bc5eaf1649e9deb9d87cf7811"), looks := true }, kinds := [], alts := [], laidByText := true, laidKinds := [.data, .data, .data, .data, .data, .pinned], laidTests := true, laidLooks := .later }
def IniPrintsCardSaid : Prop := Claim7.holds Tryd.pinned (.plain (OpenSpec.ofChange iniPrintsSpec)) iniPrintsCard

/-- THE TIED CARD OF 'tinderboxlaw06.IniBack'. -/
def iniBackCard : Claim7 := { stood := { row := iniBackRow, standIns := [], harness := (true, "adc68c0ec1574a9d13794b67489c304b7151293bc5eaf1649e9deb9d87cf7811"), looks := true }, kinds := [], alts := [], laidByText := true, laidKinds := [.data, .data, .data, .data, .data, .pinned], laidTests := true, laidLooks := .later }
def IniBackCardSaid : Prop := Claim7.holds Tryd.pinned (.plain (OpenSpec.ofChange iniBackSpec)) iniBackCard

/-- THE TIED CARD OF 'tinderboxlaw06.IniSections'. -/
def iniSectionsCard : Claim7 := { stood := { row := iniSectionsRow, standIns := [], harness := (true, "adc68c0ec1574a9d13794b67489c304b7151293bc5eaf1649e9deb9d87cf7811"), looks := true }, kinds := [], alts := [], laidByText := true, laidKinds := [.data, .data, .data, .data, .data, .pinned], laidTests := true, laidLooks := .later }
def IniSectionsCardSaid : Prop := Claim7.holds Tryd.pinned (.plain (OpenSpec.ofChange iniSectionsSpec)) iniSectionsCard

/-- THE SECOND FORM's CARD OF 'tinderboxlaw06.IniParses'. -/
def iniParsesUptoCard : Claim7 := { stood := { row := iniParsesUptoRow, standIns := [], harness := (true, "adc68c0ec1574a9d13794b67489c304b7151293bc5eaf1649e9deb9d87cf7811"), looks := true }, kinds := [], alts := [], laidByText := true, laidKinds := [.data, .data, .data, .data, .data, .pinned], laidTests := true, laidLooks := .later }
def IniParsesUptoCardSaid : Prop := Claim7.holds Tryd.pinned (.plain (OpenSpec.upto iniParsesSpec)) iniParsesUptoCard

/-- THE SECOND FORM's CARD OF 'tinderboxlaw06.IniNear'. -/
def iniNearUptoCard : Claim7 := { stood := { row := iniNearUptoRow, standIns := [], harness := (true, "adc68c0ec1574a9d13794b67489c304b7151293bc5eaf1649e9deb9d87cf7811"), looks := true }, kinds := [], alts := [], laidByText := true, laidKinds := [.data, .data, .data, .data, .data, .pinned], laidTests := true, laidLooks := .later }
def IniNearUptoCardSaid : Prop := Claim7.holds Tryd.pinned (.plain (OpenSpec.upto iniNearSpec)) iniNearUptoCard

/-- THE SECOND FORM's CARD OF 'tinderboxlaw06.IniPrints'. -/
def iniPrintsUptoCard : Claim7 := { stood := { row := iniPrintsUptoRow, standIns := [], harness := (true, "adc68c0ec1574a9d13794b67489c304b7151293bc5eaf1649e9deb9d87cf7811"), looks := true }, kinds := [], alts := [], laidByText := true, laidKinds := [.data, .data, .data, .data, .data, .pinned], laidTests := true, laidLooks := .later }
def IniPrintsUptoCardSaid : Prop := Claim7.holds Tryd.pinned (.plain (OpenSpec.upto iniPrintsSpec)) iniPrintsUptoCard

/-- THE SECOND FORM's CARD OF 'tinderboxlaw06.IniBack'. -/
def iniBackUptoCard : Claim7 := { stood := { row := iniBackUptoRow, standIns := [], harness := (true, "adc68c0ec1574a9d13794b67489c304b7151293bc5eaf1649e9deb9d87cf7811"), looks := true }, kinds := [], alts := [], laidByText := true, laidKinds := [.data, .data, .data, .data, .data, .pinned], laidTests := true, laidLooks := .later }
def IniBackUptoCardSaid : Prop := Claim7.holds Tryd.pinned (.plain (OpenSpec.upto iniBackSpec)) iniBackUptoCard

/-- THE SECOND FORM's CARD OF 'tinderboxlaw06.IniSections'. -/
def iniSectionsUptoCard : Claim7 := { stood := { row := iniSectionsUptoRow, standIns := [], harness := (true, "adc68c0ec1574a9d13794b67489c304b7151293bc5eaf1649e9deb9d87cf7811"), looks := true }, kinds := [], alts := [], laidByText := true, laidKinds := [.data, .data, .data, .data, .data, .pinned], laidTests := true, laidLooks := .later }
def IniSectionsUptoCardSaid : Prop := Claim7.holds Tryd.pinned (.plain (OpenSpec.upto iniSectionsSpec)) iniSectionsUptoCard
end Rows
end Go.Proofs.YtbpbiakdigjcnaaDoor
