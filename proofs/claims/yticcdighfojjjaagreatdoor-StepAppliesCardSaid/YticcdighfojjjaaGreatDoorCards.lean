/-
  DERIVED. GIVEN WITH THE SEED: THE CARDS: each row of YticcdighfojjjaaGreatDoorRows.lean that lists a variable, with what it lists TIED to the program's text (the seventh form; the later family's looks); each row that meets fmt, with fmt's text TOLD by the authors' own Lean function (tested against real Go, not proved from fmt's source: count such statements apart). THE CARD IS WHAT COUNTS. Prove the row's statement (the work); the ties are given (YticcdighfojjjaaGreatDoorTie.lean); close each card by the builder's one call (the guide's Derived/Test/ToyasCard.lean, 'card_holds'). Laid BY PROGRAM, IN A SANDBOX (cutbox-door.mjs). By AI agents, Wed Nov 11 2026. No macro, syntax, notation, axiom, sorry.
-/
import Derived.Test.YticcdighfojjjaaGreatDoorRows
import GoSem.ClaimSeven
namespace Go.Proofs.YticcdighfojjjaaGreatDoor
namespace Rows

/-- THE TIED CARD OF 'tinderboxlaw16.StepStands'. -/
def stepStandsCard : Claim7 := { stood := { row := stepStandsRow, standIns := [], harness := (true, "2197a0aa5203cd1c89af471f46079e2f18a564f8413a5882257c5dd89904fd4b"), looks := true }, kinds := [], alts := [], laidByText := true, laidKinds := [.data, .data, .data, .data, .sentinel, .sentinel, .data, .data, .data, .data, .data, .pinned], laidTests := true, laidLooks := .later }
def StepStandsCardSaid : Prop := Claim7.holds Tryz.pinned (.plain (OpenSpec.ofChange stepStandsSpec)) stepStandsCard

/-- THE TIED CARD OF 'tinderboxlaw16.StepCalls'. -/
def stepCallsCard : Claim7 := { stood := { row := stepCallsRow, standIns := [], harness := (true, "2197a0aa5203cd1c89af471f46079e2f18a564f8413a5882257c5dd89904fd4b"), looks := true }, kinds := [], alts := [], laidByText := true, laidKinds := [.data, .data, .data, .data, .sentinel, .sentinel, .data, .data, .data, .data, .data, .pinned], laidTests := true, laidLooks := .later }
def StepCallsCardSaid : Prop := Claim7.holds Tryz.pinned (.plain (OpenSpec.ofChange stepCallsSpec)) stepCallsCard

/-- THE TIED CARD OF 'tinderboxlaw16.StepRights'. -/
def stepRightsCard : Claim7 := { stood := { row := stepRightsRow, standIns := [], harness := (true, "2197a0aa5203cd1c89af471f46079e2f18a564f8413a5882257c5dd89904fd4b"), looks := true }, kinds := [], alts := [], laidByText := true, laidKinds := [.data, .data, .data, .data, .sentinel, .sentinel, .data, .data, .data, .data, .pinned], laidTests := true, laidLooks := .later }
def StepRightsCardSaid : Prop := Claim7.holds Tryz.pinned (.plain (OpenSpec.ofChange stepRightsSpec)) stepRightsCard

/-- THE TIED CARD OF 'tinderboxlaw16.StepApplies'. -/
def stepAppliesCard : Claim7 := { stood := { row := stepAppliesRow, standIns := [], harness := (true, "2197a0aa5203cd1c89af471f46079e2f18a564f8413a5882257c5dd89904fd4b"), looks := true }, kinds := [], alts := [], laidByText := true, laidKinds := [.data, .data, .data, .data, .sentinel, .sentinel, .data, .data, .data, .data, .pinned], laidTests := true, laidLooks := .later }
def StepAppliesCardSaid : Prop := Claim7.holds Tryz.pinned (.plain (OpenSpec.ofChange stepAppliesSpec)) stepAppliesCard

/-- THE TIED CARD OF 'tinderboxlaw16.StepScripts'. -/
def stepScriptsCard : Claim7 := { stood := { row := stepScriptsRow, standIns := [], harness := (true, "2197a0aa5203cd1c89af471f46079e2f18a564f8413a5882257c5dd89904fd4b"), looks := true }, kinds := [], alts := [], laidByText := true, laidKinds := [.data, .data, .data, .data, .sentinel, .sentinel, .data, .data, .data, .data, .data, .pinned], laidTests := true, laidLooks := .later }
def StepScriptsCardSaid : Prop := Claim7.holds Tryz.pinned (.plain (OpenSpec.ofChange stepScriptsSpec)) stepScriptsCard

/-- THE TIED CARD OF 'tinderboxlaw16.StepBack'. -/
def stepBackCard : Claim7 := { stood := { row := stepBackRow, standIns := [], harness := (true, "2197a0aa5203cd1c89af471f46079e2f18a564f8413a5882257c5dd89904fd4b"), looks := true }, kinds := [], alts := [], laidByText := true, laidKinds := [.data, .data, .data, .data, .sentinel, .sentinel, .data, .data, .data, .data, .pinned], laidTests := true, laidLooks := .later }
def StepBackCardSaid : Prop := Claim7.holds Tryz.pinned (.plain (OpenSpec.ofChange stepBackSpec)) stepBackCard

/-- THE TIED CARD OF 'tinderboxlaw16.StepAlone'. -/
def stepAloneCard : Claim7 := { stood := { row := stepAloneRow, standIns := [], harness := (true, "2197a0aa5203cd1c89af471f46079e2f18a564f8413a5882257c5dd89904fd4b"), looks := true }, kinds := [], alts := [], laidByText := true, laidKinds := [.data, .data, .data, .data, .sentinel, .sentinel, .data, .data, .data, .data, .pinned], laidTests := true, laidLooks := .later }
def StepAloneCardSaid : Prop := Claim7.holds Tryz.pinned (.plain (OpenSpec.ofChange stepAloneSpec)) stepAloneCard

/-- THE SECOND FORM's CARD OF 'tinderboxlaw16.StepStands'. -/
def stepStandsUptoCard : Claim7 := { stood := { row := stepStandsUptoRow, standIns := [], harness := (true, "2197a0aa5203cd1c89af471f46079e2f18a564f8413a5882257c5dd89904fd4b"), looks := true }, kinds := [], alts := [], laidByText := true, laidKinds := [.data, .data, .data, .data, .sentinel, .sentinel, .data, .data, .data, .data, .data, .pinned], laidTests := true, laidLooks := .later }
def StepStandsUptoCardSaid : Prop := Claim7.holds Tryz.pinned (.plain (OpenSpec.upto stepStandsSpec)) stepStandsUptoCard

/-- THE SECOND FORM's CARD OF 'tinderboxlaw16.StepCalls'. -/
def stepCallsUptoCard : Claim7 := { stood := { row := stepCallsUptoRow, standIns := [], harness := (true, "2197a0aa5203cd1c89af471f46079e2f18a564f8413a5882257c5dd89904fd4b"), looks := true }, kinds := [], alts := [], laidByText := true, laidKinds := [.data, .data, .data, .data, .sentinel, .sentinel, .data, .data, .data, .data, .data, .pinned], laidTests := true, laidLooks := .later }
def StepCallsUptoCardSaid : Prop := Claim7.holds Tryz.pinned (.plain (OpenSpec.upto stepCallsSpec)) stepCallsUptoCard

/-- THE SECOND FORM's CARD OF 'tinderboxlaw16.StepRights'. -/
def stepRightsUptoCard : Claim7 := { stood := { row := stepRightsUptoRow, standIns := [], harness := (true, "2197a0aa5203cd1c89af471f46079e2f18a564f8413a5882257c5dd89904fd4b"), looks := true }, kinds := [], alts := [], laidByText := true, laidKinds := [.data, .data, .data, .data, .sentinel, .sentinel, .data, .data, .data, .data, .pinned], laidTests := true, laidLooks := .later }
def StepRightsUptoCardSaid : Prop := Claim7.holds Tryz.pinned (.plain (OpenSpec.upto stepRightsSpec)) stepRightsUptoCard

/-- THE SECOND FORM's CARD OF 'tinderboxlaw16.StepApplies'. -/
def stepAppliesUptoCard : Claim7 := { stood := { row := stepAppliesUptoRow, standIns := [], harness := (true, "2197a0aa5203cd1c89af471f46079e2f18a564f8413a5882257c5dd89904fd4b"), looks := true }, kinds := [], alts := [], laidByText := true, laidKinds := [.data, .data, .data, .data, .sentinel, .sentinel, .data, .data, .data, .data, .pinned], laidTests := true, laidLooks := .later }
def StepAppliesUptoCardSaid : Prop := Claim7.holds Tryz.pinned (.plain (OpenSpec.upto stepAppliesSpec)) stepAppliesUptoCard

/-- THE SECOND FORM's CARD OF 'tinderboxlaw16.StepScripts'. -/
def stepScriptsUptoCard : Claim7 := { stood := { row := stepScriptsUptoRow, standIns := [], harness := (true, "2197a0aa5203cd1c89af471f46079e2f18a564f8413a5882257c5dd89904fd4b"), looks := true }, kinds := [], alts := [], laidByText := true, laidKinds := [.data, .data, .data, .data, .sentinel, .sentinel, .data, .data, .data, .data, .data, .pinned], laidTests := true, laidLooks := .later }
def StepScriptsUptoCardSaid : Prop := Claim7.holds Tryz.pinned (.plain (OpenSpec.upto stepScriptsSpec)) stepScriptsUptoCard

/-- THE SECOND FORM's CARD OF 'tinderboxlaw16.StepBack'. -/
def stepBackUptoCard : Claim7 := { stood := { row := stepBackUptoRow, standIns := [], harness := (true, "2197a0aa5203cd1c89af471f46079e2f18a564f8413a5882257c5dd89904fd4b"), looks := true }, kinds := [], alts := [], laidByText := true, laidKinds := [.data, .data, .data, .data, .sentinel, .sentinel, .data, .data, .data, .data, .pinned], laidTests := true, laidLooks := .later }
def StepBackUptoCardSaid : Prop := Claim7.holds Tryz.pinned (.plain (OpenSpec.upto stepBackSpec)) stepBackUptoCard

/-- THE SECOND FORM's CARD OF 'tinderboxlaw16.StepAlone'. -/
def stepAloneUptoCard : Claim7 := { stood := { row := stepAloneUptoRow, standIns := [], harness := (true, "2197a0aa5203cd1c89af471f46079e2f18a564f8413a5882257c5dd89904fd4b"), looks := true }, kinds := [], alts := [], laidByText := true, laidKinds := [.data, .data, .data, .data, .sentinel, .sentinel, .data, .data, .data, .data, .pinned], laidTests := true, laidLooks := .later }
def StepAloneUptoCardSaid : Prop := Claim7.holds Tryz.pinned (.plain (OpenSpec.upto stepAloneSpec)) stepAloneUptoCard
end Rows
end Go.Proofs.YticcdighfojjjaaGreatDoor
