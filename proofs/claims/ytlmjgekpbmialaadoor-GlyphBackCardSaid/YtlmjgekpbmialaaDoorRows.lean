/-
  NARROWER THAN 'FOR EVERY INPUT', by the rows' own cells (each row's printed sentence says how): GlyphStands: laid · GlyphNumbers: laid · GlyphTexts: laid · GlyphCounts: laid · GlyphBack: laid.
  DERIVED. THE GIVEN ROWS OF THIS SEAT. 5 by the template 'for every input the law returns true; each argument reads behind the call as it read before'; 0 by the template 'total and deterministic' (their statements: YtlmjgekpbmialaaDoorTotals.lean).
  GIVEN WITH THE SEED: the statements are not yours to turn. If you find one false, say at which input.
  Laid BY PROGRAM, IN A SANDBOX (cutbox-rows.mjs): the forced cells as the released guide's own fill.sh prints them over the translation 4c5a14465e1938bb… (all of the seat's roots in one cut). By AI agents, Wed Nov 11 2026. No macro, syntax, notation, axiom, sorry.
-/
import Derived.Test.YtlmjgekpbmialaaDoorChecked
import GoSem.Claim
import GoSem.ClaimJoined
import GoSem.ClaimMapViews
import Derived.JoinedTies
import Derived.KernelRfl
namespace Go.Proofs.YtlmjgekpbmialaaDoor
/- THE CELL 'sum', in the pinned program and in every row, IS THE sha256 OF THE DUMP (.gsa) THAT YtlmjgekpbmialaaDoorProg.lean LOADS. Nothing in Lean hashes anything: it is a label: what it is worth is what the hold of that sum in a sandbox is worth. -/
noncomputable def Tryd.pinned : Pinned := { name := "ytlmjgekpbmialaadoor", sum := "4c5a14465e1938bb172b7e707ce466d2aac89641bf90a92f89ae6fad3633c2b1", checked := Tryd.checked }
namespace Rows
def none {H : Type} : Left H := { results := [], args := [] }

/- WHAT THE LISTED PACKAGE-LEVEL VARIABLES READ AS WHEN THE CALL BEGINS. Each datum BY PROGRAM (the guide's laid-datum.mjs) off the statement by which the dump's own 'gosem.cut.vars' lays the variable. In a bare row this is a premise. The card (YtlmjgekpbmialaaDoorCards.lean) ties it to the program's text. -/
def laid_tinderbox_glyph_from0 {H : Type} : DataW H := .agg [.lit (.int .u8 0), .lit (.int .u8 0), .lit (.int .u8 0), .lit (.int .u8 0), .lit (.int .u8 0), .lit (.int .u8 0), .lit (.int .u8 0), .lit (.int .u8 0), .lit (.int .u8 0), .lit (.int .u8 4), .lit (.int .u8 6), .lit (.int .u8 0), .lit (.int .u8 0), .lit (.int .u8 6), .lit (.int .u8 0), .lit (.int .u8 0), .lit (.int .u8 0), .lit (.int .u8 0), .lit (.int .u8 0), .lit (.int .u8 0), .lit (.int .u8 0), .lit (.int .u8 0), .lit (.int .u8 0), .lit (.int .u8 0), .lit (.int .u8 0), .lit (.int .u8 0), .lit (.int .u8 0), .lit (.int .u8 0), .lit (.int .u8 0), .lit (.int .u8 0), .lit (.int .u8 0), .lit (.int .u8 0)]
def laid_tinderbox_glyph_from32 {H : Type} : DataW H := .agg [.lit (.int .u8 4), .lit (.int .u8 5), .lit (.int .u8 5), .lit (.int .u8 5), .lit (.int .u8 5), .lit (.int .u8 5), .lit (.int .u8 5), .lit (.int .u8 5), .lit (.int .u8 5), .lit (.int .u8 5), .lit (.int .u8 5), .lit (.int .u8 5), .lit (.int .u8 5), .lit (.int .u8 5), .lit (.int .u8 5), .lit (.int .u8 5), .lit (.int .u8 3), .lit (.int .u8 3), .lit (.int .u8 3), .lit (.int .u8 3), .lit (.int .u8 3), .lit (.int .u8 3), .lit (.int .u8 3), .lit (.int .u8 3), .lit (.int .u8 3), .lit (.int .u8 3), .lit (.int .u8 5), .lit (.int .u8 5), .lit (.int .u8 5), .lit (.int .u8 5), .lit (.int .u8 5), .lit (.int .u8 5)]
def laid_tinderbox_glyph_from64 {H : Type} : DataW H := .agg [.lit (.int .u8 5), .lit (.int .u8 2), .lit (.int .u8 2), .lit (.int .u8 2), .lit (.int .u8 2), .lit (.int .u8 2), .lit (.int .u8 2), .lit (.int .u8 2), .lit (.int .u8 2), .lit (.int .u8 2), .lit (.int .u8 2), .lit (.int .u8 2), .lit (.int .u8 2), .lit (.int .u8 2), .lit (.int .u8 2), .lit (.int .u8 2), .lit (.int .u8 2), .lit (.int .u8 2), .lit (.int .u8 2), .lit (.int .u8 2), .lit (.int .u8 2), .lit (.int .u8 2), .lit (.int .u8 2), .lit (.int .u8 2), .lit (.int .u8 2), .lit (.int .u8 2), .lit (.int .u8 2), .lit (.int .u8 5), .lit (.int .u8 5), .lit (.int .u8 5), .lit (.int .u8 5), .lit (.int .u8 5)]
def laid_tinderbox_glyph_from96 {H : Type} : DataW H := .agg [.lit (.int .u8 5), .lit (.int .u8 1), .lit (.int .u8 1), .lit (.int .u8 1), .lit (.int .u8 1), .lit (.int .u8 1), .lit (.int .u8 1), .lit (.int .u8 1), .lit (.int .u8 1), .lit (.int .u8 1), .lit (.int .u8 1), .lit (.int .u8 1), .lit (.int .u8 1), .lit (.int .u8 1), .lit (.int .u8 1), .lit (.int .u8 1), .lit (.int .u8 1), .lit (.int .u8 1), .lit (.int .u8 1), .lit (.int .u8 1), .lit (.int .u8 1), .lit (.int .u8 1), .lit (.int .u8 1), .lit (.int .u8 1), .lit (.int .u8 1), .lit (.int .u8 1), .lit (.int .u8 1), .lit (.int .u8 5), .lit (.int .u8 5), .lit (.int .u8 5), .lit (.int .u8 5), .lit (.int .u8 0)]

/-- 'tinderboxlaw02.GlyphStands': WHATEVER THE INPUT: true; the input reads as it did. -/
def glyphStandsSpec : ChangeSpec := { name := "glyphStands", fn := fun _ => fun
  | [] => { results := [.lit (.bool true)], args := [] }
  | _ => none }
def glyphStandsRow : OpenClaim := { program := "ytlmjgekpbmialaadoor", sum := "4c5a14465e1938bb172b7e707ce466d2aac89641bf90a92f89ae6fad3633c2b1", func := "tinderbox/tinderboxlaw02.GlyphStands", spec := "glyphStands", inPlace := ["internal/bytealg.IndexByteString"], named := ["tinderbox/glyph.from0", "tinderbox/glyph.from32", "tinderbox/glyph.from64", "tinderbox/glyph.from96"], apart := false, laid := [("tinderbox/glyph.from0", laid_tinderbox_glyph_from0), ("tinderbox/glyph.from32", laid_tinderbox_glyph_from32), ("tinderbox/glyph.from64", laid_tinderbox_glyph_from64), ("tinderbox/glyph.from96", laid_tinderbox_glyph_from96)] }
def GlyphStandsSaid : Prop := glyphStandsRow.holds Tryd.pinned (OpenSpec.ofChange glyphStandsSpec)

/-- ITS FALSE NEIGHBOUR: 'it returns false'. Refute it at one input. -/
def glyphStandsWrong : ChangeSpec := { name := "glyphStands", fn := fun _ => fun
  | [] => { results := [.lit (.bool false)], args := [] }
  | _ => none }
def GlyphStandsWrongFalsely : Prop := glyphStandsRow.holds Tryd.pinned (OpenSpec.ofChange glyphStandsWrong)

/-- 'tinderboxlaw02.GlyphNumbers': WHATEVER THE INPUT: true; the input reads as it did. -/
def glyphNumbersSpec : ChangeSpec := { name := "glyphNumbers", fn := fun _ => fun
  | [d1, d2] => { results := [.lit (.bool true)], args := [d1, d2] }
  | _ => none }
def glyphNumbersRow : OpenClaim := { program := "ytlmjgekpbmialaadoor", sum := "4c5a14465e1938bb172b7e707ce466d2aac89641bf90a92f89ae6fad3633c2b1", func := "tinderbox/tinderboxlaw02.GlyphNumbers", spec := "glyphNumbers", inPlace := ["internal/bytealg.IndexByteString"], named := ["tinderbox/glyph.from0", "tinderbox/glyph.from32", "tinderbox/glyph.from64", "tinderbox/glyph.from96"], apart := false, laid := [("tinderbox/glyph.from0", laid_tinderbox_glyph_from0), ("tinderbox/glyph.from32", laid_tinderbox_glyph_from32), ("tinderbox/glyph.from64", laid_tinderbox_glyph_from64), ("tinderbox/glyph.from96", laid_tinderbox_glyph_from96)] }
def GlyphNumbersSaid : Prop := glyphNumbersRow.holds Tryd.pinned (OpenSpec.ofChange glyphNumbersSpec)

/-- ITS FALSE NEIGHBOUR: 'it returns false'. Refute it at one input. -/
def glyphNumbersWrong : ChangeSpec := { name := "glyphNumbers", fn := fun _ => fun
  | [d1, d2] => { results := [.lit (.bool false)], args := [d1, d2] }
  | _ => none }
def GlyphNumbersWrongFalsely : Prop := glyphNumbersRow.holds Tryd.pinned (OpenSpec.ofChange glyphNumbersWrong)

/-- 'tinderboxlaw02.GlyphTexts': WHATEVER THE INPUT: true; the input reads as it did. -/
def glyphTextsSpec : ChangeSpec := { name := "glyphTexts", fn := fun _ => fun
  | [d1, d2] => { results := [.lit (.bool true)], args := [d1, d2] }
  | _ => none }
def glyphTextsRow : OpenClaim := { program := "ytlmjgekpbmialaadoor", sum := "4c5a14465e1938bb172b7e707ce466d2aac89641bf90a92f89ae6fad3633c2b1", func := "tinderbox/tinderboxlaw02.GlyphTexts", spec := "glyphTexts", inPlace := ["internal/bytealg.IndexByteString"], named := ["tinderbox/glyph.from0", "tinderbox/glyph.from32", "tinderbox/glyph.from64", "tinderbox/glyph.from96"], apart := false, laid := [("tinderbox/glyph.from0", laid_tinderbox_glyph_from0), ("tinderbox/glyph.from32", laid_tinderbox_glyph_from32), ("tinderbox/glyph.from64", laid_tinderbox_glyph_from64), ("tinderbox/glyph.from96", laid_tinderbox_glyph_from96)] }
def GlyphTextsSaid : Prop := glyphTextsRow.holds Tryd.pinned (OpenSpec.ofChange glyphTextsSpec)

/-- ITS FALSE NEIGHBOUR: 'it returns false'. Refute it at one input. -/
def glyphTextsWrong : ChangeSpec := { name := "glyphTexts", fn := fun _ => fun
  | [d1, d2] => { results := [.lit (.bool false)], args := [d1, d2] }
  | _ => none }
def GlyphTextsWrongFalsely : Prop := glyphTextsRow.holds Tryd.pinned (OpenSpec.ofChange glyphTextsWrong)

/-- 'tinderboxlaw02.GlyphCounts': WHATEVER THE INPUT: true; the input reads as it did. -/
def glyphCountsSpec : ChangeSpec := { name := "glyphCounts", fn := fun _ => fun
  | [] => { results := [.lit (.bool true)], args := [] }
  | _ => none }
def glyphCountsRow : OpenClaim := { program := "ytlmjgekpbmialaadoor", sum := "4c5a14465e1938bb172b7e707ce466d2aac89641bf90a92f89ae6fad3633c2b1", func := "tinderbox/tinderboxlaw02.GlyphCounts", spec := "glyphCounts", inPlace := ["internal/bytealg.IndexByteString"], named := ["tinderbox/glyph.from0", "tinderbox/glyph.from32", "tinderbox/glyph.from64", "tinderbox/glyph.from96"], apart := false, laid := [("tinderbox/glyph.from0", laid_tinderbox_glyph_from0), ("tinderbox/glyph.from32", laid_tinderbox_glyph_from32), ("tinderbox/glyph.from64", laid_tinderbox_glyph_from64), ("tinderbox/glyph.from96", laid_tinderbox_glyph_from96)] }
def GlyphCountsSaid : Prop := glyphCountsRow.holds Tryd.pinned (OpenSpec.ofChange glyphCountsSpec)

/-- ITS FALSE NEIGHBOUR: 'it returns false'. Refute it at one input. -/
def glyphCountsWrong : ChangeSpec := { name := "glyphCounts", fn := fun _ => fun
  | [] => { results := [.lit (.bool false)], args := [] }
  | _ => none }
def GlyphCountsWrongFalsely : Prop := glyphCountsRow.holds Tryd.pinned (OpenSpec.ofChange glyphCountsWrong)

/-- 'tinderboxlaw02.GlyphBack': WHATEVER THE INPUT: true; the input reads as it did. -/
def glyphBackSpec : ChangeSpec := { name := "glyphBack", fn := fun _ => fun
  | [d1, d2] => { results := [.lit (.bool true)], args := [d1, d2] }
  | _ => none }
def glyphBackRow : OpenClaim := { program := "ytlmjgekpbmialaadoor", sum := "4c5a14465e1938bb172b7e707ce466d2aac89641bf90a92f89ae6fad3633c2b1", func := "tinderbox/tinderboxlaw02.GlyphBack", spec := "glyphBack", inPlace := ["internal/bytealg.IndexByteString"], named := ["tinderbox/glyph.from0", "tinderbox/glyph.from32", "tinderbox/glyph.from64", "tinderbox/glyph.from96"], apart := false, laid := [("tinderbox/glyph.from0", laid_tinderbox_glyph_from0), ("tinderbox/glyph.from32", laid_tinderbox_glyph_from32), ("tinderbox/glyph.from64", laid_tinderbox_glyph_from64), ("tinderbox/glyph.from96", laid_tinderbox_glyph_from96)] }
def GlyphBackSaid : Prop := glyphBackRow.holds Tryd.pinned (OpenSpec.ofChange glyphBackSpec)

/-- ITS FALSE NEIGHBOUR: 'it returns false'. Refute it at one input. -/
def glyphBackWrong : ChangeSpec := { name := "glyphBack", fn := fun _ => fun
  | [d1, d2] => { results := [.lit (.bool false)], args := [d1, d2] }
  | _ => none }
def GlyphBackWrongFalsely : Prop := glyphBackRow.holds Tryd.pinned (OpenSpec.ofChange glyphBackWrong)

/- THE SECOND FORM. 'bulk': how many values and letters a reading holds, each counted each time it is reached (what is shared counts as often as it is met; a slice's spare places count too). A statement '..UptoSaid' is the law's where the arguments, and the package variables that the reading takes, are together of bulk at most 1048576: NARROWER than '..Said'. Prove '..Said' where nothing that the law and all that it calls make is longer than what came in: it says more and counts as full. Else prove '..UptoSaid'. A law counts once. -/
mutual
def uptoBulk {H : Type} : DataW H → Nat
  | .lit (.string bytes) => bytes.length + 1
  | .lit _ => 1
  | .nil => 1
  | .ptr d => uptoBulk d + 1
  | .slice elems spare => uptoBulkAll elems + uptoBulkAll spare + 1
  | .agg parts => uptoBulkAll parts + 1
  | .iface _ d => uptoBulk d + 1
  | .map entries => uptoBulkEntries entries + 1
  | .held _ => 1
def uptoBulkAll {H : Type} : List (DataW H) → Nat
  | [] => 0
  | d :: r => uptoBulk d + uptoBulkAll r
def uptoBulkEntries {H : Type} : List (Lit × DataW H) → Nat
  | [] => 0
  | x :: r => uptoBulkEntry x + uptoBulkEntries r
def uptoBulkEntry {H : Type} : Lit × DataW H → Nat
  | (.string bytes, d) => bytes.length + uptoBulk d + 1
  | (_, d) => uptoBulk d + 1
 end
def uptoSmall : (H : Type) → List (DataW H) → Bool := fun _ ds => decide (uptoBulkAll ds ≤ 1048576)
def OpenSpec.upto (s : _root_.Go.ChangeSpec) : _root_.Go.OpenSpec := { _root_.Go.OpenSpec.ofChange s with cond := some uptoSmall }

/-- 'tinderboxlaw02.GlyphStands', WHERE WHAT IT READS IS OF BULK AT MOST 1048576: true; the input reads as it did. -/
def glyphStandsUptoRow : OpenClaim := { program := "ytlmjgekpbmialaadoor", sum := "4c5a14465e1938bb172b7e707ce466d2aac89641bf90a92f89ae6fad3633c2b1", func := "tinderbox/tinderboxlaw02.GlyphStands", spec := "glyphStands", inPlace := ["internal/bytealg.IndexByteString"], named := ["tinderbox/glyph.from0", "tinderbox/glyph.from32", "tinderbox/glyph.from64", "tinderbox/glyph.from96"], apart := false, laid := [("tinderbox/glyph.from0", laid_tinderbox_glyph_from0), ("tinderbox/glyph.from32", laid_tinderbox_glyph_from32), ("tinderbox/glyph.from64", laid_tinderbox_glyph_from64), ("tinderbox/glyph.from96", laid_tinderbox_glyph_from96)], narrowed := true }
def GlyphStandsUptoSaid : Prop := glyphStandsUptoRow.holds Tryd.pinned (OpenSpec.upto glyphStandsSpec)

/-- 'tinderboxlaw02.GlyphNumbers', WHERE WHAT IT READS IS OF BULK AT MOST 1048576: true; the input reads as it did. -/
def glyphNumbersUptoRow : OpenClaim := { program := "ytlmjgekpbmialaadoor", sum := "4c5a14465e1938bb172b7e707ce466d2aac89641bf90a92f89ae6fad3633c2b1", func := "tinderbox/tinderboxlaw02.GlyphNumbers", spec := "glyphNumbers", inPlace := ["internal/bytealg.IndexByteString"], named := ["tinderbox/glyph.from0", "tinderbox/glyph.from32", "tinderbox/glyph.from64", "tinderbox/glyph.from96"], apart := false, laid := [("tinderbox/glyph.from0", laid_tinderbox_glyph_from0), ("tinderbox/glyph.from32", laid_tinderbox_glyph_from32), ("tinderbox/glyph.from64", laid_tinderbox_glyph_from64), ("tinderbox/glyph.from96", laid_tinderbox_glyph_from96)], narrowed := true }
def GlyphNumbersUptoSaid : Prop := glyphNumbersUptoRow.holds Tryd.pinned (OpenSpec.upto glyphNumbersSpec)

/-- 'tinderboxlaw02.GlyphTexts', WHERE WHAT IT READS IS OF BULK AT MOST 1048576: true; the input reads as it did. -/
def glyphTextsUptoRow : OpenClaim := { program := "ytlmjgekpbmialaadoor", sum := "4c5a14465e1938bb172b7e707ce466d2aac89641bf90a92f89ae6fad3633c2b1", func := "tinderbox/tinderboxlaw02.GlyphTexts", spec := "glyphTexts", inPlace := ["internal/bytealg.IndexByteString"], named := ["tinderbox/glyph.from0", "tinderbox/glyph.from32", "tinderbox/glyph.from64", "tinderbox/glyph.from96"], apart := false, laid := [("tinderbox/glyph.from0", laid_tinderbox_glyph_from0), ("tinderbox/glyph.from32", laid_tinderbox_glyph_from32), ("tinderbox/glyph.from64", laid_tinderbox_glyph_from64), ("tinderbox/glyph.from96", laid_tinderbox_glyph_from96)], narrowed := true }
def GlyphTextsUptoSaid : Prop := glyphTextsUptoRow.holds Tryd.pinned (OpenSpec.upto glyphTextsSpec)

/-- 'tinderboxlaw02.GlyphCounts', WHERE WHAT IT READS IS OF BULK AT MOST 1048576: true; the input reads as it did. -/
def glyphCountsUptoRow : OpenClaim := { program := "ytlmjgekpbmialaadoor", sum := "4c5a14465e1938bb172b7e707ce466d2aac89641bf90a92f89ae6fad3633c2b1", func := "tinderbox/tinderboxlaw02.GlyphCounts", spec := "glyphCounts", inPlace := ["internal/bytealg.IndexByteString"], named := ["tinderbox/glyph.from0", "tinderbox/glyph.from32", "tinderbox/glyph.from64", "tinderbox/glyph.from96"], apart := false, laid := [("tinderbox/glyph.from0", laid_tinderbox_glyph_from0), ("tinderbox/glyph.from32", laid_tinderbox_glyph_from32), ("tinderbox/glyph.from64", laid_tinderbox_glyph_from64), ("tinderbox/glyph.from96", laid_tinderbox_glyph_from96)], narrowed := true }
def GlyphCountsUptoSaid : Prop := glyphCountsUptoRow.holds Tryd.pinned (OpenSpec.upto glyphCountsSpec)

/-- 'tinderboxlaw02.GlyphBack', WHERE WHAT IT READS IS OF BULK AT MOST 1048576: true; the input reads as it did. -/
def glyphBackUptoRow : OpenClaim := { program := "ytlmjgekpbmialaadoor", sum := "4c5a14465e1938bb172b7e707ce466d2aac89641bf90a92f89ae6fad3633c2b1", func := "tinderbox/tinderboxlaw02.GlyphBack", spec := "glyphBack", inPlace := ["internal/bytealg.IndexByteString"], named := ["tinderbox/glyph.from0", "tinderbox/glyph.from32", "tinderbox/glyph.from64", "tinderbox/glyph.from96"], apart := false, laid := [("tinderbox/glyph.from0", laid_tinderbox_glyph_from0), ("tinderbox/glyph.from32", laid_tinderbox_glyph_from32), ("tinderbox/glyph.from64", laid_tinderbox_glyph_from64), ("tinderbox/glyph.from96", laid_tinderbox_glyph_from96)], narrowed := true }
def GlyphBackUptoSaid : Prop := glyphBackUptoRow.holds Tryd.pinned (OpenSpec.upto glyphBackSpec)

end Rows
end Go.Proofs.YtlmjgekpbmialaaDoor
