/-
  DERIVED. GIVEN WITH THE SEED: THE PROGRAM's TIES (one call each: nine closed facts by the kernel) AND EACH ROW's TIE, after the 31st guide's Derived/Test/Toyas{Tie, Card}.lean. No idea stands in it: it is a product of the set-up. Laid BY PROGRAM, IN A SANDBOX (cutbox-door.mjs). By AI agents, Wed Nov 11 2026. No macro, syntax, notation, axiom, sorry.
-/
import Derived.Test.YtlommddabccdeaaGreatDoorRows
import Derived.LaidByTextLater
import Derived.SevenTiedAt
import Derived.LaidSub
import Derived.LaidOnce
namespace Go.Proofs.YtlommddabccdeaaGreatDoor
open Go
set_option maxRecDepth 100000
theorem seatTie1 : Tryz.prog.laidByTextLater [("errors.errorType", Rows.laid_errors_errorType), ("tinderbox/glyph.from0", Rows.laid_tinderbox_glyph_from0), ("tinderbox/glyph.from32", Rows.laid_tinderbox_glyph_from32), ("tinderbox/glyph.from64", Rows.laid_tinderbox_glyph_from64), ("tinderbox/glyph.from96", Rows.laid_tinderbox_glyph_from96)] [.handle, .data, .data, .data, .data] true :=
  Program.laidByTextLater_by_one 36 8 33 (by kernel_rfl) (by kernel_rfl) (by kernel_rfl) (by kernel_rfl) (by kernel_rfl) (by kernel_rfl) (fun _ _ => by kernel_rfl)
theorem noOwnUnsafe : Tryz.pinned.checked.prog.headLifts.contains "ownunsafe" = false := by kernel_rfl
theorem tie : Tryz.prog.laidByTextLater [("errors.errorType", Rows.laid_errors_errorType), ("tinderbox/glyph.from0", Rows.laid_tinderbox_glyph_from0), ("tinderbox/glyph.from32", Rows.laid_tinderbox_glyph_from32), ("tinderbox/glyph.from64", Rows.laid_tinderbox_glyph_from64), ("tinderbox/glyph.from96", Rows.laid_tinderbox_glyph_from96)] [.handle, .data, .data, .data, .data] true :=
  Program.laidByTextLater.sub seatTie1 ["errors.errorType", "tinderbox/glyph.from0", "tinderbox/glyph.from32", "tinderbox/glyph.from64", "tinderbox/glyph.from96"] (by kernel_rfl) (by kernel_rfl)
theorem storeLasts_row_tie : Rows.storeLastsRow.laidByTextAt .later Tryz.pinned [.handle, .data, .data, .data, .data] true :=
  OpenClaim.laidByTextAt_later rfl rfl tie noOwnUnsafe
theorem storeLastsUpto_row_tie : Rows.storeLastsUptoRow.laidByTextAt .later Tryz.pinned [.handle, .data, .data, .data, .data] true :=
  OpenClaim.laidByTextAt_later rfl rfl tie noOwnUnsafe
end Go.Proofs.YtlommddabccdeaaGreatDoor
