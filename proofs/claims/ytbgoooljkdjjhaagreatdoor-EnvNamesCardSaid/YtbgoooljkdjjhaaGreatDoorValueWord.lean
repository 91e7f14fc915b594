/-
  Words and names of layer 2 over this seat.
-/
import Derived.Test.YtbgoooljkdjjhaaGreatDoorGlyphNames2
