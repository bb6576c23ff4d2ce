/-
  The shelf's contract of strconv.Itoa lies in the other text of this seat.
-/
import Derived.Test.YthbebnegmenejaaGreatDoorShelf
