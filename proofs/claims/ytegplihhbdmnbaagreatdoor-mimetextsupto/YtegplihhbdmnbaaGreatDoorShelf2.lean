/- More of the contracts: all of them stand in the other text. -/
import Derived.Test.YtegplihhbdmnbaaGreatDoorShelf
