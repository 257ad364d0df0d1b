/- More of the library's contracts: all of them stand in the other text. -/
import Derived.Test.YtfebohfmpikoeabGreatDoorShelf
