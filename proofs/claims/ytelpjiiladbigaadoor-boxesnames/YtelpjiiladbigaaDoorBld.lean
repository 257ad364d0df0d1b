/- The library's contracts of (*strings.Builder).WriteString and WriteByte, laid by hand. -/
import Derived.Shelf.Strings.BuilderK
import Derived.Test.YtelpjiiladbigaaDoorProg
namespace Go.Proofs
open Go.Shelf
end Go.Proofs
