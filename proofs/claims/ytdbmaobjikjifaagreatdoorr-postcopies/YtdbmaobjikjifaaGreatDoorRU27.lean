/- Package post: whether two lists are the same (of Sub). -/
/- Package post: whether two lists are the same (of Message). -/
/- Package post: whether two lists are the same (of int). -/
import Derived.Test.YtdbmaobjikjifaaGreatDoorRU06
section
set_option linter.unusedVariables false
set_option linter.unusedSimpArgs false
namespace Go.Proofs.YtdbmaobjikjifaaGreatDoorR
open Go.RowKit

end Go.Proofs.YtdbmaobjikjifaaGreatDoorR

end
section
set_option linter.unusedVariables false
set_option linter.unusedSimpArgs false
namespace Go.Proofs.YtdbmaobjikjifaaGreatDoorR
open Go.RowKit

end Go.Proofs.YtdbmaobjikjifaaGreatDoorR

end
section
set_option linter.unusedVariables false
set_option linter.unusedSimpArgs false
namespace Go.Proofs.YtdbmaobjikjifaaGreatDoorR
open Go.RowKit

end Go.Proofs.YtdbmaobjikjifaaGreatDoorR

end
