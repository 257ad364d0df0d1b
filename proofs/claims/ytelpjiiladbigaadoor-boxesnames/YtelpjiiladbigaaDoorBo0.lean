/- Texts: halves, pieces, where a byte stands (package boxes). -/
import Derived.Test.YtelpjiiladbigaaDoorHd0
namespace Go.Proofs.YtelpjiiladbigaaDoor
end Go.Proofs.YtelpjiiladbigaaDoor
