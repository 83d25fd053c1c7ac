import Derived.Test.YteiambniddddpaaDoorLxL
set_option linter.unusedVariables false
namespace Go.Proofs.YteiambniddddpaaDoor
open Go.ChangeShapes Go.WideShapes Go.ChangeAt Go.RowKit

end Go.Proofs.YteiambniddddpaaDoor
