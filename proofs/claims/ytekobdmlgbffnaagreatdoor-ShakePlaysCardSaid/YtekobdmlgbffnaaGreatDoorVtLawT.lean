/- VaultTime: the walk. -/
import Derived.Test.YtekobdmlgbffnaaGreatDoorG18
namespace Go.Proofs.YtekobdmlgbffnaaGreatDoor
set_option linter.unusedVariables false
set_option maxRecDepth 100000
set_option linter.unusedSimpArgs false
open Go.RowKit

end Go.Proofs.YtekobdmlgbffnaaGreatDoor
