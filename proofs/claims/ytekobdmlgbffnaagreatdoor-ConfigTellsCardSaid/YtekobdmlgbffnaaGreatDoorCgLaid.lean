/- The tables that the rows of config's laws list (unicode/utf8's): nothing of them is wanted. -/
import Derived.Test.YtekobdmlgbffnaaGreatDoorRows
import Derived.ProofKit
import Derived.LaidMore
import Derived.OpenShut
import Derived.Stop.Joined
namespace Go.Proofs.YtekobdmlgbffnaaGreatDoor
open Go.ChangeShapes Go.WideShapes Go.ChangeAt Go.WideMaps Go.WideElems Go.RowKit
set_option linter.unusedVariables false
set_option maxRecDepth 100000
set_option linter.unusedSimpArgs false

def laidC : List (String × DataW Unit) := [("unicode/utf8.acceptRanges", Rows.laid_unicode_utf8_acceptRanges), ("unicode/utf8.first", Rows.laid_unicode_utf8_first)]
theorem of_laidC {W : World} (h : laidMetH Tryz.prog laidC W) : True := trivial
end Go.Proofs.YtekobdmlgbffnaaGreatDoor
