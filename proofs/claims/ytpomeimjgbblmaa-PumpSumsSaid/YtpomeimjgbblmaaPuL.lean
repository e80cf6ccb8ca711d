/- The program's own pump: the contracts of all its calls. (Written by gen_puz.py.) -/
import Derived.Test.YtpomeimjgbblmaaPuZ2
import Derived.Test.YtpomeimjgbblmaaPuZ3
namespace Go.Proofs.Ytpomeimjgbblmaa
end Go.Proofs.Ytpomeimjgbblmaa
