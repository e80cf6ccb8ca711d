/- The program's table of connections: the contracts of all its calls. (Written by gen_cno.py.) -/
import Derived.Test.YtndamiocmdnenaaCnZ2
import Derived.Test.YtndamiocmdnenaaCnZ3
import Derived.Test.YtndamiocmdnenaaCnZN
import Derived.Test.YtndamiocmdnenaaCnO
import Derived.Test.YtndamiocmdnenaaCnA
namespace Go.Proofs.Ytndamiocmdnenaa
end Go.Proofs.Ytndamiocmdnenaa
