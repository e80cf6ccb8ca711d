/- A function value is made. Nothing of the program is named here. -/
import Derived.Test.YtimhjmeebahdaaaDoorBase
import Derived.Laws.EntriesVeiled
namespace Go.Proofs.YtimhjmeebahdaaaDoor
set_option linter.unusedVariables false
set_option linter.unusedSimpArgs false
open Go.RowKit

theorem hmf {P : Program} : ∀ (fn : Fn) (first cap : Array Value) (w : World), (Instr.makeFunc fn first cap).run P w = .ok (.func fn first cap) w := fun _ _ _ _ => rfl

end Go.Proofs.YtimhjmeebahdaaaDoor
