/- A byte's type: its zero, its size. -/
import Derived.Test.YtimhjmeebahdaaaDoorRows
namespace Go.Proofs.YtimhjmeebahdaaaDoor
theorem bytesInfo : (Tryd.prog.info? 5).map (fun i => (i.zero, i.size, i.bytes)) = some (some (.int .u8 0), 1, 1) := by kernel_rfl
end Go.Proofs.YtimhjmeebahdaaaDoor
