/- A byte's type: its zero, its size. -/
import Derived.Test.YtmdijhfkobcbjaaRows
namespace Go.Proofs.Ytmdijhfkobcbjaa
theorem bytesInfo : (Try.prog.info? 5).map (fun i => (i.zero, i.size, i.bytes)) = some (some (.int .u8 0), 1, 1) := by kernel_rfl
end Go.Proofs.Ytmdijhfkobcbjaa
