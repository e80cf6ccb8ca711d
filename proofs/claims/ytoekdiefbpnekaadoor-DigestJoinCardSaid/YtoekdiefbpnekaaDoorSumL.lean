/- The sum's length, and 32 bytes in memory. -/
import Derived.Test.YtoekdiefbpnekaaDoorSum
namespace Go.Proofs.YtoekdiefbpnekaaDoor
set_option linter.unusedVariables false
set_option linter.unusedSimpArgs false
open Go.RowKit

theorem sum_len (l : List UInt8) : (sum l).length = 32 := by unfold sum outB; rw [List.length_map, List.length_range]
/-- The place of 32 bytes that the call has made. -/
theorem zeros_new (w : World) : Bk (w.alloc (.cells #[.int .u8 0, .int .u8 0, .int .u8 0, .int .u8 0, .int .u8 0, .int .u8 0, .int .u8 0, .int .u8 0, .int .u8 0, .int .u8 0, .int .u8 0, .int .u8 0, .int .u8 0, .int .u8 0, .int .u8 0, .int .u8 0, .int .u8 0, .int .u8 0, .int .u8 0, .int .u8 0, .int .u8 0, .int .u8 0, .int .u8 0, .int .u8 0, .int .u8 0, .int .u8 0, .int .u8 0, .int .u8 0, .int .u8 0, .int .u8 0, .int .u8 0, .int .u8 0] 26)) w.heap.size 26 (bcells (List.replicate 32 0)) := Bk.new w 26 _
end Go.Proofs.YtoekdiefbpnekaaDoor
