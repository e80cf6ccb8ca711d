/- strings.Clone: its contract. -/
import Derived.Test.YtpbobmiajjgekaaG1
import Derived.Test.YtpbobmiajjgekaaShelf
namespace Go.Proofs.Ytpbobmiajjgekaa
set_option linter.unusedVariables false
set_option maxRecDepth 100000
set_option linter.unusedSimpArgs false
open Go.RowKit

set_option maxRecDepth 100000 in
set_option maxHeartbeats 1000000 in
theorem sclone_ok (s : ByteArray) (w : World) (hs : s.size ≤ 140737488355328) : Calls Try.prog 52 #[.string s] w fun e u' => e = .returned (.string s) ∧ Below w.heap.size w u' := by
  have HI := Lib.hid (fun u => Try.stringslite_Clone s u (by omega))
  go_enter Try.func52, Try.ntmps52
  go_wp2_with (go_at_call 58; refine (HI.out _).mono ?_; rintro e u2 ⟨rfl, hb⟩; have HB := Lib.hid hb; clear hb)
  go_ret
  exact ⟨rfl, HB.out⟩

end Go.Proofs.Ytpbobmiajjgekaa
