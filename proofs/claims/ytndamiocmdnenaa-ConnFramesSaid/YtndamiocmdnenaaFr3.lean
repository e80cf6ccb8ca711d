/- frame.Put, and the document's own: their contracts. -/
import Derived.Test.YtndamiocmdnenaaFr2
namespace Go.Proofs.Ytndamiocmdnenaa
set_option linter.unusedVariables false
set_option maxRecDepth 100000
set_option linter.unusedSimpArgs false
open Go.RowKit

theorem head_cells (n : Nat) (h : n ≤ 200) : (#[.int .u8 170, .int .u8 (n : Int)] : Array Value) = bcells [170, UInt8.ofNat n] := by
  have e : ((UInt8.ofNat n).toNat : Int) = (n : Int) := by rw [UInt8.toNat_ofNat']; omega
  show _ = (#[u8 170, u8 (UInt8.ofNat n)] : Array Value)
  unfold u8
  rw [e]
  rfl
theorem fit_fine (l : List UInt8) (n : Nat) (h : l.length = n) : fitB (n : Int) = fineB l := by
  unfold fitB fineB
  rw [h]
  congr 1
  · simp
  · exact decide_eq_decide.2 (by omega)

end Go.Proofs.Ytndamiocmdnenaa
