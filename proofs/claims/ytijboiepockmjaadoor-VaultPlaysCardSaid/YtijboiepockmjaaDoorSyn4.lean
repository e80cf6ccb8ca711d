/- strings.Cut at a mark of one byte; syntax.pieces: what it makes. -/
import Derived.Test.YtijboiepockmjaaDoorG3
import Derived.Test.YtijboiepockmjaaDoorShelf
import Derived.Test.YtijboiepockmjaaDoorG1
import Derived.Lib.CutLaws
import Derived.BigQuiet
import Derived.Deep.QuietTactic
namespace Go.Proofs.YtijboiepockmjaaDoor
set_option linter.unusedVariables false
set_option maxRecDepth 100000
set_option linter.unusedSimpArgs false
open Go.RowKit

theorem ex_take (s : ByteArray) (i : Nat) : s.extract 0 i = bs (s.data.toList.take i) := by
  rw [Go.Lib.extract_eq]; simp [bs]
theorem ex_drop (s : ByteArray) (i : Nat) (h : i ≤ s.size) : s.extract i s.size = bs (s.data.toList.drop i) := by
  rw [Go.Lib.extract_eq]
  have ht : List.take (s.size - i) (List.drop i s.data.toList) = List.drop i s.data.toList :=
    List.take_of_length_le (by rw [List.length_drop]; exact Nat.le_refl _)
  rw [ht]; rfl

def cutV (c : UInt8) (s : ByteArray) : Value := .tuple #[.string (bs (cutL c s.data.toList).1), .string (bs (cutL c s.data.toList).2.1), .bool (cutL c s.data.toList).2.2]

end Go.Proofs.YtijboiepockmjaaDoor
