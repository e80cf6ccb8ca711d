/- A byte of a text, its place a letter. -/
import Derived.Test.YtimhjmeebahdaaaDoorRows
import Derived.WalkKit
import Derived.Lib.Hide
namespace Go.Proofs.YtimhjmeebahdaaaDoor
set_option linter.unusedVariables false
set_option linter.unusedSimpArgs false
open Go.RowKit

theorem sidx (s : ByteArray) (i v : Nat) (h : i < s.size) (hv : (s.data.toList.getD i 0).toNat = v) (w : World) : (Instr.index 9 (.string s) (.int .i64 (i : Int))).run Tryd.prog w = .ok (.int .u8 (v : Int)) w := by
  subst hv
  rw [run_index_string (P := Tryd.prog) w 9 s .i64 i Tryd.underlying9]
  have e : s.data.toList.getD i 0 = s[i] := by
    have h2 : i < s.data.toList.length := h
    have : s.data.toList[i] = s[i] := by
      show s.data.toList[i] = s.data[i]
      simp
    rw [← this, List.getD, List.getElem?_eq_getElem h2]; rfl
  rw [e]
  simp [h]

end Go.Proofs.YtimhjmeebahdaaaDoor
