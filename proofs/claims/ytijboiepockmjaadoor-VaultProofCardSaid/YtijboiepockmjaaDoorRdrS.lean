/- num.reader over a text: what it makes, and what each call of that tells. -/
import Derived.Test.YtijboiepockmjaaDoorRows
import Derived.Test.YtijboiepockmjaaDoorG1
namespace Go.Proofs.YtijboiepockmjaaDoor
set_option linter.unusedVariables false
set_option maxRecDepth 100000
set_option linter.unusedSimpArgs false
open Go.RowKit

/-- The same over a text. -/
structure RdS (w : World) (g : Nat) (s : ByteArray) (k : Nat) : Prop where
  pos : Bk w (g + 1) 3 #[.int .i64 k]
  from_ : Bk w g 9 #[.string s]
  size : s.size ≤ 140737488355328
  le : k ≤ s.size

theorem RdS.start {w : World} {s : ByteArray} (hl : s.size ≤ 140737488355328) :
    RdS ((w.alloc (.cells #[.string s] 9)).alloc (.cells #[.int .i64 0] 3)) w.heap.size s 0 := by
  have b1 : Bk (w.alloc (.cells #[.string s] 9)) w.heap.size 9 _ := Bk.new w _ _
  have b2 : Bk ((w.alloc (.cells #[.string s] 9)).alloc (.cells #[.int .i64 0] 3)) (w.heap.size + 1) 3 #[.int .i64 0] := by
    have := Bk.new (w.alloc (.cells #[.string s] 9)) 3 #[.int .i64 0]
    simpa using this
  exact ⟨b2, b1.alloc _, hl, by omega⟩

theorem RdS.step {w : World} {g k : Nat} {s : ByteArray} (h : RdS w g s k) (hk : k < s.size) : RdS (w.setCell ⟨g + 1, 0, none⟩ (.int .i64 ((k + 1 : Nat) : Int))) g s (k + 1) :=
  ⟨h.pos.set 0 _, h.from_.far (by show g ≠ g + 1; omega) _, h.size, by omega⟩

theorem RdS.below {w w' : World} {g k B : Nat} {s : ByteArray} (h : RdS w g s k) (hb : Below B w w') (hB : g + 2 ≤ B) : RdS w' g s k :=
  ⟨h.pos.below hb (by omega), h.from_.below hb (by omega), h.size, h.le⟩

end Go.Proofs.YtijboiepockmjaaDoor
