/- num.reader over a text: what it makes, and what each call of that tells. -/
import Derived.Test.YtmdijhfkobcbjaaRows
import Derived.Test.YtmdijhfkobcbjaaBase
import Derived.Laws.EntriesVeiled
namespace Go.Proofs.Ytmdijhfkobcbjaa
set_option linter.unusedVariables false
set_option linter.unusedSimpArgs false
open Go.RowKit

theorem hmf {P : Program} : ∀ (fn : Fn) (first cap : Array Value) (w : World), (Instr.makeFunc fn first cap).run P w = .ok (.func fn first cap) w := fun _ _ _ _ => rfl

/-- The same over a text. -/
structure RdS (w : World) (g : Nat) (s : ByteArray) (k : Nat) : Prop where
  pos : Bk w (g + 1) 3 #[.int .i64 k]
  from_ : Bk w g 9 #[.string s]
  size : s.size ≤ 140737488355328
  le : k ≤ s.size

set_option maxHeartbeats 400000 in
theorem readerS_ok (s : ByteArray) (w : World) :
    Calls Try.prog 44 #[.string s] w fun e w' => e = .returned (.func (.func 50) #[] #[.pointer (some ⟨w.heap.size + 1, 0, none⟩), .pointer (some ⟨w.heap.size, 0, none⟩)]) ∧
      w' = (w.alloc (.cells #[.string s] 9)).alloc (.cells #[.int .i64 0] 3) := by
  have h := @hmf Try.prog
  go_enter Try.func44, Try.ntmps44
  go_wp2
  go_ret
  exact ⟨rfl, rfl⟩

theorem RdS.start {w : World} {s : ByteArray} (hl : s.size ≤ 140737488355328) :
    RdS ((w.alloc (.cells #[.string s] 9)).alloc (.cells #[.int .i64 0] 3)) w.heap.size s 0 := by
  have b1 : Bk (w.alloc (.cells #[.string s] 9)) w.heap.size 9 _ := Bk.new w _ _
  have b2 : Bk ((w.alloc (.cells #[.string s] 9)).alloc (.cells #[.int .i64 0] 3)) (w.heap.size + 1) 3 #[.int .i64 0] := by
    have := Bk.new (w.alloc (.cells #[.string s] 9)) 3 #[.int .i64 0]
    simpa using this
  exact ⟨b2, b1.alloc _, hl, by omega⟩

theorem RdS.step {w : World} {g k : Nat} {s : ByteArray} (h : RdS w g s k) (hk : k < s.size) : RdS (w.setCell ⟨g + 1, 0, none⟩ (.int .i64 ((k + 1 : Nat) : Int))) g s (k + 1) :=
  ⟨h.pos.set 0 _, h.from_.far (by show g ≠ g + 1; omega) _, h.size, by omega⟩

theorem RdS.below {w w' : World} {g k B : Nat} {s : ByteArray} (h : RdS w g s k) (hb : Below B w w') (hB : g + 2 ≤ B) : RdS w' g s k :=
  ⟨h.pos.below hb (by omega), h.from_.below hb (by omega), h.size, h.le⟩

set_option maxHeartbeats 400000 in
theorem readS_more (g k : Nat) (s : ByteArray) (w : World) (h : RdS w g s k) (hk : k < s.size) :
    Calls Try.prog 50 #[.pointer (some ⟨g + 1, 0, none⟩), .pointer (some ⟨g, 0, none⟩)] w fun e w' =>
      e = .returned (.tuple #[.int .u8 ((s[k]).toNat : Int), .bool true]) ∧ w' = w.setCell ⟨g + 1, 0, none⟩ (.int .i64 ((k + 1 : Nat) : Int)) := by
  have hsz := h.size
  have c1 : w.cell? ⟨g + 1, 0, none⟩ = some (.int .i64 k) := by rw [h.pos.cell]; rfl
  have c2 : w.cell? ⟨g, 0, none⟩ = some (.string s) := by rw [h.from_.cell]; rfl
  have f1 : w.frozen? ⟨g + 1, 0, none⟩ = false := h.pos.frozen 0
  have hne : ((k : Int) == (s.size : Int)) = false := by simp; omega
  clear h
  go_enter Try.func50, Try.ntmps50
  go_wp2
  go_ret2
  exact ⟨rfl, by go_num⟩

set_option maxHeartbeats 400000 in
theorem readS_end (g k : Nat) (s : ByteArray) (w : World) (h : RdS w g s k) (hk : ¬ k < s.size) :
    Calls Try.prog 50 #[.pointer (some ⟨g + 1, 0, none⟩), .pointer (some ⟨g, 0, none⟩)] w fun e w' =>
      e = .returned (.tuple #[.int .u8 0, .bool false]) ∧ w = w' := by
  have hsz := h.size
  have hle := h.le
  have c1 : w.cell? ⟨g + 1, 0, none⟩ = some (.int .i64 k) := by rw [h.pos.cell]; rfl
  have c2 : w.cell? ⟨g, 0, none⟩ = some (.string s) := by rw [h.from_.cell]; rfl
  have hne : ((k : Int) == (s.size : Int)) = true := by simp; omega
  clear h
  go_enter Try.func50, Try.ntmps50
  go_wp2
  go_ret2
  exact ⟨rfl, rfl⟩

end Go.Proofs.Ytmdijhfkobcbjaa
