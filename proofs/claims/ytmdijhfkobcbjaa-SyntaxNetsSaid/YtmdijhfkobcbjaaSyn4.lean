/- strings.Cut at a mark of one byte; syntax.pieces: what it makes. -/
import Derived.Test.YtmdijhfkobcbjaaSynM
import Derived.Test.YtmdijhfkobcbjaaShelf
import Derived.Test.YtmdijhfkobcbjaaBase
import Derived.Lib.CutLaws
import Derived.BigQuiet
import Derived.Deep.QuietTactic
namespace Go.Proofs.Ytmdijhfkobcbjaa
set_option linter.unusedVariables false
set_option linter.unusedSimpArgs false
open Go.RowKit

theorem ex_take (s : ByteArray) (i : Nat) : s.extract 0 i = bs (s.data.toList.take i) := by
  rw [Go.Lib.extract_eq]; simp [bs]
theorem ex_drop (s : ByteArray) (i : Nat) (h : i ≤ s.size) : s.extract i s.size = bs (s.data.toList.drop i) := by
  rw [Go.Lib.extract_eq]
  have ht : List.take (s.size - i) (List.drop i s.data.toList) = List.drop i s.data.toList :=
    List.take_of_length_le (by rw [List.length_drop]; exact Nat.le_refl _)
  rw [ht]; rfl

def cutV (c : UInt8) (s : ByteArray) : Value := .tuple #[.string (bs (cutL c s.data.toList).1), .string (bs (cutL c s.data.toList).2.1), .bool (cutL c s.data.toList).2.2]

set_option maxHeartbeats 1000000 in
theorem lcut_ok (s : ByteArray) (c : UInt8) (w : World) (hs : s.size ≤ 140737488355328) :
    Calls Try.prog 43 #[.string s, .string ⟨#[c]⟩] w fun e w' => e = .returned (cutV c s) ∧ ∃ n, w' = w.drewN n := by
  unfold cutV
  rcases cutL_index c s.data.toList with ⟨hx, hc⟩ | ⟨i, hx, hi, hc⟩
  · rw [hc]
    have HX := Lib.hid hx
    clear hx hc
    go_enter Try.func43, Try.ntmps43
    go_wp2_with (go_at_call 49; refine (Try.stringslite_Index_one _ _ _).mono ?_; rintro e w' ⟨rfl, rfl⟩; rw [HX.out])
    go_ret3
    exact ⟨by rw [bs_of]; rfl, 0, rfl⟩
  · rw [hc]
    have HX := Lib.hid hx
    have hi2 : i < s.size := hi
    have HT := Lib.hid (ex_take s i)
    have HD := Lib.hid (ex_drop s (i + 1) (by omega))
    have c1 : (0 : Int) ≤ ↑i := by omega
    have c2 : (↑i : Int) ≤ ↑s.size := by omega
    have c3 : (0 : Int) ≤ ↑i + 1 := by omega
    have c4 : (↑i + 1 : Int) ≤ ↑s.size := by omega
    clear hx hc
    go_enter Try.func43, Try.ntmps43
    go_wp2_with (go_at_call 49; refine (Try.stringslite_Index_one _ _ _).mono ?_; rintro e w' ⟨rfl, rfl⟩; rw [HX.out])
    go_quiet (fail)
    go_wp2
    go_ret3
    exact ⟨by rw [← HT.out, ← HD.out]; rfl, nq, rfl⟩

set_option maxHeartbeats 400000 in
theorem cut_ok (s : ByteArray) (c : UInt8) (w : World) (hs : s.size ≤ 140737488355328) :
    Calls Try.prog 37 #[.string s, .string ⟨#[c]⟩] w fun e w' => e = .returned (cutV c s) ∧ ∃ n, w' = w.drewN n := by
  go_enter Try.func37, Try.ntmps37
  go_wp2_with (go_at_call 43; refine (lcut_ok _ _ _ hs).mono ?_; rintro e w' ⟨rfl, n, rfl⟩; unfold cutV)
  go_ret3
  exact ⟨rfl, n, rfl⟩

set_option maxHeartbeats 400000 in
theorem pieces_ok (s m : ByteArray) (w : World) :
    Calls Try.prog 24 #[.string s, .string m] w fun e w' => e = .returned (.func (.func 36) #[] #[.pointer (some ⟨w.heap.size, 0, none⟩), .pointer (some ⟨w.heap.size + 1, 0, none⟩)]) ∧
      w' = (w.alloc (.cells #[.string s] 9)).alloc (.cells #[.string m] 9) := by
  have h : ∀ (fn : Fn) (first cap : Array Value) (w : World), (Instr.makeFunc fn first cap).run Try.prog w = .ok (.func fn first cap) w := fun _ _ _ _ => rfl
  go_enter Try.func24, Try.ntmps24
  go_wp2
  go_ret
  exact ⟨rfl, rfl⟩
end Go.Proofs.Ytmdijhfkobcbjaa
