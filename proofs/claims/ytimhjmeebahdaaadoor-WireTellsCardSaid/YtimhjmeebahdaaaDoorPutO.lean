/- num.Put, num.Text: what they hand back is owned, and is not nil. -/
import Derived.Test.YtimhjmeebahdaaaDoorPut
import Derived.Test.YtimhjmeebahdaaaDoorText
import Derived.Test.YtimhjmeebahdaaaDoorOrdMath
namespace Go.Proofs.YtimhjmeebahdaaaDoor
set_option linter.unusedVariables false
set_option linter.unusedSimpArgs false
open Go.RowKit

theorem put_o (x : Nat) (w : World) (hx : x ≤ 1099511627776) : Calls Tryd.prog 27 #[.int .i64 x] w fun e w' => ∃ g, e = .returned (.slice (some ⟨g, 0, none⟩) (putB x).length (putB x).length) ∧ OB w' w.heap.size 5 (some ⟨g, 0, none⟩) (putB x).length (putB x) ∧ g < w'.heap.size ∧ w.heap.size ≤ g ∧ Below w.heap.size w w' :=
  (nput_ok x w hx).mono fun e w' ⟨h1, h2⟩ => by
    subst h1; subst h2
    exact ⟨_, rfl, OB.new 5 (putB x) (Nat.le_refl _) (putB_len x hx), by simp, Nat.le_refl _, by go_grown⟩
theorem text_o (s : ByteArray) (w : World) (hs : s.size ≤ 255) : Calls Tryd.prog 26 #[.string s] w fun e w' => ∃ g c, e = .returned (.slice (some ⟨g, 0, none⟩) (textB s).length c) ∧ OB w' w.heap.size 5 (some ⟨g, 0, none⟩) c (textB s) ∧ g < w'.heap.size ∧ w.heap.size ≤ g ∧ Below w.heap.size w w' :=
  (text_ok s w (by omega)).mono fun e w' ⟨A, c, h1, h2, h3⟩ => by
    have hne : textB s ≠ [] := by rw [textB, if_pos hs]; simp
    obtain ⟨g, rfl, hg, hg2⟩ := h2.form hne
    exact ⟨g, c, h1, h2, hg2, hg, h3⟩
theorem textB_len (s : ByteArray) : (textB s).length ≤ 256 := by
  unfold textB
  split
  · have : s.data.toList.length = s.size := rfl
    simp only [List.length_cons]; omega
  · simp

end Go.Proofs.YtimhjmeebahdaaaDoor
