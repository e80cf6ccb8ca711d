/- The document's own Text. -/
import Derived.Test.YtimhjmeebahdaaaDoorText
namespace Go.Proofs.YtimhjmeebahdaaaDoor
set_option linter.unusedVariables false
set_option linter.unusedSimpArgs false
open Go.RowKit

theorem OB.one {w : World} {B : Nat} {t : TypeId} {c : UInt8} {v : Int} (hB : B ≤ w.heap.size) (hv : v = (c.toNat : Int)) : OB (w.alloc (.cells #[.int .u8 v] t)) B t (some ⟨w.heap.size, 0, none⟩) 1 [c] := by
  subst hv
  exact OB.new (l := [c]) t hB (by simp)

set_option maxHeartbeats 400000 in
theorem rtext_ok (s : ByteArray) (w : World) (hs : s.size ≤ 140737488355328) :
    Calls Tryd.prog 28 #[.string s] w fun e w' => ∃ A c, e = .returned (.slice A (textB s).length c) ∧ OB w' w.heap.size 5 A c (textB s) ∧ Below w.heap.size w w' := by
  by_cases hle : s.size ≤ 255
  · obtain ⟨l, hl⟩ : ∃ l, l = textB s := ⟨_, rfl⟩
    rw [← hl]
    have HL := Lib.hid (show l = [UInt8.ofNat s.size] ++ s.data.toList by rw [hl, textB, if_pos hle]; rfl)
    clear hl
    have HB := Lib.hid (fun (u : Int) (hu : u = (s.size : Int)) => OB.one (w := w) (B := w.heap.size) (t := 5) (c := UInt8.ofNat s.size) (v := u) (Nat.le_refl _) (by rw [hu, UInt8.toNat_ofNat', Nat.mod_eq_of_lt (by omega)]))
    go_enter Tryd.func28, Tryd.ntmps28
    go_wp2_with (at_builtin; refine wp_app_str rfl (.tmp 9) (.tmp 10) 24 9 5 rfl Tryd.underlying24 Tryd.underlying9 byInfo w.heap.size [UInt8.ofNat s.size] _ _ _ rfl rfl (HB.out _ (by omega)) s rfl (by simp only [List.length_cons, List.length_nil]; omega) (by simp only [World.size_alloc]; omega) ?_; intro A3 c3 w3 ho3 hg3 hb3)
    have hll : l.length = s.size + 1 := by rw [HL.out, List.length_append]; show 1 + s.size = s.size + 1; omega
    go_ret
    exact ⟨A3, c3, by rw [hll]; rfl, by rw [HL.out]; exact ho3, ((Below.refl _ _).alloc (Nat.le_refl _) _).trans hb3⟩
  · have hl : textB s = [] := by rw [textB, if_neg hle]
    rw [hl]
    go_enter Tryd.func28, Tryd.ntmps28
    go_wp2
    go_ret
    exact ⟨none, 0, rfl, OB.nil _ _ _, Below.refl _ _⟩

end Go.Proofs.YtimhjmeebahdaaaDoor
