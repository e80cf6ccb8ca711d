/- num.Text: its contract. -/
import Derived.Test.YtimhjmeebahdaaaDoorRows
import Derived.Test.YtimhjmeebahdaaaDoorBytes
namespace Go.Proofs.YtimhjmeebahdaaaDoor
set_option linter.unusedVariables false
set_option linter.unusedSimpArgs false
open Go.RowKit

/-- A text's bytes; nothing, if it is too long. -/
def textB (s : ByteArray) : List UInt8 := if s.size ≤ 255 then UInt8.ofNat s.size :: s.data.toList else []

theorem byInfo : (Tryd.prog.info? 5).map (fun i => (i.zero, i.size, i.bytes)) = some (some (.int .u8 0), 1, 1) := by kernel_rfl

set_option maxHeartbeats 1000000 in
theorem text_ok (s : ByteArray) (w : World) (hs : s.size ≤ 140737488355328) :
    Calls Tryd.prog 26 #[.string s] w fun e w' => ∃ A c, e = .returned (.slice A (textB s).length c) ∧ OB w' w.heap.size 5 A c (textB s) ∧ Below w.heap.size w w' := by
  by_cases hle : s.size ≤ 255
  · obtain ⟨l, hl⟩ : ∃ l, l = textB s := ⟨_, rfl⟩
    rw [← hl]
    have hl2 : l = [UInt8.ofNat s.size] ++ s.data.toList := by rw [hl, textB, if_pos hle]; rfl
    have HL := Lib.hid hl2
    clear hl hl2
    have e8 : (UInt8.ofNat s.size).toNat = s.size := by simp [UInt8.toNat_ofNat']; omega
    have HE8 := Lib.hid e8
    have hmk : (Instr.makeSlice 24 (.int .i64 0) (.int .i64 (1 + (s.size : Int)))).run Tryd.prog w = .ok (.slice (some ⟨w.heap.size, 0, none⟩) 0 (1 + s.size)) (w.alloc (.cells (Array.replicate (1 + s.size) (.int .u8 0)) 5)) := by
      have := mk_empty (P := Tryd.prog) w 24 5 Tryd.underlying24 byInfo (1 + s.size) (by omega)
      rw [← this]; congr 2
    clear e8
    have h1 := OB.made (B := w.heap.size) w 5 (1 + s.size) (Nat.le_refl _) (by omega)
    have hb1 : Below w.heap.size w (w.alloc (.cells (Array.replicate (1 + s.size) (.int .u8 0)) 5)) := by go_grown
    have hsz : (w.alloc (.cells (Array.replicate (1 + s.size) (.int .u8 0)) 5)).heap.size = w.heap.size + 1 := by simp
    generalize w.alloc (.cells (Array.replicate (1 + s.size) (.int .u8 0)) 5) = w1 at hmk h1 hb1 hsz
    have h2 := Lib.hid (h1.alloc (.cells #[.int .u8 (s.size : Int)] 5))
    have h3 := Lib.hid (Rb.one (w := w1) (t := 5) (c := UInt8.ofNat s.size) (v := (s.size : Int)) (n := w1.heap.size) rfl (by rw [HE8.out]))
    have hsz2 : w.heap.size ≤ w1.heap.size := by omega
    have hb2 : Below w.heap.size w (w1.alloc (.cells #[.int .u8 (s.size : Int)] 5)) := hb1.alloc hsz2 _
    clear hsz h1
    go_enter Tryd.func26, Tryd.ntmps26
    go_wp2_with (first
      | (at_builtin; refine wp_app rfl (.tmp 11) (.tmp 15) 24 5 rfl Tryd.underlying24 byInfo w.heap.size [] _ _ _ rfl rfl h2.out [UInt8.ofNat s.size] _ _ _ _ rfl rfl h3.out (by simp) hb2.size ?_; intro A2 c2 w2 ho hg hb)
      | (at_builtin; refine wp_app_str rfl (.tmp 17) (.tmp 18) 24 9 5 rfl Tryd.underlying24 Tryd.underlying9 byInfo w.heap.size _ _ _ _ rfl rfl ho s rfl (by simp only [List.nil_append, List.length_cons, List.length_nil]; omega) (Nat.le_trans hb2.size hb.size) ?_; intro A3 c3 w3 ho3 hg3 hb3))
    have hll : l.length = s.size + 1 := by rw [HL.out, List.length_append]; show 1 + s.size = s.size + 1; omega
    have hO : OB w3 w.heap.size 5 A3 c3 l := by rw [HL.out]; exact ho3
    go_ret
    exact ⟨A3, c3, by rw [hll]; rfl, hO, (hb2.trans hb).trans hb3⟩
  · have hl : textB s = [] := by rw [textB, if_neg hle]
    rw [hl]
    go_enter Tryd.func26, Tryd.ntmps26
    go_wp2
    go_ret
    exact ⟨none, 0, rfl, OB.nil _ _ _, Below.refl _ _⟩
end Go.Proofs.YtimhjmeebahdaaaDoor
