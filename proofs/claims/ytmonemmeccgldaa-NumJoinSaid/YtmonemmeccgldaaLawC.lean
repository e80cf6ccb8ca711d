/- The walk of NumTexts. -/
import Derived.Test.YtmonemmeccgldaaLawB
import Derived.Test.YtmonemmeccgldaaOpen
namespace Go.Proofs.Ytmonemmeccgldaa
set_option linter.unusedVariables false
set_option linter.unusedSimpArgs false
open Go.RowKit

theorem read_back (s l : List UInt8) (h : s.length ≤ 255) : readS ((UInt8.ofNat s.length :: s) ++ l) = some s := by
  have e : (UInt8.ofNat s.length).toNat = s.length := u8_ofNat _ (by omega)
  simp [readS, e]
theorem read_cut (s : List UInt8) (h : s.length ≤ 255) : readS ((UInt8.ofNat s.length :: s).take s.length) = none := by
  have e : (UInt8.ofNat s.length).toNat = s.length := u8_ofNat _ (by omega)
  cases hs : s.length with
  | zero => simp [readS]
  | succ k =>
    rw [hs] at e
    simp only [List.take_succ_cons, readS, e]
    rw [if_neg (by simp; omega)]

/-- Of bytes that a slice reads as, the first few. -/
theorem Rb.take {w : World} {B : Nat} {A : Option Addr} {l : List UInt8} (h : Rb w B A l) (k : Nat) : Rb w B A (l.take k) := by
  rcases h with h | ⟨b, o, e, hb, hc⟩
  · left; rw [h]; simp
  · right
    refine ⟨b, o, e, hb, fun i hi => ?_⟩
    have hi' : i < l.length := by rw [List.length_take] at hi; omega
    rw [hc i hi', List.getElem_take]

set_option maxRecDepth 100000 in
set_option maxHeartbeats 1000000 in
theorem walk_NumTexts (s : ByteArray) (A : Option Addr) (l : List UInt8) (n c : Nat) (W : World) (ws : s.size ≤ maxLen) (wl : InB W A l n c) :
    Calls Try.prog 5 #[.string s, .slice A n c] W fun e w' => e = .returned (.bool true) ∧ Below W.heap.size W w' := by
  have hmx := wl.max
  have hcn := wl.cap
  unfold maxLen at ws hmx
  by_cases g1 : 9000 < s.size
  · go_enter Try.func5, Try.ntmps5
    go_wp2_with fail
    refine (head_ok _).mono ?_
    rintro e w1 ⟨rfl, hb1⟩
    go_wp2
    go_ret
    exact ⟨rfl, hb1⟩
  by_cases g2 : 9000 < n
  · go_enter Try.func5, Try.ntmps5
    go_wp2_with fail
    refine (head_ok _).mono ?_
    rintro e w1 ⟨rfl, hb1⟩
    go_wp2
    go_ret
    exact ⟨rfl, hb1⟩
  by_cases g3 : 255 < s.size
  · have ht : textB s = [] := by rw [textB, if_neg (by omega)]
    go_enter Try.func5, Try.ntmps5
    go_wp2_with fail
    refine (head_ok _).mono ?_
    rintro e w1 ⟨rfl, hb1⟩
    go_wp2_with fail
    refine (text_ok s _ (by omega)).mono ?_
    rw [ht]
    rintro e w2 ⟨A2, c2, rfl, ho, hb2⟩
    simp only [List.length_nil]
    go_wp2
    go_ret
    exact ⟨rfl, hb1.trans (hb2.mono hb1.size)⟩
  · obtain ⟨t, ht⟩ : ∃ t, t = textB s := ⟨_, rfl⟩
    have ht2 : t = UInt8.ofNat s.size :: s.data.toList := by rw [ht, textB, if_pos (by omega)]
    have htl : t.length = s.size + 1 := by rw [ht2]; rfl
    have HT := Lib.hid ht2
    have HTL := Lib.hid htl
    have HRB := Lib.hid wl.rb
    have HN := Lib.hid wl.len
    have HNIL := Lib.hid wl.nil_
    clear ht2 htl wl
    go_enter Try.func5, Try.ntmps5
    go_wp2_with fail
    refine (head_ok _).mono ?_
    rintro e w1 ⟨rfl, hb1⟩
    go_wp2_with fail
    refine (text_ok s _ (by omega)).mono ?_
    rw [← ht, HTL.out]
    clear ht
    rintro e w2 ⟨A2, c2, rfl, ho, hb2⟩
    have HO := Lib.hid ho
    have hcap : s.size + 1 ≤ c2 := by have := ho.cap; have := HTL.out; omega
    have hcap2 : c2 ≤ 9223372036854775807 := ho.cap.2
    have hne : t ≠ [] := by intro h; have := HTL.out; rw [h] at this; simp at this
    obtain ⟨gt, rfl, hgt, hgt2⟩ := ho.form hne
    have hmk : OB (w2.alloc (.cells #[] 5)) w2.heap.size 5 (some ⟨w2.heap.size, 0, none⟩) 0 [] := OB.new (l := []) 5 (Nat.le_refl _) (by simp)
    have hb12 : Below W.heap.size W w2 := hb1.trans (hb2.mono hb1.size)
    have hbm : Below w2.heap.size w2 (w2.alloc (.cells #[] 5)) := (Below.refl w2.heap.size w2).alloc (Nat.le_refl _) _
    have hRt : Rb (w2.alloc (.cells #[] 5)) w2.heap.size (some ⟨gt, 0, none⟩) t := ho.rb.below hbm (Nat.le_refl _)
    have HMK := Lib.hid hmk
    have HRT := Lib.hid hRt
    have HRL := Lib.hid (HRB.out.below hb12 (Nat.le_refl _))
    clear hmk hRt hne ho
    go_wp2_with (first
      | (at_builtin; refine wp_app_any rfl (.tmp 41) (.tmp 42) 22 5 rfl Try.underlying22 byInfo w2.heap.size [] _ _ _ rfl rfl HMK.out t _ _ _ _ rfl HTL.out (by intro h; cases h) HRT.out (by simp only [List.length_nil]; have := HTL.out; omega) hbm.size ?_; intro A3 c3 w3 ho3 hg3 hb3)
      | (at_builtin; refine wp_app_any rfl (.tmp 43) (.tmp 44) 22 5 rfl Try.underlying22 byInfo w2.heap.size _ _ _ _ rfl rfl ho3 l _ _ _ _ rfl HN.out HNIL.out (HRL.out.below (hbm.trans hb3) hb12.size) (by have := HTL.out; have := HN.out; omega) (hbm.trans hb3).size ?_; intro A4 c4 w4 ho4 hg4 hb4)
      | fail)
    have hb24 : Below w2.heap.size w2 w4 := (hbm.trans hb3).trans hb4
    refine (read_ok A4 (t ++ l) _ c4 w4 ho4.rb (by rw [List.length_append, HTL.out, HN.out]; omega) List.length_append).mono ?_
    have hrb : readS (t ++ l) = some s.data.toList := by rw [HT.out]; exact read_back s.data.toList l (by show s.size ≤ 255; omega)
    rw [hrb]
    simp only [readE]
    have es : (⟨s.data.toList.toArray⟩ : ByteArray) = s := by cases s; simp
    rw [es]
    rintro e w5 ⟨rfl, hb5⟩
    have hb25 : Below w2.heap.size w2 w5 := hb24.trans (hb5.mono hb24.size)
    have hR2 : Rb w5 w2.heap.size (some ⟨gt, 0, none⟩) t := HO.out.rb.below hb25 (Nat.le_refl _)
    have HR2 := Lib.hid hR2
    have hsl : s.data.toList.length = s.size := rfl
    rw [hsl]
    clear hrb es hR2 hsl hb3 hb4 hg3 hg4 hbm ho3 ho4 hb24 hb5
    go_wp2_with fail
    refine (read_ok _ (t.take s.size) s.size c2 _ ((HR2.out.take s.size).more hb25.size) (by rw [List.length_take]; omega) (by rw [List.length_take, HTL.out]; omega)).mono ?_
    have hrc : readS (t.take s.size) = none := by rw [HT.out]; exact read_cut s.data.toList (by show s.size ≤ 255; omega)
    rw [hrc]
    clear hrc
    simp only [readE]
    rintro e w6 ⟨rfl, hb6⟩
    have hb : Below W.heap.size W w6 := (hb12.trans (hb25.mono hb12.size)).trans (hb6.mono (Nat.le_trans hb12.size hb25.size))
    have e1 : (((1 : Int) + (s.size : Int)) == ((s.size : Int) + 1)) = true := by simp; omega
    have e2 : (s.toList == s.toList) = true := by simp
    go_wp2
    go_ret
    exact ⟨rfl, hb⟩

end Go.Proofs.Ytmonemmeccgldaa
