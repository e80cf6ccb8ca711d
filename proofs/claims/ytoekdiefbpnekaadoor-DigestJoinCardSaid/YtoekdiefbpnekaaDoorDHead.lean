/- head: the live question of digest's laws. (Written by gen_dhead.py.) -/
import Derived.Test.YtoekdiefbpnekaaDoorSumL
import Derived.Test.YtoekdiefbpnekaaDoorUnhex
import Derived.Lib.SlBytesConst
namespace Go.Proofs.YtoekdiefbpnekaaDoor
set_option linter.unusedVariables false
set_option linter.unusedSimpArgs false
open Go.RowKit

theorem hex_nil : (⟨(hexB (sum [])).toArray⟩ : ByteArray) = ⟨#[101, 51, 98, 48, 99, 52, 52, 50, 57, 56, 102, 99, 49, 99, 49, 52, 57, 97, 102, 98, 102, 52, 99, 56, 57, 57, 54, 102, 98, 57, 50, 52, 50, 55, 97, 101, 52, 49, 101, 52, 54, 52, 57, 98, 57, 51, 52, 99, 97, 52, 57, 53, 57, 57, 49, 98, 55, 56, 53, 50, 98, 56, 53, 53]⟩ := by rw [sum_nil]; rfl
theorem hex_abc : (⟨(hexB (sum [97, 98, 99])).toArray⟩ : ByteArray) = ⟨#[98, 97, 55, 56, 49, 54, 98, 102, 56, 102, 48, 49, 99, 102, 101, 97, 52, 49, 52, 49, 52, 48, 100, 101, 53, 100, 97, 101, 50, 50, 50, 51, 98, 48, 48, 51, 54, 49, 97, 51, 57, 54, 49, 55, 55, 97, 57, 99, 98, 52, 49, 48, 102, 102, 54, 49, 102, 50, 48, 48, 49, 53, 97, 100]⟩ := by rw [sum_abc]; rfl
theorem unhex_good (s : ByteArray) (l : List UInt8) (w : World) (hn : s.size ≤ 1099511627776) (h : unhexB s.data.toList = some l) : Calls Tryd.prog 13 #[.string s] w fun e w' => ∃ g, e = .returned (.tuple #[.slice (some ⟨g, 0, none⟩) l.length l.length, .bool true]) ∧ Rb w' w'.heap.size (some ⟨g, 0, none⟩) l ∧ w.heap.size ≤ g ∧ Below w.heap.size w w' :=
  (unhex_ok s w hn).mono fun e w' h1 => by
    rcases h1 with ⟨l', g, h2, h3⟩ | ⟨h2, _⟩
    · rw [h] at h2; injection h2 with h2; subst h2; exact ⟨g, h3⟩
    · rw [h] at h2; cases h2
theorem unhex_bad (s : ByteArray) (w : World) (hn : s.size ≤ 1099511627776) (h : unhexB s.data.toList = none) : Calls Tryd.prog 13 #[.string s] w fun e w' => e = .returned (.tuple #[.slice none 0 0, .bool false]) ∧ Below w.heap.size w w' :=
  (unhex_ok s w hn).mono fun e w' h1 => by
    rcases h1 with ⟨l', g, h2, h3⟩ | ⟨_, h3⟩
    · rw [h] at h2; cases h2
    · exact h3

set_option maxRecDepth 100000 in
set_option maxHeartbeats 2000000 in
theorem dhead_ok (w : World) (hG : Gl w) : Calls Tryd.prog 12 #[] w fun e w' => e = .returned (.bool true) ∧ Below w.heap.size w w' := by
  have HG := Lib.hid hG
  clear hG
  have HGB := Lib.hid (show ∀ u, Below w.heap.size w u → Gl u from fun u hu => HG.out.below hu HG.out.size)
  have HSZ := Lib.hid (show ∀ l, (bcells (sum l)).size = 32 from fun l => by rw [bcells_size, sum_len])
  have HE := Lib.hid (show ∀ l, (Tryd.prog.info? 26).map (·.size) = some (bcells (sum l)).size from fun l => by rw [HSZ.out]; kernel_rfl)
  have HE2 := Lib.hid (show ∀ l, (bcells (List.replicate 32 0)).size = (bcells (sum l)).size from fun l => by rw [HSZ.out, bcells_size, List.length_replicate])
  go_enter Tryd.func12, Tryd.ntmps12
  go_wp2_with fail
  refine (sum_ok none 0 0 [] _ rfl (Nat.le_refl _) (by omega) (by omega) HG.out (Rb.nil _ _ _)).mono ?_
  rintro e w1 ⟨rfl, hb1⟩
  have HB1 := Lib.hid hb1
  clear hb1
  go_upto_region 2 with (refine wpList_store_row rfl 26 (.tmp 1) (.tmp 7) rfl w1.heap.size _ rfl rfl 26 _ (zeros_new w1) (HE.out []) (HE2.out []) (bcells_one _) ?_)
  refine gen_world (fun u => Bk u w1.heap.size 26 (bcells (sum [])) ∧ Below w.heap.size w u) ⟨(zeros_new w1).setRow _, Below.setRow (HB1.out.alloc HB1.out.size _) _ HB1.out.size _⟩ (fun w2 hw2 => ?_)
  have hcv := Lib.run_convert_bytes_const (P := Tryd.prog) w2 22 5 #[.int .u8 97, .int .u8 98, .int .u8 99] 3 3 Tryd.underlying22 Tryd.underlying5
  have HK1 := Lib.hid hw2.1
  have HB2 := Lib.hid hw2.2
  clear hw2
  go_wp2_with fail
  have hb3 : ∀ ob : Obj, Below w.heap.size w (w2.alloc ob) := fun ob => HB2.out.alloc HB2.out.size _
  have hnew : ∀ fr : Nat × Nat, Rb (w2.alloc (.cells (bcells [97, 98, 99]) 5 fr)) (w2.alloc (.cells (bcells [97, 98, 99]) 5 fr)).heap.size (some ⟨w2.heap.size, 0, none⟩) [97, 98, 99] := fun fr =>
    .inr ⟨w2.heap.size, 0, rfl, by show _ < (w2.heap.push _).size; rw [Array.size_push]; omega, fun i hi => by
      rw [cell_of_row _ _ _ _ _ fr (heap_alloc_new w2 _), Nat.zero_add]
      exact bcells_at _ i hi⟩
  refine (sum_ok (some ⟨w2.heap.size, 0, none⟩) 3 3 [97, 98, 99] _ rfl (Nat.le_refl _) (by omega) (by omega) (HGB.out _ (hb3 _)) (hnew _)).mono ?_
  rintro e w3 ⟨rfl, hb4⟩
  have HB4 := Lib.hid ((hb3 _).trans (hb4.mono (hb3 _).size))
  have HK4 := Lib.hid (show Bk w3 w1.heap.size 26 (bcells (sum [])) from (HK1.out.alloc _).below hb4 (HK1.out.alloc _).lt)
  clear hnew hb3 hb4
  go_upto_region 3 with (refine wpList_store_row rfl 26 (.tmp 2) (.tmp 10) rfl w3.heap.size _ rfl rfl 26 _ (zeros_new w3) (HE.out _) (HE2.out _) (bcells_one _) ?_)
  refine gen_world (fun u => Bk u w1.heap.size 26 (bcells (sum [])) ∧ Bk u w3.heap.size 26 (bcells (sum [97, 98, 99])) ∧ Below w.heap.size w u) ⟨(HK4.out.alloc _).setRowFar (by have := HK4.out.lt; omega) _, (zeros_new w3).setRow _, Below.setRow (HB4.out.alloc HB4.out.size _) _ HB4.out.size _⟩ (fun w5 hw5 => ?_)
  have HK5 := Lib.hid hw5.1
  have HK6 := Lib.hid hw5.2.1
  have HB5 := Lib.hid hw5.2.2
  clear hw5
  go_wp2_with fail
  refine (unhex_good ⟨#[48, 48, 102, 102]⟩ [0, 255] _ (by decide) (by decide)).mono ?_
  rintro e w6 ⟨g, rfl, hR, hg, hb6⟩
  have HK7 := Lib.hid (HK5.out.below hb6 HK5.out.lt)
  have HK8 := Lib.hid (HK6.out.below hb6 HK6.out.lt)
  have HB6 := Lib.hid (HB5.out.trans (hb6.mono HB5.out.size))
  have HR := Lib.hid hR
  clear hb6 hR hg
  go_wp2_with fail
  refine (unhex_bad ⟨#[48, 71]⟩ _ (by decide) (by decide)).mono ?_
  rintro e w7 ⟨rfl, hb7⟩
  have HK9 := Lib.hid (HK7.out.below hb7 HK7.out.lt)
  have HK10 := Lib.hid (HK8.out.below hb7 HK8.out.lt)
  have HB7 := Lib.hid (HB6.out.trans (hb7.mono HB6.out.size))
  have HR7 := Lib.hid ((HR.out.below hb7 (Nat.le_refl _)).more hb7.size)
  clear hb7 HR
  have h1 := hex_nil
  have h2 := hex_abc
  go_wp2_with fail
  refine (hex_ok (some ⟨w1.heap.size, 0, none⟩) 32 32 (sum []) _ (sum_len _) (by omega) ((Rb.bk HK9.out).more HK9.out.lt)).mono ?_
  rintro e w8 ⟨rfl, hb8⟩
  have HK11 := Lib.hid (HK10.out.below hb8 HK10.out.lt)
  have HB8 := Lib.hid (HB7.out.trans (hb8.mono HB7.out.size))
  have HR8 := Lib.hid ((HR7.out.below hb8 (Nat.le_refl _)).more hb8.size)
  clear hb8
  rw [h1]
  go_wp2_with fail
  refine (hex_ok (some ⟨w3.heap.size, 0, none⟩) 32 32 (sum [97, 98, 99]) _ (sum_len _) (by omega) ((Rb.bk HK11.out).more HK11.out.lt)).mono ?_
  rintro e w9 ⟨rfl, hb9⟩
  have HB9 := Lib.hid (HB8.out.trans (hb9.mono HB8.out.size))
  have HR9 := HR8.out.below hb9 (Nat.le_refl _)
  clear hb9
  have hc : w9.cell? ⟨g, 1, none⟩ = some (.int .u8 255) := by
    rcases HR9 with h | ⟨b, o, e, _, hc⟩
    · cases h
    · injection e with e
      injection e with e1 e2
      subst e1; subst e2
      exact hc 1 (by decide)
  rw [h2]
  go_wp2_with fail
  go_ret
  exact ⟨rfl, HB9.out⟩
end Go.Proofs.YtoekdiefbpnekaaDoor
