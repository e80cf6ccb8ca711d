/- head: the live question of mac's laws. (Written by gen_mhead.py.) -/
import Derived.Test.YtoekdiefbpnekaaDoorProof
import Derived.Test.YtoekdiefbpnekaaDoorRHex
import Derived.Test.YtoekdiefbpnekaaDoorSame
import Derived.Lib.SlBytesConst
namespace Go.Proofs.YtoekdiefbpnekaaDoor
set_option linter.unusedVariables false
set_option linter.unusedSimpArgs false
open Go.RowKit

def keyL : List UInt8 := [107, 101, 121]
def foxL : List UInt8 := [84, 104, 101, 32, 113, 117, 105, 99, 107, 32, 98, 114, 111, 119, 110, 32, 102, 111, 120, 32, 106, 117, 109, 112, 115, 32, 111, 118, 101, 114, 32, 116, 104, 101, 32, 108, 97, 122, 121, 32, 100, 111, 103]
def fiveL : List UInt8 := [1, 97, 2, 98, 99]
def aS : ByteArray := ⟨#[97]⟩
def bcS : ByteArray := ⟨#[98, 99]⟩
theorem head_fox : (⟨(hexB (macB keyL foxL)).toArray⟩ : ByteArray) = ⟨#[102, 55, 98, 99, 56, 51, 102, 52, 51, 48, 53, 51, 56, 52, 50, 52, 98, 49, 51, 50, 57, 56, 101, 54, 97, 97, 54, 102, 98, 49, 52, 51, 101, 102, 52, 100, 53, 57, 97, 49, 52, 57, 52, 54, 49, 55, 53, 57, 57, 55, 52, 55, 57, 100, 98, 99, 50, 100, 49, 97, 51, 99, 100, 56]⟩ := by rw [show hexB (macB keyL foxL) = _ from macB_fox]
theorem head_proof : proofB keyL [aS, bcS] = hexB (macB keyL fiveL) := by
  rw [proofB_short keyL [aS, bcS] (by decide)]
  rfl
theorem head_size : (⟨(hexB (macB keyL fiveL)).toArray⟩ : ByteArray).size = 64 := by
  show (hexB (macB keyL fiveL)).toArray.size = 64
  rw [List.size_toArray, hexB_len, macB_len]
theorem two_const (w : World) (t : TypeId) (l l' : List UInt8) (fr fr' : Nat × Nat) :
    Rb ((w.alloc (.cells (bcells l) t fr)).alloc (.cells (bcells l') t fr')) ((w.alloc (.cells (bcells l) t fr)).alloc (.cells (bcells l') t fr')).heap.size (some ⟨w.heap.size, 0, none⟩) l ∧
    Rb ((w.alloc (.cells (bcells l) t fr)).alloc (.cells (bcells l') t fr')) ((w.alloc (.cells (bcells l) t fr)).alloc (.cells (bcells l') t fr')).heap.size (some ⟨w.heap.size + 1, 0, none⟩) l' ∧
    Below w.heap.size w ((w.alloc (.cells (bcells l) t fr)).alloc (.cells (bcells l') t fr')) := by
  have h1 : Rb (w.alloc (.cells (bcells l) t fr)) (w.heap.size + 1) (some ⟨w.heap.size, 0, none⟩) l := Rb.marked
  have h2 : Rb ((w.alloc (.cells (bcells l) t fr)).alloc (.cells (bcells l') t fr')) ((w.alloc (.cells (bcells l) t fr)).heap.size + 1) (some ⟨(w.alloc (.cells (bcells l) t fr)).heap.size, 0, none⟩) l' := Rb.marked
  have hz : (w.alloc (.cells (bcells l) t fr)).heap.size = w.heap.size + 1 := by simp
  have hb : Below (w.heap.size + 1) (w.alloc (.cells (bcells l) t fr)) ((w.alloc (.cells (bcells l) t fr)).alloc (.cells (bcells l') t fr')) := (Below.refl _ _).alloc (by rw [hz]; exact Nat.le_refl _) _
  rw [hz] at h2
  have hz2 : ((w.alloc (.cells (bcells l) t fr)).alloc (.cells (bcells l') t fr')).heap.size = w.heap.size + 2 := by simp
  rw [hz2]
  exact ⟨(h1.below hb (Nat.le_refl _)).more (by omega), h2.more (by omega), by go_grown⟩
theorem const_words (w : World) (t t' : TypeId) (l : List UInt8) (fr : Nat × Nat) (a b : ByteArray) :
    Rb ((w.alloc (.cells (bcells l) t fr)).alloc (.cells #[.string a, .string b] t')) ((w.alloc (.cells (bcells l) t fr)).alloc (.cells #[.string a, .string b] t')).heap.size (some ⟨w.heap.size, 0, none⟩) l ∧
    Rs ((w.alloc (.cells (bcells l) t fr)).alloc (.cells #[.string a, .string b] t')) ((w.alloc (.cells (bcells l) t fr)).alloc (.cells #[.string a, .string b] t')).heap.size (some ⟨w.heap.size + 1, 0, none⟩) [a, b] ∧
    Below w.heap.size w ((w.alloc (.cells (bcells l) t fr)).alloc (.cells #[.string a, .string b] t')) := by
  have h1 : Rb (w.alloc (.cells (bcells l) t fr)) (w.heap.size + 1) (some ⟨w.heap.size, 0, none⟩) l := Rb.marked
  have hz : (w.alloc (.cells (bcells l) t fr)).heap.size = w.heap.size + 1 := by simp
  have hb : Below (w.heap.size + 1) (w.alloc (.cells (bcells l) t fr)) ((w.alloc (.cells (bcells l) t fr)).alloc (.cells #[.string a, .string b] t')) := (Below.refl _ _).alloc (by rw [hz]; exact Nat.le_refl _) _
  have hz2 : ((w.alloc (.cells (bcells l) t fr)).alloc (.cells #[.string a, .string b] t')).heap.size = w.heap.size + 2 := by simp
  have hk : Bk ((w.alloc (.cells (bcells l) t fr)).alloc (.cells #[.string a, .string b] t')) (w.heap.size + 1) t' #[.string a, .string b] := by
    have := Bk.new (w.alloc (.cells (bcells l) t fr)) t' #[.string a, .string b]
    rwa [hz] at this
  rw [hz2]
  refine ⟨(h1.below hb (Nat.le_refl _)).more (by omega), .inr ⟨w.heap.size + 1, 0, rfl, by omega, fun i hi => ?_⟩, by go_grown⟩
  rw [hk.cell]
  match i, hi with
  | 0, _ => rfl
  | 1, _ => rfl

set_option maxRecDepth 100000 in
set_option maxHeartbeats 4000000 in
theorem mhead_ok (w : World) (hG : Gl w) : Calls Tryd.prog 19 #[] w fun e w' => e = .returned (.bool true) ∧ Below w.heap.size w w' := by
  have HG := Lib.hid hG
  clear hG
  have HGB := Lib.hid (show ∀ u, Below w.heap.size w u → Gl u from fun u hu => HG.out.below hu HG.out.size)
  have HE := Lib.hid (show ∀ l, (Tryd.prog.info? 26).map (·.size) = some (bcells (macB keyL l)).size from fun l => by rw [bcells_size, macB_len]; kernel_rfl)
  have HE2 := Lib.hid (show ∀ l, (bcells (List.replicate 32 0)).size = (bcells (macB keyL l)).size from fun l => by rw [bcells_size, bcells_size, macB_len, List.length_replicate])
  have kc := fun (w : World) (C : Array Value) (n c : Nat) => Lib.run_convert_bytes_const (P := Tryd.prog) w 22 5 C n c Tryd.underlying22 Tryd.underlying5
  have kc2 : ∀ (w : World) (o : Obj) (C : Array Value) (n c : Nat), (convert 22 22 (.slice (some ⟨w.heap.size + 1, 0, none⟩) n c)).run Tryd.prog ((w.alloc o).alloc (.cells C 5)) = .ok (.slice (some ⟨w.heap.size + 1, 0, none⟩) n c) ((w.alloc o).alloc (.cells C 5 (C.size, C.size + 1))) := fun w o C n c => by
    have := kc (w.alloc o) C n c
    rw [World.size_alloc] at this
    exact this
  go_enter Tryd.func19, Tryd.ntmps19
  go_wp2_with fail
  have h2 := two_const w 5 keyL foxL (3, 4) (43, 44)
  refine (mac_ok (some ⟨w.heap.size, 0, none⟩) 3 3 keyL (some ⟨w.heap.size + 1, 0, none⟩) 43 43 foxL _ rfl (Nat.le_refl _) (by omega) (by omega) h2.1 rfl (by omega) h2.2.1 (by intro h; cases h) (HGB.out _ h2.2.2)).mono ?_
  rintro e w1 ⟨rfl, hb1⟩
  have HB1 := Lib.hid (h2.2.2.trans (hb1.mono h2.2.2.size))
  clear h2 hb1
  go_upto_region 2 with (refine wpList_store_row rfl 26 (.tmp 1) (.tmp 8) rfl w1.heap.size _ rfl rfl 26 _ (zeros_new w1) (HE.out _) (HE2.out _) (bcells_one _) ?_)
  refine gen_world (fun u => Bk u w1.heap.size 26 (bcells (macB keyL foxL)) ∧ Below w.heap.size w u) ⟨(zeros_new w1).setRow _, Below.setRow (HB1.out.alloc HB1.out.size _) _ HB1.out.size _⟩ (fun w2 hw2 => ?_)
  obtain ⟨g1, hg1⟩ : ∃ g, g = w1.heap.size := ⟨_, rfl⟩
  rw [← hg1] at hw2 ⊢
  have HK2 := Lib.hid hw2.1
  have HB2 := Lib.hid hw2.2
  clear hw2 hg1 HB1
  go_wp2_with fail
  have h3 := const_words w2 5 9 keyL (3, 4) aS bcS
  refine (proof_ok (some ⟨w2.heap.size, 0, none⟩) 3 3 keyL (some ⟨w2.heap.size + 1, 0, none⟩) 2 2 [aS, bcS] _ rfl (Nat.le_refl _) (by omega) (by omega) h3.1 rfl (by omega) h3.2.1 (by decide) (by decide) (HGB.out _ (HB2.out.trans (h3.2.2.mono HB2.out.size)))).mono ?_
  rintro e w3 ⟨rfl, hb3⟩
  have HB3 := Lib.hid (HB2.out.trans ((h3.2.2.trans (hb3.mono h3.2.2.size)).mono HB2.out.size))
  have HK3 := Lib.hid (HK2.out.below (h3.2.2.trans (hb3.mono h3.2.2.size)) HK2.out.lt)
  clear h3 hb3 HB2 HK2
  rw [head_proof]
  obtain ⟨P, hP⟩ : ∃ P : ByteArray, P = ⟨(hexB (macB keyL fiveL)).toArray⟩ := ⟨_, rfl⟩
  have HP := Lib.hid hP
  have hPs : P.size = 64 := by rw [hP]; exact head_size
  rw [← hP]
  clear hP
  go_wp2_with fail
  have h4 := two_const w3 5 keyL fiveL (3, 4) (5, 6)
  refine (mac_ok (some ⟨w3.heap.size, 0, none⟩) 3 3 keyL (some ⟨w3.heap.size + 1, 0, none⟩) 5 5 fiveL _ rfl (Nat.le_refl _) (by omega) (by omega) h4.1 rfl (by omega) h4.2.1 (by intro h; cases h) (HGB.out _ (HB3.out.trans (h4.2.2.mono HB3.out.size)))).mono ?_
  rintro e w4 ⟨rfl, hb4⟩
  have HB4 := Lib.hid (HB3.out.trans ((h4.2.2.trans (hb4.mono h4.2.2.size)).mono HB3.out.size))
  have HK4 := Lib.hid (HK3.out.below (h4.2.2.trans (hb4.mono h4.2.2.size)) HK3.out.lt)
  clear h4 hb4 HB3 HK3
  go_upto_region 4 with (refine wpList_store_row rfl 26 (.tmp 3) (.tmp 17) rfl w4.heap.size _ rfl rfl 26 _ (zeros_new w4) (HE.out _) (HE2.out _) (bcells_one _) ?_)
  refine gen_world (fun u => Bk u g1 26 (bcells (macB keyL foxL)) ∧ Bk u w4.heap.size 26 (bcells (macB keyL fiveL)) ∧ Below w.heap.size w u) ⟨(HK4.out.alloc _).setRowFar (by have := HK4.out.lt; omega) _, (zeros_new w4).setRow _, Below.setRow (HB4.out.alloc HB4.out.size _) _ HB4.out.size _⟩ (fun w5 hw5 => ?_)
  obtain ⟨g2, hg2⟩ : ∃ g, g = w4.heap.size := ⟨_, rfl⟩
  rw [← hg2] at hw5 ⊢
  have HK5 := Lib.hid hw5.1
  have HJ5 := Lib.hid hw5.2.1
  have HB5 := Lib.hid hw5.2.2
  clear hw5 hg2 HB4 HK4
  go_wp2_with fail
  refine (rhex_ok (some ⟨g1, 0, none⟩) 32 32 (macB keyL foxL) _ (macB_len _ _) (by omega) (Rb.row HK5.out HK5.out.lt)).mono ?_
  rintro e w6 ⟨rfl, hb6⟩
  have HJ6 := Lib.hid (HJ5.out.below hb6 HJ5.out.lt)
  have HB6 := Lib.hid (HB5.out.trans (hb6.mono HB5.out.size))
  clear hb6 HK5 HJ5 HB5
  rw [head_fox]
  go_wp2_with fail
  refine (rhex_ok (some ⟨g2, 0, none⟩) 32 32 (macB keyL fiveL) _ (macB_len _ _) (by omega) (Rb.row HJ6.out HJ6.out.lt)).mono ?_
  rintro e w7 ⟨rfl, hb7⟩
  have HB7 := Lib.hid (HB6.out.trans (hb7.mono HB6.out.size))
  clear hb7 HJ6 HB6
  rw [← HP.out]
  go_wp2_with fail
  have h5 := two_const w7 5 [97, 98] [97, 98] (2, 3) (2, 3)
  refine (same_ok (some ⟨w7.heap.size, 0, none⟩) 2 2 [97, 98] (some ⟨w7.heap.size + 1, 0, none⟩) 2 2 [97, 98] true _ rfl rfl (by omega) (by omega) h5.1 h5.2.1 (by decide)).mono ?_
  rintro e w8 ⟨rfl, hb8⟩
  have HB8 := Lib.hid (HB7.out.trans ((h5.2.2.trans (hb8.mono h5.2.2.size)).mono HB7.out.size))
  clear h5 hb8 HB7
  go_wp2_with fail
  have h6 := two_const w8 5 [97, 98] [97] (2, 3) (1, 2)
  refine (same_ok (some ⟨w8.heap.size, 0, none⟩) 2 2 [97, 98] (some ⟨w8.heap.size + 1, 0, none⟩) 1 1 [97] false _ rfl rfl (by omega) (by omega) h6.1 h6.2.1 (by decide)).mono ?_
  rintro e w9 ⟨rfl, hb9⟩
  have HB9 := Lib.hid (HB8.out.trans ((h6.2.2.trans (hb9.mono h6.2.2.size)).mono HB8.out.size))
  clear h6 hb9 HB8
  go_wp2_with fail
  go_ret
  exact ⟨rfl, HB9.out⟩
end Go.Proofs.YtoekdiefbpnekaaDoor
