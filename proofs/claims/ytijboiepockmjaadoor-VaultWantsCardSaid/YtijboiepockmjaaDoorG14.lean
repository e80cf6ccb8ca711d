/- RMac, RText, RHex, RProof, VtH, CgIn: texts of this seat, one behind the other. -/
import Derived.Test.YtijboiepockmjaaDoorG11
import Derived.Test.YtijboiepockmjaaDoorRSum
import Derived.Test.YtijboiepockmjaaDoorG13
import Derived.Test.YtijboiepockmjaaDoorG12
import Derived.Test.YtijboiepockmjaaDoorG3
import Derived.Test.YtijboiepockmjaaDoorG5
import Derived.Test.YtijboiepockmjaaDoorG6
import Derived.Lib.SlBytesConst
import Derived.Test.YtijboiepockmjaaDoorG4
import Derived.ProofKit
import Derived.OpenShut
import Derived.ShutString
import Derived.Deep.Fields
import Derived.Deep.SlicePairs
import Derived.Deep.Strs
import Derived.SizedLaws
/- The document's own sums under keys. (Written by gen_rmac.py.) -/
namespace Go.Proofs.YtijboiepockmjaaDoor
set_option linter.unusedVariables false
set_option maxRecDepth 100000
set_option linter.unusedSimpArgs false
open Go.RowKit

theorem OB.put {w : World} {B : Nat} {e : TypeId} {g c : Nat} {l : List UInt8} (h : OB w B e (some ⟨g, 0, none⟩) c l) (k : Nat) (x : UInt8) : OB (w.setCell ⟨g, k, none⟩ (.int .u8 (x.toNat : Int))) B e (some ⟨g, 0, none⟩) c (l.set k x) := by
  have := (World.ownsRow.stored h k (.int .u8 (x.toNat : Int))).1
  unfold OB
  rw [List.length_set, List.map_set]
  exact this
theorem Rb.bk_more {w : World} {B g : Nat} {t : TypeId} {l : List UInt8} (h : Bk w g t (bcells l)) (hB : g < B) : Rb w B (some ⟨g, 0, none⟩) l := (Rb.bk h).more hB
theorem pad_step (key : List UInt8) (x : UInt8) (i : Nat) (h : i < 64) : ((padB key x).take i ++ (keyB key).drop i).length = 64 ∧ ((padB key x).take i ++ (keyB key).drop i)[i]? = some ((keyB key).getD i 0) ∧
    ((padB key x).take i ++ (keyB key).drop i).set i ((keyB key).getD i 0 ^^^ x) = (padB key x).take (i + 1) ++ (keyB key).drop (i + 1) := by
  have hp := padB_len key x
  have hk := keyB_len key
  have ht : ((padB key x).take i).length = i := by rw [List.length_take]; omega
  have hd : (keyB key).drop i = (keyB key).getD i 0 :: (keyB key).drop (i + 1) := by
    rw [List.drop_eq_getElem_cons (by omega), List.getD, List.getElem?_eq_getElem (by omega)]; rfl
  refine ⟨by rw [List.length_append, ht, List.length_drop]; omega, ?_, ?_⟩
  · rw [List.getElem?_append_right (by omega), ht, Nat.sub_self, hd]; rfl
  · rw [List.set_append_right _ _ (by omega), ht, Nat.sub_self, hd, List.set_cons_zero, List.take_add_one, List.append_assoc]
    congr 1
    have : (padB key x)[i]? = some ((keyB key).getD i 0 ^^^ x) := by
      unfold padB
      rw [List.getElem?_map, List.getElem?_eq_getElem (by omega), List.getD, List.getElem?_eq_getElem (by omega)]; rfl
    rw [this]; rfl

set_option maxRecDepth 100000 in
set_option maxHeartbeats 4000000 in
theorem rpadded_ok (A : Option Addr) (n c : Nat) (key : List UInt8) (x : UInt8) (w : World) (hl : key.length = n) (hc : n ≤ c) (hn : n ≤ 1099511627776) (hnil : A = none → n = 0 ∧ c = 0) (hR : Rb w w.heap.size A key) :
    Calls Tryd.prog 54 #[.slice A n c, .int .u8 (x.toNat : Int)] w fun e w' => ∃ g c2, e = .returned (.slice (some ⟨g, 0, none⟩) 64 c2) ∧ OB w' w.heap.size 5 (some ⟨g, 0, none⟩) c2 (padB key x) ∧ Below w.heap.size w w' := by
  have HL := Lib.hid hl
  have HR := Lib.hid hR
  have HNIL := Lib.hid hnil
  have HN := Lib.hid hn
  have HXX : ∀ a b : UInt8, bits .xor .u8 (a.toNat : Int) (b.toNat : Int) = ((a ^^^ b).toNat : Int) := b_xor
  have hE : OB (w.alloc (.cells #[] 5)) w.heap.size 5 (some ⟨w.heap.size, 0, none⟩) 0 [] := OB.new 5 [] (Nat.le_refl _) (by decide)
  have HE := Lib.hid hE
  have HZ3 := Lib.hid (show w.heap.size ≤ (w.alloc (.cells #[] 5)).heap.size by simp)
  have HRW := Lib.hid (show Rb (w.alloc (.cells #[] 5)) (w.alloc (.cells #[] 5)).heap.size A key from (HR.out.below ((Below.refl w.heap.size w).alloc (Nat.le_refl _) _) (Nat.le_refl _)).more HZ3.out)
  clear hl hR hnil hE
  by_cases h64 : 64 < n
  · have hi1 : (64 : Int) < (n : Int) := by omega
    have HSK := Lib.hid (show shortK key = sum key by unfold shortK; rw [if_pos (by rw [HL.out]; exact h64)])
    have HEI := Lib.hid (show (Tryd.prog.info? 77).map (·.size) = some (bcells (sum key)).size by rw [bcells_size, sum_len]; kernel_rfl)
    have HEI2 := Lib.hid (show (bcells (List.replicate 32 0)).size = (bcells (sum key)).size by rw [bcells_size, bcells_size, sum_len, List.length_replicate])
    go_enter Tryd.func54, Tryd.ntmps54
    go_wp2_with (at_builtin; refine wp_app_any rfl (.tmp 8) (.tmp 9) 52 5 rfl Tryd.underlying52 bytesInfo w.heap.size [] _ 0 0 rfl rfl HE.out key A n c _ rfl HL.out HNIL.out HRW.out (by have := HL.out; have := HN.out; simp only [List.length_nil]; omega) HZ3.out ?_; intro A4 c4 w4 ho4 hg4 hb4; rw [show (([] : List UInt8) ++ key).length = n from HL.out])
    have HO4 := Lib.hid (show OB w4 w.heap.size 5 A4 c4 key from ho4)
    have HB4 := Lib.hid (show Below w.heap.size w w4 from ((Below.refl _ _).alloc (Nat.le_refl _) _).trans hb4)
    clear ho4 hg4 hb4 HE HZ3 HRW
    refine (rsum_ok A4 n c4 key _ HL.out (by have := HO4.out.cap; rw [HL.out] at this; exact this.1) HN.out (by intro h; exfalso; obtain ⟨g, e, _⟩ := HO4.out.form (by intro h0; have := HL.out; rw [h0] at this; simp at this; omega); rw [h] at e; cases e) HO4.out.rb).mono ?_
    rintro e w5 ⟨rfl, hb5⟩
    have HB5 := Lib.hid (HB4.out.trans (hb5.mono HB4.out.size))
    clear hb5 HO4 HB4
    go_upto_region 4 with (refine wpList_store_row rfl 77 (.tmp 6) (.tmp 15) rfl w5.heap.size _ rfl rfl 77 _ (zeros_new w5) HEI.out HEI2.out (bcells_one _) ?_)
    refine gen_world (fun u => Bk u w5.heap.size 77 (bcells (sum key)) ∧ Below w.heap.size w u) ⟨(zeros_new w5).setRow _, Below.setRow (HB5.out.alloc HB5.out.size _) _ HB5.out.size _⟩ (fun w6 hw6 => ?_)
    obtain ⟨gx, hgx⟩ : ∃ g, g = w5.heap.size := ⟨_, rfl⟩
    rw [← hgx] at hw6 ⊢
    have HX6 := Lib.hid hw6.1
    have HB6 := Lib.hid hw6.2
    clear hw6 hgx HB5
    have hE : OB (w6.alloc (.cells #[] 5)) w.heap.size 5 (some ⟨w6.heap.size, 0, none⟩) 0 [] := OB.new 5 [] HB6.out.size (by decide)
    have HE := Lib.hid hE
    have HRX := Lib.hid (show Rb (w6.alloc (.cells #[] 5)) (w6.alloc (.cells #[] 5)).heap.size (some ⟨gx, 0, none⟩) (sum key) from Rb.bk_more (HX6.out.alloc _) (by have := HX6.out.lt; simp only [World.size_alloc]; omega))
    have HZ6 := Lib.hid (show w.heap.size ≤ (w6.alloc (.cells #[] 5)).heap.size by have := HB6.out.size; simp only [World.size_alloc]; omega)
    clear hE
    go_wp2_with (at_builtin; refine wp_app rfl (.tmp 16) (.tmp 17) 52 5 rfl Tryd.underlying52 bytesInfo w.heap.size [] _ 0 0 rfl rfl HE.out (sum key) _ 32 _ _ rfl (sum_len _) HRX.out (by rw [sum_len]; decide) HZ6.out ?_; intro A3 c3 w7 ho7 hg7 hb7; rw [show (([] : List UInt8) ++ sum key).length = 32 from sum_len _])
    have HO := Lib.hid (show OB w7 w.heap.size 5 A3 c3 (shortK key) by rw [HSK.out]; exact ho7)
    have HBQ := Lib.hid (show Below w.heap.size w w7 from (HB6.out.alloc HB6.out.size _).trans hb7)
    obtain ⟨L, hL⟩ : ∃ L, L = 32 := ⟨_, rfl⟩
    have HL3 := Lib.hid (show (shortK key).length = L by rw [HSK.out, sum_len, hL])
    have hL64 : L ≤ 64 := by omega
    rw [← hL]
    clear ho7 hg7 hb7 HE HRX HZ6 HX6 HB6 hL h64 hi1
    go_wp2_with fail
    go_loopw [5] (fun v5 wr => ∃ (j M : Nat) (A4 : Option Addr) (c4 : Nat), v5 = .slice A4 M c4 ∧ M = L + j ∧ M ≤ 64 ∧ Hid (OB wr w.heap.size 5 A4 c4 (shortK key ++ List.replicate j 0)) ∧ Hid (Below w.heap.size w wr)) (fun v5 _ => 64 - sLen v5)
    case atStart => exact ⟨0, L, A3, c3, rfl, rfl, hL64, Lib.hid (by rw [List.replicate_zero, List.append_nil]; exact HO.out), HBQ⟩
    case round =>
      obtain ⟨j, M, A4, c4, rfl, hM, hM64, HO4, HB4⟩ := hrel
      clear HO HBQ
      have HML := Lib.hid (show (shortK key ++ List.replicate j 0).length = M by rw [List.length_append, List.length_replicate, HL3.out, hM])
      by_cases hlt : M < 64
      · have hlt2 : (M : Int) < 64 := by omega
        have HMJ := Lib.hid hM
        clear hM
        go_wp2_with (at_builtin; refine wp_app rfl (.tmp 22) (.tmp 23) 52 5 rfl Tryd.underlying52 bytesInfo w.heap.size (shortK key ++ List.replicate j 0) A4 M c4 rfl HML.out (HO4.out.alloc _) [0] _ 1 _ _ rfl rfl (Rb.one (w := wr) (c := 0) rfl rfl) (by rw [HML.out]; simp only [List.length_singleton]; omega) (by have := HB4.out.size; simp only [World.size_alloc]; omega) ?_; intro A6 c6 w6 ho6 hg6 hb6; rw [show ((shortK key ++ List.replicate j (0 : UInt8) ++ [(0 : UInt8)] : List UInt8)).length = M + 1 by rw [List.length_append, HML.out]; rfl])
        go_roundw
        case rel => exact ⟨j + 1, M + 1, A6, c6, rfl, by have := HMJ.out; omega, by omega, Lib.hid (by rw [List.replicate_succ', ← List.append_assoc]; exact ho6), Lib.hid ((HB4.out.alloc HB4.out.size _).trans hb6)⟩
        case measure => simp [sLen]; omega
      · have hMe : M = 64 := by omega
        subst hMe
        have HKB := Lib.hid (show shortK key ++ List.replicate j 0 = keyB key by unfold keyB; rw [HL3.out, show 64 - L = j by omega])
        rw [HKB.out] at HO4 HML
        obtain ⟨g, rfl, hg1, hg2⟩ := HO4.out.form (by intro h; have := keyB_len key; rw [h] at this; simp at this)
        have HG1 := Lib.hid hg1
        have HO5 := Lib.hid (show OB wr w.heap.size 5 (some ⟨g, 0, none⟩) c4 ((padB key x).take 0 ++ (keyB key).drop 0) by rw [List.take_zero, List.nil_append, List.drop_zero]; exact HO4.out)
        clear HO4 hM hlt hg1 hg2 HKB
        go_wp2_with fail
        go_loopw [7] (fun v7 wr => ∃ i : Nat, i ≤ 64 ∧ v7 = .int .i64 i ∧ Hid (OB wr w.heap.size 5 (some ⟨g, 0, none⟩) c4 ((padB key x).take i ++ (keyB key).drop i)) ∧ Hid (Below w.heap.size w wr)) (fun v7 _ => 64 - (intOf v7).toNat)
        case atStart => exact ⟨0, by omega, rfl, HO5, HB4⟩
        case round =>
          obtain ⟨i, hi, rfl, HP, HBB⟩ := hrel
          clear HO5 HB4
          by_cases hi1 : i < 64
          · have hi2 : (i : Int) < 64 := by omega
            have HST := Lib.hid (pad_step key x i hi1)
            have hcell : wr.cell? ⟨g, i, none⟩ = some (.int .u8 (((keyB key).getD i 0).toNat : Int)) := by
              have := World.ownsRow.cellAt HP.out i (by rw [Nat.mul_one, HST.out.1]; exact hi1)
              rw [this, List.getElem?_map, HST.out.2.1]; rfl
            have hfro : wr.frozen? ⟨g, i, none⟩ = false := World.ownsRow.frozenAt HP.out i
            have HSE := Lib.hid (HP.out.put i ((keyB key).getD i 0 ^^^ x))
            rw [HST.out.2.2] at HSE
            obtain ⟨k, hk⟩ : ∃ k, k = (keyB key).getD i 0 := ⟨_, rfl⟩
            rw [← hk] at hcell HSE
            have HYY := Lib.hid (show (.int .u8 (((k ^^^ x).toNat : Nat) : Int) : Value) = .int .u8 ((k.toNat ^^^ x.toNat : Nat) : Int) by rw [UInt8.toNat_xor])
            clear hk
            go_wp2_with fail
            go_roundw
            case rel => exact ⟨i + 1, by omega, by go_num, Lib.hid (by have := HSE.out; rw [HYY.out] at this; exact this), Lib.hid (HBB.out.setCell (p := ⟨g, i, none⟩) HG1.out _)⟩
            case measure => simp [intOf]; omega
          · have hi2 : (64 : Int) ≤ (i : Int) := by omega
            have HFI := Lib.hid (show (padB key x).take i ++ (keyB key).drop i = padB key x by rw [List.take_of_length_le (by rw [padB_len]; omega), List.drop_of_length_le (by rw [keyB_len]; omega), List.append_nil])
            rw [HFI.out] at HP
            go_wp2_with fail
            go_ret
            exact ⟨g, c4, rfl, HP.out, HBB.out⟩
  · have hi1 : (n : Int) ≤ 64 := by omega
    have HSK := Lib.hid (show shortK key = key by unfold shortK; rw [if_neg (by rw [HL.out]; exact h64)])
    go_enter Tryd.func54, Tryd.ntmps54
    go_wp2_with (at_builtin; refine wp_app_any rfl (.tmp 8) (.tmp 9) 52 5 rfl Tryd.underlying52 bytesInfo w.heap.size [] _ 0 0 rfl rfl HE.out key A n c _ rfl HL.out HNIL.out HRW.out (by have := HL.out; have := HN.out; simp only [List.length_nil]; omega) HZ3.out ?_; intro A3 c3 w7 ho7 hg7 hb7; rw [show (([] : List UInt8) ++ key).length = n from HL.out])
    have HO := Lib.hid (show OB w7 w.heap.size 5 A3 c3 (shortK key) by rw [HSK.out]; exact ho7)
    have HBQ := Lib.hid (show Below w.heap.size w w7 from ((Below.refl _ _).alloc (Nat.le_refl _) _).trans hb7)
    obtain ⟨L, hL⟩ : ∃ L, L = n := ⟨_, rfl⟩
    have HL3 := Lib.hid (show (shortK key).length = L by rw [HSK.out, HL.out, hL])
    have hL64 : L ≤ 64 := by omega
    rw [← hL]
    clear ho7 hg7 hb7 HE HZ3 HRW hL h64 hi1
    go_wp2_with fail
    go_loopw [5] (fun v5 wr => ∃ (j M : Nat) (A4 : Option Addr) (c4 : Nat), v5 = .slice A4 M c4 ∧ M = L + j ∧ M ≤ 64 ∧ Hid (OB wr w.heap.size 5 A4 c4 (shortK key ++ List.replicate j 0)) ∧ Hid (Below w.heap.size w wr)) (fun v5 _ => 64 - sLen v5)
    case atStart => exact ⟨0, L, A3, c3, rfl, rfl, hL64, Lib.hid (by rw [List.replicate_zero, List.append_nil]; exact HO.out), HBQ⟩
    case round =>
      obtain ⟨j, M, A4, c4, rfl, hM, hM64, HO4, HB4⟩ := hrel
      clear HO HBQ
      have HML := Lib.hid (show (shortK key ++ List.replicate j 0).length = M by rw [List.length_append, List.length_replicate, HL3.out, hM])
      by_cases hlt : M < 64
      · have hlt2 : (M : Int) < 64 := by omega
        have HMJ := Lib.hid hM
        clear hM
        go_wp2_with (at_builtin; refine wp_app rfl (.tmp 22) (.tmp 23) 52 5 rfl Tryd.underlying52 bytesInfo w.heap.size (shortK key ++ List.replicate j 0) A4 M c4 rfl HML.out (HO4.out.alloc _) [0] _ 1 _ _ rfl rfl (Rb.one (w := wr) (c := 0) rfl rfl) (by rw [HML.out]; simp only [List.length_singleton]; omega) (by have := HB4.out.size; simp only [World.size_alloc]; omega) ?_; intro A6 c6 w6 ho6 hg6 hb6; rw [show ((shortK key ++ List.replicate j (0 : UInt8) ++ [(0 : UInt8)] : List UInt8)).length = M + 1 by rw [List.length_append, HML.out]; rfl])
        go_roundw
        case rel => exact ⟨j + 1, M + 1, A6, c6, rfl, by have := HMJ.out; omega, by omega, Lib.hid (by rw [List.replicate_succ', ← List.append_assoc]; exact ho6), Lib.hid ((HB4.out.alloc HB4.out.size _).trans hb6)⟩
        case measure => simp [sLen]; omega
      · have hMe : M = 64 := by omega
        subst hMe
        have HKB := Lib.hid (show shortK key ++ List.replicate j 0 = keyB key by unfold keyB; rw [HL3.out, show 64 - L = j by omega])
        rw [HKB.out] at HO4 HML
        obtain ⟨g, rfl, hg1, hg2⟩ := HO4.out.form (by intro h; have := keyB_len key; rw [h] at this; simp at this)
        have HG1 := Lib.hid hg1
        have HO5 := Lib.hid (show OB wr w.heap.size 5 (some ⟨g, 0, none⟩) c4 ((padB key x).take 0 ++ (keyB key).drop 0) by rw [List.take_zero, List.nil_append, List.drop_zero]; exact HO4.out)
        clear HO4 hM hlt hg1 hg2 HKB
        go_wp2_with fail
        go_loopw [7] (fun v7 wr => ∃ i : Nat, i ≤ 64 ∧ v7 = .int .i64 i ∧ Hid (OB wr w.heap.size 5 (some ⟨g, 0, none⟩) c4 ((padB key x).take i ++ (keyB key).drop i)) ∧ Hid (Below w.heap.size w wr)) (fun v7 _ => 64 - (intOf v7).toNat)
        case atStart => exact ⟨0, by omega, rfl, HO5, HB4⟩
        case round =>
          obtain ⟨i, hi, rfl, HP, HBB⟩ := hrel
          clear HO5 HB4
          by_cases hi1 : i < 64
          · have hi2 : (i : Int) < 64 := by omega
            have HST := Lib.hid (pad_step key x i hi1)
            have hcell : wr.cell? ⟨g, i, none⟩ = some (.int .u8 (((keyB key).getD i 0).toNat : Int)) := by
              have := World.ownsRow.cellAt HP.out i (by rw [Nat.mul_one, HST.out.1]; exact hi1)
              rw [this, List.getElem?_map, HST.out.2.1]; rfl
            have hfro : wr.frozen? ⟨g, i, none⟩ = false := World.ownsRow.frozenAt HP.out i
            have HSE := Lib.hid (HP.out.put i ((keyB key).getD i 0 ^^^ x))
            rw [HST.out.2.2] at HSE
            obtain ⟨k, hk⟩ : ∃ k, k = (keyB key).getD i 0 := ⟨_, rfl⟩
            rw [← hk] at hcell HSE
            have HYY := Lib.hid (show (.int .u8 (((k ^^^ x).toNat : Nat) : Int) : Value) = .int .u8 ((k.toNat ^^^ x.toNat : Nat) : Int) by rw [UInt8.toNat_xor])
            clear hk
            go_wp2_with fail
            go_roundw
            case rel => exact ⟨i + 1, by omega, by go_num, Lib.hid (by have := HSE.out; rw [HYY.out] at this; exact this), Lib.hid (HBB.out.setCell (p := ⟨g, i, none⟩) HG1.out _)⟩
            case measure => simp [intOf]; omega
          · have hi2 : (64 : Int) ≤ (i : Int) := by omega
            have HFI := Lib.hid (show (padB key x).take i ++ (keyB key).drop i = padB key x by rw [List.take_of_length_le (by rw [padB_len]; omega), List.drop_of_length_le (by rw [keyB_len]; omega), List.append_nil])
            rw [HFI.out] at HP
            go_wp2_with fail
            go_ret
            exact ⟨g, c4, rfl, HP.out, HBB.out⟩

set_option maxRecDepth 100000 in
set_option maxHeartbeats 4000000 in
theorem rmac_ok (A : Option Addr) (n c : Nat) (key : List UInt8) (A' : Option Addr) (n' c' : Nat) (b : List UInt8) (w : World) (hl : key.length = n) (hc : n ≤ c) (hn : n ≤ 1099511627776) (hnk : A = none → n = 0 ∧ c = 0) (hR : Rb w w.heap.size A key)
    (hl' : b.length = n') (hn' : n' ≤ 549755813888) (hnil : A' = none → n' = 0 ∧ c' = 0) (hR' : Rb w w.heap.size A' b) :
    Calls Tryd.prog 39 #[.slice A n c, .slice A' n' c'] w fun e w' => e = .returned (.agg (bcells (macB key b))) ∧ Below w.heap.size w w' := by
  have HL := Lib.hid hl
  have HCP := Lib.hid hc
  have HN := Lib.hid hn
  have HNK := Lib.hid hnk
  have HR := Lib.hid hR
  have HL' := Lib.hid hl'
  have HN' := Lib.hid hn'
  have HNIL := Lib.hid hnil
  have HR' := Lib.hid hR'
  obtain ⟨IN, hIN⟩ : ∃ IN, IN = sum (padB key 54 ++ b) := ⟨_, rfl⟩
  obtain ⟨OUT, hOUT⟩ : ∃ OUT, OUT = sum (padB key 92 ++ IN) := ⟨_, rfl⟩
  have HMB := Lib.hid (show macB key b = OUT by rw [hOUT, hIN]; rfl)
  have HIN := Lib.hid hIN
  have HOUT := Lib.hid hOUT
  have HIL := Lib.hid (show IN.length = 32 by rw [hIN, sum_len])
  have HEI := Lib.hid (show (Tryd.prog.info? 77).map (·.size) = some (bcells IN).size by rw [bcells_size, HIL.out]; kernel_rfl)
  have HEI2 := Lib.hid (show (bcells (List.replicate 32 0)).size = (bcells IN).size by rw [bcells_size, bcells_size, HIL.out, List.length_replicate])
  have HEM := Lib.hid (show (Tryd.prog.info? 77).map (·.size) = some (bcells OUT).size by rw [bcells_size, hOUT, sum_len]; kernel_rfl)
  have HEM2 := Lib.hid (show (bcells (List.replicate 32 0)).size = (bcells OUT).size by rw [bcells_size, bcells_size, hOUT, sum_len, List.length_replicate])
  have HP4 := Lib.hid (show (padB key 54 ++ b).length = 64 + n' by rw [List.length_append, padB_len, hl'])
  rw [HMB.out]
  clear hl hc hn hnk hR hl' hn' hnil hR' hIN hOUT
  go_enter Tryd.func39, Tryd.ntmps39
  go_upto_region 1 with fail
  refine gen_world (fun u => Bk u w.heap.size 77 (bcells (List.replicate 32 0)) ∧ Below w.heap.size w u) ⟨zeros_new w, by go_grown⟩ (fun w1 hw1 => ?_)
  have HA1 := Lib.hid hw1.1
  have HB1 := Lib.hid hw1.2
  clear hw1
  go_wp2_with fail
  refine (rpadded_ok A n c key 54 _ HL.out HCP.out HN.out HNK.out ((HR.out.below HB1.out (Nat.le_refl _)).more HB1.out.size)).mono ?_
  rintro e w2 ⟨gp, cp, rfl, ho, hb⟩
  have HO2 := Lib.hid ho
  have HA2 := Lib.hid (HA1.out.below hb HA1.out.lt)
  have HB2 := Lib.hid (HB1.out.trans (hb.mono HB1.out.size))
  have HZ2 := Lib.hid hb.size
  have HZ1 := Lib.hid HA1.out.lt
  have HQ1 := Lib.hid HB1.out.size
  clear ho hb HA1 HB1
  go_wp2_with (at_builtin; refine wp_app_any rfl (.tmp 7) (.tmp 8) 52 5 rfl Tryd.underlying52 bytesInfo w1.heap.size (padB key 54) (some ⟨gp, 0, none⟩) 64 cp rfl (padB_len _ _) HO2.out b A' n' _ _ rfl HL'.out HNIL.out ((HR'.out.below HB2.out (Nat.le_refl _)).more HB2.out.size) (by rw [padB_len, HL'.out]; have := HN'.out; omega) HZ2.out ?_; intro A4 c4 w4 ho4 hg4 hb4; rw [show (padB key 54 ++ b).length = 64 + n' from HP4.out])
  have HO4 := Lib.hid ho4
  have HA4 := Lib.hid (HA2.out.below hb4 HZ1.out)
  have HB4 := Lib.hid (HB2.out.trans (hb4.mono HQ1.out))
  clear ho4 hg4 hb4 HO2 HA2 HB2
  refine (rsum_ok A4 (64 + n') c4 (padB key 54 ++ b) _ HP4.out (by have := HO4.out.cap; rw [HP4.out] at this; exact this.1) (by have := HN'.out; omega) (by intro h; exfalso; obtain ⟨g, e, _⟩ := HO4.out.form (by intro h0; have := HP4.out; rw [h0] at this; simp at this; omega); rw [h] at e; cases e) HO4.out.rb).mono ?_
  rintro e w5 ⟨rfl, hb5⟩
  rw [show sum (padB key 54 ++ b) = IN from HIN.out.symm]
  have HA5' := Lib.hid (HA4.out.below hb5 HA4.out.lt)
  have HB5' := Lib.hid (HB4.out.trans (hb5.mono HB4.out.size))
  clear hb5 HO4 HA4 HB4
  go_upto_region 2 with (refine wpList_store_row rfl 77 (.tmp 5) (.tmp 10) rfl w5.heap.size _ rfl rfl 77 _ (zeros_new w5) HEI.out HEI2.out (bcells_one _) ?_)
  obtain ⟨gx, hgx⟩ : ∃ g, g = w5.heap.size := ⟨_, rfl⟩
  refine gen_world (fun u => Bk u w.heap.size 77 (bcells (List.replicate 32 0)) ∧ Bk u w5.heap.size 77 (bcells IN) ∧ Below w.heap.size w u) ⟨(HA5'.out.alloc _).setRowFar (by have := HA5'.out.lt; omega) _, (zeros_new w5).setRow _, Below.setRow (HB5'.out.alloc HB5'.out.size _) _ HB5'.out.size _⟩ (fun w6 hw6 => ?_)
  rw [← hgx] at hw6 ⊢
  clear hgx HA5' HB5'
  obtain ⟨w5, hw5⟩ : ∃ u, u = w6 := ⟨_, rfl⟩
  rw [← hw5] at hw6 ⊢
  clear hw5
  have HA5 := Lib.hid hw6.1
  have HX5 := Lib.hid hw6.2.1
  have HB5 := Lib.hid hw6.2.2
  clear hw6
  try simp only [List.cons_append, List.nil_append]
  refine wp_region_held_drew (S := fun u => Below w.heap.size w u) (by kernel_rfl) (HB5.out.drew) (fun hHeld => ?_)
  refine take_at (some 11) (i := 0) (v := ?_) rfl rfl (by kernel_rfl) (by kernel_rfl) (by kernel_rfl) (fun _ _ _ h => h) (Or.inl ⟨by kernel_rfl, ?_⟩) hHeld ?_
  rotate_left
  · intro wz hSw; go_simp; try (with_reducible rfl)
  try simp only [Act.put, List.setIfInBounds_toArray, List.set_cons_zero, List.set_cons_succ, List.getElem_toArray, List.getElem_cons_succ, List.getElem_cons_zero]
  refine take_at (some 13) (i := 2) (v := ?_) rfl rfl (by kernel_rfl) (by kernel_rfl) (by kernel_rfl) (fun _ _ _ h => h) (Or.inl ⟨by kernel_rfl, ?_⟩) hHeld ?_
  rotate_left
  · intro wz hSw; go_simp; try (with_reducible rfl)
  try simp only [Act.put, List.setIfInBounds_toArray, List.set_cons_zero, List.set_cons_succ, List.getElem_toArray, List.getElem_cons_succ, List.getElem_cons_zero]
  refine wpAnyH_ready (rs := [1]) (by kernel_rfl) (by simp) (AllReadyH.cons rfl (fun K hK => ?_) AllReadyH.nil)
  rw [if_pos (by kernel_rfl)]
  go_simp
  refine (rpadded_ok A n c key 92 _ HL.out HCP.out HN.out HNK.out ((HR.out.below hHeld (Nat.le_refl _)).more hHeld.size)).mono ?_
  rintro e w7 ⟨gp, cp, rfl, ho, hb⟩
  have HO7 := Lib.hid ho
  have HX7 := Lib.hid (HX5.out.drew.below hb HX5.out.lt)
  have HA7 := Lib.hid (HA5.out.drew.below hb HA5.out.lt)
  have HS7 := Lib.hid (hHeld.trans (hb.mono hHeld.size))
  have HZ7 := Lib.hid (show w5.drew.heap.size ≤ w7.heap.size from hb.size)
  clear ho hb hHeld
  try dsimp only
  refine hK.out _ _ HS7.out (fun hHeld => ?_)
  try simp only [Act.put, List.setIfInBounds_toArray, List.set_cons_zero, List.set_cons_succ, List.getElem_toArray, List.getElem_cons_succ, List.getElem_cons_zero]
  refine wpAnyH_ready (rs := [3]) (by kernel_rfl) (by simp) (AllReadyH.cons rfl (fun K hK => ?_) AllReadyH.nil)
  rw [if_pos (by kernel_rfl)]
  refine op_app (.tmp 12) (.tmp 13) 52 5 rfl Tryd.underlying52 bytesInfo w5.drew.heap.size (padB key 92) (some ⟨gp, 0, none⟩) 64 cp rfl (padB_len _ _) HO7.out IN (⟨gx, 0, none⟩) 32 32 _ rfl HIL.out (Rb.bk_more HX7.out HX7.out.lt) (by rw [padB_len, HIL.out]; decide) HZ7.out ?_
  intro A8 c8 w8 ho8 hg8 hb8
  have HO8 := Lib.hid ho8
  have HL8 := Lib.hid (show (padB key 92 ++ IN).length = 96 by rw [List.length_append, padB_len, HIL.out])
  rw [HL8.out]
  have HA8 := Lib.hid (HA7.out.below hb8 HA5.out.lt)
  have HS8 := Lib.hid (HS7.out.trans (hb8.mono HB5.out.size))
  clear ho8 hg8 hb8 hHeld
  refine hK.out _ _ HS8.out (fun hHeld => ?_)
  try simp only [Act.put, List.setIfInBounds_toArray, List.set_cons_zero, List.set_cons_succ, List.getElem_toArray, List.getElem_cons_succ, List.getElem_cons_zero]
  refine wpAnyH_ready (rs := [4]) (by kernel_rfl) (by simp) (AllReadyH.cons rfl (fun K hK => ?_) AllReadyH.nil)
  rw [if_pos (by kernel_rfl)]
  go_simp
  refine (rsum_ok A8 96 c8 (padB key 92 ++ IN) _ HL8.out (by have := HO8.out.cap; rw [HL8.out] at this; exact this.1) (by omega) (by intro h; exfalso; obtain ⟨g, e, _⟩ := HO8.out.form (by intro h0; have := HL8.out; rw [h0] at this; simp at this); rw [h] at e; cases e) HO8.out.rb).mono ?_
  rintro e w9 ⟨rfl, hb⟩
  rw [show sum (padB key 92 ++ IN) = OUT from HOUT.out.symm]
  have HA9 := Lib.hid (HA8.out.below hb HA8.out.lt)
  have HS9 := Lib.hid (HS8.out.trans (hb.mono HS8.out.size))
  clear hb hHeld
  try dsimp only
  refine hK.out _ _ HS9.out (fun hHeld => ?_)
  try simp only [Act.put, List.setIfInBounds_toArray, List.set_cons_zero, List.set_cons_succ, List.getElem_toArray, List.getElem_cons_succ, List.getElem_cons_zero]
  refine wpAnyH_ready (rs := [5]) (by kernel_rfl) (by simp) (AllReadyH.cons rfl (fun K hK => ?_) AllReadyH.nil)
  rw [if_pos (by kernel_rfl)]
  refine wp_store_row 77 (.tmp 4) (.tmp 15) rfl w.heap.size _ rfl rfl 77 _ HA9.out HEM.out HEM2.out (bcells_one _) ?_
  try dsimp only
  have HFB := Lib.hid (Below.setRow HS9.out w.heap.size (Nat.le_refl _) (bcells OUT))
  have HFA := Lib.hid (HA9.out.setRow (bcells OUT))
  clear hHeld
  refine hK.out _ _ HFB.out (fun hHeld => ?_)
  try simp only [Act.put, List.setIfInBounds_toArray, List.set_cons_zero, List.set_cons_succ, List.getElem_toArray, List.getElem_cons_succ, List.getElem_cons_zero]
  refine wpAnyH_done (by kernel_rfl) ?_ _
  go_wp2_with fail
  refine bodyPost_ret (results_cell_row rfl _ _ w.heap.size 77 _ (0, 0) _ rfl HFA.out Tryd.underlying77 rfl HEM.out) rfl ?_
  exact ⟨rfl, HFB.out⟩

end Go.Proofs.YtijboiepockmjaaDoor

/- The document's own Text. -/
namespace Go.Proofs.YtijboiepockmjaaDoor
set_option linter.unusedVariables false
set_option maxRecDepth 100000
set_option linter.unusedSimpArgs false
open Go.RowKit

theorem OB.one {w : World} {B : Nat} {t : TypeId} {c : UInt8} {v : Int} (hB : B ≤ w.heap.size) (hv : v = (c.toNat : Int)) : OB (w.alloc (.cells #[.int .u8 v] t)) B t (some ⟨w.heap.size, 0, none⟩) 1 [c] := by
  subst hv
  exact OB.new (l := [c]) t hB (by simp)

set_option maxHeartbeats 400000 in
theorem rtext_ok (s : ByteArray) (w : World) (hs : s.size ≤ 140737488355328) :
    Calls Tryd.prog 38 #[.string s] w fun e w' => ∃ A c, e = .returned (.slice A (textB s).length c) ∧ OB w' w.heap.size 5 A c (textB s) ∧ Below w.heap.size w w' := by
  by_cases hle : s.size ≤ 255
  · obtain ⟨l, hl⟩ : ∃ l, l = textB s := ⟨_, rfl⟩
    rw [← hl]
    have HL := Lib.hid (show l = [UInt8.ofNat s.size] ++ s.data.toList by rw [hl, textB, if_pos hle]; rfl)
    clear hl
    have HB := Lib.hid (fun (u : Int) (hu : u = (s.size : Int)) => OB.one (w := w) (B := w.heap.size) (t := 5) (c := UInt8.ofNat s.size) (v := u) (Nat.le_refl _) (by rw [hu, UInt8.toNat_ofNat', Nat.mod_eq_of_lt (by omega)]))
    go_enter Tryd.func38, Tryd.ntmps38
    go_wp2_with (at_builtin; refine wp_app_str rfl (.tmp 9) (.tmp 10) 52 9 5 rfl Tryd.underlying52 Tryd.underlying9 byInfo w.heap.size [UInt8.ofNat s.size] _ _ _ rfl rfl (HB.out _ (by omega)) s rfl (by simp only [List.length_cons, List.length_nil]; omega) (by simp only [World.size_alloc]; omega) ?_; intro A3 c3 w3 ho3 hg3 hb3)
    have hll : l.length = s.size + 1 := by rw [HL.out, List.length_append]; show 1 + s.size = s.size + 1; omega
    go_ret
    exact ⟨A3, c3, by rw [hll]; rfl, by rw [HL.out]; exact ho3, ((Below.refl _ _).alloc (Nat.le_refl _) _).trans hb3⟩
  · have hl : textB s = [] := by rw [textB, if_neg hle]
    rw [hl]
    go_enter Tryd.func38, Tryd.ntmps38
    go_wp2
    go_ret
    exact ⟨none, 0, rfl, OB.nil _ _ _, Below.refl _ _⟩

end Go.Proofs.YtijboiepockmjaaDoor

/- The document's own digits of bytes. (Written by gen_rhex.py.) -/
namespace Go.Proofs.YtijboiepockmjaaDoor
set_option linter.unusedVariables false
set_option maxRecDepth 100000
set_option linter.unusedSimpArgs false
open Go.RowKit

set_option maxRecDepth 100000 in
set_option maxHeartbeats 2000000 in
theorem rhex_ok (A : Option Addr) (n c : Nat) (l : List UInt8) (w : World) (hl : l.length = n) (hn : n ≤ 1099511627776) (hR : Rb w w.heap.size A l) :
    Calls Tryd.prog 40 #[.slice A n c] w fun e w' => e = .returned (.string ⟨(hexB l).toArray⟩) ∧ Below w.heap.size w w' := by
  have HL := Lib.hid hl
  have HR := Lib.hid hR
  clear hl hR
  go_enter Tryd.func40, Tryd.ntmps40
  go_wp2_with fail
  go_loopw [5, 4] (fun v5 v4 wr => ∃ (i : Nat) (A2 : Option Addr) (c2 L : Nat), i ≤ n ∧ v5 = .int .i64 i ∧ v4 = .slice A2 L c2 ∧ Hid ((hexB (l.take i)).length = L) ∧ Hid (OB wr w.heap.size 5 A2 c2 (hexB (l.take i))) ∧ Hid (Below w.heap.size w wr)) (fun v5 _ _ => n - (intOf v5).toNat)
  case atStart => exact ⟨0, none, 0, 0, by omega, rfl, rfl, Lib.hid rfl, Lib.hid (OB.nil _ _ _), Lib.hid (by go_grown)⟩
  case round =>
    obtain ⟨i, A2, c2, L, hi, rfl, rfl, HT, HO, HB⟩ := hrel
    by_cases hi1 : i < n
    · have hi2 : (i : Int) < (n : Int) := by omega
      have hil : i < l.length := by rw [HL.out]; exact hi1
      obtain ⟨b, o, rfl, hb, hc⟩ : ∃ b o, A = some ⟨b, o, none⟩ ∧ b < w.heap.size ∧ w.cell? ⟨b, o + i, none⟩ = some (.int .u8 ((l[i]).toNat : Int)) := by
        rcases HR.out with h | ⟨b, o, e, hb, hc⟩
        · subst h; simp at hil
        · exact ⟨b, o, e, hb, hc i hil⟩
      have HT2 := Lib.hid (hexB_take l i hil)
      have hlt := (l[i]).toNat_lt
      obtain ⟨x, hx⟩ : ∃ x, x = (l[i]).toNat := ⟨_, rfl⟩
      rw [← hx] at hc HT2 hlt
      clear hx
      obtain ⟨q, hq⟩ : ∃ q, q = x / 16 := ⟨_, rfl⟩
      obtain ⟨r, hr⟩ : ∃ r, r = x % 16 := ⟨_, rfl⟩
      have e1 : (x : Int) / 16 = (q : Int) := by omega
      have e2 : (x : Int) % 16 = (r : Int) := by omega
      have e2' : (x : Int).tmod 16 = (r : Int) := by rw [Int.tmod_eq_emod_of_nonneg (by omega)]; exact e2
      have e1' : (x : Int).tdiv 16 = (q : Int) := by rw [Int.tdiv_eq_ediv_of_nonneg (by omega)]; exact e1
      have e3 : (q : Int) % 256 = (q : Int) := by omega
      have e4 : (r : Int) % 256 = (r : Int) := by omega
      have e5 : IntKind.u8.wrap (q : Int) = (q : Int) := by rw [IntKind.wrap_u8]; omega
      have e6 : IntKind.u8.wrap (r : Int) = (r : Int) := by rw [IntKind.wrap_u8]; omega
      have HQ := Lib.hid (fun (u : World) => show (Instr.index 9 (.string ⟨#[48, 49, 50, 51, 52, 53, 54, 55, 56, 57, 97, 98, 99, 100, 101, 102]⟩) (.int .u8 (q : Int))).run Tryd.prog u = .ok (.int .u8 ((dig q).toNat : Int)) u from idx_dig q (by omega) .u8 u)
      have HRR := Lib.hid (fun (u : World) => show (Instr.index 9 (.string ⟨#[48, 49, 50, 51, 52, 53, 54, 55, 56, 57, 97, 98, 99, 100, 101, 102]⟩) (.int .u8 (r : Int))).run Tryd.prog u = .ok (.int .u8 ((dig r).toNat : Int)) u from idx_dig r (by omega) .u8 u)
      rw [← hq, ← hr] at HT2
      have HCL := Lib.hid (show ∀ u, Below w.heap.size w u → u.cell? ⟨b, o + i, none⟩ = some (.int .u8 (x : Int)) from fun u hu => (hu.cell (p := ⟨b, o + i, none⟩) hb).trans hc)
      have HLEN := Lib.hid (show (hexB (l.take i)).length + 2 ≤ 140737488355328 by rw [hexB_len, List.length_take]; omega)
      clear hq hr hlt hil
      go_wp2_with fail
      try simp only [List.cons_append, List.nil_append]
      refine wp_region_held_drew (S := fun u => Below w.heap.size w u) (by kernel_rfl) (HB.out.drew) (fun hHeld => ?_)
      refine take_at (some 12) (i := 0) (v := ?_) rfl rfl (by kernel_rfl) (by kernel_rfl) (by kernel_rfl) (fun _ _ _ h => h) (Or.inl ⟨by kernel_rfl, ?_⟩) hHeld ?_
      rotate_left
      · intro wz hSw; go_simp; try (with_reducible rfl)
      try simp only [Act.put, List.setIfInBounds_toArray, List.set_cons_zero, List.set_cons_succ, List.getElem_toArray, List.getElem_cons_succ, List.getElem_cons_zero]
      refine take_at (some 13) (i := 1) (v := ?_) rfl rfl (by kernel_rfl) (by kernel_rfl) (by kernel_rfl) (fun _ _ _ h => h) (Or.inl ⟨by kernel_rfl, ?_⟩) hHeld ?_
      rotate_left
      · intro wz hSw; go_simp; try (with_reducible rfl)
      try simp only [Act.put, List.setIfInBounds_toArray, List.set_cons_zero, List.set_cons_succ, List.getElem_toArray, List.getElem_cons_succ, List.getElem_cons_zero]
      refine take_at (some 14) (i := 2) (v := ?_) rfl rfl (by kernel_rfl) (by kernel_rfl) (by kernel_rfl) (fun _ _ _ h => h) (Or.inl ⟨by kernel_rfl, ?_⟩) hHeld ?_
      rotate_left
      · intro wz hSw; go_simp; try (with_reducible rfl)
      try simp only [Act.put, List.setIfInBounds_toArray, List.set_cons_zero, List.set_cons_succ, List.getElem_toArray, List.getElem_cons_succ, List.getElem_cons_zero]
      refine take_at (some 15) (i := 3) (v := ?_) rfl rfl (by kernel_rfl) (by kernel_rfl) (by kernel_rfl) (fun _ _ _ h => h) (Or.inl ⟨by kernel_rfl, ?_⟩) hHeld ?_
      rotate_left
      · intro wz hSw; go_simp; try (with_reducible rfl)
      try simp only [Act.put, List.setIfInBounds_toArray, List.set_cons_zero, List.set_cons_succ, List.getElem_toArray, List.getElem_cons_succ, List.getElem_cons_zero]
      refine take_at (some 16) (i := 4) (v := ?_) rfl rfl (by kernel_rfl) (by kernel_rfl) (by kernel_rfl) (fun _ _ _ h => h) (Or.inl ⟨by kernel_rfl, ?_⟩) hHeld ?_
      rotate_left
      · intro wz hSw; go_simp; try (with_reducible rfl)
      try simp only [Act.put, List.setIfInBounds_toArray, List.set_cons_zero, List.set_cons_succ, List.getElem_toArray, List.getElem_cons_succ, List.getElem_cons_zero]
      refine take_at (some 17) (i := 5) (v := ?_) rfl rfl (by kernel_rfl) (by kernel_rfl) (by kernel_rfl) (fun _ _ _ h => h) (Or.inl ⟨by kernel_rfl, ?_⟩) hHeld ?_
      rotate_left
      · intro wz hSw; have hcv := HCL.out wz hSw; go_simp; try (with_reducible rfl)
      try simp only [Act.put, List.setIfInBounds_toArray, List.set_cons_zero, List.set_cons_succ, List.getElem_toArray, List.getElem_cons_succ, List.getElem_cons_zero]
      refine take_at (some 18) (i := 6) (v := ?_) rfl rfl (by kernel_rfl) (by kernel_rfl) (by kernel_rfl) (fun _ _ _ h => h) (Or.inl ⟨by kernel_rfl, ?_⟩) hHeld ?_
      rotate_left
      · intro wz hSw; go_simp; try (with_reducible rfl)
      try simp only [Act.put, List.setIfInBounds_toArray, List.set_cons_zero, List.set_cons_succ, List.getElem_toArray, List.getElem_cons_succ, List.getElem_cons_zero]
      refine take_at (some 19) (i := 7) (v := ?_) rfl rfl (by kernel_rfl) (by kernel_rfl) (by kernel_rfl) (fun _ _ _ h => h) (Or.inl ⟨by kernel_rfl, ?_⟩) hHeld ?_
      rotate_left
      · intro wz hSw; have hix := HQ.out wz; go_simp; try (with_reducible rfl)
      try simp only [Act.put, List.setIfInBounds_toArray, List.set_cons_zero, List.set_cons_succ, List.getElem_toArray, List.getElem_cons_succ, List.getElem_cons_zero]
      refine take_at (some 20) (i := 8) (v := ?_) rfl rfl (by kernel_rfl) (by kernel_rfl) (by kernel_rfl) (fun _ _ _ h => h) (Or.inl ⟨by kernel_rfl, ?_⟩) hHeld ?_
      rotate_left
      · intro wz hSw; go_simp; try (with_reducible rfl)
      try simp only [Act.put, List.setIfInBounds_toArray, List.set_cons_zero, List.set_cons_succ, List.getElem_toArray, List.getElem_cons_succ, List.getElem_cons_zero]
      refine take_at (some 21) (i := 9) (v := ?_) rfl rfl (by kernel_rfl) (by kernel_rfl) (by kernel_rfl) (fun _ _ _ h => h) (Or.inl ⟨by kernel_rfl, ?_⟩) hHeld ?_
      rotate_left
      · intro wz hSw; go_simp; try (with_reducible rfl)
      try simp only [Act.put, List.setIfInBounds_toArray, List.set_cons_zero, List.set_cons_succ, List.getElem_toArray, List.getElem_cons_succ, List.getElem_cons_zero]
      refine take_at (some 22) (i := 10) (v := ?_) rfl rfl (by kernel_rfl) (by kernel_rfl) (by kernel_rfl) (fun _ _ _ h => h) (Or.inl ⟨by kernel_rfl, ?_⟩) hHeld ?_
      rotate_left
      · intro wz hSw; go_simp; try (with_reducible rfl)
      try simp only [Act.put, List.setIfInBounds_toArray, List.set_cons_zero, List.set_cons_succ, List.getElem_toArray, List.getElem_cons_succ, List.getElem_cons_zero]
      refine take_at (some 23) (i := 11) (v := ?_) rfl rfl (by kernel_rfl) (by kernel_rfl) (by kernel_rfl) (fun _ _ _ h => h) (Or.inl ⟨by kernel_rfl, ?_⟩) hHeld ?_
      rotate_left
      · intro wz hSw; go_simp; try (with_reducible rfl)
      try simp only [Act.put, List.setIfInBounds_toArray, List.set_cons_zero, List.set_cons_succ, List.getElem_toArray, List.getElem_cons_succ, List.getElem_cons_zero]
      refine take_at (some 24) (i := 12) (v := ?_) rfl rfl (by kernel_rfl) (by kernel_rfl) (by kernel_rfl) (fun _ _ _ h => h) (Or.inl ⟨by kernel_rfl, ?_⟩) hHeld ?_
      rotate_left
      · intro wz hSw; have hcv := HCL.out wz hSw; go_simp; try (with_reducible rfl)
      try simp only [Act.put, List.setIfInBounds_toArray, List.set_cons_zero, List.set_cons_succ, List.getElem_toArray, List.getElem_cons_succ, List.getElem_cons_zero]
      refine take_at (some 25) (i := 13) (v := ?_) rfl rfl (by kernel_rfl) (by kernel_rfl) (by kernel_rfl) (fun _ _ _ h => h) (Or.inl ⟨by kernel_rfl, ?_⟩) hHeld ?_
      rotate_left
      · intro wz hSw; go_simp; try (with_reducible rfl)
      try simp only [Act.put, List.setIfInBounds_toArray, List.set_cons_zero, List.set_cons_succ, List.getElem_toArray, List.getElem_cons_succ, List.getElem_cons_zero]
      refine take_at (some 26) (i := 14) (v := ?_) rfl rfl (by kernel_rfl) (by kernel_rfl) (by kernel_rfl) (fun _ _ _ h => h) (Or.inl ⟨by kernel_rfl, ?_⟩) hHeld ?_
      rotate_left
      · intro wz hSw; have hix := HRR.out wz; go_simp; try (with_reducible rfl)
      try simp only [Act.put, List.setIfInBounds_toArray, List.set_cons_zero, List.set_cons_succ, List.getElem_toArray, List.getElem_cons_succ, List.getElem_cons_zero]
      refine wpAnyH_ready (rs := [15]) (by kernel_rfl) (by simp) (AllReadyH.cons rfl (fun K hK => ?_) AllReadyH.nil)
      rw [if_pos (by kernel_rfl)]
      go_simp
      refine hK.out _ _ (HB.out.drew.alloc HB.out.size _) (fun hHeld => ?_)
      try simp only [Act.put, List.setIfInBounds_toArray, List.set_cons_zero, List.set_cons_succ, List.getElem_toArray, List.getElem_cons_succ, List.getElem_cons_zero]
      refine wpAnyH_ready (rs := [16]) (by kernel_rfl) (by simp) (AllReadyH.cons rfl (fun K hK => ?_) AllReadyH.nil)
      rw [if_pos (by kernel_rfl)]
      refine op_app (.tmp 12) (.tmp 27) 52 5 rfl Tryd.underlying52 bytesInfo w.heap.size (hexB (l.take i)) A2 L c2 rfl HT.out (HO.out.drew.alloc _) [dig q, dig r] _ 2 _ _ rfl rfl Rb.two (by have := HLEN.out; simpa using this) hHeld.size ?_
      intro A3 c3 w4 ho3 hg3 hb3
      refine hK.out _ _ (hHeld.trans hb3) (fun hHeld => ?_)
      try simp only [Act.put, List.setIfInBounds_toArray, List.set_cons_zero, List.set_cons_succ, List.getElem_toArray, List.getElem_cons_succ, List.getElem_cons_zero]
      refine take_at (some 4) (i := 17) (v := ?_) rfl rfl (by kernel_rfl) (by kernel_rfl) (by kernel_rfl) (fun _ _ _ h => h) (Or.inl ⟨by kernel_rfl, ?_⟩) hHeld ?_
      rotate_left
      · intro wz hSw; go_simp; try (with_reducible rfl)
      try simp only [Act.put, List.setIfInBounds_toArray, List.set_cons_zero, List.set_cons_succ, List.getElem_toArray, List.getElem_cons_succ, List.getElem_cons_zero]
      refine wpAnyH_done (by kernel_rfl) ?_ _
      go_wp2_with fail
      go_roundw
      case rel => exact ⟨i + 1, A3, c3, _, by omega, by go_num, rfl, Lib.hid (by rw [HT2.out, List.append_assoc]; simp), Lib.hid (by rw [HT2.out, List.append_assoc]; exact ho3), Lib.hid hHeld⟩
      case measure => simp [intOf]; omega
    · have hi2 : (n : Int) ≤ (i : Int) := by omega
      have HI := Lib.hid (show l.take i = l by rw [List.take_of_length_le]; rw [HL.out]; omega)
      rw [HI.out] at HT HO
      have hst := str_of (P := Tryd.prog) HO.out.rb 52 5 9 Tryd.underlying52 Tryd.underlying5 Tryd.underlying9 L c2 HT.out
      go_wp2_with fail
      go_ret
      exact ⟨rfl, HB.out⟩
end Go.Proofs.YtijboiepockmjaaDoor

/- The document's own Proof. (Out of Proof's own text, its slots turned.) -/
namespace Go.Proofs.YtijboiepockmjaaDoor
set_option linter.unusedVariables false
set_option maxRecDepth 100000
set_option linter.unusedSimpArgs false
open Go.RowKit

set_option maxRecDepth 100000 in
set_option maxHeartbeats 4000000 in
theorem rproof_ok (A : Option Addr) (n c : Nat) (key : List UInt8) (A' : Option Addr) (n' c' : Nat) (ws : List ByteArray) (w : World) (hl : key.length = n) (hc : n ≤ c) (hmax : c ≤ 9223372036854775807) (hn : n ≤ 1099511627776) (hR : Rb w w.heap.size A key) (hnk : A = none → n = 0 ∧ c = 0)
    (hl' : ws.length = n') (hn' : n' ≤ 1099511627776) (hR' : Rs w w.heap.size A' ws) (hsm : ∀ x ∈ ws, x.size ≤ 140737488355328) (htx : (textsB ws).length ≤ 549755813888) :
    Calls Tryd.prog 24 #[.slice A n c, .slice A' n' c'] w fun e w' => e = .returned (.string ⟨(proofB key ws).toArray⟩) ∧ Below w.heap.size w w' := by
  have HL := Lib.hid hl
  have HCP := Lib.hid hc
  have HMX := Lib.hid hmax
  have HN := Lib.hid hn
  have HR := Lib.hid hR
  have HL' := Lib.hid hl'
  have HR' := Lib.hid hR'
  have HSM := Lib.hid hsm
  have HTX := Lib.hid htx
  have HNK := Lib.hid hnk
  clear hl hc hmax hn hR hl' hR' hsm htx hnk
  go_enter Tryd.func24, Tryd.ntmps24
  go_wp2_with fail
  go_loopw [6, 5] (fun v12 v5 wr => ∃ (i : Nat) (A2 : Option Addr) (c2 L : Nat), i ≤ n' ∧ v12 = .int .i64 i ∧ v5 = .slice A2 L c2 ∧ Hid ((textsB (ws.take i)).length = L) ∧ Hid (∀ j, (hj : j < ws.length) → j < i → ws[j].size ≤ 255) ∧ Hid (OB wr w.heap.size 5 A2 c2 (textsB (ws.take i))) ∧ Hid (A2 = none → L = 0 ∧ c2 = 0) ∧ Hid (Below w.heap.size w wr)) (fun v12 _ _ => n' - (intOf v12).toNat)
  case atStart => exact ⟨0, none, 0, 0, by omega, rfl, rfl, Lib.hid rfl, Lib.hid (fun j _ h => by omega), Lib.hid (OB.nil _ _ _), Lib.hid (fun _ => ⟨rfl, rfl⟩), Lib.hid (by go_grown)⟩
  case round =>
    obtain ⟨i, A2, c2, L, hi, rfl, rfl, HT, HJ, HO, HNL, HB⟩ := hrel
    by_cases hi1 : i < n'
    · have hi2 : (i : Int) < (n' : Int) := by omega
      have hiw : i < ws.length := by rw [HL'.out]; exact hi1
      obtain ⟨b, o, rfl, hcell⟩ : ∃ b o, A' = some ⟨b, o, none⟩ ∧ wr.cell? ⟨b, o + i, none⟩ = some (.string ws[i]) := by
        rcases HR'.out with h | ⟨b, o, e, hb, hc⟩
        · subst h; simp at hiw
        · exact ⟨b, o, e, (HB.out.cell (p := ⟨b, o + i, none⟩) hb).trans (hc i hiw)⟩
      have HT2 := Lib.hid (textsB_take ws i hiw)
      have HS := Lib.hid (HSM.out ws[i] (List.getElem_mem hiw))
      have HLB := Lib.hid (textsB_part ws (i + 1))
      have HLG := Lib.hid (fun h => proofB_long key ws i hiw h)
      have HJ2 := Lib.hid (show ∀ s : ByteArray, s = ws[i] → s.size ≤ 255 → ∀ j, (hj : j < ws.length) → j < i + 1 → ws[j].size ≤ 255 by
        intro s hs hs2 j hj hji
        by_cases e : j = i
        · subst e; rw [← hs]; exact hs2
        · exact HJ.out j hj (by omega))
      obtain ⟨s, hs⟩ : ∃ s, s = ws[i] := ⟨_, rfl⟩
      rw [← hs] at hcell HT2 HS HLG
      have HJ3 := Lib.hid (HJ2.out s hs)
      clear hs HJ2 hiw
      by_cases hs : s.size ≤ 255
      · have HTL := Lib.hid (textB_some s hs)
        have hts : 0 < (textB s).length := by rw [HTL.out]; omega
        have HTP := Lib.hid hts
        obtain ⟨M, hM⟩ : ∃ M, M = s.size + 1 := ⟨_, rfl⟩
        have HM := Lib.hid hM
        have HMP := Lib.hid (show ((M : Int) == 0) = false by rw [beq_eq_false_iff_ne]; omega)
        have hmp := HMP.out
        have hmp2 : 0 < M := by omega
        rw [← hM] at HTL
        have HSS := Lib.hid hs
        have h3 : (s.size : Int) ≤ 255 := by omega
        clear hts hM hs
        go_wp2_with fail
        refine (rtext_ok s _ HS.out).mono ?_
        rintro e w2 ⟨A3, c3, rfl, ho, hb⟩
        rw [HTL.out]
        have HO3 := Lib.hid ho
        have HB3 := Lib.hid hb
        have HA3 := Lib.hid (show A3 = none → M = 0 ∧ c3 = 0 by
          intro h
          obtain ⟨g, e, _⟩ := ho.form (by intro h0; have := HTP.out; rw [h0] at this; simp at this)
          rw [h] at e; cases e)
        have HOO := Lib.hid (show OB w2 w.heap.size 5 A2 c2 (textsB (ws.take i)) from by
          refine ⟨HO.out.1, ?_⟩
          rcases HO.out.2 with hn | ⟨g, cap, cur, hv, hg, hh, r⟩
          · exact .inl hn
          · refine .inr ⟨g, cap, cur, hv, hg, ?_, r⟩
            rw [hb.block g (lt_of_block hh)]
            exact hh)
        clear ho hb
        go_wp2_with (at_builtin; refine wp_app_any rfl (.tmp 20) (.tmp 25) 52 5 rfl Tryd.underlying52 bytesInfo w.heap.size _ _ _ _ rfl HT.out HOO.out (textB s) A3 M _ _ rfl HTL.out HA3.out HO3.out.rb (by have h1 := HLB.out; have h2 := HTX.out; rw [HT2.out, List.length_append] at h1; omega) (by have h1 := HB.out.size; have h2 := HB3.out.size; omega) ?_; intro A4 c4 w4 ho4 hg4 hb4)
        go_roundw
        case rel =>
          refine ⟨i + 1, A4, c4, _, by omega, by go_num, rfl, Lib.hid (by rw [HT2.out]; simp), Lib.hid (HJ3.out HSS.out), Lib.hid (by rw [HT2.out]; exact ho4), Lib.hid ?_, Lib.hid ((HB.out.trans (HB3.out.mono HB.out.size)).trans hb4)⟩
          intro h
          obtain ⟨g, e, _⟩ := ho4.form (by intro h0; have h1 := congrArg List.length h0; rw [List.length_append, HTL.out] at h1; simp at h1; omega)
          rw [h] at e; cases e
        case measure => simp [intOf]; omega
      · have HP := Lib.hid (HLG.out (by omega))
        have h3 : (255 : Int) < (s.size : Int) := by omega
        clear hs HLG HJ3
        go_wp2_with fail
        go_ret
        exact ⟨by rw [HP.out]; rfl, HB.out⟩
    · have hi3 : i = n' := by omega
      have hi2 : (n' : Int) ≤ (i : Int) := by omega
      have HI3 := Lib.hid (show ws.take i = ws by rw [List.take_of_length_le]; rw [HL'.out]; omega)
      have HPS := Lib.hid (proofB_short key ws (fun j hj => HJ.out j hj (by rw [HL'.out] at hj; omega)))
      rw [HI3.out] at HT HO
      have HLL := Lib.hid (show L ≤ 549755813888 by rw [← HT.out]; exact HTX.out)
      clear hi3
      have HZE := Lib.hid (show (Tryd.prog.info? 77).map (·.size) = some (bcells (macB key (textsB ws))).size by rw [bcells_size, macB_len]; kernel_rfl)
      have HZE2 := Lib.hid (show (bcells (List.replicate 32 0)).size = (bcells (macB key (textsB ws))).size by rw [bcells_size, bcells_size, macB_len, List.length_replicate])
      go_wp2_with fail
      refine (rmac_ok A n c key A2 L c2 (textsB ws) _ HL.out HCP.out HN.out HNK.out ((HR.out.below HB.out (Nat.le_refl _)).more HB.out.size) HT.out HLL.out HNL.out HO.out.rb).mono ?_
      rintro e w2 ⟨rfl, hb2⟩
      have HB2 := Lib.hid (HB.out.trans (hb2.mono HB.out.size))
      clear hb2
      go_upto_region 9 with (refine wpList_store_row rfl 77 (.tmp 7) (.tmp 29) rfl w2.heap.size _ rfl rfl 77 _ (zeros_new w2) HZE.out HZE2.out (bcells_one _) ?_)
      refine gen_world (fun u => Bk u w2.heap.size 77 (bcells (macB key (textsB ws))) ∧ Below w.heap.size w u) ⟨(zeros_new w2).setRow _, Below.setRow (HB2.out.alloc HB2.out.size _) _ HB2.out.size _⟩ (fun w3 hw3 => ?_)
      have HK3 := Lib.hid hw3.1
      have HB3 := Lib.hid hw3.2
      clear hw3
      go_wp2_with fail
      refine (rhex_ok (some ⟨w2.heap.size, 0, none⟩) 32 32 (macB key (textsB ws)) _ (macB_len _ _) (by omega) (Rb.row HK3.out HK3.out.lt)).mono ?_
      rintro e w4 ⟨rfl, hb4⟩
      go_wp2_with fail
      go_ret
      exact ⟨by rw [HPS.out]; rfl, HB3.out.trans (hb4.mono HB3.out.size)⟩
end Go.Proofs.YtijboiepockmjaaDoor

/- The head of vault's laws: its live question is always answered yes. -/
namespace Go.Proofs.YtijboiepockmjaaDoor
set_option linter.unusedVariables false
set_option maxRecDepth 100000
set_option linter.unusedSimpArgs false
open Go.RowKit

def annS : ByteArray := ⟨#[97, 110, 110]⟩
def kS : ByteArray := ⟨#[107]⟩
def zS : ByteArray := ⟨#[122]⟩
def nS : ByteArray := ⟨#[110]⟩
def mS : ByteArray := ⟨#[109]⟩
def oneTn : Tn := ⟨annS, 0, 0, [], [⟨kS, ⟨#[115]⟩, 5⟩]⟩
def oneT (d : Nat) : Tv := ⟨oneTn, none, 0, some ⟨d, 0, none⟩, 1⟩
def oneC (b d : Nat) : Cv := ⟨9, 9, 9, 9, [oneT d], some ⟨b, 0, none⟩, 1⟩
theorem one_right (b d : Nat) : cfgB (oneC b d).cg = true := by
  show cfgB ⟨9, 9, 9, 9, [oneTn]⟩ = true
  kernel_rfl
theorem one_tk : tkN [oneTn] annS kS = some ⟨kS, ⟨#[115]⟩, 5⟩ := by kernel_rfl
theorem one_tz : tkN [oneTn] annS zS = none := by kernel_rfl
def pB : List UInt8 := proofB [115] [annS, kS, nS]
def pmB : List UInt8 := proofB [115] [annS, kS, mS]
set_option maxRecDepth 100000 in
theorem pB_ne : (pB == pmB) = false := by kernel_rfl
theorem pB_some : pB ≠ [] := by
  intro h
  have h1 : pB.length = 64 := by
    unfold pB proofB
    rw [if_pos (by decide), hexB_len, macB_len]
  rw [h] at h1
  simp at h1
def pS : ByteArray := ⟨pB.toArray⟩
theorem pS_list : pS.data.toList = pB := by simp [pS]
theorem pS_size : pS.size ≤ 64 := by
  have h1 : pS.data.toList.length = pS.size := rfl
  rw [pS_list] at h1
  have := wnB_len (some ⟨kS, ⟨#[115]⟩, 5⟩) annS kS nS
  have h2 : wnB (some ⟨kS, ⟨#[115]⟩, 5⟩) annS kS nS = pB := rfl
  rw [h2] at this
  omega
theorem hk_1 : ckI (gdB (tkN [oneTn] annS kS) (inR [] annS kS) 4) (wnB (tkN [oneTn] annS kS) annS kS nS) pS = 0 := by
  rw [one_tk]
  show ckI true pB pS = 0
  exact ck_ok pB_some pS_list.symm
theorem hk_2 : ckI (gdB (tkN [oneTn] annS kS) (inR [] annS kS) 5) (wnB (tkN [oneTn] annS kS) annS kS nS) pS = 3 := by
  rw [one_tk]
  show ckI false pB pS = 3
  rfl
theorem hk_3 : ckI (gdB (tkN [oneTn] annS kS) (inR [] annS kS) 4) (wnB (tkN [oneTn] annS kS) annS kS mS) pS = 101 := by
  rw [one_tk]
  show ckI true pmB pS = 101
  refine ck_other ?_
  rw [pS_list]
  intro h
  have := pB_ne
  rw [h, beq_self_eq_true] at this
  cases this
abbrev g1R : Rev := [(annS, kS)]
abbrev g2R : Rev := [(annS, kS), (annS, kS)]
theorem in_1 : inR g1R annS kS = true := inR_iff.2 (List.mem_cons_self ..)
theorem in_2 : inR g2R annS kS = true := inR_iff.2 (List.mem_cons_self ..)
theorem hk_4 : ckI (gdB (tkN [oneTn] annS kS) (inR g2R annS kS) 4) (wnB (tkN [oneTn] annS kS) annS kS nS) pS = 3 := by
  rw [one_tk, in_2]
  show ckI false pB pS = 3
  rfl

set_option maxRecDepth 100000 in
set_option maxHeartbeats 1000000 in
theorem vone_ok (w : World) : Calls Tryd.prog 25 #[] w fun e w' => ∃ b d, e = .returned (.agg #[.int .i64 9, .int .i64 9, .int .i64 9, .int .i64 9, .slice (some ⟨b, 0, none⟩) 1 1]) ∧ RC w' (oneC b d) ∧ Below w.heap.size w w' := by
  obtain ⟨w3, hw3⟩ : ∃ w3, ((w.alloc (.cells #[.int .i64 0, .int .i64 0, .int .i64 0, .int .i64 0, .slice none 0 0] 24)).alloc (.cells #[.string ⟨#[107]⟩, .string ⟨#[115]⟩, .int .i64 5] 48)).alloc (.cells #[.string ⟨#[97, 110, 110]⟩, .int .i64 0, .int .i64 0, .slice none 0 0, .slice (some ⟨w.heap.size + 1, 0, none⟩) 1 1] 44) = w3 := ⟨_, rfl⟩
  have H0 := Lib.hid (show Bk w3 w.heap.size 24 #[.int .i64 0, .int .i64 0, .int .i64 0, .int .i64 0, .slice none 0 0] by rw [← hw3]; exact ((Bk.new w _ _).alloc _).alloc _)
  have H1 := Lib.hid (show Bk w3 (w.heap.size + 1) 48 (kcs ⟨kS, ⟨#[115]⟩, 5⟩) by
    rw [← hw3]
    have := (Bk.new (w.alloc (.cells #[.int .i64 0, .int .i64 0, .int .i64 0, .int .i64 0, .slice none 0 0] 24)) 48 #[.string ⟨#[107]⟩, .string ⟨#[115]⟩, .int .i64 5]).alloc (.cells #[.string ⟨#[97, 110, 110]⟩, .int .i64 0, .int .i64 0, .slice none 0 0, .slice (some ⟨w.heap.size + 1, 0, none⟩) 1 1] 44)
    rwa [World.size_alloc] at this)
  have H2 := Lib.hid (show Bk w3 (w.heap.size + 2) 44 (tcs (oneT (w.heap.size + 1))) by
    rw [← hw3]
    have := Bk.new ((w.alloc (.cells #[.int .i64 0, .int .i64 0, .int .i64 0, .int .i64 0, .slice none 0 0] 24)).alloc (.cells #[.string ⟨#[107]⟩, .string ⟨#[115]⟩, .int .i64 5] 48)) 44 #[.string ⟨#[97, 110, 110]⟩, .int .i64 0, .int .i64 0, .slice none 0 0, .slice (some ⟨w.heap.size + 1, 0, none⟩) 1 1]
    rwa [World.size_alloc, World.size_alloc] at this)
  have HL := Lib.hid (show Below w.heap.size w w3 by
    rw [← hw3]
    exact (((Below.refl w.heap.size w).alloc (Nat.le_refl _) _).alloc (by rw [World.size_alloc]; omega) _).alloc (by rw [World.size_alloc, World.size_alloc]; omega) _)
  have z0 : w3.cell? ⟨w.heap.size, 0, none⟩ = some (.int .i64 0) := H0.out.cell 0
  have z1 : w3.cell? ⟨w.heap.size, 1, none⟩ = some (.int .i64 0) := H0.out.cell 1
  have z2 : w3.cell? ⟨w.heap.size, 2, none⟩ = some (.int .i64 0) := H0.out.cell 2
  have z3 : w3.cell? ⟨w.heap.size, 3, none⟩ = some (.int .i64 0) := H0.out.cell 3
  have z4 : w3.cell? ⟨w.heap.size, 4, none⟩ = some (.slice none 0 0) := H0.out.cell 4
  have f0 := H0.out.frozen 0
  have f1 := H0.out.frozen 1
  have f2 := H0.out.frozen 2
  have f3 := H0.out.frozen 3
  have f4 := H0.out.frozen 4
  go_enter Tryd.func25, Tryd.ntmps25
  go_wp2
  have kU := (((((H0.out.set 0 (.int .i64 9)).set 1 (.int .i64 9)).set 2 (.int .i64 9)).set 3 (.int .i64 9)).set 4 (.slice (some ⟨w.heap.size + 1 + 1, 0, none⟩) 1 1))
  simp only [List.setIfInBounds_toArray, List.set_cons_zero, List.set_cons_succ] at kU
  have hl := HL.out
  have far1 := (((((H1.out.far (p := ⟨w.heap.size, 0, none⟩) (by show w.heap.size + 1 ≠ w.heap.size; omega) (.int .i64 9)).far (p := ⟨w.heap.size, 1, none⟩) (by show w.heap.size + 1 ≠ w.heap.size; omega) (.int .i64 9)).far (p := ⟨w.heap.size, 2, none⟩) (by show w.heap.size + 1 ≠ w.heap.size; omega) (.int .i64 9)).far (p := ⟨w.heap.size, 3, none⟩) (by show w.heap.size + 1 ≠ w.heap.size; omega) (.int .i64 9)).far (p := ⟨w.heap.size, 4, none⟩) (by show w.heap.size + 1 ≠ w.heap.size; omega) (.slice (some ⟨w.heap.size + 1 + 1, 0, none⟩) 1 1))
  have far2 := (((((H2.out.far (p := ⟨w.heap.size, 0, none⟩) (by show w.heap.size + 2 ≠ w.heap.size; omega) (.int .i64 9)).far (p := ⟨w.heap.size, 1, none⟩) (by show w.heap.size + 2 ≠ w.heap.size; omega) (.int .i64 9)).far (p := ⟨w.heap.size, 2, none⟩) (by show w.heap.size + 2 ≠ w.heap.size; omega) (.int .i64 9)).far (p := ⟨w.heap.size, 3, none⟩) (by show w.heap.size + 2 ≠ w.heap.size; omega) (.int .i64 9)).far (p := ⟨w.heap.size, 4, none⟩) (by show w.heap.size + 2 ≠ w.heap.size; omega) (.slice (some ⟨w.heap.size + 1 + 1, 0, none⟩) 1 1))
  refine bodyPost_ret (v := .agg #[.int .i64 9, .int .i64 9, .int .i64 9, .int .i64 9, .slice (some ⟨w.heap.size + 1 + 1, 0, none⟩) 1 1]) ?_ rfl ⟨w.heap.size + 1 + 1, w.heap.size + 1, rfl, ⟨⟨Rw.bk far2, fun x hx => ?_⟩, ⟨Nat.le_refl _, (show (1 : Nat) ≤ 9223372036854775807 by decide), fun h => by cases h⟩⟩, ?_⟩
  · have p0 := kU.cell 0; have p1 := kU.cell 1; have p2 := kU.cell 2; have p3 := kU.cell 3; have p4 := kU.cell 4
    simp [results, Tryd.f25, go_sem, p0, p1, p2, p3, p4]
  · obtain rfl := List.mem_singleton.1 hx
    exact ⟨.inl rfl, Rw.bk far1, ⟨Nat.le_refl _, (show (0 : Nat) ≤ 9223372036854775807 by decide), fun _ => ⟨rfl, rfl⟩⟩, ⟨Nat.le_refl _, (show (1 : Nat) ≤ 9223372036854775807 by decide), fun h => by cases h⟩, (fun n hn => by cases hn), (show annS.size ≤ 140737488355328 by decide), fun k hk => by obtain rfl := List.mem_singleton.1 hk; decide⟩
  · exact (((((hl.setCell (p := ⟨w.heap.size, 0, none⟩) (Nat.le_refl _) _).setCell (p := ⟨w.heap.size, 1, none⟩) (Nat.le_refl _) _).setCell (p := ⟨w.heap.size, 2, none⟩) (Nat.le_refl _) _).setCell (p := ⟨w.heap.size, 3, none⟩) (Nat.le_refl _) _).setCell (p := ⟨w.heap.size, 4, none⟩) (Nat.le_refl _) _)

/-- A vault that the head made, and what is below it. -/
structure Hv (w : World) (v mb : Nat) (g : Rev) (u : World) : Prop where
  va : Va u v mb [oneTn] g
  l : Below w.heap.size w u
  lv : w.heap.size ≤ mb
theorem Hv.on {w u u' : World} {v mb : Nat} {g : Rev} (h : Hv w v mb g u) (hb : Below u.heap.size u u') : Hv w v mb g u' := ⟨h.va.on hb, h.l.trans (hb.mono h.l.size), h.lv⟩
theorem Hv.rev {w u u' : World} {v mb : Nat} {g g' : Rev} (h : Hv w v mb g u) (h' : Va u' v mb [oneTn] g') (k : Ke [mb] u u') : Hv w v mb g' u' :=
  ⟨h', h.l.trans (k.below h.l.size (fun x hx => by obtain rfl := List.mem_singleton.1 hx; exact h.lv)), h.lv⟩
theorem words3 (w : World) (t t' : TypeId) (l : List UInt8) (fr : Nat × Nat) (a b c : ByteArray) :
    Rb ((w.alloc (.cells (bcells l) t fr)).alloc (.cells #[.string a, .string b, .string c] t')) ((w.alloc (.cells (bcells l) t fr)).alloc (.cells #[.string a, .string b, .string c] t')).heap.size (some ⟨w.heap.size, 0, none⟩) l ∧
    Rs ((w.alloc (.cells (bcells l) t fr)).alloc (.cells #[.string a, .string b, .string c] t')) ((w.alloc (.cells (bcells l) t fr)).alloc (.cells #[.string a, .string b, .string c] t')).heap.size (some ⟨w.heap.size + 1, 0, none⟩) [a, b, c] ∧
    Below w.heap.size w ((w.alloc (.cells (bcells l) t fr)).alloc (.cells #[.string a, .string b, .string c] t')) := by
  have h1 : Rb (w.alloc (.cells (bcells l) t fr)) (w.heap.size + 1) (some ⟨w.heap.size, 0, none⟩) l := Rb.marked
  have hz : (w.alloc (.cells (bcells l) t fr)).heap.size = w.heap.size + 1 := by simp
  have hb : Below (w.heap.size + 1) (w.alloc (.cells (bcells l) t fr)) ((w.alloc (.cells (bcells l) t fr)).alloc (.cells #[.string a, .string b, .string c] t')) := (Below.refl _ _).alloc (by rw [hz]; exact Nat.le_refl _) _
  have hz2 : ((w.alloc (.cells (bcells l) t fr)).alloc (.cells #[.string a, .string b, .string c] t')).heap.size = w.heap.size + 2 := by simp
  have hk : Bk ((w.alloc (.cells (bcells l) t fr)).alloc (.cells #[.string a, .string b, .string c] t')) (w.heap.size + 1) t' #[.string a, .string b, .string c] := by
    have := Bk.new (w.alloc (.cells (bcells l) t fr)) t' #[.string a, .string b, .string c]
    rwa [hz] at this
  rw [hz2]
  refine ⟨(h1.below hb (Nat.le_refl _)).more (by omega), .inr ⟨w.heap.size + 1, 0, rfl, by omega, fun i hi => ?_⟩, by go_grown⟩
  rw [hk.cell]
  match i, hi with
  | 0, _ => rfl
  | 1, _ => rfl
  | 2, _ => rfl

set_option maxRecDepth 100000 in
set_option maxHeartbeats 8000000 in
theorem vhead_ok (w : World) (hG : Gl w) : Calls Tryd.prog 9 #[] w fun e w' => e = .returned (.bool true) ∧ Below w.heap.size w w' := by
  have HGB := Lib.hid (show ∀ u, Below w.heap.size w u → Gl u from fun u hu => hG.below hu hG.size)
  have HN1 := Lib.hid (show ∀ u b d, RC u (oneC b d) → Calls Tryd.prog 12 #[.agg #[.int .i64 9, .int .i64 9, .int .i64 9, .int .i64 9, .slice (some ⟨b, 0, none⟩) 1 1]] u fun e u' => ∃ v mb, e = .returned (.pointer (some ⟨v, 0, none⟩)) ∧ Va u' v mb [oneTn] [] ∧ u.heap.size ≤ mb ∧ Below u.heap.size u u' from fun u b d hr => (vnew_ok (oneC b d) u hr).mono fun e u' hh => by
    obtain ⟨h | ⟨_, v, mb, h1, h2, h3, h4, h5⟩, hb⟩ := hh
    · rw [one_right] at h; cases h.1
    · exact ⟨v, mb, h1, h2, h4, hb⟩)
  have HN0 := Lib.hid (show ∀ u, Calls Tryd.prog 12 #[.agg #[.int .i64 0, .int .i64 0, .int .i64 0, .int .i64 0, .slice none 0 0]] u fun e u' => e = .returned (.pointer none) ∧ Below u.heap.size u u' from fun u => (vnew_ok ⟨0, 0, 0, 0, [], none, 0⟩ u ⟨⟨.inl rfl, fun x hx => by cases hx⟩, ⟨Nat.le_refl _, by decide, fun _ => ⟨rfl, rfl⟩⟩⟩).mono fun e u' hh => by
    obtain ⟨⟨_, h⟩ | ⟨h, _⟩, hb⟩ := hh
    · exact ⟨h, hb⟩
    · have : cfgB (Cv.cg ⟨0, 0, 0, 0, [], none, 0⟩) = false := by kernel_rfl
      rw [this] at h; cases h)
  obtain ⟨P, hP⟩ : ∃ P, pS = P := ⟨_, rfl⟩
  have HPZ := Lib.hid (show P.size ≤ 1099511627776 by rw [← hP]; have := pS_size; omega)
  have HC1 := Lib.hid (show ∀ u v mb, Hv w v mb [] u → Calls Tryd.prog 20 #[.pointer (some ⟨v, 0, none⟩), .string ⟨#[97, 110, 110]⟩, .string ⟨#[107]⟩, .string ⟨#[110]⟩, .string P, .int .i64 4] u fun e u' => e = .returned (.int .i64 0) ∧ Hv w v mb [] u' from fun u v mb h => (vcheck_ok u v mb [oneTn] [] h.va (HGB.out _ h.l) annS kS nS P 4 (by decide) HPZ.out).mono fun e u' hh => ⟨by rw [hh.1, ← hP, hk_1], h.on hh.2⟩)
  have HC2 := Lib.hid (show ∀ u v mb, Hv w v mb [] u → Calls Tryd.prog 20 #[.pointer (some ⟨v, 0, none⟩), .string ⟨#[97, 110, 110]⟩, .string ⟨#[107]⟩, .string ⟨#[110]⟩, .string P, .int .i64 5] u fun e u' => e = .returned (.int .i64 3) ∧ Hv w v mb [] u' from fun u v mb h => (vcheck_ok u v mb [oneTn] [] h.va (HGB.out _ h.l) annS kS nS P 5 (by decide) HPZ.out).mono fun e u' hh => ⟨by rw [hh.1, ← hP, hk_2], h.on hh.2⟩)
  have HC3 := Lib.hid (show ∀ u v mb, Hv w v mb [] u → Calls Tryd.prog 20 #[.pointer (some ⟨v, 0, none⟩), .string ⟨#[97, 110, 110]⟩, .string ⟨#[107]⟩, .string ⟨#[109]⟩, .string P, .int .i64 4] u fun e u' => e = .returned (.int .i64 101) ∧ Hv w v mb [] u' from fun u v mb h => (vcheck_ok u v mb [oneTn] [] h.va (HGB.out _ h.l) annS kS mS P 4 (by decide) HPZ.out).mono fun e u' hh => ⟨by rw [hh.1, ← hP, hk_3], h.on hh.2⟩)
  have HC4 := Lib.hid (show ∀ u v mb, Hv w v mb g2R u → Calls Tryd.prog 20 #[.pointer (some ⟨v, 0, none⟩), .string ⟨#[97, 110, 110]⟩, .string ⟨#[107]⟩, .string ⟨#[110]⟩, .string P, .int .i64 4] u fun e u' => e = .returned (.int .i64 3) ∧ Hv w v mb g2R u' from fun u v mb h => (vcheck_ok u v mb [oneTn] g2R h.va (HGB.out _ h.l) annS kS nS P 4 (by decide) HPZ.out).mono fun e u' hh => ⟨by rw [hh.1, ← hP, hk_4], h.on hh.2⟩)
  have HG1 := Lib.hid (show ∀ u v mb, Hv w v mb [] u → Calls Tryd.prog 16 #[.pointer (some ⟨v, 0, none⟩), .string ⟨#[97, 110, 110]⟩, .string ⟨#[107]⟩, .int .i64 4] u fun e u' => e = .returned (.bool true) ∧ Hv w v mb [] u' from fun u v mb h => (vgood_ok u v mb [oneTn] [] h.va annS kS 4).mono fun e u' hh => ⟨by rw [hh.1, one_tk]; rfl, h.on hh.2⟩)
  have HG2 := Lib.hid (show ∀ u v mb, Hv w v mb g2R u → Calls Tryd.prog 16 #[.pointer (some ⟨v, 0, none⟩), .string ⟨#[97, 110, 110]⟩, .string ⟨#[107]⟩, .int .i64 0] u fun e u' => e = .returned (.bool false) ∧ Hv w v mb g2R u' from fun u v mb h => (vgood_ok u v mb [oneTn] g2R h.va annS kS 0).mono fun e u' hh => ⟨by rw [hh.1, one_tk, in_2]; rfl, h.on hh.2⟩)
  have HR1 := Lib.hid (show ∀ u v mb, Hv w v mb [] u → Calls Tryd.prog 14 #[.pointer (some ⟨v, 0, none⟩), .string ⟨#[97, 110, 110]⟩, .string ⟨#[107]⟩] u fun e u' => e = .returned (.bool true) ∧ Hv w v mb g1R u' from fun u v mb h => (vrev_ok u v mb [oneTn] [] h.va (by decide) annS kS).mono fun e u' hh => ⟨by rw [hh.1, one_tk]; rfl, h.rev (by have := hh.2.1; rw [one_tk] at this; exact this) hh.2.2⟩)
  have HR2 := Lib.hid (show ∀ u v mb, Hv w v mb g1R u → Calls Tryd.prog 14 #[.pointer (some ⟨v, 0, none⟩), .string ⟨#[97, 110, 110]⟩, .string ⟨#[107]⟩] u fun e u' => e = .returned (.bool false) ∧ Hv w v mb g2R u' from fun u v mb h => (vrev_ok u v mb [oneTn] g1R h.va (by decide) annS kS).mono fun e u' hh => ⟨by rw [hh.1, one_tk, in_1]; rfl, h.rev (by have := hh.2.1; rw [one_tk] at this; exact this) hh.2.2⟩)
  have HW1 := Lib.hid (show ∀ u v mb, Hv w v mb g2R u → Calls Tryd.prog 18 #[.pointer (some ⟨v, 0, none⟩), .string ⟨#[97, 110, 110]⟩, .string ⟨#[107]⟩, .string ⟨#[110]⟩] u fun e u' => e = .returned (.string P) ∧ Hv w v mb g2R u' from fun u v mb h => (vwant_ok u v mb [oneTn] g2R h.va (HGB.out _ h.l) annS kS nS (by decide)).mono fun e u' hh => ⟨by rw [hh.1, one_tk, ← hP]; rfl, h.on hh.2⟩)
  have HW2 := Lib.hid (show ∀ u v mb, Hv w v mb g2R u → Calls Tryd.prog 18 #[.pointer (some ⟨v, 0, none⟩), .string ⟨#[97, 110, 110]⟩, .string ⟨#[122]⟩, .string ⟨#[110]⟩] u fun e u' => e = .returned (.string ⟨#[]⟩) ∧ Hv w v mb g2R u' from fun u v mb h => (vwant_ok u v mb [oneTn] g2R h.va (HGB.out _ h.l) annS zS nS (by decide)).mono fun e u' hh => ⟨by rw [hh.1, one_tz]; rfl, h.on hh.2⟩)
  have HPS := Lib.hid (show (⟨(proofB [115] [annS, kS, nS]).toArray⟩ : ByteArray) = P from hP)
  clear hG hP
  have kc := fun (w : World) (C : Array Value) (n c : Nat) => Lib.run_convert_bytes_const (P := Tryd.prog) w 52 5 C n c Tryd.underlying52 Tryd.underlying5
  go_enter Tryd.func9, Tryd.ntmps9
  go_upto_region 4 with (first
    | (go_at_call 25; refine (vone_ok _).mono ?_; rintro e u1 ⟨b, d, rfl, hrc, hb⟩; have HRC := Lib.hid hrc; have HB1 := Lib.hid hb; clear hrc hb)
    | (go_at_call 12; (with_reducible refine (HN1.out _ b d HRC.out).mono ?_); rintro e u2 ⟨v, mb, rfl, hva, hmb, hb⟩; have HV2 := Lib.hid (show Hv w v mb [] u2 from ⟨hva, HB1.out.trans (hb.mono HB1.out.size), Nat.le_trans HB1.out.size hmb⟩); clear hva hmb hb)
    | (go_at_call 12; (with_reducible refine (HN0.out _).mono ?_); rintro e u3 ⟨rfl, hb⟩; have HV3 := Lib.hid (HV2.out.on hb); clear hb))
  go_wp2_with fail
  have h3 := words3 u3 5 9 [115] (1, 2) annS kS nS
  refine (rproof_ok (some ⟨u3.heap.size, 0, none⟩) 1 1 [115] (some ⟨u3.heap.size + 1, 0, none⟩) 3 3 [annS, kS, nS] _ rfl (Nat.le_refl _) (by omega) (by omega) h3.1 (by intro h; cases h) rfl (by omega) h3.2.1 (by decide) (texts3 _ _ _)).mono ?_
  rintro e u4 ⟨rfl, hb4⟩
  have HV4 := Lib.hid (HV3.out.on (h3.2.2.trans (hb4.mono h3.2.2.size)))
  clear h3 hb4
  rw [HPS.out]
  go_wp2_with (first
    | (go_at_call 20; (with_reducible refine (HC1.out _ v mb HV4.out).mono ?_); rintro e u5 ⟨rfl, hv⟩; have HV5 := Lib.hid hv; clear hv)
    | (go_at_call 20; (with_reducible refine (HC2.out _ v mb HV5.out).mono ?_); rintro e u6 ⟨rfl, hv⟩; have HV6 := Lib.hid hv; clear hv)
    | (go_at_call 20; (with_reducible refine (HC3.out _ v mb HV6.out).mono ?_); rintro e u7 ⟨rfl, hv⟩; have HV7 := Lib.hid hv; clear hv)
    | (go_at_call 16; (with_reducible refine (HG1.out _ v mb HV7.out).mono ?_); rintro e u8 ⟨rfl, hv⟩; have HV8 := Lib.hid hv; clear hv)
    | (go_at_call 14; (with_reducible refine (HR1.out _ v mb HV8.out).mono ?_); rintro e u9 ⟨rfl, hv⟩; have HV9 := Lib.hid hv; clear hv)
    | (go_at_call 14; (with_reducible refine (HR2.out _ v mb HV9.out).mono ?_); rintro e u10 ⟨rfl, hv⟩; have HV10 := Lib.hid hv; clear hv)
    | (go_at_call 20; (with_reducible refine (HC4.out _ v mb HV10.out).mono ?_); rintro e u11 ⟨rfl, hv⟩; have HV11 := Lib.hid hv; clear hv)
    | (go_at_call 18; (with_reducible refine (HW1.out _ v mb HV11.out).mono ?_); rintro e u12 ⟨rfl, hv⟩; have HV12 := Lib.hid hv; clear hv)
    | (go_at_call 18; (with_reducible refine (HW2.out _ v mb HV12.out).mono ?_); rintro e u13 ⟨rfl, hv⟩; have HV13 := Lib.hid hv; clear hv)
    | (go_at_call 16; (with_reducible refine (HG2.out _ v mb HV13.out).mono ?_); rintro e u14 ⟨rfl, hv⟩; have HV14 := Lib.hid hv; clear hv))
  go_ret
  exact ⟨by first | rfl | simp, HV14.out.l⟩
end Go.Proofs.YtijboiepockmjaaDoor

/- A configuration that came in, by value: from the row's reading to 'RC', with bounds out of the row's reach. -/
namespace Go.Proofs.YtijboiepockmjaaDoor
set_option linter.unusedVariables false
set_option maxRecDepth 100000
set_option linter.unusedSimpArgs false
open Go.ChangeShapes Go.WideShapes Go.ChangeAt Go.RowKit Go.Deep

section
variable {H : Type} {enc : TypeId × Value → H} {P : Program} {W : World} {t e : TypeId}

/-- Every weight of it is within the reach. -/
def Wt (P : Program) (t : TypeId) (d : DataW H) : Prop := ∀ n ∈ d.weights P t, n ≤ reachBytes
theorem wt_all : ∀ (l : List (DataW H)), (∀ n ∈ DataW.weightsAll P e l, n ≤ reachBytes) → ∀ x ∈ l, Wt P e x
  | [], _, _, h => by cases h
  | d :: r, h, x, hx => by
    simp only [DataW.weightsAll, List.mem_append] at h
    rcases List.mem_cons.1 hx with hx | hx
    · subst hx; exact fun n hn => h n (.inl hn)
    · exact wt_all r (fun n hn => h n (.inr hn)) x hx
theorem Wt.slice {el sp : List (DataW H)} (hu : P.underlying t = some (.slice e)) (h : Wt P t (.slice el sp)) : el.length * P.bytesOf e ≤ reachBytes ∧ ∀ x ∈ el, Wt P e x := by
  unfold Wt at h
  simp only [DataW.weights, hu] at h
  refine ⟨?_, wt_all el fun n hn => h n (by simp [hn])⟩
  have := h ((el.length + sp.length) * P.bytesOf e) (by simp)
  exact Nat.le_trans (Nat.mul_le_mul_right _ (Nat.le_add_right _ _)) this
theorem Wt.part {fs : Array Field} {parts : List (DataW H)} (hu : P.underlying t = some (.struct fs)) (h : Wt P t (.agg parts)) {j : Nat} {f : Field} {d : DataW H} (hf : fs[j]? = some f) (hd : parts[j]? = some d) : Wt P f.type d := fun n hn => by
  unfold Wt at h
  simp only [DataW.weights, hu] at h
  exact h n (DataW.weights_mem_each (j := j) (t := f.type) (d := d) (by simp [hf]) hd n hn)

theorem open_each {fs : Array Field} {A : Option Addr} {n c k : Nat} {y : DataW H × List MemPlace} {fuel : Nat} (ht : P.underlying t = some (.slice e)) (he : P.underlying e = some (.struct fs)) (ce : P.cellsOf e = k) (h1 : 1 ≤ P.bytesOf e)
    (h : DataW.trod enc P W 0 (fun _ => true) true fuel t [.slice A n c] = some y) (hw : Wt P t y.1) :
    (A = none ∧ n = 0 ∧ c = 0) ∨ ∃ a, A = some a ∧ n ≤ c ∧ c ≤ maxLen ∧ n ≤ reachBytes ∧ ∀ i, i < n → ∃ cs fuel' z, cs.length = k ∧ (∀ j, (hj : j < cs.length) → W.cell? (a.add (i * k + j)) = some cs[j]) ∧ DataW.trod enc P W 0 (fun _ => true) true fuel' e cs = some z ∧ Wt P e z.1 := by
  rcases open_slice ht h with ⟨hcs, _⟩ | ⟨a, len, cap, m, k', D, Pl, hcs, _, hl, hm, hmm, hy, hx⟩
  · left
    simpa using hcs
  · right
    simp only [List.cons.injEq, Value.slice.injEq, and_true] at hcs
    obtain ⟨rfl, rfl, rfl⟩ := hcs
    simp only [if_true] at hmm
    subst hmm
    subst hy
    obtain ⟨w1, w2⟩ := Wt.slice ht hw
    rw [List.length_map, List.length_range] at w1
    refine ⟨a, rfl, hl, hm, Nat.le_trans (Nat.le_mul_of_pos_right _ h1) w1, fun i hi => ?_⟩
    obtain ⟨cs', g1, g2⟩ := hx i (by omega)
    rw [ce] at g1
    obtain ⟨_, hlen, hcell⟩ := World.cells?_some g1
    refine ⟨cs', k', _, hlen, fun j hj => ?_, g2, w2 _ (List.mem_map.2 ⟨i, List.mem_range.2 hi, rfl⟩)⟩
    have := hcell j (by omega)
    rw [Go.Deep.add_add] at this
    rw [this]
    exact List.getElem?_eq_getElem hj
theorem open_field {fs : Array Field} {cs : List Value} {y : DataW H × List MemPlace} {fuel : Nat} (he : P.underlying e = some (.struct fs)) (hone : oneCellFields P fs = true) (h : DataW.trod enc P W 0 (fun _ => true) true fuel e cs = some y) (hw : Wt P e y.1)
    (i : Nat) (f : Field) (hf : fs[i]? = some f) (v : Value) (hv : cs[i]? = some v) : ∃ n z, DataW.trod enc P W 0 (fun _ => true) true n f.type [v] = some z ∧ Wt P f.type z.1 := by
  obtain ⟨xs, n, _, hx, _, hlen, hg⟩ := DataW.trod_struct he h
  subst hx
  obtain ⟨ho, hk⟩ := hone_of hone i f hf
  have hi : i < fs.size := (Array.getElem?_eq_some_iff.1 hf).1
  have h1 := hg i f hf
  have hil : i < cs.length := (List.getElem?_eq_some_iff.1 hv).1
  have e1 : (cs.drop i).take 1 = [v] := by
    rw [List.drop_eq_getElem_cons hil]
    have : cs[i] = v := (List.getElem?_eq_some_iff.1 hv).2
    rw [this]; rfl
  rw [ho, hk, e1] at h1
  refine ⟨n, xs[i]'(by omega), h1.trans (List.getElem?_eq_getElem (by omega)), Wt.part he hw hf ?_⟩
  rw [List.getElem?_map, List.getElem?_eq_getElem (by omega)]; rfl
theorem open_str {v : Value} {n : Nat} {z : DataW H × List MemPlace} (hu : P.underlying t = some .string) (h : DataW.trod enc P W 0 (fun _ => true) true n t [v] = some z) (hw : Wt P t z.1) : ∃ s : ByteArray, v = .string s ∧ s.size ≤ 140737488355328 := by
  obtain ⟨s, q, hz, _⟩ := DataW.trod_string hu h
  refine ⟨s, by simpa using q, ?_⟩
  rw [hz] at hw
  have h1 : s.data.toList.length ≤ reachBytes := hw _ (by simp [DataW.weights])
  have h2 : reachBytes < 140737488355328 := reachBytes_lt
  have h3 : s.data.toList.length = s.size := rfl
  omega
theorem open_num {v : Value} {n : Nat} {k : IntKind} {z : DataW H × List MemPlace} (hu : P.underlying t = some (.int k)) (h : DataW.trod enc P W 0 (fun _ => true) true n t [v] = some z) : ∃ a : Int, v = .int k a ∧ (Lit.int k a).wf = true := by
  obtain ⟨a, q, _, w⟩ := DataW.trod_int hu h
  exact ⟨a, by simpa using q, w⟩
theorem open_slice_of {v : Value} {n : Nat} {z : DataW H × List MemPlace} (hu : P.underlying t = some (.slice e)) (h : DataW.trod enc P W 0 (fun _ => true) true n t [v] = some z) : ∃ A m c, v = .slice A m c := by
  rcases open_slice hu h with ⟨hcs, _⟩ | ⟨a, len, cap, m, k', D, Pl, hcs, _⟩
  · exact ⟨none, 0, 0, by simpa using hcs⟩
  · exact ⟨some a, len, cap, by simpa using hcs⟩
end

theorem lit_u32 {a : Int} (h : (Lit.int .u32 a).wf = true) : 0 ≤ a ∧ a < 4294967296 := by
  have hmin : IntKind.u32.min = 0 := by decide
  have hmax : IntKind.u32.max = 4294967295 := by decide
  simp only [Lit.wf, Bool.and_eq_true, decide_eq_true_eq, hmin, hmax] at h
  omega
/-- The rows of a slice, out of what each place reads as. -/
theorem rw_of {β : Type} [Inhabited β] {W : World} {k : Nat} (hk : 0 < k) {f : β → Array Value} {A : Option Addr} {n c : Nat} {p : β → Prop} {R : Nat}
    (h : (A = none ∧ n = 0 ∧ c = 0) ∨ ∃ a, A = some a ∧ n ≤ c ∧ c ≤ maxLen ∧ n ≤ R ∧ ∀ i, i < n → ∃ x : β, p x ∧ ∀ j, j < k → W.cell? (a.add (i * k + j)) = (f x)[j]?)
    (hf : ∀ x, (f x).size = k) : ∃ l : List β, l.length = n ∧ Rw k f W A l ∧ Fit A l.length c ∧ n ≤ R ∧ ∀ x ∈ l, p x := by
  rcases h with ⟨rfl, rfl, rfl⟩ | ⟨a, rfl, hl, hm, hr, hx⟩
  · exact ⟨[], rfl, .inl rfl, ⟨by simp, by omega, fun _ => ⟨rfl, rfl⟩⟩, Nat.zero_le _, fun x hx => by cases hx⟩
  · obtain ⟨F, hF⟩ := Go.Deep.choose_lt hx
    unfold maxLen at hm
    refine ⟨(List.range n).map F, by simp, ?_, ⟨by simpa using hl, by omega, fun h => by cases h⟩, hr, fun x hx => ?_⟩
    · by_cases hn : n = 0
      · left; rw [hn]; rfl
      · right
        obtain ⟨b, o, spot⟩ := a
        obtain ⟨_, h0⟩ := hF 0 (by omega)
        have h00 := h0 0 hk
        rw [Array.getElem?_eq_getElem (by rw [hf]; exact hk)] at h00
        have hspot : spot = none := by simpa [Addr.add] using World.cell?_spot h00
        subst hspot
        refine ⟨b, o, rfl, ?_, fun i hi j hj => ?_⟩
        · have := World.block_lt_of_cell? W _ h00
          rw [add_plain] at this
          exact this
        · have hi' : i < n := by simpa using hi
          have e : ((List.range n).map F)[i] = F i := by simp
          rw [e]
          have := (hF i hi').2 j hj
          rw [add_plain] at this
          rw [Nat.add_assoc]
          exact this
    · obtain ⟨i, hi, rfl⟩ := List.mem_map.1 hx
      exact (hF i (List.mem_range.1 hi)).1

instance : Inhabited Nt := ⟨⟨0, 0⟩⟩
instance : Inhabited Tk := ⟨⟨ByteArray.empty, ByteArray.empty, 0⟩⟩
instance : Inhabited Tv := ⟨⟨⟨ByteArray.empty, 0, 0, [], []⟩, none, 0, none, 0⟩⟩

theorem net_fields : ∃ f0 f1, Tryd.prog.underlying 93 = some (.struct #[f0, f1]) ∧ f0.type = 91 ∧ f1.type = 3 ∧ oneCellFields Tryd.prog #[f0, f1] = true := ⟨_, _, Tryd.underlying93, rfl, rfl, by kernel_rfl⟩
theorem tok_fields : ∃ f0 f1 f2, Tryd.prog.underlying 48 = some (.struct #[f0, f1, f2]) ∧ f0.type = 9 ∧ f1.type = 9 ∧ f2.type = 2 ∧ oneCellFields Tryd.prog #[f0, f1, f2] = true := ⟨_, _, _, Tryd.underlying48, rfl, rfl, rfl, by kernel_rfl⟩
theorem ten_fields : ∃ f0 f1 f2 f3 f4, Tryd.prog.underlying 44 = some (.struct #[f0, f1, f2, f3, f4]) ∧ f0.type = 9 ∧ f1.type = 3 ∧ f2.type = 3 ∧ f3.type = 41 ∧ f4.type = 42 ∧ oneCellFields Tryd.prog #[f0, f1, f2, f3, f4] = true := ⟨_, _, _, _, _, Tryd.underlying44, rfl, rfl, rfl, rfl, rfl, by kernel_rfl⟩
theorem cfg_fields : ∃ f0 f1 f2 f3 f4, Tryd.prog.underlying 24 = some (.struct #[f0, f1, f2, f3, f4]) ∧ f0.type = 2 ∧ f1.type = 2 ∧ f2.type = 2 ∧ f3.type = 2 ∧ f4.type = 22 ∧ oneCellFields Tryd.prog #[f0, f1, f2, f3, f4] = true := ⟨_, _, _, _, _, Tryd.underlying24, rfl, rfl, rfl, rfl, rfl, by kernel_rfl⟩

theorem five {cs : List Value} (h : cs.length = 5) : ∃ a b c d e, cs = [a, b, c, d, e] := by
  match cs, h with
  | [a, b, c, d, e], _ => exact ⟨a, b, c, d, e, rfl⟩

section
variable {H : Type} {enc : TypeId × Value → H} {W : World}
theorem open_nets {v : Value} {n : Nat} {z : DataW H × List MemPlace} (h : DataW.trod enc Tryd.prog W 0 (fun _ => true) true n 41 [v] = some z) (hw : Wt Tryd.prog 41 z.1) :
    ∃ A c, ∃ l : List Nt, v = .slice A l.length c ∧ RN W A l ∧ Fit A l.length c ∧ l.length ≤ 140737488355328 ∧ ∀ x ∈ l, x.addr < 4294967296 := by
  obtain ⟨f0, f1, hu, t0, t1, hone⟩ := net_fields
  obtain ⟨A, m, c, rfl⟩ := open_slice_of Tryd.underlying41 h
  have h0 := open_each Tryd.underlying41 hu (k := 2) (by kernel_rfl) (of_decide_eq_true (by kernel_rfl)) h hw
  obtain ⟨l, hl, h1, h2, h3, h4⟩ := rw_of (β := Nt) (k := 2) (by omega) (f := ncs) (p := fun x => x.addr < 4294967296) (R := reachBytes) (W := W) (A := A) (n := m) (c := c) (h0.imp id fun ⟨a, e, k1, k2, k3, k4⟩ => ⟨a, e, k1, k2, k3, fun i hi => by
    obtain ⟨cs, fuel', y, q1, q2, q3, q4⟩ := k4 i hi
    match cs, q1 with
    | [v0, v1], _ =>
      obtain ⟨n0, z0, r0, _⟩ := open_field hu hone q3 q4 0 f0 rfl v0 rfl
      obtain ⟨n1, z1, r1, _⟩ := open_field hu hone q3 q4 1 f1 rfl v1 rfl
      rw [t0] at r0
      rw [t1] at r1
      obtain ⟨x0, rfl, w0⟩ := open_num Tryd.underlying91 r0
      obtain ⟨x1, rfl, w1⟩ := open_num Tryd.underlying3 r1
      have hx : 0 ≤ x0 ∧ x0 < 4294967296 := by
        have h1 := lit_u32 w0
        exact h1
      refine ⟨⟨x0.toNat, x1⟩, by show x0.toNat < _; omega, fun j hj => ?_⟩
      have e0 : ((x0.toNat : Nat) : Int) = x0 := by omega
      have := q2 j hj
      rw [this]
      match j, hj with
      | 0, _ => simp [e0]
      | 1, _ => rfl⟩) (fun _ => rfl)
  have h5 : reachBytes < 140737488355328 := reachBytes_lt
  exact ⟨A, c, l, by rw [hl], h1, h2, by omega, h4⟩
theorem open_toks {v : Value} {n : Nat} {z : DataW H × List MemPlace} (h : DataW.trod enc Tryd.prog W 0 (fun _ => true) true n 42 [v] = some z) (hw : Wt Tryd.prog 42 z.1) :
    ∃ A c, ∃ l : List Tk, v = .slice A l.length c ∧ RK W A l ∧ Fit A l.length c ∧ l.length ≤ 140737488355328 ∧ ∀ x ∈ l, x.name.size ≤ 140737488355328 ∧ x.sec.size ≤ 140737488355328 := by
  obtain ⟨f0, f1, f2, hu, t0, t1, t2, hone⟩ := tok_fields
  obtain ⟨A, m, c, rfl⟩ := open_slice_of Tryd.underlying42 h
  have h0 := open_each Tryd.underlying42 hu (k := 3) (by kernel_rfl) (of_decide_eq_true (by kernel_rfl)) h hw
  obtain ⟨l, hl, h1, h2, h3, h4⟩ := rw_of (β := Tk) (k := 3) (by omega) (f := kcs) (p := fun x => x.name.size ≤ 140737488355328 ∧ x.sec.size ≤ 140737488355328) (R := reachBytes) (W := W) (A := A) (n := m) (c := c) (h0.imp id fun ⟨a, e, k1, k2, k3, k4⟩ => ⟨a, e, k1, k2, k3, fun i hi => by
    obtain ⟨cs, fuel', y, q1, q2, q3, q4⟩ := k4 i hi
    match cs, q1 with
    | [v0, v1, v2], _ =>
      obtain ⟨n0, z0, r0, y0⟩ := open_field hu hone q3 q4 0 f0 rfl v0 rfl
      obtain ⟨n1, z1, r1, y1⟩ := open_field hu hone q3 q4 1 f1 rfl v1 rfl
      obtain ⟨n2, z2, r2, _⟩ := open_field hu hone q3 q4 2 f2 rfl v2 rfl
      rw [t0] at r0 y0
      rw [t1] at r1 y1
      rw [t2] at r2
      obtain ⟨x0, rfl, w0⟩ := open_str Tryd.underlying9 r0 y0
      obtain ⟨x1, rfl, w1⟩ := open_str Tryd.underlying9 r1 y1
      obtain ⟨x2, rfl, _⟩ := open_num Tryd.underlying2 r2
      refine ⟨⟨x0, x1, x2⟩, ⟨w0, w1⟩, fun j hj => ?_⟩
      have := q2 j hj
      rw [this]
      match j, hj with
      | 0, _ => rfl
      | 1, _ => rfl
      | 2, _ => rfl⟩) (fun _ => rfl)
  have h5 : reachBytes < 140737488355328 := reachBytes_lt
  exact ⟨A, c, l, by rw [hl], h1, h2, by omega, h4⟩
/-- A tenant that came in. -/
structure InTv (W : World) (x : Tv) : Prop where
  r : RT1 W x
  nn : x.t.nets.length ≤ 140737488355328
  nk : x.t.toks.length ≤ 140737488355328
theorem open_tens {v : Value} {n : Nat} {z : DataW H × List MemPlace} (h : DataW.trod enc Tryd.prog W 0 (fun _ => true) true n 22 [v] = some z) (hw : Wt Tryd.prog 22 z.1) :
    ∃ A c, ∃ l : List Tv, v = .slice A l.length c ∧ Rw 5 tcs W A l ∧ Fit A l.length c ∧ l.length ≤ 140737488355328 ∧ ∀ x ∈ l, InTv W x := by
  obtain ⟨f0, f1, f2, f3, f4, hu, t0, t1, t2, t3, t4, hone⟩ := ten_fields
  obtain ⟨A, m, c, rfl⟩ := open_slice_of Tryd.underlying22 h
  have h0 := open_each Tryd.underlying22 hu (k := 5) (by kernel_rfl) (of_decide_eq_true (by kernel_rfl)) h hw
  obtain ⟨l, hl, h1, h2, h3, h4⟩ := rw_of (β := Tv) (k := 5) (by omega) (f := tcs) (p := fun x => InTv W x) (R := reachBytes) (W := W) (A := A) (n := m) (c := c) (h0.imp id fun ⟨a, e, k1, k2, k3, k4⟩ => ⟨a, e, k1, k2, k3, fun i hi => by
    obtain ⟨cs, fuel', y, q1, q2, q3, q4⟩ := k4 i hi
    obtain ⟨v0, v1, v2, v3, v4, rfl⟩ := five q1
    obtain ⟨n0, z0, r0, y0⟩ := open_field hu hone q3 q4 0 f0 rfl v0 rfl
    obtain ⟨n1, z1, r1, _⟩ := open_field hu hone q3 q4 1 f1 rfl v1 rfl
    obtain ⟨n2, z2, r2, _⟩ := open_field hu hone q3 q4 2 f2 rfl v2 rfl
    obtain ⟨n3, z3, r3, y3⟩ := open_field hu hone q3 q4 3 f3 rfl v3 rfl
    obtain ⟨n4, z4, r4, y4⟩ := open_field hu hone q3 q4 4 f4 rfl v4 rfl
    rw [t0] at r0 y0
    rw [t1] at r1
    rw [t2] at r2
    rw [t3] at r3 y3
    rw [t4] at r4 y4
    obtain ⟨x0, rfl, w0⟩ := open_str Tryd.underlying9 r0 y0
    obtain ⟨x1, rfl, _⟩ := open_num Tryd.underlying3 r1
    obtain ⟨x2, rfl, _⟩ := open_num Tryd.underlying3 r2
    obtain ⟨An, cn, ln, rfl, b1, b2, b3, b4⟩ := open_nets r3 y3
    obtain ⟨Ak, ck, lk, rfl, d1, d2, d3, d4⟩ := open_toks r4 y4
    refine ⟨⟨⟨x0, x1, x2, ln, lk⟩, An, cn, Ak, ck⟩, ⟨⟨b1, d1, b2, d2, b4, w0, d4⟩, b3, d3⟩, fun j hj => ?_⟩
    have := q2 j hj
    rw [this]
    match j, hj with
    | 0, _ => rfl
    | 1, _ => rfl
    | 2, _ => rfl
    | 3, _ => rfl
    | 4, _ => rfl⟩) (fun _ => rfl)
  have h5 : reachBytes < 140737488355328 := reachBytes_lt
  exact ⟨A, c, l, by rw [hl], h1, h2, by omega, h4⟩
end
/-- A configuration that came in. -/
structure InCf (W : World) (x : Cv) : Prop where
  rc : RC W x
  n : x.ts.length ≤ 140737488355328
  each : ∀ y ∈ x.ts, InTv W y

set_option maxRecDepth 100000 in
theorem open_cfg {H : Type} {enc : TypeId × Value → H} {W : World} {r : Reach} {b0 : Nat} {v : Value} {d : DataW H} {p : List MemPlace} {ts : List TypeId} {ds : List (DataW H)} {j : Nat} (hv : Value.okWide Tryd.prog W r b0 24 v) (h : DataW.Trod enc Tryd.prog W 0 (fun _ => true) true 24 v d p)
    (hz : (DataW.weightsEach Tryd.prog ts ds).all (· ≤ reachBytes) = true) (hj : ts[j]? = some 24) (hd : ds[j]? = some d) : ∃ x : Cv, v = .agg (ccs x) ∧ InCf W x := by
  obtain ⟨f0, f1, f2, f3, f4, hu, t0, t1, t2, t3, t4, hone⟩ := cfg_fields
  obtain ⟨cs, rfl, hsz⟩ := okWide_struct hu hv
  have hsz5 : cs.toList.length = 5 := by rw [Array.length_toList, hsz]; exact (show Tryd.prog.cellsOf 24 = 5 by kernel_rfl)
  obtain ⟨v0, v1, v2, v3, v4, hcs⟩ := five hsz5
  have hcs' : cs = #[v0, v1, v2, v3, v4] := by rw [← hcs]
  subst hcs'
  obtain ⟨fuel, hfu⟩ := h
  have hw : Wt Tryd.prog 24 d := fun n hn => by
    have := List.all_eq_true.1 hz _ (DataW.weights_mem_each hj hd n hn)
    simpa using this
  have hfu' : DataW.trod enc Tryd.prog W 0 (fun _ => true) true fuel 24 [v0, v1, v2, v3, v4] = some (d, p) := hfu
  obtain ⟨n0, z0, r0, _⟩ := open_field hu hone hfu' hw 0 f0 rfl v0 rfl
  obtain ⟨n1, z1, r1, _⟩ := open_field hu hone hfu' hw 1 f1 rfl v1 rfl
  obtain ⟨n2, z2, r2, _⟩ := open_field hu hone hfu' hw 2 f2 rfl v2 rfl
  obtain ⟨n3, z3, r3, _⟩ := open_field hu hone hfu' hw 3 f3 rfl v3 rfl
  obtain ⟨n4, z4, r4, y4⟩ := open_field hu hone hfu' hw 4 f4 rfl v4 rfl
  rw [t0] at r0
  rw [t1] at r1
  rw [t2] at r2
  rw [t3] at r3
  rw [t4] at r4 y4
  obtain ⟨x0, rfl, _⟩ := open_num Tryd.underlying2 r0
  obtain ⟨x1, rfl, _⟩ := open_num Tryd.underlying2 r1
  obtain ⟨x2, rfl, _⟩ := open_num Tryd.underlying2 r2
  obtain ⟨x3, rfl, _⟩ := open_num Tryd.underlying2 r3
  obtain ⟨A, c, l, rfl, b1, b2, b3, b4⟩ := open_tens r4 y4
  exact ⟨⟨x0, x1, x2, x3, l, A, c⟩, rfl, ⟨⟨⟨b1, fun y hy => (b4 y hy).r⟩, b2⟩, b3, b4⟩⟩
end Go.Proofs.YtijboiepockmjaaDoor
