/- The document's own sums under keys. (Written by gen_rmac.py.) -/
import Derived.Test.YtinbegnojfpeiaaDoorG5
import Derived.Test.YtinbegnojfpeiaaDoorRSum
import Derived.Test.YtinbegnojfpeiaaDoorG9
namespace Go.Proofs.YtinbegnojfpeiaaDoor
set_option linter.unusedVariables false
set_option maxRecDepth 100000
set_option linter.unusedSimpArgs false
open Go.RowKit

theorem OB.put {w : World} {B : Nat} {e : TypeId} {g c : Nat} {l : List UInt8} (h : OB w B e (some ⟨g, 0, none⟩) c l) (k : Nat) (x : UInt8) : OB (w.setCell ⟨g, k, none⟩ (.int .u8 (x.toNat : Int))) B e (some ⟨g, 0, none⟩) c (l.set k x) := by
  have := (World.ownsRow.stored h k (.int .u8 (x.toNat : Int))).1
  unfold OB
  rw [List.length_set, List.map_set]
  exact this
theorem Rb.bk_more {w : World} {B g : Nat} {t : TypeId} {l : List UInt8} (h : Bk w g t (bcells l)) (hB : g < B) : Rb w B (some ⟨g, 0, none⟩) l := (Rb.bk h).more hB
theorem pad_step (key : List UInt8) (x : UInt8) (i : Nat) (h : i < 64) : ((padB key x).take i ++ (keyB key).drop i).length = 64 ∧ ((padB key x).take i ++ (keyB key).drop i)[i]? = some ((keyB key).getD i 0) ∧
    ((padB key x).take i ++ (keyB key).drop i).set i ((keyB key).getD i 0 ^^^ x) = (padB key x).take (i + 1) ++ (keyB key).drop (i + 1) := by
  have hp := padB_len key x
  have hk := keyB_len key
  have ht : ((padB key x).take i).length = i := by rw [List.length_take]; omega
  have hd : (keyB key).drop i = (keyB key).getD i 0 :: (keyB key).drop (i + 1) := by
    rw [List.drop_eq_getElem_cons (by omega), List.getD, List.getElem?_eq_getElem (by omega)]; rfl
  refine ⟨by rw [List.length_append, ht, List.length_drop]; omega, ?_, ?_⟩
  · rw [List.getElem?_append_right (by omega), ht, Nat.sub_self, hd]; rfl
  · rw [List.set_append_right _ _ (by omega), ht, Nat.sub_self, hd, List.set_cons_zero, List.take_add_one, List.append_assoc]
    congr 1
    have : (padB key x)[i]? = some ((keyB key).getD i 0 ^^^ x) := by
      unfold padB
      rw [List.getElem?_map, List.getElem?_eq_getElem (by omega), List.getD, List.getElem?_eq_getElem (by omega)]; rfl
    rw [this]; rfl

set_option maxRecDepth 100000 in
set_option maxHeartbeats 4000000 in
theorem rpadded_ok (A : Option Addr) (n c : Nat) (key : List UInt8) (x : UInt8) (w : World) (hl : key.length = n) (hc : n ≤ c) (hn : n ≤ 1099511627776) (hnil : A = none → n = 0 ∧ c = 0) (hR : Rb w w.heap.size A key) :
    Calls Tryd.prog 41 #[.slice A n c, .int .u8 (x.toNat : Int)] w fun e w' => ∃ g c2, e = .returned (.slice (some ⟨g, 0, none⟩) 64 c2) ∧ OB w' w.heap.size 5 (some ⟨g, 0, none⟩) c2 (padB key x) ∧ Below w.heap.size w w' := by
  have HL := Lib.hid hl
  have HR := Lib.hid hR
  have HNIL := Lib.hid hnil
  have HN := Lib.hid hn
  have HXX : ∀ a b : UInt8, bits .xor .u8 (a.toNat : Int) (b.toNat : Int) = ((a ^^^ b).toNat : Int) := b_xor
  have hE : OB (w.alloc (.cells #[] 5)) w.heap.size 5 (some ⟨w.heap.size, 0, none⟩) 0 [] := OB.new 5 [] (Nat.le_refl _) (by decide)
  have HE := Lib.hid hE
  have HZ3 := Lib.hid (show w.heap.size ≤ (w.alloc (.cells #[] 5)).heap.size by simp)
  have HRW := Lib.hid (show Rb (w.alloc (.cells #[] 5)) (w.alloc (.cells #[] 5)).heap.size A key from (HR.out.below ((Below.refl w.heap.size w).alloc (Nat.le_refl _) _) (Nat.le_refl _)).more HZ3.out)
  clear hl hR hnil hE
  by_cases h64 : 64 < n
  · have hi1 : (64 : Int) < (n : Int) := by omega
    have HSK := Lib.hid (show shortK key = sum key by unfold shortK; rw [if_pos (by rw [HL.out]; exact h64)])
    have HEI := Lib.hid (show (Tryd.prog.info? 68).map (·.size) = some (bcells (sum key)).size by rw [bcells_size, sum_len]; kernel_rfl)
    have HEI2 := Lib.hid (show (bcells (List.replicate 32 0)).size = (bcells (sum key)).size by rw [bcells_size, bcells_size, sum_len, List.length_replicate])
    go_enter Tryd.func41, Tryd.ntmps41
    go_wp2_with (at_builtin; refine wp_app_any rfl (.tmp 8) (.tmp 9) 50 5 rfl Tryd.underlying50 bytesInfo w.heap.size [] _ 0 0 rfl rfl HE.out key A n c _ rfl HL.out HNIL.out HRW.out (by have := HL.out; have := HN.out; simp only [List.length_nil]; omega) HZ3.out ?_; intro A4 c4 w4 ho4 hg4 hb4; rw [show (([] : List UInt8) ++ key).length = n from HL.out])
    have HO4 := Lib.hid (show OB w4 w.heap.size 5 A4 c4 key from ho4)
    have HB4 := Lib.hid (show Below w.heap.size w w4 from ((Below.refl _ _).alloc (Nat.le_refl _) _).trans hb4)
    clear ho4 hg4 hb4 HE HZ3 HRW
    refine (rsum_ok A4 n c4 key _ HL.out (by have := HO4.out.cap; rw [HL.out] at this; exact this.1) HN.out (by intro h; exfalso; obtain ⟨g, e, _⟩ := HO4.out.form (by intro h0; have := HL.out; rw [h0] at this; simp at this; omega); rw [h] at e; cases e) HO4.out.rb).mono ?_
    rintro e w5 ⟨rfl, hb5⟩
    have HB5 := Lib.hid (HB4.out.trans (hb5.mono HB4.out.size))
    clear hb5 HO4 HB4
    go_upto_region 4 with (refine wpList_store_row rfl 68 (.tmp 6) (.tmp 15) rfl w5.heap.size _ rfl rfl 68 _ (zeros_new w5) HEI.out HEI2.out (bcells_one _) ?_)
    refine gen_world (fun u => Bk u w5.heap.size 68 (bcells (sum key)) ∧ Below w.heap.size w u) ⟨(zeros_new w5).setRow _, Below.setRow (HB5.out.alloc HB5.out.size _) _ HB5.out.size _⟩ (fun w6 hw6 => ?_)
    obtain ⟨gx, hgx⟩ : ∃ g, g = w5.heap.size := ⟨_, rfl⟩
    rw [← hgx] at hw6 ⊢
    have HX6 := Lib.hid hw6.1
    have HB6 := Lib.hid hw6.2
    clear hw6 hgx HB5
    have hE : OB (w6.alloc (.cells #[] 5)) w.heap.size 5 (some ⟨w6.heap.size, 0, none⟩) 0 [] := OB.new 5 [] HB6.out.size (by decide)
    have HE := Lib.hid hE
    have HRX := Lib.hid (show Rb (w6.alloc (.cells #[] 5)) (w6.alloc (.cells #[] 5)).heap.size (some ⟨gx, 0, none⟩) (sum key) from Rb.bk_more (HX6.out.alloc _) (by have := HX6.out.lt; simp only [World.size_alloc]; omega))
    have HZ6 := Lib.hid (show w.heap.size ≤ (w6.alloc (.cells #[] 5)).heap.size by have := HB6.out.size; simp only [World.size_alloc]; omega)
    clear hE
    go_wp2_with (at_builtin; refine wp_app rfl (.tmp 16) (.tmp 17) 50 5 rfl Tryd.underlying50 bytesInfo w.heap.size [] _ 0 0 rfl rfl HE.out (sum key) _ 32 _ _ rfl (sum_len _) HRX.out (by rw [sum_len]; decide) HZ6.out ?_; intro A3 c3 w7 ho7 hg7 hb7; rw [show (([] : List UInt8) ++ sum key).length = 32 from sum_len _])
    have HO := Lib.hid (show OB w7 w.heap.size 5 A3 c3 (shortK key) by rw [HSK.out]; exact ho7)
    have HBQ := Lib.hid (show Below w.heap.size w w7 from (HB6.out.alloc HB6.out.size _).trans hb7)
    obtain ⟨L, hL⟩ : ∃ L, L = 32 := ⟨_, rfl⟩
    have HL3 := Lib.hid (show (shortK key).length = L by rw [HSK.out, sum_len, hL])
    have hL64 : L ≤ 64 := by omega
    rw [← hL]
    clear ho7 hg7 hb7 HE HRX HZ6 HX6 HB6 hL h64 hi1
    go_wp2_with fail
    go_loopw [5] (fun v5 wr => ∃ (j M : Nat) (A4 : Option Addr) (c4 : Nat), v5 = .slice A4 M c4 ∧ M = L + j ∧ M ≤ 64 ∧ Hid (OB wr w.heap.size 5 A4 c4 (shortK key ++ List.replicate j 0)) ∧ Hid (Below w.heap.size w wr)) (fun v5 _ => 64 - sLen v5)
    case atStart => exact ⟨0, L, A3, c3, rfl, rfl, hL64, Lib.hid (by rw [List.replicate_zero, List.append_nil]; exact HO.out), HBQ⟩
    case round =>
      obtain ⟨j, M, A4, c4, rfl, hM, hM64, HO4, HB4⟩ := hrel
      clear HO HBQ
      have HML := Lib.hid (show (shortK key ++ List.replicate j 0).length = M by rw [List.length_append, List.length_replicate, HL3.out, hM])
      by_cases hlt : M < 64
      · have hlt2 : (M : Int) < 64 := by omega
        have HMJ := Lib.hid hM
        clear hM
        go_wp2_with (at_builtin; refine wp_app rfl (.tmp 22) (.tmp 23) 50 5 rfl Tryd.underlying50 bytesInfo w.heap.size (shortK key ++ List.replicate j 0) A4 M c4 rfl HML.out (HO4.out.alloc _) [0] _ 1 _ _ rfl rfl (Rb.one (w := wr) (c := 0) rfl rfl) (by rw [HML.out]; simp only [List.length_singleton]; omega) (by have := HB4.out.size; simp only [World.size_alloc]; omega) ?_; intro A6 c6 w6 ho6 hg6 hb6; rw [show ((shortK key ++ List.replicate j (0 : UInt8) ++ [(0 : UInt8)] : List UInt8)).length = M + 1 by rw [List.length_append, HML.out]; rfl])
        go_roundw
        case rel => exact ⟨j + 1, M + 1, A6, c6, rfl, by have := HMJ.out; omega, by omega, Lib.hid (by rw [List.replicate_succ', ← List.append_assoc]; exact ho6), Lib.hid ((HB4.out.alloc HB4.out.size _).trans hb6)⟩
        case measure => simp [sLen]; omega
      · have hMe : M = 64 := by omega
        subst hMe
        have HKB := Lib.hid (show shortK key ++ List.replicate j 0 = keyB key by unfold keyB; rw [HL3.out, show 64 - L = j by omega])
        rw [HKB.out] at HO4 HML
        obtain ⟨g, rfl, hg1, hg2⟩ := HO4.out.form (by intro h; have := keyB_len key; rw [h] at this; simp at this)
        have HG1 := Lib.hid hg1
        have HO5 := Lib.hid (show OB wr w.heap.size 5 (some ⟨g, 0, none⟩) c4 ((padB key x).take 0 ++ (keyB key).drop 0) by rw [List.take_zero, List.nil_append, List.drop_zero]; exact HO4.out)
        clear HO4 hM hlt hg1 hg2 HKB
        go_wp2_with fail
        go_loopw [7] (fun v7 wr => ∃ i : Nat, i ≤ 64 ∧ v7 = .int .i64 i ∧ Hid (OB wr w.heap.size 5 (some ⟨g, 0, none⟩) c4 ((padB key x).take i ++ (keyB key).drop i)) ∧ Hid (Below w.heap.size w wr)) (fun v7 _ => 64 - (intOf v7).toNat)
        case atStart => exact ⟨0, by omega, rfl, HO5, HB4⟩
        case round =>
          obtain ⟨i, hi, rfl, HP, HBB⟩ := hrel
          clear HO5 HB4
          by_cases hi1 : i < 64
          · have hi2 : (i : Int) < 64 := by omega
            have HST := Lib.hid (pad_step key x i hi1)
            have hcell : wr.cell? ⟨g, i, none⟩ = some (.int .u8 (((keyB key).getD i 0).toNat : Int)) := by
              have := World.ownsRow.cellAt HP.out i (by rw [Nat.mul_one, HST.out.1]; exact hi1)
              rw [this, List.getElem?_map, HST.out.2.1]; rfl
            have hfro : wr.frozen? ⟨g, i, none⟩ = false := World.ownsRow.frozenAt HP.out i
            have HSE := Lib.hid (HP.out.put i ((keyB key).getD i 0 ^^^ x))
            rw [HST.out.2.2] at HSE
            obtain ⟨k, hk⟩ : ∃ k, k = (keyB key).getD i 0 := ⟨_, rfl⟩
            rw [← hk] at hcell HSE
            have HYY := Lib.hid (show (.int .u8 (((k ^^^ x).toNat : Nat) : Int) : Value) = .int .u8 ((k.toNat ^^^ x.toNat : Nat) : Int) by rw [UInt8.toNat_xor])
            clear hk
            go_wp2_with fail
            go_roundw
            case rel => exact ⟨i + 1, by omega, by go_num, Lib.hid (by have := HSE.out; rw [HYY.out] at this; exact this), Lib.hid (HBB.out.setCell (p := ⟨g, i, none⟩) HG1.out _)⟩
            case measure => simp [intOf]; omega
          · have hi2 : (64 : Int) ≤ (i : Int) := by omega
            have HFI := Lib.hid (show (padB key x).take i ++ (keyB key).drop i = padB key x by rw [List.take_of_length_le (by rw [padB_len]; omega), List.drop_of_length_le (by rw [keyB_len]; omega), List.append_nil])
            rw [HFI.out] at HP
            go_wp2_with fail
            go_ret
            exact ⟨g, c4, rfl, HP.out, HBB.out⟩
  · have hi1 : (n : Int) ≤ 64 := by omega
    have HSK := Lib.hid (show shortK key = key by unfold shortK; rw [if_neg (by rw [HL.out]; exact h64)])
    go_enter Tryd.func41, Tryd.ntmps41
    go_wp2_with (at_builtin; refine wp_app_any rfl (.tmp 8) (.tmp 9) 50 5 rfl Tryd.underlying50 bytesInfo w.heap.size [] _ 0 0 rfl rfl HE.out key A n c _ rfl HL.out HNIL.out HRW.out (by have := HL.out; have := HN.out; simp only [List.length_nil]; omega) HZ3.out ?_; intro A3 c3 w7 ho7 hg7 hb7; rw [show (([] : List UInt8) ++ key).length = n from HL.out])
    have HO := Lib.hid (show OB w7 w.heap.size 5 A3 c3 (shortK key) by rw [HSK.out]; exact ho7)
    have HBQ := Lib.hid (show Below w.heap.size w w7 from ((Below.refl _ _).alloc (Nat.le_refl _) _).trans hb7)
    obtain ⟨L, hL⟩ : ∃ L, L = n := ⟨_, rfl⟩
    have HL3 := Lib.hid (show (shortK key).length = L by rw [HSK.out, HL.out, hL])
    have hL64 : L ≤ 64 := by omega
    rw [← hL]
    clear ho7 hg7 hb7 HE HZ3 HRW hL h64 hi1
    go_wp2_with fail
    go_loopw [5] (fun v5 wr => ∃ (j M : Nat) (A4 : Option Addr) (c4 : Nat), v5 = .slice A4 M c4 ∧ M = L + j ∧ M ≤ 64 ∧ Hid (OB wr w.heap.size 5 A4 c4 (shortK key ++ List.replicate j 0)) ∧ Hid (Below w.heap.size w wr)) (fun v5 _ => 64 - sLen v5)
    case atStart => exact ⟨0, L, A3, c3, rfl, rfl, hL64, Lib.hid (by rw [List.replicate_zero, List.append_nil]; exact HO.out), HBQ⟩
    case round =>
      obtain ⟨j, M, A4, c4, rfl, hM, hM64, HO4, HB4⟩ := hrel
      clear HO HBQ
      have HML := Lib.hid (show (shortK key ++ List.replicate j 0).length = M by rw [List.length_append, List.length_replicate, HL3.out, hM])
      by_cases hlt : M < 64
      · have hlt2 : (M : Int) < 64 := by omega
        have HMJ := Lib.hid hM
        clear hM
        go_wp2_with (at_builtin; refine wp_app rfl (.tmp 22) (.tmp 23) 50 5 rfl Tryd.underlying50 bytesInfo w.heap.size (shortK key ++ List.replicate j 0) A4 M c4 rfl HML.out (HO4.out.alloc _) [0] _ 1 _ _ rfl rfl (Rb.one (w := wr) (c := 0) rfl rfl) (by rw [HML.out]; simp only [List.length_singleton]; omega) (by have := HB4.out.size; simp only [World.size_alloc]; omega) ?_; intro A6 c6 w6 ho6 hg6 hb6; rw [show ((shortK key ++ List.replicate j (0 : UInt8) ++ [(0 : UInt8)] : List UInt8)).length = M + 1 by rw [List.length_append, HML.out]; rfl])
        go_roundw
        case rel => exact ⟨j + 1, M + 1, A6, c6, rfl, by have := HMJ.out; omega, by omega, Lib.hid (by rw [List.replicate_succ', ← List.append_assoc]; exact ho6), Lib.hid ((HB4.out.alloc HB4.out.size _).trans hb6)⟩
        case measure => simp [sLen]; omega
      · have hMe : M = 64 := by omega
        subst hMe
        have HKB := Lib.hid (show shortK key ++ List.replicate j 0 = keyB key by unfold keyB; rw [HL3.out, show 64 - L = j by omega])
        rw [HKB.out] at HO4 HML
        obtain ⟨g, rfl, hg1, hg2⟩ := HO4.out.form (by intro h; have := keyB_len key; rw [h] at this; simp at this)
        have HG1 := Lib.hid hg1
        have HO5 := Lib.hid (show OB wr w.heap.size 5 (some ⟨g, 0, none⟩) c4 ((padB key x).take 0 ++ (keyB key).drop 0) by rw [List.take_zero, List.nil_append, List.drop_zero]; exact HO4.out)
        clear HO4 hM hlt hg1 hg2 HKB
        go_wp2_with fail
        go_loopw [7] (fun v7 wr => ∃ i : Nat, i ≤ 64 ∧ v7 = .int .i64 i ∧ Hid (OB wr w.heap.size 5 (some ⟨g, 0, none⟩) c4 ((padB key x).take i ++ (keyB key).drop i)) ∧ Hid (Below w.heap.size w wr)) (fun v7 _ => 64 - (intOf v7).toNat)
        case atStart => exact ⟨0, by omega, rfl, HO5, HB4⟩
        case round =>
          obtain ⟨i, hi, rfl, HP, HBB⟩ := hrel
          clear HO5 HB4
          by_cases hi1 : i < 64
          · have hi2 : (i : Int) < 64 := by omega
            have HST := Lib.hid (pad_step key x i hi1)
            have hcell : wr.cell? ⟨g, i, none⟩ = some (.int .u8 (((keyB key).getD i 0).toNat : Int)) := by
              have := World.ownsRow.cellAt HP.out i (by rw [Nat.mul_one, HST.out.1]; exact hi1)
              rw [this, List.getElem?_map, HST.out.2.1]; rfl
            have hfro : wr.frozen? ⟨g, i, none⟩ = false := World.ownsRow.frozenAt HP.out i
            have HSE := Lib.hid (HP.out.put i ((keyB key).getD i 0 ^^^ x))
            rw [HST.out.2.2] at HSE
            obtain ⟨k, hk⟩ : ∃ k, k = (keyB key).getD i 0 := ⟨_, rfl⟩
            rw [← hk] at hcell HSE
            have HYY := Lib.hid (show (.int .u8 (((k ^^^ x).toNat : Nat) : Int) : Value) = .int .u8 ((k.toNat ^^^ x.toNat : Nat) : Int) by rw [UInt8.toNat_xor])
            clear hk
            go_wp2_with fail
            go_roundw
            case rel => exact ⟨i + 1, by omega, by go_num, Lib.hid (by have := HSE.out; rw [HYY.out] at this; exact this), Lib.hid (HBB.out.setCell (p := ⟨g, i, none⟩) HG1.out _)⟩
            case measure => simp [intOf]; omega
          · have hi2 : (64 : Int) ≤ (i : Int) := by omega
            have HFI := Lib.hid (show (padB key x).take i ++ (keyB key).drop i = padB key x by rw [List.take_of_length_le (by rw [padB_len]; omega), List.drop_of_length_le (by rw [keyB_len]; omega), List.append_nil])
            rw [HFI.out] at HP
            go_wp2_with fail
            go_ret
            exact ⟨g, c4, rfl, HP.out, HBB.out⟩

set_option maxRecDepth 100000 in
set_option maxHeartbeats 4000000 in
theorem rmac_ok (A : Option Addr) (n c : Nat) (key : List UInt8) (A' : Option Addr) (n' c' : Nat) (b : List UInt8) (w : World) (hl : key.length = n) (hc : n ≤ c) (hn : n ≤ 1099511627776) (hnk : A = none → n = 0 ∧ c = 0) (hR : Rb w w.heap.size A key)
    (hl' : b.length = n') (hn' : n' ≤ 549755813888) (hnil : A' = none → n' = 0 ∧ c' = 0) (hR' : Rb w w.heap.size A' b) :
    Calls Tryd.prog 30 #[.slice A n c, .slice A' n' c'] w fun e w' => e = .returned (.agg (bcells (macB key b))) ∧ Below w.heap.size w w' := by
  have HL := Lib.hid hl
  have HCP := Lib.hid hc
  have HN := Lib.hid hn
  have HNK := Lib.hid hnk
  have HR := Lib.hid hR
  have HL' := Lib.hid hl'
  have HN' := Lib.hid hn'
  have HNIL := Lib.hid hnil
  have HR' := Lib.hid hR'
  obtain ⟨IN, hIN⟩ : ∃ IN, IN = sum (padB key 54 ++ b) := ⟨_, rfl⟩
  obtain ⟨OUT, hOUT⟩ : ∃ OUT, OUT = sum (padB key 92 ++ IN) := ⟨_, rfl⟩
  have HMB := Lib.hid (show macB key b = OUT by rw [hOUT, hIN]; rfl)
  have HIN := Lib.hid hIN
  have HOUT := Lib.hid hOUT
  have HIL := Lib.hid (show IN.length = 32 by rw [hIN, sum_len])
  have HEI := Lib.hid (show (Tryd.prog.info? 68).map (·.size) = some (bcells IN).size by rw [bcells_size, HIL.out]; kernel_rfl)
  have HEI2 := Lib.hid (show (bcells (List.replicate 32 0)).size = (bcells IN).size by rw [bcells_size, bcells_size, HIL.out, List.length_replicate])
  have HEM := Lib.hid (show (Tryd.prog.info? 68).map (·.size) = some (bcells OUT).size by rw [bcells_size, hOUT, sum_len]; kernel_rfl)
  have HEM2 := Lib.hid (show (bcells (List.replicate 32 0)).size = (bcells OUT).size by rw [bcells_size, bcells_size, hOUT, sum_len, List.length_replicate])
  have HP4 := Lib.hid (show (padB key 54 ++ b).length = 64 + n' by rw [List.length_append, padB_len, hl'])
  rw [HMB.out]
  clear hl hc hn hnk hR hl' hn' hnil hR' hIN hOUT
  go_enter Tryd.func30, Tryd.ntmps30
  go_upto_region 1 with fail
  refine gen_world (fun u => Bk u w.heap.size 68 (bcells (List.replicate 32 0)) ∧ Below w.heap.size w u) ⟨zeros_new w, by go_grown⟩ (fun w1 hw1 => ?_)
  have HA1 := Lib.hid hw1.1
  have HB1 := Lib.hid hw1.2
  clear hw1
  go_wp2_with fail
  refine (rpadded_ok A n c key 54 _ HL.out HCP.out HN.out HNK.out ((HR.out.below HB1.out (Nat.le_refl _)).more HB1.out.size)).mono ?_
  rintro e w2 ⟨gp, cp, rfl, ho, hb⟩
  have HO2 := Lib.hid ho
  have HA2 := Lib.hid (HA1.out.below hb HA1.out.lt)
  have HB2 := Lib.hid (HB1.out.trans (hb.mono HB1.out.size))
  have HZ2 := Lib.hid hb.size
  have HZ1 := Lib.hid HA1.out.lt
  have HQ1 := Lib.hid HB1.out.size
  clear ho hb HA1 HB1
  go_wp2_with (at_builtin; refine wp_app_any rfl (.tmp 7) (.tmp 8) 50 5 rfl Tryd.underlying50 bytesInfo w1.heap.size (padB key 54) (some ⟨gp, 0, none⟩) 64 cp rfl (padB_len _ _) HO2.out b A' n' _ _ rfl HL'.out HNIL.out ((HR'.out.below HB2.out (Nat.le_refl _)).more HB2.out.size) (by rw [padB_len, HL'.out]; have := HN'.out; omega) HZ2.out ?_; intro A4 c4 w4 ho4 hg4 hb4; rw [show (padB key 54 ++ b).length = 64 + n' from HP4.out])
  have HO4 := Lib.hid ho4
  have HA4 := Lib.hid (HA2.out.below hb4 HZ1.out)
  have HB4 := Lib.hid (HB2.out.trans (hb4.mono HQ1.out))
  clear ho4 hg4 hb4 HO2 HA2 HB2
  refine (rsum_ok A4 (64 + n') c4 (padB key 54 ++ b) _ HP4.out (by have := HO4.out.cap; rw [HP4.out] at this; exact this.1) (by have := HN'.out; omega) (by intro h; exfalso; obtain ⟨g, e, _⟩ := HO4.out.form (by intro h0; have := HP4.out; rw [h0] at this; simp at this; omega); rw [h] at e; cases e) HO4.out.rb).mono ?_
  rintro e w5 ⟨rfl, hb5⟩
  rw [show sum (padB key 54 ++ b) = IN from HIN.out.symm]
  have HA5' := Lib.hid (HA4.out.below hb5 HA4.out.lt)
  have HB5' := Lib.hid (HB4.out.trans (hb5.mono HB4.out.size))
  clear hb5 HO4 HA4 HB4
  go_upto_region 2 with (refine wpList_store_row rfl 68 (.tmp 5) (.tmp 10) rfl w5.heap.size _ rfl rfl 68 _ (zeros_new w5) HEI.out HEI2.out (bcells_one _) ?_)
  obtain ⟨gx, hgx⟩ : ∃ g, g = w5.heap.size := ⟨_, rfl⟩
  refine gen_world (fun u => Bk u w.heap.size 68 (bcells (List.replicate 32 0)) ∧ Bk u w5.heap.size 68 (bcells IN) ∧ Below w.heap.size w u) ⟨(HA5'.out.alloc _).setRowFar (by have := HA5'.out.lt; omega) _, (zeros_new w5).setRow _, Below.setRow (HB5'.out.alloc HB5'.out.size _) _ HB5'.out.size _⟩ (fun w6 hw6 => ?_)
  rw [← hgx] at hw6 ⊢
  clear hgx HA5' HB5'
  obtain ⟨w5, hw5⟩ : ∃ u, u = w6 := ⟨_, rfl⟩
  rw [← hw5] at hw6 ⊢
  clear hw5
  have HA5 := Lib.hid hw6.1
  have HX5 := Lib.hid hw6.2.1
  have HB5 := Lib.hid hw6.2.2
  clear hw6
  try simp only [List.cons_append, List.nil_append]
  refine wp_region_held_drew (S := fun u => Below w.heap.size w u) (by kernel_rfl) (HB5.out.drew) (fun hHeld => ?_)
  refine take_at (some 11) (i := 0) (v := ?_) rfl rfl (by kernel_rfl) (by kernel_rfl) (by kernel_rfl) (fun _ _ _ h => h) (Or.inl ⟨by kernel_rfl, ?_⟩) hHeld ?_
  rotate_left
  · intro wz hSw; go_simp; try (with_reducible rfl)
  try simp only [Act.put, List.setIfInBounds_toArray, List.set_cons_zero, List.set_cons_succ, List.getElem_toArray, List.getElem_cons_succ, List.getElem_cons_zero]
  refine take_at (some 13) (i := 2) (v := ?_) rfl rfl (by kernel_rfl) (by kernel_rfl) (by kernel_rfl) (fun _ _ _ h => h) (Or.inl ⟨by kernel_rfl, ?_⟩) hHeld ?_
  rotate_left
  · intro wz hSw; go_simp; try (with_reducible rfl)
  try simp only [Act.put, List.setIfInBounds_toArray, List.set_cons_zero, List.set_cons_succ, List.getElem_toArray, List.getElem_cons_succ, List.getElem_cons_zero]
  refine wpAnyH_ready (rs := [1]) (by kernel_rfl) (by simp) (AllReadyH.cons rfl (fun K hK => ?_) AllReadyH.nil)
  rw [if_pos (by kernel_rfl)]
  go_simp
  refine (rpadded_ok A n c key 92 _ HL.out HCP.out HN.out HNK.out ((HR.out.below hHeld (Nat.le_refl _)).more hHeld.size)).mono ?_
  rintro e w7 ⟨gp, cp, rfl, ho, hb⟩
  have HO7 := Lib.hid ho
  have HX7 := Lib.hid (HX5.out.drew.below hb HX5.out.lt)
  have HA7 := Lib.hid (HA5.out.drew.below hb HA5.out.lt)
  have HS7 := Lib.hid (hHeld.trans (hb.mono hHeld.size))
  have HZ7 := Lib.hid (show w5.drew.heap.size ≤ w7.heap.size from hb.size)
  clear ho hb hHeld
  try dsimp only
  refine hK.out _ _ HS7.out (fun hHeld => ?_)
  try simp only [Act.put, List.setIfInBounds_toArray, List.set_cons_zero, List.set_cons_succ, List.getElem_toArray, List.getElem_cons_succ, List.getElem_cons_zero]
  refine wpAnyH_ready (rs := [3]) (by kernel_rfl) (by simp) (AllReadyH.cons rfl (fun K hK => ?_) AllReadyH.nil)
  rw [if_pos (by kernel_rfl)]
  refine op_app (.tmp 12) (.tmp 13) 50 5 rfl Tryd.underlying50 bytesInfo w5.drew.heap.size (padB key 92) (some ⟨gp, 0, none⟩) 64 cp rfl (padB_len _ _) HO7.out IN (⟨gx, 0, none⟩) 32 32 _ rfl HIL.out (Rb.bk_more HX7.out HX7.out.lt) (by rw [padB_len, HIL.out]; decide) HZ7.out ?_
  intro A8 c8 w8 ho8 hg8 hb8
  have HO8 := Lib.hid ho8
  have HL8 := Lib.hid (show (padB key 92 ++ IN).length = 96 by rw [List.length_append, padB_len, HIL.out])
  rw [HL8.out]
  have HA8 := Lib.hid (HA7.out.below hb8 HA5.out.lt)
  have HS8 := Lib.hid (HS7.out.trans (hb8.mono HB5.out.size))
  clear ho8 hg8 hb8 hHeld
  refine hK.out _ _ HS8.out (fun hHeld => ?_)
  try simp only [Act.put, List.setIfInBounds_toArray, List.set_cons_zero, List.set_cons_succ, List.getElem_toArray, List.getElem_cons_succ, List.getElem_cons_zero]
  refine wpAnyH_ready (rs := [4]) (by kernel_rfl) (by simp) (AllReadyH.cons rfl (fun K hK => ?_) AllReadyH.nil)
  rw [if_pos (by kernel_rfl)]
  go_simp
  refine (rsum_ok A8 96 c8 (padB key 92 ++ IN) _ HL8.out (by have := HO8.out.cap; rw [HL8.out] at this; exact this.1) (by omega) (by intro h; exfalso; obtain ⟨g, e, _⟩ := HO8.out.form (by intro h0; have := HL8.out; rw [h0] at this; simp at this); rw [h] at e; cases e) HO8.out.rb).mono ?_
  rintro e w9 ⟨rfl, hb⟩
  rw [show sum (padB key 92 ++ IN) = OUT from HOUT.out.symm]
  have HA9 := Lib.hid (HA8.out.below hb HA8.out.lt)
  have HS9 := Lib.hid (HS8.out.trans (hb.mono HS8.out.size))
  clear hb hHeld
  try dsimp only
  refine hK.out _ _ HS9.out (fun hHeld => ?_)
  try simp only [Act.put, List.setIfInBounds_toArray, List.set_cons_zero, List.set_cons_succ, List.getElem_toArray, List.getElem_cons_succ, List.getElem_cons_zero]
  refine wpAnyH_ready (rs := [5]) (by kernel_rfl) (by simp) (AllReadyH.cons rfl (fun K hK => ?_) AllReadyH.nil)
  rw [if_pos (by kernel_rfl)]
  refine wp_store_row 68 (.tmp 4) (.tmp 15) rfl w.heap.size _ rfl rfl 68 _ HA9.out HEM.out HEM2.out (bcells_one _) ?_
  try dsimp only
  have HFB := Lib.hid (Below.setRow HS9.out w.heap.size (Nat.le_refl _) (bcells OUT))
  have HFA := Lib.hid (HA9.out.setRow (bcells OUT))
  clear hHeld
  refine hK.out _ _ HFB.out (fun hHeld => ?_)
  try simp only [Act.put, List.setIfInBounds_toArray, List.set_cons_zero, List.set_cons_succ, List.getElem_toArray, List.getElem_cons_succ, List.getElem_cons_zero]
  refine wpAnyH_done (by kernel_rfl) ?_ _
  go_wp2_with fail
  refine bodyPost_ret (results_cell_row rfl _ _ w.heap.size 68 _ (0, 0) _ rfl HFA.out Tryd.underlying68 rfl HEM.out) rfl ?_
  exact ⟨rfl, HFB.out⟩

end Go.Proofs.YtinbegnojfpeiaaDoor
