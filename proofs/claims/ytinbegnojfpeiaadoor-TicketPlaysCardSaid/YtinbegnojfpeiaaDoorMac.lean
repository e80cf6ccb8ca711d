/- mac.Mac: the sum of bytes under a key. (Written by gen_mac.py.) -/
import Derived.Test.YtinbegnojfpeiaaDoorPadded
namespace Go.Proofs.YtinbegnojfpeiaaDoor
set_option linter.unusedVariables false
set_option maxRecDepth 100000
set_option linter.unusedSimpArgs false
open Go.RowKit

theorem zeros64_new (w : World) : Bk (w.alloc (.cells #[.int .u8 0, .int .u8 0, .int .u8 0, .int .u8 0, .int .u8 0, .int .u8 0, .int .u8 0, .int .u8 0, .int .u8 0, .int .u8 0, .int .u8 0, .int .u8 0, .int .u8 0, .int .u8 0, .int .u8 0, .int .u8 0, .int .u8 0, .int .u8 0, .int .u8 0, .int .u8 0, .int .u8 0, .int .u8 0, .int .u8 0, .int .u8 0, .int .u8 0, .int .u8 0, .int .u8 0, .int .u8 0, .int .u8 0, .int .u8 0, .int .u8 0, .int .u8 0, .int .u8 0, .int .u8 0, .int .u8 0, .int .u8 0, .int .u8 0, .int .u8 0, .int .u8 0, .int .u8 0, .int .u8 0, .int .u8 0, .int .u8 0, .int .u8 0, .int .u8 0, .int .u8 0, .int .u8 0, .int .u8 0, .int .u8 0, .int .u8 0, .int .u8 0, .int .u8 0, .int .u8 0, .int .u8 0, .int .u8 0, .int .u8 0, .int .u8 0, .int .u8 0, .int .u8 0, .int .u8 0, .int .u8 0, .int .u8 0, .int .u8 0, .int .u8 0] 83)) w.heap.size 83 (bcells (List.replicate 64 0)) := Bk.new w 83 _

set_option maxRecDepth 100000 in
set_option maxHeartbeats 4000000 in
theorem mac_ok (A : Option Addr) (n c : Nat) (key : List UInt8) (A' : Option Addr) (n' c' : Nat) (b : List UInt8) (w : World) (hl : key.length = n) (hc : n ≤ c) (hmax : c ≤ 9223372036854775807) (hn : n ≤ 1099511627776) (hR : Rb w w.heap.size A key)
    (hl' : b.length = n') (hn' : n' ≤ 549755813888) (hR' : Rb w w.heap.size A' b) (hnil : A' = none → n' = 0 ∧ c' = 0) (hG : Gl w) :
    Calls Tryd.prog 43 #[.slice A n c, .slice A' n' c'] w fun e w' => e = .returned (.agg (bcells (macB key b))) ∧ Below w.heap.size w w' := by
  have HL := Lib.hid hl
  have HCP := Lib.hid hc
  have HMX := Lib.hid hmax
  have HN := Lib.hid hn
  have HR := Lib.hid hR
  have HL' := Lib.hid hl'
  have HN' := Lib.hid hn'
  have HR' := Lib.hid hR'
  have HNIL := Lib.hid hnil
  have HG := Lib.hid hG
  obtain ⟨IN, hIN⟩ : ∃ IN, IN = sum (padB key 54 ++ b) := ⟨_, rfl⟩
  have HIN := Lib.hid hIN
  have HIL := Lib.hid (show IN.length = 32 by rw [hIN, sum_len])
  have HMB := Lib.hid (show macB key b = sum ((keyB key).map (fun k => k ^^^ 92) ++ IN) by rw [hIN]; rfl)
  have HPL := Lib.hid (show ((keyB key).map (fun k => k ^^^ 92) ++ IN).length = 96 by rw [List.length_append, List.length_map, keyB_len, HIL.out])
  have HPL1 := Lib.hid (show ((keyB key).map (fun k => k ^^^ 54) ++ b).length = 64 + n' by rw [List.length_append, List.length_map, keyB_len, hl'])
  have HE5 := Lib.hid (show (Tryd.prog.info? 83).map (·.size) = some (bcells (keyB key)).size by rw [bcells_size, keyB_len]; kernel_rfl)
  have HE6 := Lib.hid (show (bcells (List.replicate 64 0)).size = (bcells (keyB key)).size by rw [bcells_size, bcells_size, keyB_len, List.length_replicate])
  have HEI := Lib.hid (show (Tryd.prog.info? 68).map (·.size) = some (bcells IN).size by rw [bcells_size, HIL.out]; kernel_rfl)
  have HEI2 := Lib.hid (show (bcells (List.replicate 32 0)).size = (bcells IN).size by rw [bcells_size, bcells_size, HIL.out, List.length_replicate])
  obtain ⟨OUT, hOUT⟩ : ∃ OUT, OUT = sum ((keyB key).map (fun k => k ^^^ 92) ++ IN) := ⟨_, rfl⟩
  have HOUT := Lib.hid hOUT
  have HEM := Lib.hid (show (Tryd.prog.info? 68).map (·.size) = some (bcells OUT).size by rw [bcells_size, hOUT, sum_len]; kernel_rfl)
  have HEM2 := Lib.hid (show (bcells OUT).size = 32 by rw [bcells_size, hOUT, sum_len])
  rw [HMB.out, ← HOUT.out]
  clear hl hc hmax hR hl' hR' hnil hG hIN hOUT hn hn'
  go_enter Tryd.func43, Tryd.ntmps43
  go_upto_region 1 with fail
  refine gen_world (fun u => Bk u w.heap.size 68 (bcells (List.replicate 32 0)) ∧ Below w.heap.size w u) ⟨zeros_new w, by go_grown⟩ (fun w1 hw1 => ?_)
  have HA1 := Lib.hid hw1.1
  have HB1 := Lib.hid hw1.2
  clear hw1
  go_wp2_with fail
  refine (filled_ok A n c key _ HL.out HCP.out HMX.out HN.out (HG.out.below HB1.out HG.out.size) ((HR.out.below HB1.out (Nat.le_refl _)).more HB1.out.size)).mono ?_
  rintro e w2 ⟨rfl, hb2⟩
  have HA2 := Lib.hid (HA1.out.below hb2 HA1.out.lt)
  have HB2 := Lib.hid (HB1.out.trans (hb2.mono HB1.out.size))
  clear hb2 HA1 HB1
  go_upto_region 2 with (refine wpList_store_row rfl 83 (.tmp 5) (.tmp 9) rfl w2.heap.size _ rfl rfl 83 _ (zeros64_new w2) HE5.out HE6.out (bcells_one _) ?_)
  refine gen_world (fun u => Bk u w.heap.size 68 (bcells (List.replicate 32 0)) ∧ Bk u w2.heap.size 83 (bcells (keyB key)) ∧ Below w.heap.size w u) ⟨(HA2.out.alloc _).setRowFar (by have := HA2.out.lt; omega) _, (zeros64_new w2).setRow _, Below.setRow (HB2.out.alloc HB2.out.size _) _ HB2.out.size _⟩ (fun w3 hw3 => ?_)
  obtain ⟨g1, hg1⟩ : ∃ g, g = w2.heap.size := ⟨_, rfl⟩
  rw [← hg1] at hw3 ⊢
  have HA3 := Lib.hid hw3.1
  have HK3 := Lib.hid hw3.2.1
  have HB3 := Lib.hid hw3.2.2
  have HG1 := Lib.hid (show w.heap.size < g1 by have := HA2.out.lt; omega)
  clear hw3 hg1 HA2 HB2
  go_wp2_with (refine wpList_load_row rfl 83 (.tmp 5) rfl g1 rfl 83 _ (0, 0) _ HK3.out Tryd.underlying83 rfl HE5.out ?_)
  refine (padded_ok (keyB key) 54 A' n' c' b _ (keyB_len _) HL'.out (by have := HN'.out; omega) ((HR'.out.below HB3.out (Nat.le_refl _)).more HB3.out.size) HNIL.out).mono ?_
  rintro e w4 ⟨A2, c2, rfl, ho4, hb4⟩
  have HA4 := Lib.hid (HA3.out.below hb4 HA3.out.lt)
  have HK4 := Lib.hid (HK3.out.below hb4 HK3.out.lt)
  have HB4 := Lib.hid (HB3.out.trans (hb4.mono HB3.out.size))
  have HO4 := Lib.hid ho4
  clear hb4 ho4 HA3 HK3 HB3
  go_wp2_with fail
  refine (sum_ok A2 (64 + n') c2 _ _ HPL1.out (by have := HO4.out.cap; rw [HPL1.out] at this; exact this.1) HO4.out.cap.2 (by have := HN'.out; omega) (HG.out.below HB4.out HG.out.size) HO4.out.rb).mono ?_
  rintro e w5 ⟨rfl, hb5⟩
  rw [show sum ((keyB key).map (fun k => k ^^^ 54) ++ b) = IN from HIN.out.symm]
  have HA5 := Lib.hid (HA4.out.below hb5 HA4.out.lt)
  have HK5 := Lib.hid (HK4.out.below hb5 HK4.out.lt)
  have HB5 := Lib.hid (HB4.out.trans (hb5.mono HB4.out.size))
  clear hb5 HA4 HK4 HB4 HO4
  go_upto_region 3 with (refine wpList_store_row rfl 68 (.tmp 7) (.tmp 14) rfl w5.heap.size _ rfl rfl 68 _ (zeros_new w5) HEI.out HEI2.out (bcells_one _) ?_)
  refine gen_world (fun u => Bk u w.heap.size 68 (bcells (List.replicate 32 0)) ∧ Bk u g1 83 (bcells (keyB key)) ∧ Bk u w5.heap.size 68 (bcells IN) ∧ Below w.heap.size w u) ⟨(HA5.out.alloc _).setRowFar (by have := HA5.out.lt; omega) _, (HK5.out.alloc _).setRowFar (by have := HK5.out.lt; omega) _, (zeros_new w5).setRow _, Below.setRow (HB5.out.alloc HB5.out.size _) _ HB5.out.size _⟩ (fun w6 hw6 => ?_)
  obtain ⟨g2, hg2⟩ : ∃ g, g = w5.heap.size := ⟨_, rfl⟩
  rw [← hg2] at hw6 ⊢
  have HA6 := Lib.hid hw6.1
  have HK6 := Lib.hid hw6.2.1
  have HI6 := Lib.hid hw6.2.2.1
  have HB6 := Lib.hid hw6.2.2.2
  have HG2 := Lib.hid (show w.heap.size < g2 by have := HA5.out.lt; omega)
  clear hw6 hg2 HA5 HK5 HB5
  obtain ⟨S, hS⟩ : ∃ S : World → Prop, S = fun u => (∃ l, Bk u w.heap.size 68 (bcells l) ∧ l.length = 32) ∧ Bk u g1 83 (bcells (keyB key)) ∧ Bk u g2 68 (bcells IN) ∧ Below w.heap.size w u := ⟨_, rfl⟩
  have HS0 := Lib.hid (show S w6.drew by rw [hS]; exact ⟨⟨_, HA6.out.drew, List.length_replicate⟩, HK6.out.drew, HI6.out.drew, HB6.out.drew⟩)
  have HSW := Lib.hid (show ∀ u u', S u → Below u.heap.size u u' → S u' by rw [hS]; exact fun u u' h hb => ⟨let ⟨l, h1, h2⟩ := h.1; ⟨l, h1.below hb h1.lt, h2⟩, h.2.1.below hb h.2.1.lt, h.2.2.1.below hb h.2.2.1.lt, h.2.2.2.trans (hb.mono h.2.2.2.size)⟩)
  have HKX := Lib.hid (show ∀ u, S u → Bk u g1 83 (bcells (keyB key)) by rw [hS]; exact fun u h => h.2.1)
  have HRX := Lib.hid (show ∀ u, S u → Rb u u.heap.size (some ⟨g2, 0, none⟩) IN by rw [hS]; exact fun u h => Rb.row h.2.2.1 h.2.2.1.lt)
  have HAX := Lib.hid (show ∀ u, S u → ∃ l, Bk u w.heap.size 68 (bcells l) ∧ l.length = 32 by rw [hS]; exact fun u h => h.1)
  have HGX := Lib.hid (show ∀ u, S u → Gl u by rw [hS]; exact fun u h => HG.out.below h.2.2.2 HG.out.size)
  have HFIN := Lib.hid (show ∀ u, S u → Bk (u.setRow w.heap.size (bcells OUT)) w.heap.size 68 (bcells OUT) ∧ Below w.heap.size w (u.setRow w.heap.size (bcells OUT)) ∧ S (u.setRow w.heap.size (bcells OUT)) by
    rw [hS]
    rintro u ⟨⟨l, h1, h2⟩, h3, h4, h5⟩
    have hb := Below.setRow h5 w.heap.size (Nat.le_refl _) (bcells OUT)
    exact ⟨h1.setRow _, hb, ⟨OUT, h1.setRow _, by rw [← bcells_size]; exact HEM2.out⟩, h3.setRowFar (by have := HG1.out; omega) _, h4.setRowFar (by have := HG2.out; omega) _, hb⟩)
  clear hS HA6 HK6 HI6 HB6
  try simp only [List.cons_append, List.nil_append]
  refine wp_region_held_drew (S := S) (by kernel_rfl) (HS0.out) (fun hHeld => ?_)
  refine take_at (some 15) (i := 0) (v := ?_) rfl rfl (by kernel_rfl) (by kernel_rfl) (by kernel_rfl) (fun _ _ _ h => h) (Or.inl ⟨by kernel_rfl, ?_⟩) hHeld ?_
  rotate_left
  · intro wz hSw; go_simp; try (with_reducible rfl)
  try simp only [Act.put, List.setIfInBounds_toArray, List.set_cons_zero, List.set_cons_succ, List.getElem_toArray, List.getElem_cons_succ, List.getElem_cons_zero]
  refine take_at (some 16) (i := 1) rfl rfl (by kernel_rfl) (by kernel_rfl) (by kernel_rfl) (fun _ _ _ h => h) (yieldsIf_load_row (by kernel_rfl) 83 (.tmp 5) rfl g1 rfl 83 _ (fun u hu => HKX.out u hu) Tryd.underlying83 rfl HE5.out) hHeld ?_
  try simp only [Act.put, List.setIfInBounds_toArray, List.set_cons_zero, List.set_cons_succ, List.getElem_toArray, List.getElem_cons_succ, List.getElem_cons_zero]
  refine take_at (some 17) (i := 2) (v := ?_) rfl rfl (by kernel_rfl) (by kernel_rfl) (by kernel_rfl) (fun _ _ _ h => h) (Or.inl ⟨by kernel_rfl, ?_⟩) hHeld ?_
  rotate_left
  · intro wz hSw; go_simp; try (with_reducible rfl)
  try simp only [Act.put, List.setIfInBounds_toArray, List.set_cons_zero, List.set_cons_succ, List.getElem_toArray, List.getElem_cons_succ, List.getElem_cons_zero]
  refine wpAnyH_ready (rs := [3]) (by kernel_rfl) (by simp) (AllReadyH.cons rfl (fun K hK => ?_) AllReadyH.nil)
  rw [if_pos (by kernel_rfl)]
  go_simp
  refine (padded_ok (keyB key) 92 (some ⟨g2, 0, none⟩) 32 32 IN _ (keyB_len _) (HIL.out) (by omega) (HRX.out _ hHeld) (by intro h; cases h)).mono ?_
  rintro e w7 ⟨A3, c3, rfl, ho7, hb7⟩
  have HO7 := Lib.hid ho7
  have HS7 := Lib.hid (HSW.out _ _ hHeld hb7)
  clear ho7 hb7 hHeld
  try dsimp only
  refine hK.out _ _ HS7.out (fun hHeld => ?_)
  try simp only [Act.put, List.setIfInBounds_toArray, List.set_cons_zero, List.set_cons_succ, List.getElem_toArray, List.getElem_cons_succ, List.getElem_cons_zero]
  refine wpAnyH_ready (rs := [4]) (by kernel_rfl) (by simp) (AllReadyH.cons rfl (fun K hK => ?_) AllReadyH.nil)
  rw [if_pos (by kernel_rfl)]
  go_simp
  refine (sum_ok A3 96 c3 _ _ (by rw [HPL.out]) (by have := HO7.out.cap; rw [HPL.out] at this; exact this.1) HO7.out.cap.2 (by omega) (HGX.out _ hHeld) HO7.out.rb).mono ?_
  rintro e w8 ⟨rfl, hb8⟩
  rw [show sum ((keyB key).map (fun k => k ^^^ 92) ++ IN) = OUT from HOUT.out.symm]
  have HS8 := Lib.hid (HSW.out _ _ hHeld hb8)
  clear hb8 hHeld
  try dsimp only
  refine hK.out _ _ HS8.out (fun hHeld => ?_)
  try simp only [Act.put, List.setIfInBounds_toArray, List.set_cons_zero, List.set_cons_succ, List.getElem_toArray, List.getElem_cons_succ, List.getElem_cons_zero]
  refine wpAnyH_ready (rs := [5]) (by kernel_rfl) (by simp) (AllReadyH.cons rfl (fun K hK => ?_) AllReadyH.nil)
  rw [if_pos (by kernel_rfl)]
  obtain ⟨lz, hbz, hlz⟩ := HAX.out _ hHeld
  refine wp_store_row 68 (.tmp 4) (.tmp 19) rfl w.heap.size _ rfl rfl 68 _ hbz HEM.out (by rw [bcells_size, hlz]; exact HEM2.out.symm) (bcells_one _) ?_
  try dsimp only
  have HF := Lib.hid (HFIN.out _ hHeld)
  clear hHeld
  refine hK.out _ _ HF.out.2.2 (fun hHeld => ?_)
  try simp only [Act.put, List.setIfInBounds_toArray, List.set_cons_zero, List.set_cons_succ, List.getElem_toArray, List.getElem_cons_succ, List.getElem_cons_zero]
  refine wpAnyH_done (by kernel_rfl) ?_ _
  go_wp2_with fail
  refine bodyPost_ret (results_cell_row rfl _ _ w.heap.size 68 _ (0, 0) _ rfl HF.out.1 Tryd.underlying68 rfl HEM.out) rfl ?_
  exact ⟨rfl, HF.out.2.1⟩
end Go.Proofs.YtinbegnojfpeiaaDoor
