/- Sum: the sum of any bytes. (Written by gen_sum.py.) -/
import Derived.Test.YtinbegnojfpeiaaDoorThrough
import Derived.Test.YtinbegnojfpeiaaDoorStir
import Derived.Test.YtinbegnojfpeiaaDoorG4
namespace Go.Proofs.YtinbegnojfpeiaaDoor
set_option linter.unusedVariables false
set_option maxRecDepth 100000
set_option linter.unusedSimpArgs false
open Go.RowKit

theorem stirC : StirC := stir_ok
theorem slice_toS (A : Option Addr) (n c hi : Nat) (h : hi ≤ c) (u : World) : (Instr.sliceAt 50 (.slice A n c) none (some (.int .i64 (hi : Int))) none).run Tryd.prog u = .ok (.slice A hi c) u := by
  have h1 : (hi : Int) ≤ (c : Int) := by omega
  have h2 : ¬ c = 0 ∨ A = A := .inr rfl
  go_simp
theorem slice_from (A : Option Addr) (n c lo : Nat) (h : lo ≤ n) (hc : n ≤ c) (u : World) : (Instr.sliceAt 50 (.slice A n c) (some (.int .i64 (lo : Int))) none none).run Tryd.prog u = .ok (.slice (tailA A c lo) (n - lo) (c - lo)) u := by
  have h1 : (lo : Int) ≤ (n : Int) := by omega
  unfold tailA
  go_simp
theorem idx_any (s : St) (i : Nat) (h : i < 8) (u : World) : (Instr.index 80 (A8 s) (.int .i64 (i : Int))).run Tryd.prog u = .ok (wd (s.list.getD i 0)) u := by
  obtain rfl | rfl | rfl | rfl | rfl | rfl | rfl | rfl : i = 0 ∨ i = 1 ∨ i = 2 ∨ i = 3 ∨ i = 4 ∨ i = 5 ∨ i = 6 ∨ i = 7 := by omega
  · exact idx_0 s u
  · exact idx_1 s u
  · exact idx_2 s u
  · exact idx_3 s u
  · exact idx_4 s u
  · exact idx_5 s u
  · exact idx_6 s u
  · exact idx_7 s u
theorem S0_val : (H0.map wd).toArray = s8 S0 := rfl
theorem bcells_one (l : List UInt8) : (bcells l).all (·.oneCell') = true := by
  rw [Array.all_eq_true_iff_forall_mem]
  intro v hv
  simp only [bcells, List.mem_toArray, List.mem_map] at hv
  obtain ⟨x, _, rfl⟩ := hv
  rfl

set_option maxRecDepth 100000 in
set_option maxHeartbeats 4000000 in
theorem sum_ok (A : Option Addr) (n c : Nat) (l : List UInt8) (w : World) (hl : l.length = n) (hc : n ≤ c) (hmax : c ≤ 9223372036854775807) (hn : n ≤ 1099511627776) (hG : Gl w) (hR : Rb w w.heap.size A l) :
    Calls Tryd.prog 50 #[.slice A n c] w fun e w' => e = .returned (.agg (bcells (sum l))) ∧ Below w.heap.size w w' := by
  obtain ⟨k, r, hk, hr⟩ : ∃ k r, n = 64 * k + r ∧ r < 64 := ⟨n / 64, n % 64, by omega, by omega⟩
  obtain ⟨whole, hwh⟩ : ∃ x, x = 64 * k := ⟨_, rfl⟩
  have HSUM := Lib.hid (sum_eq l k (by omega) (by omega))
  have HDL := Lib.hid (show (l.drop (64 * k)).length = r by rw [List.length_drop]; omega)
  have HTK := Lib.hid (show (l.take (64 * k)).length = 64 * k ∧ (l.take (64 * k)).length = whole by rw [List.length_take]; omega)
  have HEN := Lib.hid (show (endB (l.drop (64 * k)) n).length = 64 * eblk r by rw [endB_len _ _ (by rw [HDL.out]; exact hr), HDL.out])
  have he2 : eblk r ≤ 2 := by unfold eblk; split <;> omega
  have HTN := Lib.hid (show tailA A c whole = none → r = 0 by
    intro h
    have h1 := tailA_none _ _ _ h
    rcases hR with h2 | ⟨b, o, e, _, _⟩
    · rw [h2] at hl; simp at hl; omega
    · rw [h1] at e; cases e)
  rw [hl, HDL.out] at HSUM
  have hrw : n - whole = r := by omega
  have HSL1 := Lib.hid (slice_toS A n c whole (by omega))
  have HSL2 := Lib.hid (show ∀ u, (Instr.sliceAt 50 (.slice A n c) (some (.int .i64 (whole : Int))) none none).run Tryd.prog u = .ok (.slice (tailA A c whole) r (c - whole)) u by
    intro u; rw [← hrw]; exact slice_from A n c whole (by omega) hc u)
  have HRT := Lib.hid (show ∀ u, Below w.heap.size w u → Rb u u.heap.size A (l.take (64 * k)) from fun u hu => ((hR.below hu (Nat.le_refl _)).front _).more hu.size)
  have HRD := Lib.hid (show ∀ u, Below w.heap.size w u → Rb u u.heap.size (tailA A c whole) (l.drop (64 * k)) by
    intro u hu
    rw [← hwh]
    exact ((hR.below hu (Nat.le_refl _)).tail whole (by omega)).more hu.size)
  have HGL := Lib.hid (show ∀ u, Below w.heap.size w u → Gl u from fun u hu => hG.below hu hG.size)
  have HGS := Lib.hid hG.size
  have e1 : (n : Int) % 64 = (r : Int) := by omega
  have e2 : (n : Int).tmod 64 = (r : Int) := by rw [Int.tmod_eq_emod_of_nonneg (by omega)]; exact e1
  have e3 : (n : Int) - (r : Int) = (whole : Int) := by omega
  have e4 := iwrap ((n : Int) - (r : Int)) whole e3 (by omega)
  obtain ⟨e4, e5⟩ := e4
  have hkw := Lib.hid hk
  have hww := Lib.hid hwh
  have hwc : whole ≤ c := by omega
  have hwn : whole ≤ n := by omega
  have hrn : r ≤ n := by omega
  clear hG hR hl hk hwh
  go_enter Tryd.func50, Tryd.ntmps50
  go_upto_region 2 with fail
  refine gen_world (fun u => Bk u w.heap.size 68 (bcells (List.replicate 32 0)) ∧ Below w.heap.size w u ∧ u.heap.size = w.heap.size + 1) ?_ (fun w1 hw1 => ?_)
  · exact ⟨Bk.here rfl, by go_grown, by show (w.heap.push _).size = _; rw [Array.size_push]⟩
  obtain ⟨hA, hbel1, hsz⟩ := hw1
  have HA := Lib.hid hA
  have HB1 := Lib.hid hbel1
  have HSZ := Lib.hid hsz
  clear hA hbel1 hsz
  have HDOWN := Lib.hid (show ∀ u, Below w1.heap.size w1 u → Below w.heap.size w u from fun u hu => HB1.out.trans (hu.mono HB1.out.size))
  have HS0 := Lib.hid (show Below w1.heap.size w1 w1.drew from (Below.refl _ _).drew)
  have HW0 := HS0
  have HLD := Lib.hid (show ∀ (ops : Array Oper) (oi : Oper) (a : Act), Region.wanted oi (yielded ops a.tmps) = true → oi.op = .load 80 (.global 0) → YieldsIf Tryd.prog ops (fun u => Below w1.heap.size w1 u) oi (A8 S0) a by
    intro ops oi a hwd ho
    have := yieldsIf_load_mid (P := Tryd.prog) (S := fun u => Below w1.heap.size w1 u) hwd 80 (.global 0) ho 0 0 rfl (H0.map wd) _ (fun u hu j v hj => by
      have h1 := (HGL.out u (HDOWN.out u hu)).beg
      have hj8 : j < 8 := by obtain ⟨h2, _⟩ := List.getElem?_eq_some_iff.1 hj; simpa [H0] using h2
      rw [Nat.zero_add, h1 j hj8, ← hj, List.getElem?_map]
      have h3 : H0[j]? = some (H0.getD j 0) := by rw [List.getD, List.getElem?_eq_getElem (by simpa [H0] using hj8)]; rfl
      rw [h3]; rfl) Tryd.underlying80 rfl (by kernel_rfl)
    rw [S0_val] at this
    exact this)
  have HST := Lib.hid (show ∀ u g, Below w1.heap.size w1 u → w1.heap.size ≤ g → Bk u g 80 (wcells [0, 0, 0, 0, 0, 0, 0, 0]) → Below w1.heap.size w1 (u.setRow g (s8 (thr S0 (l.take (64 * k)) k))) ∧ Bk (u.setRow g (s8 (thr S0 (l.take (64 * k)) k))) g 80 (s8 (thr S0 (l.take (64 * k)) k)) ∧ Bk (u.setRow g (s8 (thr S0 (l.take (64 * k)) k))) w.heap.size 68 (bcells (List.replicate 32 0)) ∧ Below w.heap.size w (u.setRow g (s8 (thr S0 (l.take (64 * k)) k))) by
    intro u g hu hg hB
    have h1 := Below.setRow hu g hg (s8 (thr S0 (l.take (64 * k)) k))
    exact ⟨h1, hB.setRow _, HA.out.below h1 HA.out.lt, HDOWN.out _ h1⟩)
  replace HRT := Lib.hid (show ∀ u, Below w1.heap.size w1 u → Rb u u.heap.size A (l.take (64 * k)) from fun u hu => HRT.out u (HDOWN.out u hu))
  have HGLw := HGL
  replace HGL := Lib.hid (show ∀ u, Below w1.heap.size w1 u → Gl u from fun u hu => HGLw.out u (HDOWN.out u hu))
  go_cut [4] from 8 (fun v4 wx => ∃ g1, v4 = .pointer (some ⟨g1, 0, none⟩) ∧ w1.heap.size ≤ g1 ∧ Hid (Bk wx g1 80 (s8 (thr S0 (l.take (64 * k)) k))) ∧ Hid (Bk wx w.heap.size 68 (bcells (List.replicate 32 0))) ∧ Hid (Below w.heap.size w wx))
  case first =>
      refine wp_region_held_drew (S := fun u => Below w1.heap.size w1 u) (by kernel_rfl) (HS0.out) (fun hHeld => ?_)
      refine take_at (some 14) (i := 0) rfl rfl (by kernel_rfl) (by kernel_rfl) (by kernel_rfl) (fun _ _ _ h => h) (HLD.out _ _ _ (by kernel_rfl) rfl) hHeld ?_
      try simp only [Act.put, List.setIfInBounds_toArray, List.set_cons_zero, List.set_cons_succ, List.getElem_toArray, List.getElem_cons_succ, List.getElem_cons_zero]
      refine take_at (some 15) (i := 1) (v := ?_) rfl rfl (by kernel_rfl) (by kernel_rfl) (by kernel_rfl) (fun _ _ _ h => h) (Or.inl ⟨by kernel_rfl, ?_⟩) hHeld ?_
      rotate_left
      · intro wz hSw; go_simp; try (with_reducible rfl)
      try simp only [Act.put, List.setIfInBounds_toArray, List.set_cons_zero, List.set_cons_succ, List.getElem_toArray, List.getElem_cons_succ, List.getElem_cons_zero]
      refine take_at (some 16) (i := 2) (v := ?_) rfl rfl (by kernel_rfl) (by kernel_rfl) (by kernel_rfl) (fun _ _ _ h => h) (Or.inl ⟨by kernel_rfl, ?_⟩) hHeld ?_
      rotate_left
      · intro wz hSw; go_simp; try (with_reducible rfl)
      try simp only [Act.put, List.setIfInBounds_toArray, List.set_cons_zero, List.set_cons_succ, List.getElem_toArray, List.getElem_cons_succ, List.getElem_cons_zero]
      refine take_at (some 17) (i := 3) rfl rfl (by kernel_rfl) (by kernel_rfl) (by kernel_rfl) (fun _ _ _ h => h) (yieldsIf_slice (by kernel_rfl) 50 (.tmp 15) none (some (.tmp 16)) rfl (.slice A whole c) HSL1.out) hHeld ?_
      try simp only [Act.put, List.setIfInBounds_toArray, List.set_cons_zero, List.set_cons_succ, List.getElem_toArray, List.getElem_cons_succ, List.getElem_cons_zero]
      refine wpAnyH_ready (rs := [4, 5]) (by kernel_rfl) (by simp) (AllReadyH.cons rfl (fun K hK => ?_) (AllReadyH.cons rfl (fun K hK => ?_) AllReadyH.nil))
      · rw [if_pos (by kernel_rfl)]
        go_simp
        refine (through_of stirC S0 A whole c k (l.take (64 * k)) _ S0_ok HTK.out.1 HTK.out.2 (by omega) (by omega) (by omega) (HGL.out _ HW0.out) (HRT.out _ HW0.out)).mono ?_
        rintro e u1 ⟨rfl, hb⟩
        have Hu1 := Lib.hid (HW0.out.trans (hb.mono HW0.out.size))
        clear hb
        try dsimp only
        refine hK.out _ _ (Hu1.out) (fun hHeld => ?_)
        try simp only [Act.put, List.setIfInBounds_toArray, List.set_cons_zero, List.set_cons_succ, List.getElem_toArray, List.getElem_cons_succ, List.getElem_cons_zero]
        refine wpAnyH_ready (rs := [5]) (by kernel_rfl) (by simp) (AllReadyH.cons rfl (fun K hK => ?_) AllReadyH.nil)
        rw [if_pos (by kernel_rfl)]
        go_simp
        obtain ⟨u2, hu2⟩ : ∃ x, x = (World.alloc u1 (.cells (wcells [0, 0, 0, 0, 0, 0, 0, 0]) 80)) := ⟨_, rfl⟩
        have Hu2Z := Lib.hid (show Bk u2 u1.heap.size 80 (wcells [0, 0, 0, 0, 0, 0, 0, 0]) by rw [hu2]; exact Bk.new _ _ _)
        have Hu2 := Lib.hid (show Below w1.heap.size w1 u2 by rw [hu2]; exact Hu1.out.alloc Hu1.out.size _)
        have hu22 : u2 = (World.alloc u1 (.cells #[.int .u32 0, .int .u32 0, .int .u32 0, .int .u32 0, .int .u32 0, .int .u32 0, .int .u32 0, .int .u32 0] 80)) := hu2
        rw [← hu22]
        clear hu22 hu2
        try dsimp only
        refine hK.out _ _ (Hu2.out) (fun hHeld => ?_)
        try simp only [Act.put, List.setIfInBounds_toArray, List.set_cons_zero, List.set_cons_succ, List.getElem_toArray, List.getElem_cons_succ, List.getElem_cons_zero]
        refine wpAnyH_ready (rs := [6]) (by kernel_rfl) (by simp) (AllReadyH.cons rfl (fun K hK => ?_) AllReadyH.nil)
        have HBZ := Hu2Z
        rw [if_pos (by kernel_rfl)]
        refine wp_store_row 80 (.tmp 4) (.tmp 18) rfl u1.heap.size _ rfl rfl 80 _ HBZ.out (by rw [s8_size]; kernel_rfl) (z8_size _) (s8_one _) ?_
        have HS := Lib.hid (HST.out u2 u1.heap.size Hu2.out (by have := Hu1.out.size; omega) HBZ.out)
        try dsimp only
        refine hK.out _ _ ((HS.out).1) (fun hHeld => ?_)
        try simp only [Act.put, List.setIfInBounds_toArray, List.set_cons_zero, List.set_cons_succ, List.getElem_toArray, List.getElem_cons_succ, List.getElem_cons_zero]
        refine wpAnyH_done (by kernel_rfl) ?_ _
        go_wp2_with fail
        go_meet
        case rel => exact ⟨u1.heap.size, rfl, by have := Hu1.out.size; omega, Lib.hid HS.out.2.1, Lib.hid HS.out.2.2.1, Lib.hid HS.out.2.2.2⟩
      · rw [if_pos (by kernel_rfl)]
        go_simp
        obtain ⟨u1, hu1⟩ : ∃ x, x = (World.alloc w1 (.cells (wcells [0, 0, 0, 0, 0, 0, 0, 0]) 80)).drew := ⟨_, rfl⟩
        have Hu1Z := Lib.hid (show Bk u1 w1.heap.size 80 (wcells [0, 0, 0, 0, 0, 0, 0, 0]) by rw [hu1]; exact Bk.new _ _ _)
        have Hu1 := Lib.hid (show Below w1.heap.size w1 u1 by rw [hu1]; exact ((Below.refl _ _).alloc (Nat.le_refl _) _).drew)
        have hu12 : u1 = (World.alloc w1 (.cells #[.int .u32 0, .int .u32 0, .int .u32 0, .int .u32 0, .int .u32 0, .int .u32 0, .int .u32 0, .int .u32 0] 80)).drew := hu1
        rw [← hu12]
        clear hu12 hu1
        try dsimp only
        refine hK.out _ _ (Hu1.out) (fun hHeld => ?_)
        try simp only [Act.put, List.setIfInBounds_toArray, List.set_cons_zero, List.set_cons_succ, List.getElem_toArray, List.getElem_cons_succ, List.getElem_cons_zero]
        refine wpAnyH_ready (rs := [4]) (by kernel_rfl) (by simp) (AllReadyH.cons rfl (fun K hK => ?_) AllReadyH.nil)
        rw [if_pos (by kernel_rfl)]
        go_simp
        refine (through_of stirC S0 A whole c k (l.take (64 * k)) _ S0_ok HTK.out.1 HTK.out.2 (by omega) (by omega) (by omega) (HGL.out _ Hu1.out) (HRT.out _ Hu1.out)).mono ?_
        rintro e u2 ⟨rfl, hb⟩
        have HBZ := Lib.hid (Hu1Z.out.below hb Hu1Z.out.lt)
        have Hu2 := Lib.hid (Hu1.out.trans (hb.mono Hu1.out.size))
        clear hb
        try dsimp only
        refine hK.out _ _ (Hu2.out) (fun hHeld => ?_)
        try simp only [Act.put, List.setIfInBounds_toArray, List.set_cons_zero, List.set_cons_succ, List.getElem_toArray, List.getElem_cons_succ, List.getElem_cons_zero]
        refine wpAnyH_ready (rs := [6]) (by kernel_rfl) (by simp) (AllReadyH.cons rfl (fun K hK => ?_) AllReadyH.nil)
        rw [if_pos (by kernel_rfl)]
        refine wp_store_row 80 (.tmp 4) (.tmp 18) rfl w1.heap.size _ rfl rfl 80 _ HBZ.out (by rw [s8_size]; kernel_rfl) (z8_size _) (s8_one _) ?_
        have HS := Lib.hid (HST.out u2 w1.heap.size Hu2.out (Nat.le_refl _) HBZ.out)
        try dsimp only
        refine hK.out _ _ ((HS.out).1) (fun hHeld => ?_)
        try simp only [Act.put, List.setIfInBounds_toArray, List.set_cons_zero, List.set_cons_succ, List.getElem_toArray, List.getElem_cons_succ, List.getElem_cons_zero]
        refine wpAnyH_done (by kernel_rfl) ?_ _
        go_wp2_with fail
        go_meet
        case rel => exact ⟨w1.heap.size, rfl, Nat.le_refl _, Lib.hid HS.out.2.1, Lib.hid HS.out.2.2.1, Lib.hid HS.out.2.2.2⟩
  case rest =>
    obtain ⟨g1, rfl, hg1, HK, HA2, HB2⟩ := hcut
    have hg1 : w.heap.size + 1 ≤ g1 := by have := HSZ.out; omega
    clear HRT HGL HST HLD HS0 HW0 HDOWN HA HB1 HSZ
    go_upto_region 3 with fail
    have HBK := Lib.hid (show ∀ u, Below wc.heap.size wc u → Bk u g1 80 (s8 (thr S0 (l.take (64 * k)) k)) from fun u hu => HK.out.below hu HK.out.lt)
    have HDN := Lib.hid (show ∀ u, Below wc.heap.size wc u → Below w.heap.size w u from fun u hu => HB2.out.trans (hu.mono HB2.out.size))
    have HGL := Lib.hid (show ∀ u, Below wc.heap.size wc u → Gl u from fun u hu => HGLw.out u (HDN.out u hu))
    replace HRD := Lib.hid (show ∀ u, Below wc.heap.size wc u → Rb u u.heap.size (tailA A c whole) (l.drop (64 * k)) from fun u hu => HRD.out u (HDN.out u hu))
    have HST3 := Lib.hid (show ∀ u, Below wc.heap.size wc u → Bk (u.setRow g1 (s8 (thr (thr S0 (l.take (64 * k)) k) (endB (l.drop (64 * k)) n) (eblk r)))) g1 80 (s8 (thr (thr S0 (l.take (64 * k)) k) (endB (l.drop (64 * k)) n) (eblk r))) ∧ Bk (u.setRow g1 (s8 (thr (thr S0 (l.take (64 * k)) k) (endB (l.drop (64 * k)) n) (eblk r)))) w.heap.size 68 (bcells (List.replicate 32 0)) ∧ Below w.heap.size w (u.setRow g1 (s8 (thr (thr S0 (l.take (64 * k)) k) (endB (l.drop (64 * k)) n) (eblk r)))) by
      intro u hu
      exact ⟨(HBK.out u hu).setRow _, (HA2.out.below hu HA2.out.lt).setRowFar (by omega) _, Below.setRow (HDN.out u hu) _ (by omega) _⟩)
    have HV0 := Lib.hid (show Below wc.heap.size wc wc.drew from (Below.refl _ _).drew)
    go_cut [4] from 8 (fun v4 wx => v4 = .pointer (some ⟨g1, 0, none⟩) ∧ Hid (Bk wx g1 80 (s8 (thr (thr S0 (l.take (64 * k)) k) (endB (l.drop (64 * k)) n) (eblk r)))) ∧ Hid (Bk wx w.heap.size 68 (bcells (List.replicate 32 0))) ∧ Hid (Below w.heap.size w wx))
    case first =>
      refine wp_region_held_drew (S := fun _ => True) (by kernel_rfl) (trivial) (fun hHeld => ?_)
      refine take_at (some 20) (i := 1) (v := ?_) rfl rfl (by kernel_rfl) (by kernel_rfl) (by kernel_rfl) (fun _ _ _ h => h) (Or.inl ⟨by kernel_rfl, ?_⟩) hHeld ?_
      rotate_left
      · intro wz hSw; go_simp; try (with_reducible rfl)
      try simp only [Act.put, List.setIfInBounds_toArray, List.set_cons_zero, List.set_cons_succ, List.getElem_toArray, List.getElem_cons_succ, List.getElem_cons_zero]
      refine take_at (some 21) (i := 2) (v := ?_) rfl rfl (by kernel_rfl) (by kernel_rfl) (by kernel_rfl) (fun _ _ _ h => h) (Or.inl ⟨by kernel_rfl, ?_⟩) hHeld ?_
      rotate_left
      · intro wz hSw; go_simp; try (with_reducible rfl)
      try simp only [Act.put, List.setIfInBounds_toArray, List.set_cons_zero, List.set_cons_succ, List.getElem_toArray, List.getElem_cons_succ, List.getElem_cons_zero]
      refine take_at (some 22) (i := 3) rfl rfl (by kernel_rfl) (by kernel_rfl) (by kernel_rfl) (fun _ _ _ h => h) (yieldsIf_slice (by kernel_rfl) 50 (.tmp 20) (some (.tmp 21)) none rfl (.slice (tailA A c whole) r (c - whole)) HSL2.out) hHeld ?_
      try simp only [Act.put, List.setIfInBounds_toArray, List.set_cons_zero, List.set_cons_succ, List.getElem_toArray, List.getElem_cons_succ, List.getElem_cons_zero]
      refine take_at (some 23) (i := 4) (v := ?_) rfl rfl (by kernel_rfl) (by kernel_rfl) (by kernel_rfl) (fun _ _ _ h => h) (Or.inl ⟨by kernel_rfl, ?_⟩) hHeld ?_
      rotate_left
      · intro wz hSw; go_simp; try (with_reducible rfl)
      try simp only [Act.put, List.setIfInBounds_toArray, List.set_cons_zero, List.set_cons_succ, List.getElem_toArray, List.getElem_cons_succ, List.getElem_cons_zero]
      refine take_at (some 24) (i := 5) (v := ?_) rfl rfl (by kernel_rfl) (by kernel_rfl) (by kernel_rfl) (fun _ _ _ h => h) (Or.inl ⟨by kernel_rfl, ?_⟩) hHeld ?_
      rotate_left
      · intro wz hSw; go_simp; try (with_reducible rfl)
      try simp only [Act.put, List.setIfInBounds_toArray, List.set_cons_zero, List.set_cons_succ, List.getElem_toArray, List.getElem_cons_succ, List.getElem_cons_zero]
      refine wpAnyH_ready (rs := [0, 6]) (by kernel_rfl) (by simp) (AllReadyH.cons rfl (fun K hK => ?_) (AllReadyH.cons rfl (fun K hK => ?_) AllReadyH.nil))
      · rw [if_pos (by kernel_rfl)]
        refine wp_load_row 80 (.tmp 4) rfl g1 rfl 80 _ (0, 0) _ (HBK.out _ HV0.out) Tryd.underlying80 rfl (by rw [s8_size]; kernel_rfl) ?_
        try dsimp only
        refine hK.out _ _ (trivial) (fun hHeld => ?_)
        try simp only [Act.put, List.setIfInBounds_toArray, List.set_cons_zero, List.set_cons_succ, List.getElem_toArray, List.getElem_cons_succ, List.getElem_cons_zero]
        refine wpAnyH_ready (rs := [6]) (by kernel_rfl) (by simp) (AllReadyH.cons rfl (fun K hK => ?_) AllReadyH.nil)
        rw [if_pos (by kernel_rfl)]
        go_simp
        refine (ending_go (64 * eblk r) r (c - whole) n (tailA A c whole) (l.drop (64 * k)) _ rfl HDL.out (by omega) (by omega) HTN.out (HRD.out _ HV0.out)).mono ?_
        rintro e u1 ⟨rfl, hB, hb⟩
        have HE := Lib.hid (And.intro hB hb)
        have Hu1 := Lib.hid (HV0.out.trans (hb.mono HV0.out.size))
        have HEL := Lib.hid (show wc.drew.heap.size < u1.heap.size from hB.lt)
        clear hB hb
        try dsimp only
        refine hK.out _ _ (trivial) (fun hHeld => ?_)
        try simp only [Act.put, List.setIfInBounds_toArray, List.set_cons_zero, List.set_cons_succ, List.getElem_toArray, List.getElem_cons_succ, List.getElem_cons_zero]
        refine wpAnyH_ready (rs := [7]) (by kernel_rfl) (by simp) (AllReadyH.cons rfl (fun K hK => ?_) AllReadyH.nil)
        rw [if_pos (by kernel_rfl)]
        go_simp
        refine (through_of stirC (thr S0 (l.take (64 * k)) k) (some ⟨wc.heap.size, 0, none⟩) (64 * eblk r) (64 * eblk r) (eblk r) (endB (l.drop (64 * k)) n) _ (thr_ok S0_ok _ _) HEN.out HEN.out (by omega) (by omega) (by omega) (HGL.out _ Hu1.out) ((Rb.bk HE.out.1).more (by have := HEL.out; omega))).mono ?_
        rintro e u2 ⟨rfl, hb⟩
        have Hu2 := Lib.hid (Hu1.out.trans (hb.mono Hu1.out.size))
        clear hb
        try dsimp only
        refine hK.out _ _ (trivial) (fun hHeld => ?_)
        try simp only [Act.put, List.setIfInBounds_toArray, List.set_cons_zero, List.set_cons_succ, List.getElem_toArray, List.getElem_cons_succ, List.getElem_cons_zero]
        refine wpAnyH_ready (rs := [8]) (by kernel_rfl) (by simp) (AllReadyH.cons rfl (fun K hK => ?_) AllReadyH.nil)
        rw [if_pos (by kernel_rfl)]
        refine wp_store_row 80 (.tmp 4) (.tmp 26) rfl g1 _ rfl rfl 80 _ (HBK.out _ Hu2.out) (by rw [s8_size]; kernel_rfl) (s8_same _ _) (s8_one _) ?_
        have HS := Lib.hid (HST3.out u2 Hu2.out)
        try dsimp only
        refine hK.out _ _ (trivial) (fun hHeld => ?_)
        try simp only [Act.put, List.setIfInBounds_toArray, List.set_cons_zero, List.set_cons_succ, List.getElem_toArray, List.getElem_cons_succ, List.getElem_cons_zero]
        refine wpAnyH_done (by kernel_rfl) ?_ _
        go_wp2_with fail
        go_meet
        case rel => exact ⟨rfl, Lib.hid HS.out.1, Lib.hid HS.out.2.1, Lib.hid HS.out.2.2⟩
      · rw [if_pos (by kernel_rfl)]
        go_simp
        refine (ending_go (64 * eblk r) r (c - whole) n (tailA A c whole) (l.drop (64 * k)) _ rfl HDL.out (by omega) (by omega) HTN.out (HRD.out _ HV0.out)).mono ?_
        rintro e u1 ⟨rfl, hB, hb⟩
        have HE := Lib.hid (And.intro hB hb)
        have Hu1 := Lib.hid (HV0.out.trans (hb.mono HV0.out.size))
        have HEL := Lib.hid (show wc.drew.heap.size < u1.heap.size from hB.lt)
        clear hB hb
        try dsimp only
        refine hK.out _ _ (trivial) (fun hHeld => ?_)
        try simp only [Act.put, List.setIfInBounds_toArray, List.set_cons_zero, List.set_cons_succ, List.getElem_toArray, List.getElem_cons_succ, List.getElem_cons_zero]
        refine wpAnyH_ready (rs := [0]) (by kernel_rfl) (by simp) (AllReadyH.cons rfl (fun K hK => ?_) AllReadyH.nil)
        rw [if_pos (by kernel_rfl)]
        refine wp_load_row 80 (.tmp 4) rfl g1 rfl 80 _ (0, 0) _ (HBK.out _ Hu1.out) Tryd.underlying80 rfl (by rw [s8_size]; kernel_rfl) ?_
        try dsimp only
        refine hK.out _ _ (trivial) (fun hHeld => ?_)
        try simp only [Act.put, List.setIfInBounds_toArray, List.set_cons_zero, List.set_cons_succ, List.getElem_toArray, List.getElem_cons_succ, List.getElem_cons_zero]
        refine wpAnyH_ready (rs := [7]) (by kernel_rfl) (by simp) (AllReadyH.cons rfl (fun K hK => ?_) AllReadyH.nil)
        rw [if_pos (by kernel_rfl)]
        go_simp
        refine (through_of stirC (thr S0 (l.take (64 * k)) k) (some ⟨wc.heap.size, 0, none⟩) (64 * eblk r) (64 * eblk r) (eblk r) (endB (l.drop (64 * k)) n) _ (thr_ok S0_ok _ _) HEN.out HEN.out (by omega) (by omega) (by omega) (HGL.out _ Hu1.out) ((Rb.bk HE.out.1).more (by have := HEL.out; omega))).mono ?_
        rintro e u2 ⟨rfl, hb⟩
        have Hu2 := Lib.hid (Hu1.out.trans (hb.mono Hu1.out.size))
        clear hb
        try dsimp only
        refine hK.out _ _ (trivial) (fun hHeld => ?_)
        try simp only [Act.put, List.setIfInBounds_toArray, List.set_cons_zero, List.set_cons_succ, List.getElem_toArray, List.getElem_cons_succ, List.getElem_cons_zero]
        refine wpAnyH_ready (rs := [8]) (by kernel_rfl) (by simp) (AllReadyH.cons rfl (fun K hK => ?_) AllReadyH.nil)
        rw [if_pos (by kernel_rfl)]
        refine wp_store_row 80 (.tmp 4) (.tmp 26) rfl g1 _ rfl rfl 80 _ (HBK.out _ Hu2.out) (by rw [s8_size]; kernel_rfl) (s8_same _ _) (s8_one _) ?_
        have HS := Lib.hid (HST3.out u2 Hu2.out)
        try dsimp only
        refine hK.out _ _ (trivial) (fun hHeld => ?_)
        try simp only [Act.put, List.setIfInBounds_toArray, List.set_cons_zero, List.set_cons_succ, List.getElem_toArray, List.getElem_cons_succ, List.getElem_cons_zero]
        refine wpAnyH_done (by kernel_rfl) ?_ _
        go_wp2_with fail
        go_meet
        case rel => exact ⟨rfl, Lib.hid HS.out.1, Lib.hid HS.out.2.1, Lib.hid HS.out.2.2⟩
    case rest =>
      obtain ⟨rfl, HK3, HA3, HB3⟩ := hcut
      have HTS := Lib.hid (show sum l = outB (thr (thr S0 (l.take (64 * k)) k) (endB (l.drop (64 * k)) n) (eblk r)) from HSUM.out)
      have HTO := Lib.hid (thr_ok (thr_ok S0_ok (l.take (64 * k)) k) (endB (l.drop (64 * k)) n) (eblk r))
      obtain ⟨T, hT⟩ : ∃ T, T = thr (thr S0 (l.take (64 * k)) k) (endB (l.drop (64 * k)) n) (eblk r) := ⟨_, rfl⟩
      rw [← hT] at HK3 HTS HTO
      clear hT HSUM HDL HTK HEN HTN HSL1 HSL2 HBK HDN HGL HRD HST3 HV0 HGLw HK HA2 HB2 e1 e2 e3 e4 e5
      have HXL := Lib.hid (show ∀ i, T.list.getD i 0 < 4294967296 by
        intro i
        have h := HTO.out
        rcases Nat.lt_or_ge i 8 with hi | hi
        · obtain rfl | rfl | rfl | rfl | rfl | rfl | rfl | rfl : i = 0 ∨ i = 1 ∨ i = 2 ∨ i = 3 ∨ i = 4 ∨ i = 5 ∨ i = 6 ∨ i = 7 := by omega
          · exact h.a
          · exact h.b
          · exact h.c
          · exact h.d
          · exact h.e
          · exact h.f
          · exact h.g
          · exact h.h
        · rw [List.getD, List.getElem?_eq_none (show T.list.length ≤ i from hi), Option.getD_none]; decide)
      have HK4 := Lib.hid (show ∀ ob, Bk (World.alloc wc ob) g1 80 (s8 T) from fun ob => HK3.out.alloc ob)
      go_wp2_with (refine wpList_load_row rfl 80 (.tmp 4) rfl g1 rfl 80 _ (0, 0) _ (HK4.out _) Tryd.underlying80 rfl (by rw [s8_size]; kernel_rfl) ?_)
      go_loopw [28] (fun v28 wr => ∃ i : Nat, i ≤ 8 ∧ v28 = .int .i64 i ∧ Hid (Bk wr wc.heap.size 68 (bcells (pfx T i ++ List.replicate (32 - 4 * i) 0))) ∧ Hid (Bk wr w.heap.size 68 (bcells (List.replicate 32 0))) ∧ Hid (Below w.heap.size w wr)) (fun v28 _ => 8 - (intOf v28).toNat)
      case atStart => exact ⟨0, by omega, rfl, Lib.hid (Bk.new _ _ _), Lib.hid (HA3.out.alloc _), Lib.hid (HB3.out.alloc HB3.out.size _)⟩
      case round =>
        obtain ⟨i, hi, rfl, HB, HB0, HBB⟩ := hrel
        by_cases hi1 : i < 8
        · have HX := Lib.hid (HXL.out i)
          have HIX := Lib.hid (idx_any T i hi1)
          have HPX := Lib.hid (show pfx T (i + 1) = pfx T i ++ be 4 (T.list.getD i 0) by rw [pfx])
          have HPL := Lib.hid (pfx_len T i)
          obtain ⟨x, hx⟩ : ∃ x, x = T.list.getD i 0 := ⟨_, rfl⟩
          rw [← hx] at HX HIX HPX
          clear hx
          obtain ⟨p, hp⟩ : ∃ p, p = 4 * i := ⟨_, rfl⟩
          obtain ⟨p4, hp4⟩ : ∃ p4, p4 = p + 4 := ⟨_, rfl⟩
          have y1 : 4 * (i : Int) = (p : Int) := by omega
          have y2 : (p : Int) + 4 = (p4 : Int) := by omega
          obtain ⟨y3, y4⟩ := iwrap (4 * (i : Int)) p y1 (by omega)
          obtain ⟨y5, y6⟩ := iwrap ((p : Int) + 4) p4 y2 (by omega)
          have b1 : (p : Int) ≤ (p4 : Int) := by omega
          have b2 : (p4 : Int) ≤ 32 := by omega
          have hs1 : p4 - p = 4 := by omega
          have hs2 : ¬ (32 = p) := by omega
          have hxl := HX.out
          have cu : IntKind.u64.wrap (x : Int) = (x : Int) := by rw [IntKind.wrap_u64]; omega
          have cu2 : (x : Int) % 18446744073709551616 = (x : Int) := by omega
          have HP := Lib.hid hp
          clear hp hp4 hxl
          go_wp2_with (refine wpList_index rfl 80 (.tmp 27) (.tmp 28) rfl _ _ (wd x) rfl rfl (HIX.out _) ?_)
          refine (put_ok wc.heap.size p 4 (32 - p) 68 (pfx T i) (List.replicate 4 0) (List.replicate (28 - 4 * i) 0) x _ ?_ (by rw [HPL.out, HP.out]) (by rw [List.length_replicate]) (by omega) (by have := HX.out; omega)).mono ?_
          · rw [List.append_assoc, List.replicate_append_replicate, show 4 + (28 - 4 * i) = 32 - 4 * i by omega]
            exact HB.out
          rintro e w3 ⟨rfl, hB3, hb3⟩
          have HB5 := Lib.hid (show Bk w3 wc.heap.size 68 (bcells (pfx T (i + 1) ++ List.replicate (32 - 4 * (i + 1)) 0)) by
            rw [HPX.out, show 32 - 4 * (i + 1) = 28 - 4 * i by omega]; exact hB3)
          have HB6 := Lib.hid (show Bk w3 w.heap.size 68 (bcells (List.replicate 32 0)) from (hb3.block _ HA3.out.lt).trans HB0.out)
          have HB7 := Lib.hid (HBB.out.trans (hb3.mono HB3.out.size))
          clear hB3 hb3
          go_wp2_with fail
          go_roundw
          case rel => exact ⟨i + 1, by omega, by go_num, HB5, HB6, HB7⟩
          case measure => simp [intOf]; omega
        · have HBF := Lib.hid (show Bk wr wc.heap.size 68 (bcells (sum l)) by
            have := HB.out
            rw [show i = 8 by omega, List.replicate_zero, List.append_nil, pfx_out, ← HTS.out] at this
            exact this)
          have HSZL := Lib.hid (show (bcells (sum l)).size = 32 by rw [bcells_size]; unfold sum outB; rw [List.length_map, List.length_range])
          have HE := Lib.hid (show (Tryd.prog.info? 68).map (·.size) = some (bcells (sum l)).size by rw [HSZL.out]; kernel_rfl)
          have HE2 := Lib.hid (show (bcells (List.replicate 32 0)).size = (bcells (sum l)).size by rw [HSZL.out, bcells_size, List.length_replicate])
          go_wp2_with (first
            | refine wpList_load_row rfl 68 (.tmp 5) rfl wc.heap.size rfl 68 _ (0, 0) _ HBF.out Tryd.underlying68 rfl HE.out ?_
            | refine wpList_store_row rfl 68 (.tmp 2) (.tmp 42) rfl w.heap.size _ rfl rfl 68 _ HB0.out HE.out HE2.out (bcells_one _) ?_)
          obtain ⟨w3, hw3⟩ : ∃ w3, w3 = wr.setRow w.heap.size (bcells (sum l)) := ⟨_, rfl⟩
          have HB5 : Bk w3 w.heap.size 68 (bcells (sum l)) := by rw [hw3]; exact HB0.out.setRow _
          have hbel3 : Below w.heap.size w w3 := by rw [hw3]; exact Below.setRow HBB.out _ (Nat.le_refl _) _
          rw [← hw3]
          refine bodyPost_ret (results_cell_row rfl _ _ w.heap.size 68 _ (0, 0) _ rfl HB5 Tryd.underlying68 rfl HE.out) rfl ?_
          exact ⟨rfl, hbel3⟩
end Go.Proofs.YtinbegnojfpeiaaDoor
