/- Room, begin, Look, Take of a ring: their contracts. (Written by gen_ring2.py.) -/
import Derived.Test.YtndamiocmdnenaaGreatG2
namespace Go.Proofs.YtndamiocmdnenaaGreat
set_option linter.unusedVariables false
set_option maxRecDepth 100000
set_option linter.unusedSimpArgs false
open Go.RowKit

theorem mixed : Tryz.prog.follows .mixedOrders = true := by kernel_rfl
theorem oneInfo : (Tryz.prog.info? 5).map (·.size) = some 1 := by kernel_rfl

set_option maxRecDepth 100000 in
set_option maxHeartbeats 4000000 in
/-- Room. -/
theorem room_ok (r g m : Nat) (q : List UInt8) (u : World) (h : Rg u r g m q) :
    Calls Tryz.prog 80 #[.pointer (some ⟨r, 0, none⟩)] u fun e u' => e = .returned (.int .i64 ((m - q.length : Nat) : Int)) ∧ Ke [] u u' := by
  have hf := h.fit
  have h6m := h.most
  obtain ⟨_, _, row, f, _, _, _, h6⟩ := h
  obtain ⟨k, hk⟩ : ∃ k, q.length = k := ⟨_, rfl⟩
  rw [hk] at h6 hf ⊢
  obtain ⟨d, hd⟩ : ∃ d, d = m - k := ⟨_, rfl⟩
  obtain ⟨z1, z2⟩ := iwrap ((m : Int) - (k : Int)) d (by omega) (by omega)
  rw [← hd]
  have HC := Lib.hid (ring_cells h6.drew)
  clear h6 hk hd
  go_enter Tryz.func80, Tryz.ntmps80
  go_upto_region 1 with (fail)
  try simp only [List.cons_append, List.nil_append]
  refine wp_region_held_drew (S := fun v => v.cell? ⟨r, 0, none⟩ = some (.slice (some ⟨g, 0, none⟩) m m) ∧ v.cell? ⟨r, 1, none⟩ = some (.int .i64 (f : Int)) ∧ v.cell? ⟨r, 2, none⟩ = some (.int .i64 (k : Int))) (by kernel_rfl) (HC.out) (fun hHeld => ?_)
  refine take_at (some 3) (i := 0) (v := ?_) rfl rfl (by kernel_rfl) (by kernel_rfl) (by kernel_rfl) (fun _ _ _ h => h) (Or.inl ⟨by kernel_rfl, ?_⟩) hHeld ?_
  rotate_left
  · intro wz hSw; obtain ⟨k0, k1, k2⟩ := hSw; go_simp; try (with_reducible rfl)
  try simp only [Act.put, List.setIfInBounds_toArray, List.set_cons_zero, List.set_cons_succ, List.getElem_toArray, List.getElem_cons_succ, List.getElem_cons_zero]
  refine take_at (some 4) (i := 1) (v := ?_) rfl rfl (by kernel_rfl) (by kernel_rfl) (by kernel_rfl) (fun _ _ _ h => h) (Or.inl ⟨by kernel_rfl, ?_⟩) hHeld ?_
  rotate_left
  · intro wz hSw; obtain ⟨k0, k1, k2⟩ := hSw; go_simp; try (with_reducible rfl)
  try simp only [Act.put, List.setIfInBounds_toArray, List.set_cons_zero, List.set_cons_succ, List.getElem_toArray, List.getElem_cons_succ, List.getElem_cons_zero]
  refine take_at (some 5) (i := 2) (v := ?_) rfl rfl (by kernel_rfl) (by kernel_rfl) (by kernel_rfl) (fun _ _ _ h => h) (Or.inl ⟨by kernel_rfl, ?_⟩) hHeld ?_
  rotate_left
  · intro wz hSw; obtain ⟨k0, k1, k2⟩ := hSw; go_simp; try (with_reducible rfl)
  try simp only [Act.put, List.setIfInBounds_toArray, List.set_cons_zero, List.set_cons_succ, List.getElem_toArray, List.getElem_cons_succ, List.getElem_cons_zero]
  refine take_at (some 6) (i := 3) (v := ?_) rfl rfl (by kernel_rfl) (by kernel_rfl) (by kernel_rfl) (fun _ _ _ h => h) (Or.inl ⟨by kernel_rfl, ?_⟩) hHeld ?_
  rotate_left
  · intro wz hSw; obtain ⟨k0, k1, k2⟩ := hSw; go_simp; try (with_reducible rfl)
  try simp only [Act.put, List.setIfInBounds_toArray, List.set_cons_zero, List.set_cons_succ, List.getElem_toArray, List.getElem_cons_succ, List.getElem_cons_zero]
  refine take_at (some 7) (i := 4) (v := ?_) rfl rfl (by kernel_rfl) (by kernel_rfl) (by kernel_rfl) (fun _ _ _ h => h) (Or.inl ⟨by kernel_rfl, ?_⟩) hHeld ?_
  rotate_left
  · intro wz hSw; obtain ⟨k0, k1, k2⟩ := hSw; go_simp; try (with_reducible rfl)
  try simp only [Act.put, List.setIfInBounds_toArray, List.set_cons_zero, List.set_cons_succ, List.getElem_toArray, List.getElem_cons_succ, List.getElem_cons_zero]
  refine take_at (some 8) (i := 5) (v := ?_) rfl rfl (by kernel_rfl) (by kernel_rfl) (by kernel_rfl) (fun _ _ _ h => h) (Or.inl ⟨by kernel_rfl, ?_⟩) hHeld ?_
  rotate_left
  · intro wz hSw; obtain ⟨k0, k1, k2⟩ := hSw; go_simp; try (with_reducible rfl)
  try simp only [Act.put, List.setIfInBounds_toArray, List.set_cons_zero, List.set_cons_succ, List.getElem_toArray, List.getElem_cons_succ, List.getElem_cons_zero]
  refine take_at (some 9) (i := 6) (v := ?_) rfl rfl (by kernel_rfl) (by kernel_rfl) (by kernel_rfl) (fun _ _ _ h => h) (Or.inl ⟨by kernel_rfl, ?_⟩) hHeld ?_
  rotate_left
  · intro wz hSw; obtain ⟨k0, k1, k2⟩ := hSw; go_simp; try (with_reducible rfl)
  try simp only [Act.put, List.setIfInBounds_toArray, List.set_cons_zero, List.set_cons_succ, List.getElem_toArray, List.getElem_cons_succ, List.getElem_cons_zero]
  refine take_at (some 10) (i := 7) (v := ?_) rfl rfl (by kernel_rfl) (by kernel_rfl) (by kernel_rfl) (fun _ _ _ h => h) (Or.inl ⟨by kernel_rfl, ?_⟩) hHeld ?_
  rotate_left
  · intro wz hSw; obtain ⟨k0, k1, k2⟩ := hSw; go_simp; try (with_reducible rfl)
  try simp only [Act.put, List.setIfInBounds_toArray, List.set_cons_zero, List.set_cons_succ, List.getElem_toArray, List.getElem_cons_succ, List.getElem_cons_zero]
  refine take_at (some 11) (i := 8) (v := ?_) rfl rfl (by kernel_rfl) (by kernel_rfl) (by kernel_rfl) (fun _ _ _ h => h) (Or.inl ⟨by kernel_rfl, ?_⟩) hHeld ?_
  rotate_left
  · intro wz hSw; obtain ⟨k0, k1, k2⟩ := hSw; go_simp; try (with_reducible rfl)
  try simp only [Act.put, List.setIfInBounds_toArray, List.set_cons_zero, List.set_cons_succ, List.getElem_toArray, List.getElem_cons_succ, List.getElem_cons_zero]
  refine take_at (some 12) (i := 9) (v := ?_) rfl rfl (by kernel_rfl) (by kernel_rfl) (by kernel_rfl) (fun _ _ _ h => h) (Or.inl ⟨by kernel_rfl, ?_⟩) hHeld ?_
  rotate_left
  · intro wz hSw; obtain ⟨k0, k1, k2⟩ := hSw; go_simp; try (with_reducible rfl)
  try simp only [Act.put, List.setIfInBounds_toArray, List.set_cons_zero, List.set_cons_succ, List.getElem_toArray, List.getElem_cons_succ, List.getElem_cons_zero]
  refine take_at (some 2) (i := 10) (v := ?_) rfl rfl (by kernel_rfl) (by kernel_rfl) (by kernel_rfl) (fun _ _ _ h => h) (Or.inl ⟨by kernel_rfl, ?_⟩) hHeld ?_
  rotate_left
  · intro wz hSw; obtain ⟨k0, k1, k2⟩ := hSw; go_simp; try (with_reducible rfl)
  try simp only [Act.put, List.setIfInBounds_toArray, List.set_cons_zero, List.set_cons_succ, List.getElem_toArray, List.getElem_cons_succ, List.getElem_cons_zero]
  refine wpAnyH_done (by kernel_rfl) ?_ _
  clear hHeld
  go_wp2_with fail
  go_ret
  exact ⟨rfl, (Ke.refl _ _).drew⟩

set_option maxRecDepth 100000 in
set_option maxHeartbeats 8000000 in
/-- The first n that wait, in a row of their own. -/
theorem begin_ok (r g m n : Nat) (q : List UInt8) (u : World) (h : Rg u r g m q) (hn : n ≤ q.length) :
    Calls Tryz.prog 89 #[.pointer (some ⟨r, 0, none⟩), .int .i64 (n : Int)] u fun e u' => e = .returned (.slice (some ⟨u.heap.size, 0, none⟩) n n) ∧ Bk u' u.heap.size 5 (bcells (q.take n)) ∧ Ke [] u u' := by
  have hf := h.fit
  have h6m := h.most
  obtain ⟨hrl, hgl⟩ := h.lt
  obtain ⟨_, _, row, f, hrow, hrd, h5, h6⟩ := h
  have hfst := hrd.fst
  obtain ⟨s, hs⟩ : ∃ s, s = u.heap.size := ⟨_, rfl⟩
  rw [← hs]
  obtain ⟨b, hb⟩ : ∃ b, min (m - f) n = b := ⟨_, rfl⟩
  have hfm : f ≤ m := by omega
  have hbn : b ≤ n := by omega
  have HB := Lib.hid (hrd.begin_ n b hn (by rw [hrow]; exact hb.symm) (List.replicate n 0) (by simp))
  have hl1 : ((row.drop f).take b).length = b := by rw [List.length_take, List.length_drop]; omega
  have hl2 : (row.take (n - b)).length = n - b := by rw [List.length_take]; omega
  have HMK := mk_bytes (P := Tryz.prog) u 30 5 Tryz.underlying30 bytesInfo n (by omega) _ (replicate_bcells n).symm
  rw [← hs] at HMK
  have HL := Lib.hid (And.intro hl1 hl2)
  obtain ⟨u1, hu1⟩ : ∃ u1, u.alloc (.cells (bcells (List.replicate n 0)) 5) = u1 := ⟨_, rfl⟩
  have k1 : Ke [] u u1 := hu1 ▸ (Ke.refl [] u).alloc _
  have HU1 := Lib.hid (show Bk u1 s 5 (bcells (List.replicate n 0)) ∧ Bk u1 g 5 (bcells row) ∧ Bk u1 r 95 (rcells g m f q.length) ∧ Ke [] u u1 from
    ⟨hu1 ▸ Bk.here hs, h5.ke k1 (by simp), h6.ke k1 (by simp), k1⟩)
  rw [hu1] at HMK
  clear hu1 k1 hl1 hl2
  have HROW := Lib.hid hrow
  have HBN := Lib.hid hb
  have HLT := Lib.hid (show r < s ∧ g < s from ⟨hs ▸ hrl, hs ▸ hgl⟩)
  obtain ⟨k, hk⟩ : ∃ k, q.length = k := ⟨_, rfl⟩
  rw [hk] at HU1
  have HT := Lib.hid (fun v => slice_fr (some ⟨g, 0, none⟩) m m f hfm (Nat.le_refl _) v)
  have HT2 := Lib.hid (fun v => slice_fr (some ⟨s, 0, none⟩) n n b hbn (Nat.le_refl _) v)
  obtain ⟨TA, hTA⟩ : ∃ TA, tailA (some ⟨g, 0, none⟩) m f = TA := ⟨_, rfl⟩
  obtain ⟨TB, hTB⟩ : ∃ TB, tailA (some ⟨s, 0, none⟩) n b = TB := ⟨_, rfl⟩
  rw [hTA] at HT
  rw [hTB] at HT2
  have HTA := Lib.hid hTA
  have HTB := Lib.hid hTB
  have HS := Lib.hid hs
  have HN := Lib.hid (show n ≤ m by omega)
  clear h5 h6 hrd hrow hfst hrl hgl hs hb hn hk hf hTA hTB
  go_enter Tryz.func89, Tryz.ntmps89
  go_upto_region 2 with (fail)
  have HC := Lib.hid (show u1.drew.cell? ⟨r, 0, none⟩ = some (.slice (some ⟨g, 0, none⟩) m m) ∧ u1.drew.cell? ⟨r, 1, none⟩ = some (.int .i64 (f : Int)) from ⟨(ring_cells HU1.out.2.2.1.drew).1, (ring_cells HU1.out.2.2.1.drew).2.1⟩)
  try simp only [List.cons_append, List.nil_append]
  refine wp_region_held_drew (S := fun v => v.cell? ⟨r, 0, none⟩ = some (.slice (some ⟨g, 0, none⟩) m m) ∧ v.cell? ⟨r, 1, none⟩ = some (.int .i64 (f : Int))) (by kernel_rfl) (HC.out) (fun hHeld => ?_)
  refine take_at (some 9) (i := 0) (v := ?_) rfl rfl (by kernel_rfl) (by kernel_rfl) (by kernel_rfl) (fun _ _ _ h => h) (Or.inl ⟨by kernel_rfl, ?_⟩) hHeld ?_
  rotate_left
  · intro wz hSw; obtain ⟨k0, k1⟩ := hSw; go_simp; try (with_reducible rfl)
  try simp only [Act.put, List.setIfInBounds_toArray, List.set_cons_zero, List.set_cons_succ, List.getElem_toArray, List.getElem_cons_succ, List.getElem_cons_zero]
  refine take_at (some 10) (i := 1) (v := ?_) rfl rfl (by kernel_rfl) (by kernel_rfl) (by kernel_rfl) (fun _ _ _ h => h) (Or.inl ⟨by kernel_rfl, ?_⟩) hHeld ?_
  rotate_left
  · intro wz hSw; obtain ⟨k0, k1⟩ := hSw; go_simp; try (with_reducible rfl)
  try simp only [Act.put, List.setIfInBounds_toArray, List.set_cons_zero, List.set_cons_succ, List.getElem_toArray, List.getElem_cons_succ, List.getElem_cons_zero]
  refine take_at (some 11) (i := 2) (v := ?_) rfl rfl (by kernel_rfl) (by kernel_rfl) (by kernel_rfl) (fun _ _ _ h => h) (Or.inl ⟨by kernel_rfl, ?_⟩) hHeld ?_
  rotate_left
  · intro wz hSw; obtain ⟨k0, k1⟩ := hSw; go_simp; try (with_reducible rfl)
  try simp only [Act.put, List.setIfInBounds_toArray, List.set_cons_zero, List.set_cons_succ, List.getElem_toArray, List.getElem_cons_succ, List.getElem_cons_zero]
  refine take_at (some 12) (i := 3) (v := ?_) rfl rfl (by kernel_rfl) (by kernel_rfl) (by kernel_rfl) (fun _ _ _ h => h) (Or.inl ⟨by kernel_rfl, ?_⟩) hHeld ?_
  rotate_left
  · intro wz hSw; obtain ⟨k0, k1⟩ := hSw; go_simp; try (with_reducible rfl)
  try simp only [Act.put, List.setIfInBounds_toArray, List.set_cons_zero, List.set_cons_succ, List.getElem_toArray, List.getElem_cons_succ, List.getElem_cons_zero]
  refine take_at (some 13) (i := 4) (v := ?_) rfl rfl (by kernel_rfl) (by kernel_rfl) (by kernel_rfl) (fun _ _ _ h => h) (Or.inl ⟨by kernel_rfl, ?_⟩) hHeld ?_
  rotate_left
  · intro wz hSw; obtain ⟨k0, k1⟩ := hSw; go_simp; try (with_reducible rfl)
  try simp only [Act.put, List.setIfInBounds_toArray, List.set_cons_zero, List.set_cons_succ, List.getElem_toArray, List.getElem_cons_succ, List.getElem_cons_zero]
  refine take_at (some 14) (i := 5) (v := ?_) rfl rfl (by kernel_rfl) (by kernel_rfl) (by kernel_rfl) (fun _ _ _ h => h) (Or.inl ⟨by kernel_rfl, ?_⟩) hHeld ?_
  rotate_left
  · intro wz hSw; obtain ⟨k0, k1⟩ := hSw; go_simp; try (with_reducible rfl)
  try simp only [Act.put, List.setIfInBounds_toArray, List.set_cons_zero, List.set_cons_succ, List.getElem_toArray, List.getElem_cons_succ, List.getElem_cons_zero]
  refine take_at (some 15) (i := 6) (v := ?_) rfl rfl (by kernel_rfl) (by kernel_rfl) (by kernel_rfl) (fun _ _ _ h => h) (Or.inl ⟨by kernel_rfl, ?_⟩) hHeld ?_
  rotate_left
  · intro wz hSw; obtain ⟨k0, k1⟩ := hSw; go_simp; try (with_reducible rfl)
  try simp only [Act.put, List.setIfInBounds_toArray, List.set_cons_zero, List.set_cons_succ, List.getElem_toArray, List.getElem_cons_succ, List.getElem_cons_zero]
  refine take_at (some 16) (i := 7) (v := ?_) rfl rfl (by kernel_rfl) (by kernel_rfl) (by kernel_rfl) (fun _ _ _ h => h) (Or.inl ⟨by kernel_rfl, ?_⟩) hHeld ?_
  rotate_left
  · intro wz hSw; obtain ⟨k0, k1⟩ := hSw; go_simp; try (with_reducible rfl)
  try simp only [Act.put, List.setIfInBounds_toArray, List.set_cons_zero, List.set_cons_succ, List.getElem_toArray, List.getElem_cons_succ, List.getElem_cons_zero]
  refine take_at (some 17) (i := 8) (v := ?_) rfl rfl (by kernel_rfl) (by kernel_rfl) (by kernel_rfl) (fun _ _ _ h => h) (Or.inl ⟨by kernel_rfl, ?_⟩) hHeld ?_
  rotate_left
  · intro wz hSw; obtain ⟨k0, k1⟩ := hSw; go_simp; try (with_reducible rfl)
  try simp only [Act.put, List.setIfInBounds_toArray, List.set_cons_zero, List.set_cons_succ, List.getElem_toArray, List.getElem_cons_succ, List.getElem_cons_zero]
  refine take_at (some 18) (i := 9) rfl rfl (by kernel_rfl) (by kernel_rfl) (by kernel_rfl) (fun _ _ _ h => h) (yieldsIf_slice (by kernel_rfl) 30 (.tmp 13) (some (.tmp 17)) none rfl (.slice TA (m - f) (m - f)) HT.out) hHeld ?_
  try simp only [Act.put, List.setIfInBounds_toArray, List.set_cons_zero, List.set_cons_succ, List.getElem_toArray, List.getElem_cons_succ, List.getElem_cons_zero]
  refine wpAnyH_ready (rs := [10]) (by kernel_rfl) (by simp) (AllReadyH.cons rfl (fun K hK => ?_) AllReadyH.nil)
  rw [if_pos (by kernel_rfl)]
  refine op_copy (.tmp 9) (.tmp 18) 30 30 5 rfl Tryz.underlying30 oneInfo (some ⟨s, 0, none⟩) TA n n (m - f) (m - f) rfl rfl s 0 (List.replicate n 0) 5 HU1.out.1.drew ((row.drop f).take b) (by rw [HL.out.1, HBN.out]) (fun _ => rfl) (HTA.out ▸ ((Rb.bk HU1.out.2.1.drew).tail f (by rw [HROW.out]; exact Nat.le_refl m)).front b) (by rw [HL.out.1, List.length_replicate]; omega) ?_
  rw [HL.out.1]
  have HW := Lib.hid (show Bk (u1.drew.setRow s (bcells (splice (List.replicate n 0) 0 ((row.drop f).take b)))) s 5 (bcells (splice (List.replicate n 0) 0 ((row.drop f).take b))) ∧ Bk (u1.drew.setRow s (bcells (splice (List.replicate n 0) 0 ((row.drop f).take b)))) g 5 (bcells row) ∧ Bk (u1.drew.setRow s (bcells (splice (List.replicate n 0) 0 ((row.drop f).take b)))) r 95 (rcells g m f k) ∧ Ke [s] u (u1.drew.setRow s (bcells (splice (List.replicate n 0) 0 ((row.drop f).take b)))) from ⟨HU1.out.1.drew.row _, HU1.out.2.1.drew.rowFar (Nat.ne_of_lt HLT.out.2) _, HU1.out.2.2.1.drew.rowFar (Nat.ne_of_lt HLT.out.1) _, (HU1.out.2.2.2.nil.drew).row (by simp) _⟩)
  refine hK.out _ _ ⟨(ring_cells HW.out.2.2.1).1, (ring_cells HW.out.2.2.1).2.1⟩ (fun hHeld => ?_)
  try simp only [Act.put, List.setIfInBounds_toArray, List.set_cons_zero, List.set_cons_succ, List.getElem_toArray, List.getElem_cons_succ, List.getElem_cons_zero]
  generalize u1.drew.setRow s (bcells (splice (List.replicate n 0) 0 ((row.drop f).take b))) = u2 at HW hHeld ⊢
  refine take_at (some 6) (i := 11) (v := ?_) rfl rfl (by kernel_rfl) (by kernel_rfl) (by kernel_rfl) (fun _ _ _ h => h) (Or.inl ⟨by kernel_rfl, ?_⟩) hHeld ?_
  rotate_left
  · intro wz hSw; obtain ⟨k0, k1⟩ := hSw; go_simp; try (with_reducible rfl)
  try simp only [Act.put, List.setIfInBounds_toArray, List.set_cons_zero, List.set_cons_succ, List.getElem_toArray, List.getElem_cons_succ, List.getElem_cons_zero]
  refine wpAnyH_done (by kernel_rfl) ?_ _
  clear hHeld
  go_upto_region 3 with (fail)
  have HC2 := Lib.hid (show u2.drew.cell? ⟨r, 0, none⟩ = some (.slice (some ⟨g, 0, none⟩) m m) ∧ u2.drew.cell? ⟨r, 1, none⟩ = some (.int .i64 (f : Int)) from ⟨(ring_cells HW.out.2.2.1.drew).1, (ring_cells HW.out.2.2.1.drew).2.1⟩)
  try simp only [List.cons_append, List.nil_append]
  refine wp_region_held_drew (S := fun v => v.cell? ⟨r, 0, none⟩ = some (.slice (some ⟨g, 0, none⟩) m m) ∧ v.cell? ⟨r, 1, none⟩ = some (.int .i64 (f : Int))) (by kernel_rfl) (HC2.out) (fun hHeld => ?_)
  refine take_at (some 20) (i := 0) (v := ?_) rfl rfl (by kernel_rfl) (by kernel_rfl) (by kernel_rfl) (fun _ _ _ h => h) (Or.inl ⟨by kernel_rfl, ?_⟩) hHeld ?_
  rotate_left
  · intro wz hSw; obtain ⟨k0, k1⟩ := hSw; go_simp; try (with_reducible rfl)
  try simp only [Act.put, List.setIfInBounds_toArray, List.set_cons_zero, List.set_cons_succ, List.getElem_toArray, List.getElem_cons_succ, List.getElem_cons_zero]
  refine take_at (some 21) (i := 1) (v := ?_) rfl rfl (by kernel_rfl) (by kernel_rfl) (by kernel_rfl) (fun _ _ _ h => h) (Or.inl ⟨by kernel_rfl, ?_⟩) hHeld ?_
  rotate_left
  · intro wz hSw; obtain ⟨k0, k1⟩ := hSw; go_simp; try (with_reducible rfl)
  try simp only [Act.put, List.setIfInBounds_toArray, List.set_cons_zero, List.set_cons_succ, List.getElem_toArray, List.getElem_cons_succ, List.getElem_cons_zero]
  refine take_at (some 22) (i := 2) rfl rfl (by kernel_rfl) (by kernel_rfl) (by kernel_rfl) (fun _ _ _ h => h) (yieldsIf_slice (by kernel_rfl) 30 (.tmp 20) (some (.tmp 21)) none rfl (.slice TB (n - b) (n - b)) HT2.out) hHeld ?_
  try simp only [Act.put, List.setIfInBounds_toArray, List.set_cons_zero, List.set_cons_succ, List.getElem_toArray, List.getElem_cons_succ, List.getElem_cons_zero]
  refine take_at (some 23) (i := 3) (v := ?_) rfl rfl (by kernel_rfl) (by kernel_rfl) (by kernel_rfl) (fun _ _ _ h => h) (Or.inl ⟨by kernel_rfl, ?_⟩) hHeld ?_
  rotate_left
  · intro wz hSw; obtain ⟨k0, k1⟩ := hSw; go_simp; try (with_reducible rfl)
  try simp only [Act.put, List.setIfInBounds_toArray, List.set_cons_zero, List.set_cons_succ, List.getElem_toArray, List.getElem_cons_succ, List.getElem_cons_zero]
  refine take_at (some 24) (i := 4) (v := ?_) rfl rfl (by kernel_rfl) (by kernel_rfl) (by kernel_rfl) (fun _ _ _ h => h) (Or.inl ⟨by kernel_rfl, ?_⟩) hHeld ?_
  rotate_left
  · intro wz hSw; obtain ⟨k0, k1⟩ := hSw; go_simp; try (with_reducible rfl)
  try simp only [Act.put, List.setIfInBounds_toArray, List.set_cons_zero, List.set_cons_succ, List.getElem_toArray, List.getElem_cons_succ, List.getElem_cons_zero]
  refine take_at (some 25) (i := 5) (v := ?_) rfl rfl (by kernel_rfl) (by kernel_rfl) (by kernel_rfl) (fun _ _ _ h => h) (Or.inl ⟨by kernel_rfl, ?_⟩) hHeld ?_
  rotate_left
  · intro wz hSw; obtain ⟨k0, k1⟩ := hSw; go_simp; try (with_reducible rfl)
  try simp only [Act.put, List.setIfInBounds_toArray, List.set_cons_zero, List.set_cons_succ, List.getElem_toArray, List.getElem_cons_succ, List.getElem_cons_zero]
  refine take_at (some 26) (i := 6) (v := ?_) rfl rfl (by kernel_rfl) (by kernel_rfl) (by kernel_rfl) (fun _ _ _ h => h) (Or.inl ⟨by kernel_rfl, ?_⟩) hHeld ?_
  rotate_left
  · intro wz hSw; obtain ⟨k0, k1⟩ := hSw; go_simp; try (with_reducible rfl)
  try simp only [Act.put, List.setIfInBounds_toArray, List.set_cons_zero, List.set_cons_succ, List.getElem_toArray, List.getElem_cons_succ, List.getElem_cons_zero]
  refine wpAnyH_ready (rs := [7]) (by kernel_rfl) (by simp) (AllReadyH.cons rfl (fun K hK => ?_) AllReadyH.nil)
  rw [if_pos (by kernel_rfl)]
  refine op_copy (.tmp 22) (.tmp 26) 30 30 5 rfl Tryz.underlying30 oneInfo TB (some ⟨g, 0, none⟩) (n - b) (n - b) m m rfl rfl s b _ 5 HW.out.1.drew (row.take (n - b)) (by rw [HL.out.2]; have := HN.out; omega) (fun h => by rw [HL.out.2] at h; rw [← HTB.out, tail_at s 0 n b (by omega), Nat.zero_add]) ((Rb.bk HW.out.2.1.drew).front (n - b)) (by rw [HL.out.2, length_splice _ _ _ (by rw [HL.out.1, List.length_replicate]; omega), List.length_replicate]; omega) ?_
  rw [HB.out]
  have HW2 := Lib.hid (show Bk (u2.drew.setRow s (bcells (q.take n))) s 5 (bcells (q.take n)) ∧ Bk (u2.drew.setRow s (bcells (q.take n))) r 95 (rcells g m f k) ∧ Ke [s] u (u2.drew.setRow s (bcells (q.take n))) from ⟨HW.out.1.drew.row _, HW.out.2.2.1.drew.rowFar (Nat.ne_of_lt HLT.out.1) _, (HW.out.2.2.2.drew).row (by simp) _⟩)
  refine hK.out _ _ ⟨(ring_cells HW2.out.2.1).1, (ring_cells HW2.out.2.1).2.1⟩ (fun hHeld => ?_)
  try simp only [Act.put, List.setIfInBounds_toArray, List.set_cons_zero, List.set_cons_succ, List.getElem_toArray, List.getElem_cons_succ, List.getElem_cons_zero]
  generalize u2.drew.setRow s (bcells (q.take n)) = u3 at HW2 hHeld ⊢
  refine wpAnyH_done (by kernel_rfl) ?_ _
  clear hHeld
  go_wp2_with fail
  go_ret
  exact ⟨rfl, HW2.out.1, HW2.out.2.2.new (Nat.le_of_eq HS.out.symm)⟩

/-- Look. -/
theorem look_ok (r g m : Nat) (q : List UInt8) (u : World) (h : Rg u r g m q) :
    Calls Tryz.prog 88 #[.pointer (some ⟨r, 0, none⟩)] u fun e u' => e = .returned (.slice (some ⟨u.heap.size, 0, none⟩) q.length q.length) ∧ Bk u' u.heap.size 5 (bcells q) ∧ Ke [] u u' := by
  have HBE := Lib.hid (begin_ok r g m q.length q u h (Nat.le_refl _))
  obtain ⟨_, _, row, f, _, _, _, h6⟩ := h
  obtain ⟨c0, c1, c2⟩ := ring_cells h6
  rw [List.take_length] at HBE
  obtain ⟨k, hk⟩ : ∃ k, q.length = k := ⟨_, rfl⟩
  rw [hk] at HBE c2 ⊢
  clear hk h6
  go_enter Tryz.func88, Tryz.ntmps88
  go_wp2_with (go_at_call 89; refine HBE.out.mono ?_; rintro e u' ⟨rfl, hb, hk⟩)
  go_ret
  exact ⟨rfl, hb, hk⟩
end Go.Proofs.YtndamiocmdnenaaGreat
