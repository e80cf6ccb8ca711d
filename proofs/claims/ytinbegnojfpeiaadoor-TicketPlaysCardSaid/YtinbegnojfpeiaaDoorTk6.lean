/- kept, ticket: their contracts. (Written by gen_tk6.py.) -/
import Derived.Test.YtinbegnojfpeiaaDoorTk5
import Derived.Test.YtinbegnojfpeiaaDoorG13
import Derived.Test.YtinbegnojfpeiaaDoorG14
namespace Go.Proofs.YtinbegnojfpeiaaDoor
set_option linter.unusedVariables false
set_option maxRecDepth 100000
set_option linter.unusedSimpArgs false
open Go.RowKit

theorem two_bkZ {w : World} {g : Nat} {t : TypeId} {x y : ByteArray} (h : Bk w g t #[.string x, .string y]) : Rs w w.heap.size (some ⟨g, 0, none⟩) [x, y] := by
  refine .inr ⟨g, 0, rfl, h.lt, fun i hi => ?_⟩
  rw [h.cell]
  match i, hi with
  | 0, _ => rfl
  | 1, _ => rfl
/-- What kept goes by: the two passes. -/
def Kp5 (u : World) (g1 g2 : Nat) (p : Ps) (wz : World) : Prop := Below u.heap.size u wz ∧ Bk wz g1 31 (pcs p) ∧ Bk wz g2 31 (pcs zeroPs)
theorem Kp5.on {u : World} {g1 g2 : Nat} {p : Ps} {w w' : World} (h : Kp5 u g1 g2 p w) (hb : Below w.heap.size w w') : Kp5 u g1 g2 p w' := ⟨h.1.trans (hb.mono h.1.size), h.2.1.below hb h.2.1.lt, h.2.2.below hb h.2.2.lt⟩
theorem Kp5.set {u : World} {g1 g2 : Nat} {p : Ps} {w : World} (h : Kp5 u g1 g2 p w) (hn : g2 ≠ g1) (hg : u.heap.size ≤ g1) (i : Nat) (v : Value) (hv : (pcs p).setIfInBounds i v = pcs p) : Kp5 u g1 g2 p (w.setCell ⟨g1, i, none⟩ v) := by
  refine ⟨h.1.trans (((Ke.refl [g1] w).set (p := ⟨g1, i, none⟩) (List.mem_singleton.2 rfl) v).below h.1.size (fun x hx => by rw [List.mem_singleton.1 hx]; exact hg)), ?_, h.2.2.far hn _⟩
  have := h.2.1.set i v
  rwa [hv] at this
set_option maxRecDepth 100000 in
set_option maxHeartbeats 4000000 in
theorem tkept_ok (p : Ps) (u : World) (h1 : p.nm.size ≤ 140737488355328) (h2 : p.ten.size ≤ 140737488355328) :
    Calls Tryd.prog 27 #[.agg (pcs p)] u fun e u' => e = .returned (.agg (pcs p)) ∧ Below u.heap.size u u' := by
  obtain ⟨g1, hg1⟩ : ∃ g1, u.heap.size = g1 := ⟨_, rfl⟩
  obtain ⟨g2, hg2⟩ : ∃ g2, g1 + 1 = g2 := ⟨_, rfl⟩
  obtain ⟨pv, pn, pt, pe⟩ := p
  have hsz : (u.alloc (.cells #[.int .i64 pv, .string pn, .string pt, .int .i64 pe] 31)).heap.size = g2 := by rw [World.size_alloc, ← hg2, ← hg1]
  obtain ⟨u1, hu1⟩ : ∃ u1, (u.alloc (.cells #[.int .i64 pv, .string pn, .string pt, .int .i64 pe] 31)).alloc (.cells #[.int .i64 0, .string ⟨#[]⟩, .string ⟨#[]⟩, .int .i64 0] 31) = u1 := ⟨_, rfl⟩
  have hb0 : Below u.heap.size u (u.alloc (.cells #[.int .i64 pv, .string pn, .string pt, .int .i64 pe] 31)) := (Below.refl _ _).alloc (Nat.le_refl _) _
  have hk1 : Kp5 u g1 g2 ⟨pv, pn, pt, pe⟩ u1 := by
    rw [← hu1]
    refine ⟨hb0.alloc hb0.size _, ?_, ?_⟩
    · rw [← hg1]
      exact (Bk.new u 31 #[.int .i64 pv, .string pn, .string pt, .int .i64 pe]).alloc _
    · have := Bk.new (u.alloc (.cells #[.int .i64 pv, .string pn, .string pt, .int .i64 pe] 31)) 31 (pcs zeroPs)
      rw [hsz] at this
      exact this
  have HK := Lib.hid hk1
  have HS := Lib.hid (And.intro h1 h2)
  have HG := Lib.hid (And.intro (show g2 ≠ g1 by omega) (show u.heap.size ≤ g1 by omega))
  have HG2 := Lib.hid (show u.heap.size ≤ g2 by omega)
  clear h1 h2 hb0 hk1
  show Calls Tryd.prog 27 #[.agg #[.int .i64 pv, .string pn, .string pt, .int .i64 pe]] u _
  go_enter Tryd.func27, Tryd.ntmps27
  go_upto_region 1 with fail
  try rw [hsz]
  try rw [hg1]
  try rw [hu1]
  clear hu1 hsz hg1 hg2
  try simp only [List.cons_append, List.nil_append]
  refine wp_region_held_drew (S := fun wz => Kp5 u g1 g2 ⟨pv, pn, pt, pe⟩ wz) (by kernel_rfl) (HK.out.on (Below.refl _ _).drew) (fun hHeld => ?_)
  refine take_at (some 3) (i := 0) (v := ?_) rfl rfl (by kernel_rfl) (by kernel_rfl) (by kernel_rfl) (fun _ _ _ h => h) (Or.inl ⟨by kernel_rfl, ?_⟩) hHeld ?_
  rotate_left
  · intro wz hSw; have q1 : wz.cell? ⟨g1, 1, none⟩ = some (.string pn) := hSw.2.1.cell 1; have q2 : wz.cell? ⟨g1, 2, none⟩ = some (.string pt) := hSw.2.1.cell 2; go_simp; try (with_reducible rfl)
  try simp only [Act.put, List.setIfInBounds_toArray, List.set_cons_zero, List.set_cons_succ, List.getElem_toArray, List.getElem_cons_succ, List.getElem_cons_zero]
  refine take_at (some 4) (i := 1) (v := ?_) rfl rfl (by kernel_rfl) (by kernel_rfl) (by kernel_rfl) (fun _ _ _ h => h) (Or.inl ⟨by kernel_rfl, ?_⟩) hHeld ?_
  rotate_left
  · intro wz hSw; have q1 : wz.cell? ⟨g1, 1, none⟩ = some (.string pn) := hSw.2.1.cell 1; have q2 : wz.cell? ⟨g1, 2, none⟩ = some (.string pt) := hSw.2.1.cell 2; go_simp; try (with_reducible rfl)
  try simp only [Act.put, List.setIfInBounds_toArray, List.set_cons_zero, List.set_cons_succ, List.getElem_toArray, List.getElem_cons_succ, List.getElem_cons_zero]
  refine take_at (some 6) (i := 3) (v := ?_) rfl rfl (by kernel_rfl) (by kernel_rfl) (by kernel_rfl) (fun _ _ _ h => h) (Or.inl ⟨by kernel_rfl, ?_⟩) hHeld ?_
  rotate_left
  · intro wz hSw; have q1 : wz.cell? ⟨g1, 1, none⟩ = some (.string pn) := hSw.2.1.cell 1; have q2 : wz.cell? ⟨g1, 2, none⟩ = some (.string pt) := hSw.2.1.cell 2; go_simp; try (with_reducible rfl)
  try simp only [Act.put, List.setIfInBounds_toArray, List.set_cons_zero, List.set_cons_succ, List.getElem_toArray, List.getElem_cons_succ, List.getElem_cons_zero]
  refine take_at (some 7) (i := 4) (v := ?_) rfl rfl (by kernel_rfl) (by kernel_rfl) (by kernel_rfl) (fun _ _ _ h => h) (Or.inl ⟨by kernel_rfl, ?_⟩) hHeld ?_
  rotate_left
  · intro wz hSw; have q1 : wz.cell? ⟨g1, 1, none⟩ = some (.string pn) := hSw.2.1.cell 1; have q2 : wz.cell? ⟨g1, 2, none⟩ = some (.string pt) := hSw.2.1.cell 2; go_simp; try (with_reducible rfl)
  try simp only [Act.put, List.setIfInBounds_toArray, List.set_cons_zero, List.set_cons_succ, List.getElem_toArray, List.getElem_cons_succ, List.getElem_cons_zero]
  obtain ⟨wd, hwd⟩ : ∃ wd, u1.drew = wd := ⟨_, rfl⟩
  have k0 : Kp5 u g1 g2 ⟨pv, pn, pt, pe⟩ wd := by rw [← hwd]; exact HK.out.on (Below.refl _ _).drew
  try rw [hwd]
  clear hwd
  refine wpAnyH_ready (rs := [2]) (by kernel_rfl) (by simp) (AllReadyH.cons rfl (fun K hK => ?_) AllReadyH.nil)
  rw [if_pos (by kernel_rfl)]
  go_simp
  refine (sclone_ok pn _ HS.out.1).mono ?_
  rintro e x1 ⟨rfl, hb1⟩
  try dsimp only
  have k1 := k0.on hb1
  refine hK.out _ _ k1 (fun hHeld => ?_)
  try simp only [Act.put, List.setIfInBounds_toArray, List.set_cons_zero, List.set_cons_succ, List.getElem_toArray, List.getElem_cons_succ, List.getElem_cons_zero]
  refine take_at (some 9) (i := 6) (v := ?_) rfl rfl (by kernel_rfl) (by kernel_rfl) (by kernel_rfl) (fun _ _ _ h => h) (Or.inl ⟨by kernel_rfl, ?_⟩) hHeld ?_
  rotate_left
  · intro wz hSw; go_simp; try (with_reducible rfl)
  try simp only [Act.put, List.setIfInBounds_toArray, List.set_cons_zero, List.set_cons_succ, List.getElem_toArray, List.getElem_cons_succ, List.getElem_cons_zero]
  refine wpAnyH_ready (rs := [5]) (by kernel_rfl) (by simp) (AllReadyH.cons rfl (fun K hK => ?_) AllReadyH.nil)
  rw [if_pos (by kernel_rfl)]
  go_simp
  refine (sclone_ok pt _ HS.out.2).mono ?_
  rintro e x2 ⟨rfl, hb2⟩
  try dsimp only
  have k2 := k1.on hb2
  refine hK.out _ _ k2 (fun hHeld => ?_)
  try simp only [Act.put, List.setIfInBounds_toArray, List.set_cons_zero, List.set_cons_succ, List.getElem_toArray, List.getElem_cons_succ, List.getElem_cons_zero]
  have a1 : x2.cell? ⟨g1, 1, none⟩ = some (.string pn) := k2.2.1.cell 1
  have a2 := k2.2.1.frozen 1
  refine wpAnyH_ready (rs := [7]) (by kernel_rfl) (by simp) (AllReadyH.cons rfl (fun K hK => ?_) AllReadyH.nil)
  rw [if_pos (by kernel_rfl)]
  go_simp
  have k3 := k2.set HG.out.1 HG.out.2 1 (.string pn) rfl
  obtain ⟨x3, hx3⟩ : ∃ x3, x2.setCell ⟨g1, 1, none⟩ (.string pn) = x3 := ⟨_, rfl⟩
  rw [hx3] at k3
  try rw [hx3]
  refine hK.out _ _ k3 (fun hHeld => ?_)
  try simp only [Act.put, List.setIfInBounds_toArray, List.set_cons_zero, List.set_cons_succ, List.getElem_toArray, List.getElem_cons_succ, List.getElem_cons_zero]
  refine take_at (some 10) (i := 8) (v := ?_) rfl rfl (by kernel_rfl) (by kernel_rfl) (by kernel_rfl) (fun _ _ _ h => h) (Or.inl ⟨by kernel_rfl, ?_⟩) hHeld ?_
  rotate_left
  · intro wz hSw; go_simp; try (with_reducible rfl)
  try simp only [Act.put, List.setIfInBounds_toArray, List.set_cons_zero, List.set_cons_succ, List.getElem_toArray, List.getElem_cons_succ, List.getElem_cons_zero]
  have a3 : x3.cell? ⟨g1, 2, none⟩ = some (.string pt) := k3.2.1.cell 2
  have a4 := k3.2.1.frozen 2
  refine wpAnyH_ready (rs := [9]) (by kernel_rfl) (by simp) (AllReadyH.cons rfl (fun K hK => ?_) AllReadyH.nil)
  rw [if_pos (by kernel_rfl)]
  go_simp
  have k4 := k3.set HG.out.1 HG.out.2 2 (.string pt) rfl
  obtain ⟨x4, hx4⟩ : ∃ x4, x3.setCell ⟨g1, 2, none⟩ (.string pt) = x4 := ⟨_, rfl⟩
  rw [hx4] at k4
  try rw [hx4]
  refine hK.out _ _ k4 (fun hHeld => ?_)
  try simp only [Act.put, List.setIfInBounds_toArray, List.set_cons_zero, List.set_cons_succ, List.getElem_toArray, List.getElem_cons_succ, List.getElem_cons_zero]
  refine wpAnyH_done (by kernel_rfl) ?_ _
  clear hHeld
  have b0 : x4.cell? ⟨g1, 0, none⟩ = some (.int .i64 pv) := k4.2.1.cell 0
  have b1 : x4.cell? ⟨g1, 1, none⟩ = some (.string pn) := k4.2.1.cell 1
  have b2 : x4.cell? ⟨g1, 2, none⟩ = some (.string pt) := k4.2.1.cell 2
  have b3 : x4.cell? ⟨g1, 3, none⟩ = some (.int .i64 pe) := k4.2.1.cell 3
  have z0 : x4.cell? ⟨g2, 0, none⟩ = some (.int .i64 0) := k4.2.2.cell 0
  have z1 : x4.cell? ⟨g2, 1, none⟩ = some (.string ⟨#[]⟩) := k4.2.2.cell 1
  have z2 : x4.cell? ⟨g2, 2, none⟩ = some (.string ⟨#[]⟩) := k4.2.2.cell 2
  have z3 : x4.cell? ⟨g2, 3, none⟩ = some (.int .i64 0) := k4.2.2.cell 3
  have f0 := k4.2.2.frozen 0
  have f1 := k4.2.2.frozen 1
  have f2 := k4.2.2.frozen 2
  have f3 := k4.2.2.frozen 3
  go_wp2
  have HU := k4.2.2.set4 ⟨pv, pn, pt, pe⟩
  have hkk := k4.1.trans ((ke_set4 x4 g2 ⟨pv, pn, pt, pe⟩).below k4.1.size (fun x hx => by rw [List.mem_singleton.1 hx]; exact HG2.out))
  simp only [set4, pcs] at HU hkk
  have p0 := HU.cell 0; have p1 := HU.cell 1; have p2 := HU.cell 2; have p3 := HU.cell 3
  refine bodyPost_ret (v := .agg #[.int .i64 pv, .string pn, .string pt, .int .i64 pe]) ?_ rfl ⟨rfl, hkk⟩
  simp [results, Tryd.f27, go_sem, p0, p1, p2, p3]
section
variable {u : World} {H : List Nat} {B tb : Nat} {key : ByteArray} {se : Int} {l : List Tq} {A : Option Addr} {c kb kc : Nat}
set_option maxRecDepth 100000 in
set_option maxHeartbeats 4000000 in
theorem ticket_ok (N : Nat) (h : Tm u H B tb key (N : Int) l A c kb kc) (d : ByteArray) (hk : key.size ≤ 3000) (hd : d.size ≤ 1099511627776) (hN : N ≤ 1000001) (hG : Gl u) :
    Calls Tryd.prog 26 #[.pointer (some ⟨tb, 0, none⟩), .string d] u fun e u' => e = .returned (.string (tixT key d (N : Int))) ∧ Below u.heap.size u u' := by
  obtain ⟨KN, hK0⟩ : ∃ KN, min d.size 255 = KN := ⟨_, rfl⟩
  have HMIN := Lib.hid (show min (d.size : Int) 255 = (KN : Int) by omega)
  have hmin := HMIN.out
  have HCUT := Lib.hid (show cutT d = d.extract 0 KN by unfold cutT; rw [hK0])
  have hK1 : KN ≤ d.size := by omega
  have hK2 : KN ≤ 255 := by omega
  have hK1i : (KN : Int) ≤ (d.size : Int) := by omega
  obtain ⟨PF, hPF⟩ : ∃ PF, prfT key d (N : Int) = PF := ⟨_, rfl⟩
  have HPF := Lib.hid (show PF = ⟨(proofB key.data.toList [bs (decB N), d.extract 0 KN]).toArray⟩ by rw [← hPF, ← HCUT.out]; rfl)
  have hpf : PF.size = 64 := by rw [← hPF]; exact prf_size _ _ _ (by show N ≤ _; omega)
  have hpi : (32 : Int) ≤ (PF.size : Int) := by omega
  have HT := Lib.hid (show tixT key d (N : Int) = PF.extract 0 32 by unfold tixT; rw [hPF])
  have HSM := Lib.hid (show ∀ x ∈ [bs (decB N), d.extract 0 KN], x.size ≤ 140737488355328 from fun x hx => by
    rcases List.mem_cons.1 hx with rfl | hx
    · have := dec_few N (by omega); omega
    · rw [List.mem_singleton.1 hx, ByteArray.size_extract]; omega)
  have HTX := Lib.hid (show (textsB [bs (decB N), d.extract 0 KN]).length ≤ 549755813888 from by
    have h1 := textB_few (bs (decB N))
    have h2 := textB_few (d.extract 0 KN)
    unfold textsB
    simp only [List.map_cons, List.map_nil, List.flatten_cons, List.flatten_nil, List.length_append, List.length_nil]
    omega)
  have HH := Lib.hid h
  have HGL := Lib.hid hG
  have HKD := Lib.hid (And.intro hk hd)
  clear h hK0 hPF hG hk hd
  go_enter Tryd.func26, Tryd.ntmps26
  go_upto_region 2 with fail
  try rw [hmin]
  try simp only [List.cons_append, List.nil_append]
  refine wp_region_held_drew (S := fun wz => Below u.heap.size u wz) (by kernel_rfl) ((Below.refl _ _).drew) (fun hHeld => ?_)
  refine take_at (some 9) (i := 0) (v := ?_) rfl rfl (by kernel_rfl) (by kernel_rfl) (by kernel_rfl) (fun _ _ _ h => h) (Or.inl ⟨by kernel_rfl, ?_⟩) hHeld ?_
  rotate_left
  · intro wz hSw; go_simp; try (with_reducible rfl)
  try simp only [Act.put, List.setIfInBounds_toArray, List.set_cons_zero, List.set_cons_succ, List.getElem_toArray, List.getElem_cons_succ, List.getElem_cons_zero]
  refine take_at (some 10) (i := 1) (v := ?_) rfl rfl (by kernel_rfl) (by kernel_rfl) (by kernel_rfl) (fun _ _ _ h => h) (Or.inl ⟨by kernel_rfl, ?_⟩) hHeld ?_
  rotate_left
  · intro wz hSw; have q0 : wz.cell? ⟨tb, 0, none⟩ = some (.slice (some ⟨kb, 0, none⟩) key.size kc) := (HH.out.on hSw).blk.cell 0; have q1 : wz.cell? ⟨tb, 1, none⟩ = some (.int .i64 (N : Int)) := (HH.out.on hSw).blk.cell 1; go_simp; try (with_reducible rfl)
  try simp only [Act.put, List.setIfInBounds_toArray, List.set_cons_zero, List.set_cons_succ, List.getElem_toArray, List.getElem_cons_succ, List.getElem_cons_zero]
  refine take_at (some 11) (i := 2) (v := ?_) rfl rfl (by kernel_rfl) (by kernel_rfl) (by kernel_rfl) (fun _ _ _ h => h) (Or.inl ⟨by kernel_rfl, ?_⟩) hHeld ?_
  rotate_left
  · intro wz hSw; have q0 : wz.cell? ⟨tb, 0, none⟩ = some (.slice (some ⟨kb, 0, none⟩) key.size kc) := (HH.out.on hSw).blk.cell 0; have q1 : wz.cell? ⟨tb, 1, none⟩ = some (.int .i64 (N : Int)) := (HH.out.on hSw).blk.cell 1; go_simp; try (with_reducible rfl)
  try simp only [Act.put, List.setIfInBounds_toArray, List.set_cons_zero, List.set_cons_succ, List.getElem_toArray, List.getElem_cons_succ, List.getElem_cons_zero]
  refine take_at (some 12) (i := 3) (v := ?_) rfl rfl (by kernel_rfl) (by kernel_rfl) (by kernel_rfl) (fun _ _ _ h => h) (Or.inl ⟨by kernel_rfl, ?_⟩) hHeld ?_
  rotate_left
  · intro wz hSw; have q0 : wz.cell? ⟨tb, 0, none⟩ = some (.slice (some ⟨kb, 0, none⟩) key.size kc) := (HH.out.on hSw).blk.cell 0; have q1 : wz.cell? ⟨tb, 1, none⟩ = some (.int .i64 (N : Int)) := (HH.out.on hSw).blk.cell 1; go_simp; try (with_reducible rfl)
  try simp only [Act.put, List.setIfInBounds_toArray, List.set_cons_zero, List.set_cons_succ, List.getElem_toArray, List.getElem_cons_succ, List.getElem_cons_zero]
  refine take_at (some 13) (i := 4) (v := ?_) rfl rfl (by kernel_rfl) (by kernel_rfl) (by kernel_rfl) (fun _ _ _ h => h) (Or.inl ⟨by kernel_rfl, ?_⟩) hHeld ?_
  rotate_left
  · intro wz hSw; go_simp; try (with_reducible rfl)
  try simp only [Act.put, List.setIfInBounds_toArray, List.set_cons_zero, List.set_cons_succ, List.getElem_toArray, List.getElem_cons_succ, List.getElem_cons_zero]
  refine take_at (some 14) (i := 5) (v := ?_) rfl rfl (by kernel_rfl) (by kernel_rfl) (by kernel_rfl) (fun _ _ _ h => h) (Or.inl ⟨by kernel_rfl, ?_⟩) hHeld ?_
  rotate_left
  · intro wz hSw; have q0 : wz.cell? ⟨tb, 0, none⟩ = some (.slice (some ⟨kb, 0, none⟩) key.size kc) := (HH.out.on hSw).blk.cell 0; have q1 : wz.cell? ⟨tb, 1, none⟩ = some (.int .i64 (N : Int)) := (HH.out.on hSw).blk.cell 1; go_simp; try (with_reducible rfl)
  try simp only [Act.put, List.setIfInBounds_toArray, List.set_cons_zero, List.set_cons_succ, List.getElem_toArray, List.getElem_cons_succ, List.getElem_cons_zero]
  refine take_at (some 15) (i := 6) (v := ?_) rfl rfl (by kernel_rfl) (by kernel_rfl) (by kernel_rfl) (fun _ _ _ h => h) (Or.inl ⟨by kernel_rfl, ?_⟩) hHeld ?_
  rotate_left
  · intro wz hSw; have q0 : wz.cell? ⟨tb, 0, none⟩ = some (.slice (some ⟨kb, 0, none⟩) key.size kc) := (HH.out.on hSw).blk.cell 0; have q1 : wz.cell? ⟨tb, 1, none⟩ = some (.int .i64 (N : Int)) := (HH.out.on hSw).blk.cell 1; go_simp; try (with_reducible rfl)
  try simp only [Act.put, List.setIfInBounds_toArray, List.set_cons_zero, List.set_cons_succ, List.getElem_toArray, List.getElem_cons_succ, List.getElem_cons_zero]
  refine take_at (some 16) (i := 7) (v := ?_) rfl rfl (by kernel_rfl) (by kernel_rfl) (by kernel_rfl) (fun _ _ _ h => h) (Or.inl ⟨by kernel_rfl, ?_⟩) hHeld ?_
  rotate_left
  · intro wz hSw; have q0 : wz.cell? ⟨tb, 0, none⟩ = some (.slice (some ⟨kb, 0, none⟩) key.size kc) := (HH.out.on hSw).blk.cell 0; have q1 : wz.cell? ⟨tb, 1, none⟩ = some (.int .i64 (N : Int)) := (HH.out.on hSw).blk.cell 1; go_simp; try (with_reducible rfl)
  try simp only [Act.put, List.setIfInBounds_toArray, List.set_cons_zero, List.set_cons_succ, List.getElem_toArray, List.getElem_cons_succ, List.getElem_cons_zero]
  refine take_at (some 18) (i := 9) (v := ?_) rfl rfl (by kernel_rfl) (by kernel_rfl) (by kernel_rfl) (fun _ _ _ h => h) (Or.inl ⟨by kernel_rfl, ?_⟩) hHeld ?_
  rotate_left
  · intro wz hSw; go_simp; try (with_reducible rfl)
  try simp only [Act.put, List.setIfInBounds_toArray, List.set_cons_zero, List.set_cons_succ, List.getElem_toArray, List.getElem_cons_succ, List.getElem_cons_zero]
  refine take_at (some 19) (i := 10) (v := ?_) rfl rfl (by kernel_rfl) (by kernel_rfl) (by kernel_rfl) (fun _ _ _ h => h) (Or.inl ⟨by kernel_rfl, ?_⟩) hHeld ?_
  rotate_left
  · intro wz hSw; go_simp; try (with_reducible rfl)
  try simp only [Act.put, List.setIfInBounds_toArray, List.set_cons_zero, List.set_cons_succ, List.getElem_toArray, List.getElem_cons_succ, List.getElem_cons_zero]
  refine take_at (some 20) (i := 11) (v := ?_) rfl rfl (by kernel_rfl) (by kernel_rfl) (by kernel_rfl) (fun _ _ _ h => h) (Or.inl ⟨by kernel_rfl, ?_⟩) hHeld ?_
  rotate_left
  · intro wz hSw; go_simp; try (with_reducible rfl)
  try simp only [Act.put, List.setIfInBounds_toArray, List.set_cons_zero, List.set_cons_succ, List.getElem_toArray, List.getElem_cons_succ, List.getElem_cons_zero]
  obtain ⟨wd, hwd⟩ : ∃ wd, u.drew = wd := ⟨_, rfl⟩
  have hxd : Below u.heap.size u wd := by rw [← hwd]; exact (Below.refl _ _).drew
  try rw [hwd]
  clear hwd
  refine wpAnyH_ready (rs := [8]) (by kernel_rfl) (by simp) (AllReadyH.cons rfl (fun K hK => ?_) AllReadyH.nil)
  rw [if_pos (by kernel_rfl)]
  go_simp
  refine (dec_ok N wd (by omega)).mono ?_
  rintro e w4 ⟨rfl, hb⟩
  try dsimp only
  have hx4 : Below u.heap.size u w4 := hxd.trans (hb.mono hxd.size)
  clear hb
  refine hK.out _ _ hx4 (fun hHeld => ?_)
  try simp only [Act.put, List.setIfInBounds_toArray, List.set_cons_zero, List.set_cons_succ, List.getElem_toArray, List.getElem_cons_succ, List.getElem_cons_zero]
  refine wpAnyH_ready (rs := [12]) (by kernel_rfl) (by simp) (AllReadyH.cons rfl (fun K hK => ?_) AllReadyH.nil)
  rw [if_pos (by kernel_rfl)]
  go_simp
  try dsimp only
  obtain ⟨w5, hw5⟩ : ∃ w5, w4.alloc (.cells #[.string ⟨(decB N).toArray⟩, .string (d.extract 0 KN)] 9) = w5 := ⟨_, rfl⟩
  obtain ⟨gw, hgw⟩ : ∃ gw, w4.heap.size = gw := ⟨_, rfl⟩
  have hx5 : Below u.heap.size u w5 := by rw [← hw5]; exact hx4.alloc hx4.size _
  have hbk5 : Bk w5 gw 9 #[.string (bs (decB N)), .string (d.extract 0 KN)] := by rw [← hw5, ← hgw]; exact Bk.new _ _ _
  try rw [hw5]
  try rw [hgw]
  clear hw5 hgw
  refine hK.out _ _ hx5 (fun hHeld => ?_)
  try simp only [Act.put, List.setIfInBounds_toArray, List.set_cons_zero, List.set_cons_succ, List.getElem_toArray, List.getElem_cons_succ, List.getElem_cons_zero]
  refine wpAnyH_ready (rs := [13]) (by kernel_rfl) (by simp) (AllReadyH.cons rfl (fun K hK => ?_) AllReadyH.nil)
  rw [if_pos (by kernel_rfl)]
  go_simp
  refine (proof_ok (some ⟨kb, 0, none⟩) key.size kc key.data.toList (some ⟨gw, 0, none⟩) 2 2 [bs (decB N), d.extract 0 KN] w5 rfl HH.out.k1 HH.out.k2 (by have := HKD.out.1; omega) ((HH.out.on hx5).ky).rb rfl (by omega) (two_bkZ hbk5) HSM.out HTX.out (HGL.out.below hx5 HGL.out.size)).mono ?_
  rintro e w6 ⟨rfl, hb⟩
  try dsimp only
  rw [← HPF.out]
  have hx6 : Below u.heap.size u w6 := hx5.trans (hb.mono hx5.size)
  clear hb
  refine hK.out _ _ hx6 (fun hHeld => ?_)
  try simp only [Act.put, List.setIfInBounds_toArray, List.set_cons_zero, List.set_cons_succ, List.getElem_toArray, List.getElem_cons_succ, List.getElem_cons_zero]
  refine take_at (some 23) (i := 14) (v := ?_) rfl rfl (by kernel_rfl) (by kernel_rfl) (by kernel_rfl) (fun _ _ _ h => h) (Or.inl ⟨by kernel_rfl, ?_⟩) hHeld ?_
  rotate_left
  · intro wz hSw; go_simp; try (with_reducible rfl)
  try simp only [Act.put, List.setIfInBounds_toArray, List.set_cons_zero, List.set_cons_succ, List.getElem_toArray, List.getElem_cons_succ, List.getElem_cons_zero]
  refine wpAnyH_ready (rs := [15]) (by kernel_rfl) (by simp) (AllReadyH.cons rfl (fun K hK => ?_) AllReadyH.nil)
  rw [if_pos (by kernel_rfl)]
  go_simp
  refine hK.out _ _ hx6 (fun hHeld => ?_)
  try simp only [Act.put, List.setIfInBounds_toArray, List.set_cons_zero, List.set_cons_succ, List.getElem_toArray, List.getElem_cons_succ, List.getElem_cons_zero]
  refine wpAnyH_done (by kernel_rfl) ?_ _
  clear hHeld hx5 hx4 hbk5
  have HX6 := Lib.hid hx6
  clear hx6
  go_wp2
  go_ret
  exact ⟨by rw [HT.out]; rfl, HX6.out⟩
end
end Go.Proofs.YtinbegnojfpeiaaDoor
