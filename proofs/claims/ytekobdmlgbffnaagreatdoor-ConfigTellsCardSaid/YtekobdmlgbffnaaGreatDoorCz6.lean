/- The document's own: Print: its contract. (Written by gen_cz6.py.) -/
import Derived.Test.YtekobdmlgbffnaaGreatDoorCgT2
import Derived.Test.YtekobdmlgbffnaaGreatDoorRRight
import Derived.Test.YtekobdmlgbffnaaGreatDoorRHex
import Derived.Test.YtekobdmlgbffnaaGreatDoorG11
import Derived.Test.YtekobdmlgbffnaaGreatDoorCz2
import Derived.Test.YtekobdmlgbffnaaGreatDoorG4
namespace Go.Proofs.YtekobdmlgbffnaaGreatDoor
set_option linter.unusedVariables false
set_option maxRecDepth 100000
set_option linter.unusedSimpArgs false
open Go.RowKit

theorem num_w (a : Int) (h0 : 0 ≤ a) (h1 : a ≤ 1099511627776) (u : World) : Calls Tryz.prog 54 #[.int .i64 a] u fun e u' => e = .returned (.string (bs (decB a.toNat))) ∧ Below u.heap.size u u' := by
  have := rnum_ok a.toNat u (by omega)
  rwa [show ((a.toNat : Nat) : Int) = a by omega] at this
theorem rline_new (ws : List (List UInt8)) (n : Nat) (u : World) (hn : ws.length = n) (hn0 : n ≤ 5) (hl : (lineT ws).length ≤ 326) :
    Calls Tryz.prog 53 #[.slice (some ⟨u.heap.size, 0, none⟩) n n] (u.alloc (.cells (wdc ws) 9)) fun e w' => e = .returned (.string (bs (lineT ws))) ∧ Below u.heap.size u w' := by
  have hb : Bk (u.alloc (.cells (wdc ws) 9)) u.heap.size 9 (wdc ws) := Bk.new u _ _
  have ha := (Below.refl u.heap.size u).alloc (Nat.le_refl _) (.cells (wdc ws) 9)
  refine (rline_ok u.heap.size 0 n n ws _ hn (by omega) hb.lt (fun j x hx => ?_) (by omega)).mono fun e w' hh => ⟨hh.1, ha.trans (hh.2.mono ha.size)⟩
  rw [Nat.zero_add, hb.cell]
  unfold wdc
  simp [hx]

set_option maxRecDepth 100000 in
set_option maxHeartbeats 4000000 in
theorem rprint_no (x : Cv) (w : World) (h : RC w x) (hc : cfgB x.cg = false) : Calls Tryz.prog 16 #[.agg (ccs x)] w fun e w' => e = .returned (.string ⟨#[]⟩) ∧ Below w.heap.size w w' := by
  have HRG := Lib.hid (rfright_ok x (w.alloc (.cells (ccs x) 24)) (h.on ((Below.refl _ _).alloc (Nat.le_refl _) _)))
  rw [hc] at HRG
  have HB := Lib.hid (show Below w.heap.size w (w.alloc (.cells (ccs x) 24)) from (Below.refl _ _).alloc (Nat.le_refl _) _)
  obtain ⟨a0, a1, a2, a3, ts, A, c⟩ := x
  clear h hc
  go_enter Tryz.func16, Tryz.ntmps16
  go_wp2_with (go_at_call 14; refine HRG.out.mono ?_; rintro e u1 ⟨rfl, hb⟩)
  go_ret
  exact ⟨rfl, HB.out.trans (hb.mono HB.out.size)⟩

set_option maxRecDepth 100000 in
set_option maxHeartbeats 8000000 in
theorem rprint_yes (x : Cv) (w : World) (h : RC w x) (hc : cfgB x.cg = true) : Calls Tryz.prog 16 #[.agg (ccs x)] w fun e w' => e = .returned (.string (bs (printT x.cg))) ∧ Below w.heap.size w w' := by
  have HRG := Lib.hid (rfright_ok x (w.alloc (.cells (ccs x) 24)) (h.on ((Below.refl _ _).alloc (Nat.le_refl _) _)))
  rw [hc] at HRG
  have HR := Lib.hid h.r
  have hlen := print_len x.cg
  have hshort := (cfg_short hc).1
  have HTN := Lib.hid (fun (y : Tv) (hy : y ∈ x.ts) => tnp_of hc (t := y.t) (List.mem_map.2 ⟨y, hy, rfl⟩))
  obtain ⟨b1, b2, b3, b4, _, _, _⟩ := cfgB_parts hc
  have hprint : printT x.cg = textT (cfgLs x.cg) := by unfold printT; rw [if_pos hc]
  have hfit := h.f
  obtain ⟨a0, a1, a2, a3, ts, A, c⟩ := x
  have q1 := tim_le b1
  have q2 := tim_le b2
  have q3 := tim_le b3
  have q4 := tim_le b4
  simp only [Cv.cg] at q1 q2 q3 q4
  have HD0 := Lib.hid (fun u => num_w a0 (by omega) (by omega) u)
  have HD1 := Lib.hid (fun u => num_w a1 (by omega) (by omega) u)
  have HD2 := Lib.hid (fun u => num_w a2 (by omega) (by omega) u)
  have HD3 := Lib.hid (fun u => num_w a3 (by omega) (by omega) u)
  obtain ⟨l0, hl0⟩ : ∃ l, decB a0.toNat = l := ⟨_, rfl⟩
  obtain ⟨l1, hl1⟩ : ∃ l, decB a1.toNat = l := ⟨_, rfl⟩
  obtain ⟨l2, hl2⟩ : ∃ l, decB a2.toNat = l := ⟨_, rfl⟩
  obtain ⟨l3, hl3⟩ : ∃ l, decB a3.toNat = l := ⟨_, rfl⟩
  have hcfg : textT (cfgLs (Cv.cg ⟨a0, a1, a2, a3, ts, A, c⟩)) = lineT [wTimes, l0, l1, l2, l3] ++ textT ((ts.drop 0).flatMap fun y => tenLs y.t) := by
    rw [cfgLs, textT_cons, List.drop_zero, ← hl0, ← hl1, ← hl2, ← hl3]
    simp only [Cv.cg, timesW, List.flatMap_map]
  have hl := hshort (timesW (Cv.cg ⟨a0, a1, a2, a3, ts, A, c⟩)) (by simp [cfgLs])
  have hl' : (lineT [wTimes, l0, l1, l2, l3]).length ≤ 326 := by rw [← hl0, ← hl1, ← hl2, ← hl3]; exact hl
  have HLN := Lib.hid (show ∀ u : World, Calls Tryz.prog 53 #[.slice (some ⟨u.heap.size, 0, none⟩) 5 5] (u.alloc (.cells #[.string ⟨#[116, 105, 109, 101, 115]⟩, .string (bs l0), .string (bs l1), .string (bs l2), .string (bs l3)] 9)) (fun e w' => e = .returned (.string (bs (lineT [wTimes, l0, l1, l2, l3]))) ∧ Below u.heap.size u w') from fun u => rline_new [wTimes, l0, l1, l2, l3] 5 u rfl (by omega) hl')
  rw [hprint, hcfg] at hlen ⊢
  obtain ⟨R0, hR0⟩ : ∃ R, lineT [wTimes, l0, l1, l2, l3] = R := ⟨_, rfl⟩
  rw [hR0] at HLN hlen ⊢
  obtain ⟨TT, hTT⟩ : ∃ TT, R0 ++ textT ((ts.drop 0).flatMap fun y => tenLs y.t) = TT := ⟨_, rfl⟩
  rw [hTT] at hlen ⊢
  have HT0 := Lib.hid hTT
  have HTL := Lib.hid hlen
  rw [hl0] at HD0
  rw [hl1] at HD1
  rw [hl2] at HD2
  rw [hl3] at HD3
  obtain ⟨n, hn⟩ : ∃ n, ts.length = n := ⟨_, rfl⟩
  have HN := Lib.hid hn
  have HX := Lib.hid (show Bx w w.heap.size 24 #[.int .i64 a0, .int .i64 a1, .int .i64 a2, .int .i64 a3, .slice A n c] (w.alloc (.cells #[.int .i64 a0, .int .i64 a1, .int .i64 a2, .int .i64 a3, .slice A n c] 24)) from Bx.new w _ _)
  have hn9 : n ≤ 9223372036854775807 := by have := hfit.cap; have := hfit.max; simp only [hn] at *; omega
  simp only [ccs, hn] at HRG ⊢
  simp only [hn] at HR
  clear h hc hshort b1 b2 b3 b4 hprint hfit q1 q2 q3 q4 hl hl' hl0 hl1 hl2 hl3 hcfg hR0 hTT hlen hn
  go_enter Tryz.func16, Tryz.ntmps16
  go_upto_region 3 with (go_at_call 14; refine HRG.out.mono ?_; rintro e u1 ⟨rfl, hb⟩; have HX1 := Lib.hid (HX.out.on hb); clear hb)
  try simp only [List.cons_append, List.nil_append]
  refine wp_region_held_drew (S := fun wz => Bx w w.heap.size 24 #[.int .i64 a0, .int .i64 a1, .int .i64 a2, .int .i64 a3, .slice A n c] wz) (by kernel_rfl) (HX1.out.drew) (fun hHeld => ?_)
  refine tk (some 12) 0 (v := ?_) rfl rfl ?_ hHeld ?_
  rotate_left
  · intro wz hSw; have k0 : wz.cell? ⟨w.heap.size, 0, none⟩ = some (.int .i64 a0) := hSw.cell 0; have k1 : wz.cell? ⟨w.heap.size, 1, none⟩ = some (.int .i64 a1) := hSw.cell 1; have k2 : wz.cell? ⟨w.heap.size, 2, none⟩ = some (.int .i64 a2) := hSw.cell 2; have k3 : wz.cell? ⟨w.heap.size, 3, none⟩ = some (.int .i64 a3) := hSw.cell 3; go_simp; try (with_reducible rfl)
  try simp only [lay]
  refine tk (some 13) 1 (v := ?_) rfl rfl ?_ hHeld ?_
  rotate_left
  · intro wz hSw; have k0 : wz.cell? ⟨w.heap.size, 0, none⟩ = some (.int .i64 a0) := hSw.cell 0; have k1 : wz.cell? ⟨w.heap.size, 1, none⟩ = some (.int .i64 a1) := hSw.cell 1; have k2 : wz.cell? ⟨w.heap.size, 2, none⟩ = some (.int .i64 a2) := hSw.cell 2; have k3 : wz.cell? ⟨w.heap.size, 3, none⟩ = some (.int .i64 a3) := hSw.cell 3; go_simp; try (with_reducible rfl)
  try simp only [lay]
  refine tk (some 15) 3 (v := ?_) rfl rfl ?_ hHeld ?_
  rotate_left
  · intro wz hSw; have k0 : wz.cell? ⟨w.heap.size, 0, none⟩ = some (.int .i64 a0) := hSw.cell 0; have k1 : wz.cell? ⟨w.heap.size, 1, none⟩ = some (.int .i64 a1) := hSw.cell 1; have k2 : wz.cell? ⟨w.heap.size, 2, none⟩ = some (.int .i64 a2) := hSw.cell 2; have k3 : wz.cell? ⟨w.heap.size, 3, none⟩ = some (.int .i64 a3) := hSw.cell 3; go_simp; try (with_reducible rfl)
  try simp only [lay]
  refine tk (some 16) 4 (v := ?_) rfl rfl ?_ hHeld ?_
  rotate_left
  · intro wz hSw; have k0 : wz.cell? ⟨w.heap.size, 0, none⟩ = some (.int .i64 a0) := hSw.cell 0; have k1 : wz.cell? ⟨w.heap.size, 1, none⟩ = some (.int .i64 a1) := hSw.cell 1; have k2 : wz.cell? ⟨w.heap.size, 2, none⟩ = some (.int .i64 a2) := hSw.cell 2; have k3 : wz.cell? ⟨w.heap.size, 3, none⟩ = some (.int .i64 a3) := hSw.cell 3; go_simp; try (with_reducible rfl)
  try simp only [lay]
  refine tk (some 18) 6 (v := ?_) rfl rfl ?_ hHeld ?_
  rotate_left
  · intro wz hSw; have k0 : wz.cell? ⟨w.heap.size, 0, none⟩ = some (.int .i64 a0) := hSw.cell 0; have k1 : wz.cell? ⟨w.heap.size, 1, none⟩ = some (.int .i64 a1) := hSw.cell 1; have k2 : wz.cell? ⟨w.heap.size, 2, none⟩ = some (.int .i64 a2) := hSw.cell 2; have k3 : wz.cell? ⟨w.heap.size, 3, none⟩ = some (.int .i64 a3) := hSw.cell 3; go_simp; try (with_reducible rfl)
  try simp only [lay]
  refine tk (some 19) 7 (v := ?_) rfl rfl ?_ hHeld ?_
  rotate_left
  · intro wz hSw; have k0 : wz.cell? ⟨w.heap.size, 0, none⟩ = some (.int .i64 a0) := hSw.cell 0; have k1 : wz.cell? ⟨w.heap.size, 1, none⟩ = some (.int .i64 a1) := hSw.cell 1; have k2 : wz.cell? ⟨w.heap.size, 2, none⟩ = some (.int .i64 a2) := hSw.cell 2; have k3 : wz.cell? ⟨w.heap.size, 3, none⟩ = some (.int .i64 a3) := hSw.cell 3; go_simp; try (with_reducible rfl)
  try simp only [lay]
  refine tk (some 21) 9 (v := ?_) rfl rfl ?_ hHeld ?_
  rotate_left
  · intro wz hSw; have k0 : wz.cell? ⟨w.heap.size, 0, none⟩ = some (.int .i64 a0) := hSw.cell 0; have k1 : wz.cell? ⟨w.heap.size, 1, none⟩ = some (.int .i64 a1) := hSw.cell 1; have k2 : wz.cell? ⟨w.heap.size, 2, none⟩ = some (.int .i64 a2) := hSw.cell 2; have k3 : wz.cell? ⟨w.heap.size, 3, none⟩ = some (.int .i64 a3) := hSw.cell 3; go_simp; try (with_reducible rfl)
  try simp only [lay]
  refine tk (some 22) 10 (v := ?_) rfl rfl ?_ hHeld ?_
  rotate_left
  · intro wz hSw; have k0 : wz.cell? ⟨w.heap.size, 0, none⟩ = some (.int .i64 a0) := hSw.cell 0; have k1 : wz.cell? ⟨w.heap.size, 1, none⟩ = some (.int .i64 a1) := hSw.cell 1; have k2 : wz.cell? ⟨w.heap.size, 2, none⟩ = some (.int .i64 a2) := hSw.cell 2; have k3 : wz.cell? ⟨w.heap.size, 3, none⟩ = some (.int .i64 a3) := hSw.cell 3; go_simp; try (with_reducible rfl)
  try simp only [lay]
  refine wpAnyH_ready (rs := [2]) (by kernel_rfl) (by simp) (AllReadyH.cons rfl (fun K hK => ?_) AllReadyH.nil)
  rw [if_pos (by kernel_rfl)]
  go_simp
  refine (HD0.out _).mono ?_
  rintro e d1 ⟨rfl, hb⟩
  try dsimp only
  have hx1 := (HX1.out.drew).on hb
  clear hb
  refine hK.out _ _ hx1 (fun hHeld => ?_)
  try simp only [lay]
  refine wpAnyH_ready (rs := [5]) (by kernel_rfl) (by simp) (AllReadyH.cons rfl (fun K hK => ?_) AllReadyH.nil)
  rw [if_pos (by kernel_rfl)]
  go_simp
  refine (HD1.out _).mono ?_
  rintro e d2 ⟨rfl, hb⟩
  try dsimp only
  have hx2 := (hx1).on hb
  clear hb
  refine hK.out _ _ hx2 (fun hHeld => ?_)
  try simp only [lay]
  refine wpAnyH_ready (rs := [8]) (by kernel_rfl) (by simp) (AllReadyH.cons rfl (fun K hK => ?_) AllReadyH.nil)
  rw [if_pos (by kernel_rfl)]
  go_simp
  refine (HD2.out _).mono ?_
  rintro e d3 ⟨rfl, hb⟩
  try dsimp only
  have hx3 := (hx2).on hb
  clear hb
  refine hK.out _ _ hx3 (fun hHeld => ?_)
  try simp only [lay]
  refine wpAnyH_ready (rs := [11]) (by kernel_rfl) (by simp) (AllReadyH.cons rfl (fun K hK => ?_) AllReadyH.nil)
  rw [if_pos (by kernel_rfl)]
  go_simp
  refine (HD3.out _).mono ?_
  rintro e d4 ⟨rfl, hb⟩
  try dsimp only
  have hx4 := (hx3).on hb
  clear hb
  refine hK.out _ _ hx4 (fun hHeld => ?_)
  try simp only [lay]
  refine wpAnyH_ready (rs := [12]) (by kernel_rfl) (by simp) (AllReadyH.cons rfl (fun K hK => ?_) AllReadyH.nil)
  rw [if_pos (by kernel_rfl)]
  go_simp
  refine hK.out _ _ (hx4.alloc1 _) (fun hHeld => ?_)
  try simp only [lay]
  refine wpAnyH_ready (rs := [13]) (by kernel_rfl) (by simp) (AllReadyH.cons rfl (fun K hK => ?_) AllReadyH.nil)
  rw [if_pos (by kernel_rfl)]
  go_simp
  refine (HLN.out _).mono ?_
  rintro e u2 ⟨rfl, hb⟩
  try dsimp only
  have hx5 := hx4.on hb
  clear hb
  refine hK.out _ _ hx5 (fun hHeld => ?_)
  try simp only [lay]
  refine wpAnyH_ready (rs := [14]) (by kernel_rfl) (by simp) (AllReadyH.cons rfl (fun K hK => ?_) AllReadyH.nil)
  rw [if_pos (by kernel_rfl)]
  go_simp
  refine hK.out _ _ hx5 (fun hHeld => ?_)
  try simp only [lay]
  refine wpAnyH_done (by kernel_rfl) ?_ _
  clear hHeld hx1 hx2 hx3 hx4 HLN HD0 HD1 HD2 HD3 HX HX1
  have e4 : u2.cell? ⟨w.heap.size, 4, none⟩ = some (.slice A n c) := hx5.cell 4
  have HX5 := Lib.hid hx5
  clear hx5
  go_wp2
  go_loopw [3, 4] (fun v3 v4 wr => ∃ (i : Nat) (S : List UInt8), i ≤ n ∧ v3 = .string (bs S) ∧ v4 = .int .i64 (i : Int) ∧ Hid (S ++ textT ((ts.drop i).flatMap fun y => tenLs y.t) = TT) ∧ Hid (Bx w w.heap.size 24 #[.int .i64 a0, .int .i64 a1, .int .i64 a2, .int .i64 a3, .slice A n c] wr)) (fun _ v4 _ => n - (intOf v4).toNat)
  case atStart => exact ⟨0, R0, by omega, rfl, rfl, HT0, HX5⟩
  case round =>
    obtain ⟨i, S, hi, rfl, rfl, HE, HBX⟩ := hrel
    have HB := Lib.hid HBX.out.l
    have e4 : wr.cell? ⟨w.heap.size, 4, none⟩ = some (.slice A n c) := HBX.out.cell 4
    by_cases hi1 : i < n
    · have hi2 : (i : Int) < (n : Int) := by omega
      obtain ⟨b, o, y, rfl, hy, h1, hcl⟩ := HR.out.at5 i (by rw [HN.out]; exact hi1)
      obtain ⟨c0, c1, c2, c3, c4⟩ := hcl wr HB.out
      have hmem := List.mem_of_getElem? hy
      have htn := HTN.out y hmem
      have hdrop : ts.drop i = y :: ts.drop (i + 1) := by
        rw [List.drop_eq_getElem_cons (by rw [HN.out]; exact hi1), (List.getElem?_eq_some_iff.1 hy).2]
      have hE := HE.out
      rw [hdrop, List.flatMap_cons] at hE
      obtain ⟨RS, hRS⟩ : ∃ X, textT ((ts.drop (i + 1)).flatMap fun y => tenLs y.t) = X := ⟨_, rfl⟩
      have HRS := Lib.hid hRS
      rw [textT_app, hRS, tenLs, textT_cons, textT_app, List.append_assoc, List.append_assoc] at hE
      obtain ⟨⟨yn, ya, yb, nl, kl⟩, An, cn, Ak, ck⟩ := y
      dsimp only at c0 c1 c2 c3 c4 hE
      obtain ⟨nm, rfl⟩ : ∃ l, yn = bs l := ⟨yn.data.toList, (bs_of yn).symm⟩
      have HDa := Lib.hid (fun u => num_w ya htn.a.1 htn.a.2 u)
      have HDb := Lib.hid (fun u => num_w yb htn.b.1 htn.b.2 u)
      have htl := htn.ten
      simp only [tenW, bs_data] at htl hE
      obtain ⟨la, hla⟩ : ∃ l, decB ya.toNat = l := ⟨_, rfl⟩
      obtain ⟨lb, hlb⟩ : ∃ l, decB yb.toNat = l := ⟨_, rfl⟩
      rw [hla, hlb] at htl hE
      rw [hla] at HDa
      rw [hlb] at HDb
      have HLN := Lib.hid (show ∀ u : World, Calls Tryz.prog 53 #[.slice (some ⟨u.heap.size, 0, none⟩) 4 4] (u.alloc (.cells #[.string ⟨#[116, 101, 110, 97, 110, 116]⟩, .string (bs nm), .string (bs la), .string (bs lb)] 9)) (fun e w' => e = .returned (.string (bs (lineT [wTenant, nm, la, lb]))) ∧ Below u.heap.size u w') from fun u => rline_new [wTenant, nm, la, lb] 4 u rfl (by omega) htl)
      obtain ⟨R1, hR1⟩ : ∃ R, lineT [wTenant, nm, la, lb] = R := ⟨_, rfl⟩
      rw [hR1] at HLN hE
      have HF1 := Lib.hid (cat_fits hE HTL.out)
      have HE1 := Lib.hid (cat_on hE)
      have HTN1 := Lib.hid htn
      have HRT := Lib.hid h1
      obtain ⟨p, hp⟩ : ∃ p, nl.length = p := ⟨_, rfl⟩
      obtain ⟨q, hq⟩ : ∃ q, kl.length = q := ⟨_, rfl⟩
      have HP := Lib.hid hp
      have HQ := Lib.hid hq
      have hp9 : p ≤ 9223372036854775807 := by have := h1.fn.cap; have := h1.fn.max; dsimp only at *; omega
      have hq9 : q ≤ 9223372036854775807 := by have := h1.fk.cap; have := h1.fk.max; dsimp only at *; omega
      rw [hp] at c3
      rw [hq] at c4
      obtain ⟨wo, hwo⟩ : ∃ wo, wr = wo := ⟨_, rfl⟩
      subst wr
      obtain ⟨G, hG⟩ : ∃ G, wo.heap.size = G := ⟨_, rfl⟩
      have HBo := Lib.hid HB.out
      have HXt := Lib.hid (show Bx wo wo.heap.size 33 #[.string (bs nm), .int .i64 ya, .int .i64 yb, .slice An p cn, .slice Ak q ck] (wo.alloc (.cells #[.string (bs nm), .int .i64 ya, .int .i64 yb, .slice An p cn, .slice Ak q ck] 33)) from Bx.new wo _ _)
      rw [hG] at HXt
      have HG := Lib.hid hG
      clear hcl hy h1 hmem htn hdrop hE hRS hla hlb hR1 htl HE HB hp hq
      go_upto_region 8 with fail
      clear e4
      try rw [hG]
      clear hG
      try simp only [List.cons_append, List.nil_append]
      refine wp_region_held_drew (S := fun wz => Bx wo G 33 #[.string (bs nm), .int .i64 ya, .int .i64 yb, .slice An p cn, .slice Ak q ck] wz) (by kernel_rfl) (HXt.out.drew) (fun hHeld => ?_)
      refine tk (some 38) 0 (v := ?_) rfl rfl ?_ hHeld ?_
      rotate_left
      · intro wz hSw; have k0 : wz.cell? ⟨G, 0, none⟩ = some (.string (bs nm)) := hSw.cell 0; have k1 : wz.cell? ⟨G, 1, none⟩ = some (.int .i64 ya) := hSw.cell 1; have k2 : wz.cell? ⟨G, 2, none⟩ = some (.int .i64 yb) := hSw.cell 2; go_simp; try (with_reducible rfl)
      try simp only [lay]
      refine tk (some 39) 1 (v := ?_) rfl rfl ?_ hHeld ?_
      rotate_left
      · intro wz hSw; have k0 : wz.cell? ⟨G, 0, none⟩ = some (.string (bs nm)) := hSw.cell 0; have k1 : wz.cell? ⟨G, 1, none⟩ = some (.int .i64 ya) := hSw.cell 1; have k2 : wz.cell? ⟨G, 2, none⟩ = some (.int .i64 yb) := hSw.cell 2; go_simp; try (with_reducible rfl)
      try simp only [lay]
      refine tk (some 40) 2 (v := ?_) rfl rfl ?_ hHeld ?_
      rotate_left
      · intro wz hSw; have k0 : wz.cell? ⟨G, 0, none⟩ = some (.string (bs nm)) := hSw.cell 0; have k1 : wz.cell? ⟨G, 1, none⟩ = some (.int .i64 ya) := hSw.cell 1; have k2 : wz.cell? ⟨G, 2, none⟩ = some (.int .i64 yb) := hSw.cell 2; go_simp; try (with_reducible rfl)
      try simp only [lay]
      refine tk (some 41) 3 (v := ?_) rfl rfl ?_ hHeld ?_
      rotate_left
      · intro wz hSw; have k0 : wz.cell? ⟨G, 0, none⟩ = some (.string (bs nm)) := hSw.cell 0; have k1 : wz.cell? ⟨G, 1, none⟩ = some (.int .i64 ya) := hSw.cell 1; have k2 : wz.cell? ⟨G, 2, none⟩ = some (.int .i64 yb) := hSw.cell 2; go_simp; try (with_reducible rfl)
      try simp only [lay]
      refine tk (some 42) 4 (v := ?_) rfl rfl ?_ hHeld ?_
      rotate_left
      · intro wz hSw; have k0 : wz.cell? ⟨G, 0, none⟩ = some (.string (bs nm)) := hSw.cell 0; have k1 : wz.cell? ⟨G, 1, none⟩ = some (.int .i64 ya) := hSw.cell 1; have k2 : wz.cell? ⟨G, 2, none⟩ = some (.int .i64 yb) := hSw.cell 2; go_simp; try (with_reducible rfl)
      try simp only [lay]
      refine tk (some 44) 6 (v := ?_) rfl rfl ?_ hHeld ?_
      rotate_left
      · intro wz hSw; have k0 : wz.cell? ⟨G, 0, none⟩ = some (.string (bs nm)) := hSw.cell 0; have k1 : wz.cell? ⟨G, 1, none⟩ = some (.int .i64 ya) := hSw.cell 1; have k2 : wz.cell? ⟨G, 2, none⟩ = some (.int .i64 yb) := hSw.cell 2; go_simp; try (with_reducible rfl)
      try simp only [lay]
      refine tk (some 45) 7 (v := ?_) rfl rfl ?_ hHeld ?_
      rotate_left
      · intro wz hSw; have k0 : wz.cell? ⟨G, 0, none⟩ = some (.string (bs nm)) := hSw.cell 0; have k1 : wz.cell? ⟨G, 1, none⟩ = some (.int .i64 ya) := hSw.cell 1; have k2 : wz.cell? ⟨G, 2, none⟩ = some (.int .i64 yb) := hSw.cell 2; go_simp; try (with_reducible rfl)
      try simp only [lay]
      refine wpAnyH_ready (rs := [5]) (by kernel_rfl) (by simp) (AllReadyH.cons rfl (fun K hK => ?_) AllReadyH.nil)
      rw [if_pos (by kernel_rfl)]
      go_simp
      refine (HDa.out _).mono ?_
      rintro e d1 ⟨rfl, hb⟩
      try dsimp only
      have hx1 := HXt.out.drew.on hb
      clear hb
      refine hK.out _ _ hx1 (fun hHeld => ?_)
      try simp only [lay]
      refine wpAnyH_ready (rs := [8]) (by kernel_rfl) (by simp) (AllReadyH.cons rfl (fun K hK => ?_) AllReadyH.nil)
      rw [if_pos (by kernel_rfl)]
      go_simp
      refine (HDb.out _).mono ?_
      rintro e d2 ⟨rfl, hb⟩
      try dsimp only
      have hx2 := hx1.on hb
      clear hb
      refine hK.out _ _ hx2 (fun hHeld => ?_)
      try simp only [lay]
      refine wpAnyH_ready (rs := [9]) (by kernel_rfl) (by simp) (AllReadyH.cons rfl (fun K hK => ?_) AllReadyH.nil)
      rw [if_pos (by kernel_rfl)]
      go_simp
      refine hK.out _ _ (hx2.alloc1 _) (fun hHeld => ?_)
      try simp only [lay]
      refine wpAnyH_ready (rs := [10]) (by kernel_rfl) (by simp) (AllReadyH.cons rfl (fun K hK => ?_) AllReadyH.nil)
      rw [if_pos (by kernel_rfl)]
      go_simp
      refine (HLN.out _).mono ?_
      rintro e u3 ⟨rfl, hb⟩
      try dsimp only
      have hx3 := hx2.on hb
      clear hb
      refine hK.out _ _ hx3 (fun hHeld => ?_)
      try simp only [lay]
      refine wpAnyH_ready (rs := [11]) (by kernel_rfl) (by simp) (AllReadyH.cons rfl (fun K hK => ?_) AllReadyH.nil)
      rw [if_pos (by kernel_rfl)]
      refine op_cat (.tmp 38) (.tmp 48) _ _ rfl S R1 (S ++ R1) rfl rfl HF1.out rfl ?_
      refine hK.out _ _ hx3 (fun hHeld => ?_)
      try simp only [lay]
      refine wpAnyH_ready (rs := [12]) (by kernel_rfl) (by simp) (AllReadyH.cons rfl (fun K hK => ?_) AllReadyH.nil)
      rw [if_pos (by kernel_rfl)]
      go_simp
      refine hK.out _ _ hx3 (fun hHeld => ?_)
      try simp only [lay]
      refine wpAnyH_done (by kernel_rfl) ?_ _
      obtain ⟨S1, hS1⟩ : ∃ X, S ++ R1 = X := ⟨_, rfl⟩
      rw [hS1] at HE1 ⊢
      have e3 : u3.cell? ⟨G, 3, none⟩ = some (.slice An p cn) := hx3.cell 3
      have HX3 := Lib.hid hx3
      clear hHeld hx1 hx2 hx3 HLN HDa HDb HXt hS1 HF1
      go_wp2
      clear e3
      go_loopw [3, 6] (fun v3 v6 wr => ∃ (j : Nat) (S2 : List UInt8), j ≤ p ∧ v3 = .string (bs S2) ∧ v6 = .int .i64 (j : Int) ∧ Hid (S2 ++ (textT ((nl.drop j).map netW) ++ (textT (kl.map tokW) ++ RS)) = TT) ∧ Hid (Bx wo G 33 #[.string (bs nm), .int .i64 ya, .int .i64 yb, .slice An p cn, .slice Ak q ck] wr)) (fun _ v6 _ => p - (intOf v6).toNat)
      case atStart => exact ⟨0, S1, by omega, rfl, rfl, HE1, HX3⟩
      case round =>
        obtain ⟨j, S2, hj, rfl, rfl, HE2, HX4⟩ := hrel
        have e3 : wr.cell? ⟨G, 3, none⟩ = some (.slice An p cn) := HX4.out.cell 3
        by_cases hj1 : j < p
        · have hj2 : (j : Int) < (p : Int) := by omega
          have hbw : Below w.heap.size w wr := HBo.out.trans (HX4.out.l.mono HBo.out.size)
          obtain ⟨b2, o2, z, rfl, hz, hcl⟩ := RN.at2 HRT.out.n j (by rw [HP.out]; exact hj1)
          obtain ⟨z0, z1⟩ := hcl wr hbw
          have hmem := List.mem_of_getElem? hz
          have hlt := HRT.out.lt z hmem
          have htl := HTN1.out.nets z hmem
          have hdrop : nl.drop j = z :: nl.drop (j + 1) := by
            rw [List.drop_eq_getElem_cons (by rw [HP.out]; exact hj1), (List.getElem?_eq_some_iff.1 hz).2]
          have hE := HE2.out
          rw [hdrop, List.map_cons] at hE
          have hE' := line_t hE
          obtain ⟨za, zb⟩ := z
          dsimp only at z0 z1 hlt
          simp only [netW] at hE' htl
          have HSL := Lib.hid (fun u => rslash_ok za zb u hlt)
          obtain ⟨ls, hls⟩ : ∃ l, slashL za zb = l := ⟨_, rfl⟩
          rw [hls] at hE' htl HSL
          have HLN := Lib.hid (show ∀ u : World, Calls Tryz.prog 53 #[.slice (some ⟨u.heap.size, 0, none⟩) 2 2] (u.alloc (.cells #[.string ⟨#[110, 101, 116]⟩, .string (bs ls)] 9)) (fun e w' => e = .returned (.string (bs (lineT [wNet, ls]))) ∧ Below u.heap.size u w') from fun u => rline_new [wNet, ls] 2 u rfl (by omega) htl)
          obtain ⟨R2, hR2⟩ : ∃ R, lineT [wNet, ls] = R := ⟨_, rfl⟩
          rw [hR2] at HLN hE'
          have HF2 := Lib.hid (cat_fits hE' HTL.out)
          have HE3 := Lib.hid (cat_on hE')
          have HX5 := HX4
          clear hcl hz hmem hlt htl hdrop hE hE' hls hR2 hbw
          go_wp2_with (first
            | (go_at_call 55; refine (HSL.out _).mono ?_; rintro e d3 ⟨rfl, hb⟩; have HX6 := Lib.hid (HX5.out.on hb); clear hb)
            | (go_at_call 53; refine (HLN.out _).mono ?_; rintro e d4 ⟨rfl, hb⟩; have HX7 := Lib.hid (HX6.out.on hb); clear hb)
            | (refine wpList_cat (by kernel_rfl) (.tmp 57) (.tmp 65) _ _ rfl S2 R2 (S2 ++ R2) rfl rfl HF2.out rfl ?_))
          go_roundw
          case rel => exact ⟨j + 1, S2 ++ R2, by omega, rfl, by go_num, HE3, HX7⟩
          case measure => simp [intOf]; omega
        · have hj2 : ¬ (j : Int) < (p : Int) := by omega
          have HE4 := Lib.hid (show S2 ++ (textT ((kl.drop 0).map tokW) ++ RS) = TT by
            have := HE2.out
            rw [List.drop_eq_nil_of_le (by rw [HP.out]; omega)] at this
            rw [List.drop_zero]
            exact this)
          have e4 : wr.cell? ⟨G, 4, none⟩ = some (.slice Ak q ck) := HX4.out.cell 4
          clear HE2 HE1
          go_wp2
          clear e4
          go_loopw [3, 7] (fun v3 v7 wr => ∃ (k : Nat) (S3 : List UInt8), k ≤ q ∧ v3 = .string (bs S3) ∧ v7 = .int .i64 (k : Int) ∧ Hid (S3 ++ (textT ((kl.drop k).map tokW) ++ RS) = TT) ∧ Hid (Bx wo G 33 #[.string (bs nm), .int .i64 ya, .int .i64 yb, .slice An p cn, .slice Ak q ck] wr)) (fun _ v7 _ => q - (intOf v7).toNat)
          case atStart => exact ⟨0, S2, by omega, rfl, rfl, HE4, HX4⟩
          case round =>
            obtain ⟨k, S3, hk, rfl, rfl, HE5, HX8⟩ := hrel
            have e4 : wr.cell? ⟨G, 4, none⟩ = some (.slice Ak q ck) := HX8.out.cell 4
            by_cases hk1 : k < q
            · have hk2 : (k : Int) < (q : Int) := by omega
              have hbw : Below w.heap.size w wr := HBo.out.trans (HX8.out.l.mono HBo.out.size)
              obtain ⟨b3, o3, z, rfl, hz, hcl⟩ := RK.at3 HRT.out.k k (by rw [HQ.out]; exact hk1)
              obtain ⟨z0, z1, z2⟩ := hcl wr hbw
              have hmem := List.mem_of_getElem? hz
              have htl := HTN1.out.toks z hmem
              have htk := HTN1.out.k z hmem
              have hdrop : kl.drop k = z :: kl.drop (k + 1) := by
                rw [List.drop_eq_getElem_cons (by rw [HQ.out]; exact hk1), (List.getElem?_eq_some_iff.1 hz).2]
              have hE := HE5.out
              rw [hdrop, List.map_cons] at hE
              have hE' := line_t hE
              obtain ⟨zn, zs, zt⟩ := z
              obtain ⟨kn, rfl⟩ : ∃ l, zn = bs l := ⟨zn.data.toList, (bs_of zn).symm⟩
              dsimp only at z0 z1 z2 htk
              simp only [tokW, bs_data] at hE' htl
              have HDt := Lib.hid (fun u => num_w zt htk.1.1 htk.1.2 u)
              have HZS := Lib.hid htk.2
              obtain ⟨lt, hlt⟩ : ∃ l, decB zt.toNat = l := ⟨_, rfl⟩
              have HHX := Lib.hid (fun (A' : Option Addr) (c' : Nat) (u : World) (hR : Rb u u.heap.size A' zs.data.toList) => rhex_ok A' zs.size c' zs.data.toList u rfl htk.2 hR)
              obtain ⟨lh, hlh⟩ : ∃ l, hexB zs.data.toList = l := ⟨_, rfl⟩
              rw [hlt, hlh] at hE' htl
              rw [hlt] at HDt
              rw [hlh] at HHX
              have HLN := Lib.hid (show ∀ u : World, Calls Tryz.prog 53 #[.slice (some ⟨u.heap.size, 0, none⟩) 4 4] (u.alloc (.cells #[.string ⟨#[116, 111, 107, 101, 110]⟩, .string (bs kn), .string (bs lh), .string (bs lt)] 9)) (fun e w' => e = .returned (.string (bs (lineT [wToken, kn, lh, lt]))) ∧ Below u.heap.size u w') from fun u => rline_new [wToken, kn, lh, lt] 4 u rfl (by omega) htl)
              obtain ⟨R3, hR3⟩ : ∃ R, lineT [wToken, kn, lh, lt] = R := ⟨_, rfl⟩
              rw [hR3] at HLN hE'
              have HF3 := Lib.hid (cat_fits hE' HTL.out)
              have HE6 := Lib.hid (cat_on hE')
              have HXk := Lib.hid (show Bx wr wr.heap.size 37 #[.string (bs kn), .string zs, .int .i64 zt] (wr.alloc (.cells #[.string (bs kn), .string zs, .int .i64 zt] 37)) from Bx.new wr _ _)
              have HX8b := Lib.hid HX8.out
              obtain ⟨wk, hwk⟩ : ∃ wk, wr = wk := ⟨_, rfl⟩
              subst wr
              obtain ⟨G2, hG2⟩ : ∃ G, wk.heap.size = G := ⟨_, rfl⟩
              have HG2 := Lib.hid hG2
              rw [hG2] at HXk
              clear hcl hz hmem htl htk hdrop hE hE' hlt hlh hR3 hbw HX8
              go_upto_region 17 with fail
              clear e4
              try rw [hG2]
              clear hG2
              try simp only [List.cons_append, List.nil_append]
              refine wp_region_held_drew (S := fun wz => Bx wk G2 37 #[.string (bs kn), .string zs, .int .i64 zt] wz) (by kernel_rfl) (HXk.out.drew) (fun hHeld => ?_)
              refine tk (some 79) 0 (v := ?_) rfl rfl ?_ hHeld ?_
              rotate_left
              · intro wz hSw; have k0 : wz.cell? ⟨G2, 0, none⟩ = some (.string (bs kn)) := hSw.cell 0; have k1 : wz.cell? ⟨G2, 1, none⟩ = some (.string zs) := hSw.cell 1; have k2 : wz.cell? ⟨G2, 2, none⟩ = some (.int .i64 zt) := hSw.cell 2; go_simp; try (with_reducible rfl)
              try simp only [lay]
              refine tk (some 80) 1 (v := ?_) rfl rfl ?_ hHeld ?_
              rotate_left
              · intro wz hSw; have k0 : wz.cell? ⟨G2, 0, none⟩ = some (.string (bs kn)) := hSw.cell 0; have k1 : wz.cell? ⟨G2, 1, none⟩ = some (.string zs) := hSw.cell 1; have k2 : wz.cell? ⟨G2, 2, none⟩ = some (.int .i64 zt) := hSw.cell 2; go_simp; try (with_reducible rfl)
              try simp only [lay]
              refine tk (some 81) 2 (v := ?_) rfl rfl ?_ hHeld ?_
              rotate_left
              · intro wz hSw; have k0 : wz.cell? ⟨G2, 0, none⟩ = some (.string (bs kn)) := hSw.cell 0; have k1 : wz.cell? ⟨G2, 1, none⟩ = some (.string zs) := hSw.cell 1; have k2 : wz.cell? ⟨G2, 2, none⟩ = some (.int .i64 zt) := hSw.cell 2; go_simp; try (with_reducible rfl)
              try simp only [lay]
              refine tk (some 82) 3 (v := ?_) rfl rfl ?_ hHeld ?_
              rotate_left
              · intro wz hSw; have k0 : wz.cell? ⟨G2, 0, none⟩ = some (.string (bs kn)) := hSw.cell 0; have k1 : wz.cell? ⟨G2, 1, none⟩ = some (.string zs) := hSw.cell 1; have k2 : wz.cell? ⟨G2, 2, none⟩ = some (.int .i64 zt) := hSw.cell 2; go_simp; try (with_reducible rfl)
              try simp only [lay]
              refine tk (some 83) 4 (v := ?_) rfl rfl ?_ hHeld ?_
              rotate_left
              · intro wz hSw; have k0 : wz.cell? ⟨G2, 0, none⟩ = some (.string (bs kn)) := hSw.cell 0; have k1 : wz.cell? ⟨G2, 1, none⟩ = some (.string zs) := hSw.cell 1; have k2 : wz.cell? ⟨G2, 2, none⟩ = some (.int .i64 zt) := hSw.cell 2; go_simp; try (with_reducible rfl)
              try simp only [lay]
              refine tk (some 86) 7 (v := ?_) rfl rfl ?_ hHeld ?_
              rotate_left
              · intro wz hSw; have k0 : wz.cell? ⟨G2, 0, none⟩ = some (.string (bs kn)) := hSw.cell 0; have k1 : wz.cell? ⟨G2, 1, none⟩ = some (.string zs) := hSw.cell 1; have k2 : wz.cell? ⟨G2, 2, none⟩ = some (.int .i64 zt) := hSw.cell 2; go_simp; try (with_reducible rfl)
              try simp only [lay]
              refine tk (some 87) 8 (v := ?_) rfl rfl ?_ hHeld ?_
              rotate_left
              · intro wz hSw; have k0 : wz.cell? ⟨G2, 0, none⟩ = some (.string (bs kn)) := hSw.cell 0; have k1 : wz.cell? ⟨G2, 1, none⟩ = some (.string zs) := hSw.cell 1; have k2 : wz.cell? ⟨G2, 2, none⟩ = some (.int .i64 zt) := hSw.cell 2; go_simp; try (with_reducible rfl)
              try simp only [lay]
              obtain ⟨wd, hwd⟩ : ∃ wd, (wk.alloc (.cells #[.string (bs kn), .string zs, .int .i64 zt] 37)).drew = wd := ⟨_, rfl⟩
              have hxd : Bx wk G2 37 #[.string (bs kn), .string zs, .int .i64 zt] wd := by rw [← hwd]; exact HXk.out.drew
              refine wpAnyH_ready (rs := [5]) (by kernel_rfl) (by simp) (AllReadyH.cons rfl (fun K hK => ?_) AllReadyH.nil)
              rw [if_pos (by kernel_rfl)]
              obtain ⟨cap, ob, hcb, hcap1, hcap2, hRB⟩ := conv_back zs HZS.out wd
              try rw [hwd]
              go_simp
              try dsimp only
              refine hK.out _ _ (hxd.drew.alloc1 ob) (fun hHeld => ?_)
              try simp only [lay]
              clear hcb
              have hx0 := hxd.drew.alloc1 ob
              refine wpAnyH_ready (rs := [6]) (by kernel_rfl) (by simp) (AllReadyH.cons rfl (fun K hK => ?_) AllReadyH.nil)
              rw [if_pos (by kernel_rfl)]
              go_simp
              refine (HHX.out _ _ _ hRB).mono ?_
              rintro e d1 ⟨rfl, hb⟩
              try dsimp only
              have hx1 := hx0.on hb
              clear hb
              refine hK.out _ _ hx1 (fun hHeld => ?_)
              try simp only [lay]
              refine wpAnyH_ready (rs := [9]) (by kernel_rfl) (by simp) (AllReadyH.cons rfl (fun K hK => ?_) AllReadyH.nil)
              rw [if_pos (by kernel_rfl)]
              go_simp
              refine (HDt.out _).mono ?_
              rintro e d2 ⟨rfl, hb⟩
              try dsimp only
              have hx2 := hx1.on hb
              clear hb
              refine hK.out _ _ hx2 (fun hHeld => ?_)
              try simp only [lay]
              refine wpAnyH_ready (rs := [10]) (by kernel_rfl) (by simp) (AllReadyH.cons rfl (fun K hK => ?_) AllReadyH.nil)
              rw [if_pos (by kernel_rfl)]
              go_simp
              refine hK.out _ _ (hx2.alloc1 _) (fun hHeld => ?_)
              try simp only [lay]
              refine wpAnyH_ready (rs := [11]) (by kernel_rfl) (by simp) (AllReadyH.cons rfl (fun K hK => ?_) AllReadyH.nil)
              rw [if_pos (by kernel_rfl)]
              go_simp
              refine (HLN.out _).mono ?_
              rintro e u4 ⟨rfl, hb⟩
              try dsimp only
              have hx3 := hx2.on hb
              clear hb
              refine hK.out _ _ hx3 (fun hHeld => ?_)
              try simp only [lay]
              refine wpAnyH_ready (rs := [12]) (by kernel_rfl) (by simp) (AllReadyH.cons rfl (fun K hK => ?_) AllReadyH.nil)
              rw [if_pos (by kernel_rfl)]
              refine op_cat (.tmp 79) (.tmp 90) _ _ rfl S3 R3 (S3 ++ R3) rfl rfl HF3.out rfl ?_
              refine hK.out _ _ hx3 (fun hHeld => ?_)
              try simp only [lay]
              refine wpAnyH_ready (rs := [13]) (by kernel_rfl) (by simp) (AllReadyH.cons rfl (fun K hK => ?_) AllReadyH.nil)
              rw [if_pos (by kernel_rfl)]
              go_simp
              refine hK.out _ _ hx3 (fun hHeld => ?_)
              try simp only [lay]
              refine wpAnyH_done (by kernel_rfl) ?_ _
              have HX9 := Lib.hid (HX8b.out.on hx3.l)
              clear hHeld hx0 hx1 hx2 hx3 hxd HLN HDt HXk HHX
              go_wp2
              go_roundw
              case rel => exact ⟨k + 1, S3 ++ R3, by omega, rfl, by go_num, HE6, HX9⟩
              case measure => simp [intOf]; omega
            · have hk2 : ¬ (k : Int) < (q : Int) := by omega
              have HE7 := Lib.hid (show S3 ++ textT ((ts.drop (i + 1)).flatMap fun y => tenLs y.t) = TT by
                have := HE5.out
                rw [List.drop_eq_nil_of_le (by rw [HQ.out]; omega)] at this
                rw [HRS.out]
                exact this)
              go_wp2
              go_roundw
              case rel => exact ⟨i + 1, S3, by omega, rfl, by go_num, HE7, Lib.hid (HBX.out.on HX8.out.l)⟩
              case measure => simp [intOf]; omega
    · have hi2 : ¬ (i : Int) < (n : Int) := by omega
      have HE8 := Lib.hid (show S = TT by
        have := HE.out
        rw [List.drop_eq_nil_of_le (by rw [HN.out]; omega)] at this
        simpa [textT] using this)
      go_wp2
      go_ret
      exact ⟨by rw [HE8.out]; rfl, HB.out⟩
theorem rprint_ok (x : Cv) (w : World) (h : RC w x) : Calls Tryz.prog 16 #[.agg (ccs x)] w fun e w' => e = .returned (.string (bs (printT x.cg))) ∧ Below w.heap.size w w' := by
  cases hc : cfgB x.cg with
  | true => exact rprint_yes x w h hc
  | false =>
    refine (rprint_no x w h hc).mono fun e w' hh => ⟨?_, hh.2⟩
    rw [hh.1]
    unfold printT
    rw [hc]; rfl
end Go.Proofs.YtekobdmlgbffnaaGreatDoor
