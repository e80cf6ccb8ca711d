/- TicketSerial: two serials: the walk. (Written by gen_tcser.py.) -/
import Derived.Test.YtinbegnojfpeiaaDoorTcH
namespace Go.Proofs.YtinbegnojfpeiaaDoor
set_option linter.unusedVariables false
set_option maxRecDepth 100000
set_option linter.unusedSimpArgs false
open Go.RowKit

theorem ser_iss (p : Ps) (t : Int → ByteArray) (n : Int) : issT ⟨n, []⟩ p t = (t (n + 1), 0, ⟨n + 1, [⟨t (n + 1), p⟩]⟩) := rfl
theorem ser_gk (T : ByteArray) (p : Ps) (n : Int) (h : 0 ≤ n) : Gk ⟨n, [⟨T, p⟩]⟩ := ⟨by simp, by simp, h⟩
theorem ser_gk0 (n : Int) (h : 0 ≤ n) : Gk ⟨n, []⟩ := ⟨by simp, by simp, h⟩
theorem ser_voi (T : ByteArray) (p : Ps) (n : Int) : voiT ⟨n, [⟨T, p⟩]⟩ p.vis = (true, ⟨n, []⟩) := by
  unfold voiT
  have h : visT p.vis ⟨T, p⟩ = true := by unfold visT; simp
  rw [List.any_cons, List.eraseP_cons, h]
  rfl
/-- Where the law asks for a proof: the key as bytes anew, two words. -/
theorem key_words (key : ByteArray) (w : World) (ob : Obj) (cap : Nat) (t : TypeId) (a b : ByteArray) (h : Rb (w.drew.alloc ob) (w.drew.alloc ob).heap.size (some ⟨w.heap.size, 0, none⟩) key.data.toList) :
    Rb (((w.alloc ob).alloc (.cells #[.string a, .string b] t)).drew) (((w.alloc ob).alloc (.cells #[.string a, .string b] t)).drew).heap.size (some ⟨w.heap.size, 0, none⟩) key.data.toList ∧
    Rs (((w.alloc ob).alloc (.cells #[.string a, .string b] t)).drew) (((w.alloc ob).alloc (.cells #[.string a, .string b] t)).drew).heap.size (some ⟨w.heap.size + 1, 0, none⟩) [a, b] ∧
    Below w.heap.size w (((w.alloc ob).alloc (.cells #[.string a, .string b] t)).drew) := by
  have h1 : Rb (w.alloc ob) (w.alloc ob).heap.size (some ⟨w.heap.size, 0, none⟩) key.data.toList := h
  have hz : (w.alloc ob).heap.size = w.heap.size + 1 := World.size_alloc ..
  have hb : Below (w.alloc ob).heap.size (w.alloc ob) (((w.alloc ob).alloc (.cells #[.string a, .string b] t)).drew) := ((Below.refl _ _).alloc (Nat.le_refl _) _).drew
  have hk : Bk (((w.alloc ob).alloc (.cells #[.string a, .string b] t)).drew) (w.heap.size + 1) t #[.string a, .string b] := by
    have := (Bk.new (w.alloc ob) t #[.string a, .string b]).drew
    rwa [hz] at this
  exact ⟨(h1.below hb (Nat.le_refl _)).more hb.size, two_bkZ hk, ((Below.refl w.heap.size w).alloc (Nat.le_refl _) ob).trans (hb.mono (by rw [hz]; omega))⟩
set_option maxRecDepth 100000 in
set_option maxHeartbeats 16000000 in
theorem walk_TicketSerial (key : ByteArray) (p : Ps) (d : ByteArray) (W : World) (hk : key.size ≤ 140737488355328) (hp1 : p.nm.size ≤ 140737488355328) (hp2 : p.ten.size ≤ 140737488355328) (hd : d.size ≤ 140737488355328) (hG : Gl W) :
    Calls Tryd.prog 6 #[.string key, .agg #[.int .i64 p.vis, .string p.nm, .string p.ten, .int .i64 p.ep], .string d] W fun e w' => e = .returned (.bool true) ∧ Below W.heap.size W w' := by
  have HG := Lib.hid hG
  clear hG
  obtain ⟨pv, pn, pt, pe⟩ := p
  dsimp only at hp1 hp2 ⊢
  obtain ⟨s, hs⟩ : ∃ s : Nat, key.size + d.size = s := ⟨_, rfl⟩
  have hw1 : IntKind.i64.wrap ((key.size : Int) + (d.size : Int)) = (s : Int) := (iwrap _ s (by omega) (by omega)).1
  have HSM := Lib.hid (show s ≤ 3000 → key.size ≤ 3000 ∧ d.size ≤ 3000 from fun h => by omega)
  have HSZ := Lib.hid (And.intro hk (And.intro hp1 hp2))
  obtain ⟨KN, hK0⟩ : ∃ KN, min d.size 255 = KN := ⟨_, rfl⟩
  have hmin : min (d.size : Int) 255 = (KN : Int) := by omega
  have HCUT := Lib.hid (show cutT d = d.extract 0 KN by unfold cutT; rw [hK0])
  have hK1i : (KN : Int) ≤ (d.size : Int) := by omega
  have HK2 := Lib.hid (show KN ≤ 255 by omega)
  obtain ⟨D, hD⟩ : ∃ D, d.extract 0 KN = D := ⟨_, rfl⟩
  have HDS := Lib.hid (show D.size ≤ 255 by rw [← hD, ByteArray.size_extract]; omega)
  obtain ⟨PF, hPF⟩ : ∃ PF : ByteArray, (⟨(proofB key.data.toList [⟨#[49]⟩, D]).toArray⟩ : ByteArray) = PF := ⟨_, rfl⟩
  obtain ⟨PG, hPG⟩ : ∃ PG : ByteArray, (⟨(proofB key.data.toList [⟨#[50]⟩, D]).toArray⟩ : ByteArray) = PG := ⟨_, rfl⟩
  obtain ⟨T, hT⟩ : ∃ T, tixT key d 1 = T := ⟨_, rfl⟩
  obtain ⟨T2, hT2⟩ : ∃ T2, tixT key d 2 = T2 := ⟨_, rfl⟩
  have hTP : PF.extract 0 32 = T := by rw [← hT, ← hPF, tix_of key d 1 ⟨#[49]⟩ (by kernel_rfl), HCUT.out, hD]
  have hTP2 : PG.extract 0 32 = T2 := by rw [← hT2, ← hPG, tix_of key d 2 ⟨#[50]⟩ (by kernel_rfl), HCUT.out, hD]
  have hpf : PF.size = 64 := by
    rw [← hPF, ← hD, ← HCUT.out]
    exact prf_lit key d 1 ⟨#[49]⟩ (by kernel_rfl) (by decide)
  have hpg : PG.size = 64 := by
    rw [← hPG, ← hD, ← HCUT.out]
    exact prf_lit key d 2 ⟨#[50]⟩ (by kernel_rfl) (by decide)
  have hpi : (32 : Int) ≤ (PF.size : Int) := by omega
  have hpj : (32 : Int) ≤ (PG.size : Int) := by omega
  have hTT : (T.toList == T.toList) = true := by simp
  have hTT2 : (T2.toList == T2.toList) = true := by simp
  have HT := Lib.hid (And.intro hT hT2)
  have HPF := Lib.hid (And.intro hPF hPG)
  have HSM1 := Lib.hid (show ∀ z ∈ [(⟨#[49]⟩ : ByteArray), D], z.size ≤ 140737488355328 from fun z hz => by
    rcases List.mem_cons.1 hz with rfl | hz
    · decide
    · rw [List.mem_singleton.1 hz]; have := HDS.out; omega)
  have HSM2 := Lib.hid (show ∀ z ∈ [(⟨#[50]⟩ : ByteArray), D], z.size ≤ 140737488355328 from fun z hz => by
    rcases List.mem_cons.1 hz with rfl | hz
    · decide
    · rw [List.mem_singleton.1 hz]; have := HDS.out; omega)
  have HTX := Lib.hid (show ∀ a : ByteArray, (textsB [a, D]).length ≤ 549755813888 from fun a => by
    have h1 := textB_few a
    have h2 := textB_few D
    unfold textsB
    simp only [List.map_cons, List.map_nil, List.flatten_cons, List.flatten_nil, List.length_append, List.length_nil]
    omega)
  obtain ⟨u0, hu0⟩ : ∃ u0, W.alloc (.cells #[.int .i64 pv, .string pn, .string pt, .int .i64 pe] 31) = u0 := ⟨_, rfl⟩
  obtain ⟨gp, hgp⟩ : ∃ gp, W.heap.size = gp := ⟨_, rfl⟩
  have HB0 := Lib.hid (show Below W.heap.size W u0 by rw [← hu0]; exact (Below.refl _ _).alloc (Nat.le_refl _) _)
  have HP0 := Lib.hid (show Bk u0 gp 31 #[.int .i64 pv, .string pn, .string pt, .int .i64 pe] by rw [← hu0, ← hgp]; exact Bk.new _ _ _)
  clear hk hp1 hp2 hd hs hT hT2 hPF hPG hK0
  go_enter Tryd.func6, Tryd.ntmps6
  go_upto_region 1 with fail
  try rw [hu0]
  try rw [hgp]
  clear hu0 hgp
  go_upto_region 2 with (go_at_call 9; (with_reducible refine (thead_ok _ (HG.out.below HB0.out HG.out.size)).mono ?_); rintro e u1 ⟨rfl, hb⟩; have HB1 := Lib.hid (HB0.out.trans (hb.mono HB0.out.size)); have HP1 := Lib.hid (HP0.out.below hb HP0.out.lt); clear hb)
  go_upto_region 3 with (go_at_call 10; (with_reducible refine (z_new HB1.out key HSZ.out.1).mono ?_); rintro e u2 ⟨H2, tb, rfl, h1, h2, h3⟩; have HZ2 := Lib.hid h1; have HP2 := Lib.hid (HP1.out.below h2 HP1.out.lt); have HPN := Lib.hid (show gp ∉ H2 from fun hm => absurd (h3 _ hm) (by have := HP1.out.lt; omega)); clear h1 h2 h3)
  have HPB2 := Lib.hid (show Bz u2 H2 gp 31 #[.int .i64 pv, .string pn, .string pt, .int .i64 pe] from ⟨HP2.out, HPN.out⟩)
  have a0 : u2.cell? ⟨gp, 0, none⟩ = some (.int .i64 pv) := HP2.out.cell 0
  have a1 : u2.cell? ⟨gp, 1, none⟩ = some (.string pn) := HP2.out.cell 1
  have a2 : u2.cell? ⟨gp, 2, none⟩ = some (.string pt) := HP2.out.cell 2
  have a3 : u2.cell? ⟨gp, 3, none⟩ = some (.int .i64 pe) := HP2.out.cell 3
  by_cases hgt : s > 3000
  · have hg2 : (s : Int) > 3000 := by omega
    have hg3 : decide ((3000 : Int) < (s : Int)) = true := decide_eq_true (by omega)
    go_wp2
    go_ret
    exact ⟨rfl, HZ2.out.l⟩
  · have hg2 : ¬ (s : Int) > 3000 := by omega
    have hg3 : decide ((3000 : Int) < (s : Int)) = false := decide_eq_false (by omega)
    have HS3 := Lib.hid (HSM.out (by omega))
    clear hgt
    have HISS0 := Lib.hid (show (tixT key d (0 + 1), (0 : Int), (⟨0 + 1, [⟨tixT key d (0 + 1), ⟨pv, pn, pt, pe⟩⟩]⟩ : Bt)) = (T, 0, ⟨1, [⟨T, ⟨pv, pn, pt, pe⟩⟩]⟩) by rw [show (0 : Int) + 1 = 1 from rfl, HT.out.1])
    have HISS1 := Lib.hid (show (tixT key d (1 + 1), (0 : Int), (⟨1 + 1, [⟨tixT key d (1 + 1), ⟨pv, pn, pt, pe⟩⟩]⟩ : Bt)) = (T2, 0, ⟨2, [⟨T2, ⟨pv, pn, pt, pe⟩⟩]⟩) by rw [show (1 : Int) + 1 = 2 from rfl, HT.out.2])
    go_upto_region 6 with fail
    try rw [hD]
    go_upto_region 7 with (go_at_call 18; (with_reducible refine (z_issue HZ2.out (ser_gk0 0 (by omega)) ⟨pv, pn, pt, pe⟩ d T 0 ⟨1, [⟨T, ⟨pv, pn, pt, pe⟩⟩]⟩ (by rw [ser_iss]; exact HISS0.out) HS3.out.1 (Nat.le_trans HS3.out.2 (by decide)) (by show (0 : Int) ≤ _; omega) HSZ.out.2.1 HSZ.out.2.2 HG.out).mono ?_); rintro e u3 ⟨H3, rfl, h1, h2⟩; have HZ3 := Lib.hid h1; have HP3 := Lib.hid (HPB2.out.step h2); clear h1 h2)
    clear a0 a1 a2 a3
    have a0 : u3.cell? ⟨gp, 0, none⟩ = some (.int .i64 pv) := HP3.out.b.cell 0
    go_upto_region 8 with (go_at_call 16; (with_reducible refine (z_void HZ3.out (ser_gk T _ 1 (by omega)) pv true ⟨1, []⟩ (ser_voi T ⟨pv, pn, pt, pe⟩ 1)).mono ?_); rintro e u4 ⟨H4, rfl, h1, h2⟩; have HZ4 := Lib.hid h1; have HP4 := Lib.hid (HP3.out.step h2); clear h1 h2)
    clear a0
    have a0 : u4.cell? ⟨gp, 0, none⟩ = some (.int .i64 pv) := HP4.out.b.cell 0
    have a1 : u4.cell? ⟨gp, 1, none⟩ = some (.string pn) := HP4.out.b.cell 1
    have a2 : u4.cell? ⟨gp, 2, none⟩ = some (.string pt) := HP4.out.b.cell 2
    have a3 : u4.cell? ⟨gp, 3, none⟩ = some (.int .i64 pe) := HP4.out.b.cell 3
    go_upto_region 9 with (go_at_call 18; (with_reducible refine (z_issue HZ4.out (ser_gk0 1 (by omega)) ⟨pv, pn, pt, pe⟩ d T2 0 ⟨2, [⟨T2, ⟨pv, pn, pt, pe⟩⟩]⟩ (by rw [ser_iss]; exact HISS1.out) HS3.out.1 (Nat.le_trans HS3.out.2 (by decide)) (by show (1 : Int) ≤ _; omega) HSZ.out.2.1 HSZ.out.2.2 HG.out).mono ?_); rintro e u5 ⟨H5, rfl, h1, h2⟩; have HZ5 := Lib.hid h1; have HP5 := Lib.hid (HP4.out.step h2); clear h1 h2)
    clear a0 a1 a2 a3
    obtain ⟨cap, ob, hcb, hcap1, hcap2, hRB⟩ := conv_back key (Nat.le_trans HS3.out.1 (by decide)) u5
    go_wp2_with fail
    have h3 := key_words key u5 ob cap 9 ⟨#[49]⟩ D hRB
    refine (rproof_ok (some ⟨u5.heap.size, 0, none⟩) key.size cap key.data.toList (some ⟨u5.heap.size + 1, 0, none⟩) 2 2 [⟨#[49]⟩, D] _ rfl hcap1 hcap2 (Nat.le_trans HS3.out.1 (by decide)) h3.1 (fun h => by cases h) rfl (by omega) h3.2.1 HSM1.out (HTX.out _)).mono ?_
    rintro e w6 ⟨rfl, hb3⟩
    rw [HPF.out.1]
    have hbv := h3.2.2.trans (hb3.mono h3.2.2.size)
    have HZ6 := Lib.hid (HZ5.out.on hbv)
    clear h3 hb3 hbv hcb hRB hcap1 hcap2
    obtain ⟨cap2, ob2, hcb, hcap1, hcap2, hRB⟩ := conv_back key (Nat.le_trans HS3.out.1 (by decide)) w6
    go_wp2_with fail
    have h3 := key_words key w6 ob2 cap2 9 ⟨#[50]⟩ D hRB
    refine (rproof_ok (some ⟨w6.heap.size, 0, none⟩) key.size cap2 key.data.toList (some ⟨w6.heap.size + 1, 0, none⟩) 2 2 [⟨#[50]⟩, D] _ rfl hcap1 hcap2 (Nat.le_trans HS3.out.1 (by decide)) h3.1 (fun h => by cases h) rfl (by omega) h3.2.1 HSM2.out (HTX.out _)).mono ?_
    rintro e w7 ⟨rfl, hb3⟩
    rw [HPF.out.2]
    have hbv := h3.2.2.trans (hb3.mono h3.2.2.size)
    have HZ7 := Lib.hid (HZ6.out.on hbv)
    clear h3 hb3 hbv hcb hRB hcap1 hcap2
    go_wp2_with fail
    go_ret
    exact ⟨rfl, HZ7.out.l⟩
end Go.Proofs.YtinbegnojfpeiaaDoor
