/- TicketFull: no more tickets are good than may be; one that is refused makes no serial: the walk. (Written by gen_tcfull.py.) -/
import Derived.Test.YtinbegnojfpeiaaDoorTcH
import Derived.Test.YtinbegnojfpeiaaDoorTcV
import Derived.Test.YtinbegnojfpeiaaDoorG19
namespace Go.Proofs.YtinbegnojfpeiaaDoor
set_option linter.unusedVariables false
set_option maxRecDepth 100000
set_option linter.unusedSimpArgs false
open Go.RowKit

theorem dec_one (s : Nat) (h : s < 10) : bs (decB s) = ⟨#[UInt8.ofNat (s + 48)]⟩ := by
  rw [decB_mk, show s / 10 = 0 by omega, show s % 10 = s by omega]
  rfl
theorem dec_two (s : Nat) (h1 : 10 ≤ s) (h2 : s < 100) : bs (decB s) = ⟨#[UInt8.ofNat (s / 10 + 48), UInt8.ofNat (s % 10 + 48)]⟩ := by
  rw [decB_mk]
  unfold mk10
  rw [if_neg (by omega), decB_mk, show s / 10 / 10 = 0 by omega, show s / 10 % 10 = s / 10 by omega]
  rfl
theorem full_iss (f : Int → ByteArray) (m : Nat) (h0 : 0 < m) (h : m ≤ 64) : issT ⟨(m : Int), vK ⟨#[]⟩ f m 0⟩ (vP ⟨#[]⟩ 1000) f = (f (((m + 1 : Nat)) : Int), 0, ⟨((m + 1 : Nat) : Int), vK ⟨#[]⟩ f m 0 ++ [⟨f ((m + 1 : Nat) : Int), vP ⟨#[]⟩ 1000⟩]⟩) := by
  have h1 : (vK ⟨#[]⟩ f m 0).any (visT 1000) = false := by
    rw [List.any_eq_false]
    intro x hx
    have h2 : x ∈ vL ⟨#[]⟩ f m := List.mem_of_mem_eraseP hx
    obtain ⟨j, hj, rfl⟩ := List.mem_map.1 h2
    have := List.mem_range.1 hj
    unfold visT
    simp
    omega
  unfold issT
  dsimp only
  rw [h1, if_neg (by simp), if_neg (by rw [vK_len, if_pos h0]; omega)]
  rfl
set_option maxRecDepth 100000 in
set_option maxHeartbeats 16000000 in
theorem walk_TicketFull (key : ByteArray) (M0 : Nat) (d : ByteArray) (W : World) (hk : key.size ≤ 140737488355328) (hM0 : M0 < 256) (hd : d.size ≤ 140737488355328) (hG : Gl W) :
    Calls Tryd.prog 8 #[.string key, .int .u8 (M0 : Int), .string d] W fun e w' => e = .returned (.bool true) ∧ Below W.heap.size W w' := by
  have HG := Lib.hid hG
  clear hG
  obtain ⟨s, hs⟩ : ∃ s : Nat, key.size + d.size = s := ⟨_, rfl⟩
  have hws : IntKind.i64.wrap ((key.size : Int) + (d.size : Int)) = (s : Int) := (iwrap _ s (by omega) (by omega)).1
  have HSM := Lib.hid (show s ≤ 3000 → key.size ≤ 3000 ∧ d.size ≤ 3000 from fun h => by omega)
  obtain ⟨n, hn⟩ : ∃ n, M0 % 80 = n := ⟨_, rfl⟩
  have hn80 : n < 80 := by rw [← hn]; exact Nat.mod_lt _ (by omega)
  have hr1 : (M0 : Int) % 80 = (n : Int) := by rw [← hn]; rfl
  have hw1 : IntKind.i64.wrap (n : Int) = (n : Int) := (iwrap _ n rfl (by omega)).1
  obtain ⟨f, hf⟩ : ∃ f, tixT key d = f := ⟨_, rfl⟩
  have HF := Lib.hid hf
  have HKZ := Lib.hid hk
  clear hn hf hk hs hd
  go_enter Tryd.func8, Tryd.ntmps8
  go_upto_region 2 with (go_at_call 9; (with_reducible refine (thead_ok _ HG.out).mono ?_); rintro e u1 ⟨rfl, hb⟩; have HB1 := Lib.hid hb; clear hb)
  go_upto_region 3 with (go_at_call 10; (with_reducible refine (z_new HB1.out key HKZ.out).mono ?_); rintro e u2 ⟨H2, tb, rfl, h1, h2, h3⟩; have HZ2 := Lib.hid h1; clear h1 h2 h3)
  by_cases hgt : s > 3000
  · have hg2 : (s : Int) > 3000 := by omega
    have hg3 : decide ((3000 : Int) < (s : Int)) = true := decide_eq_true (by omega)
    go_wp2
    go_ret
    exact ⟨rfl, HZ2.out.l⟩
  · have hg2 : ¬ (s : Int) > 3000 := by omega
    have hg3 : decide ((3000 : Int) < (s : Int)) = false := decide_eq_false (by omega)
    have HK3 := Lib.hid (HSM.out (by omega))
    have HDZ := Lib.hid (Nat.le_trans HK3.out.2 (show 3000 ≤ 1099511627776 by decide))
    clear hgt
    go_upto_region 6 with fail
    try rw [hr1]
    try rw [hw1]
    clear hr1 hw1
    go_wp2_with fail
    go_loopw [10] (fun v10 wr => ∃ (i : Nat) (H : List Nat), i ≤ n ∧ v10 = .int .i64 (i : Int) ∧ Hid (Tz W wr H tb key ⟨((min i 64 : Nat) : Int), vL ⟨#[]⟩ f (min i 64)⟩)) (fun v10 _ => n - (intOf v10).toNat)
    case atStart => exact ⟨0, H2, by omega, rfl, HZ2⟩
    case round =>
      obtain ⟨i, H, hi, rfl, HZ⟩ := hrel
      by_cases hi1 : i < n
      · have hi2 : (i : Int) < (n : Int) := by omega
        by_cases h64 : i < 64
        · have hi3 : (i : Int) < 64 := by omega
          have hi4 : decide ((i : Int) ≥ 64) = false := decide_eq_false (by omega)
          have hi5 : decide ((64 : Int) ≤ (i : Int)) = false := decide_eq_false (by omega)
          have hi6 : decide ((i : Int) < 64) = true := decide_eq_true hi3
          rw [show min i 64 = i by omega] at HZ
          obtain ⟨T, hT⟩ : ∃ T, f ((i : Int) + 1) = T := ⟨_, rfl⟩
          have HI := Lib.hid (show issT ⟨(i : Int), vL ⟨#[]⟩ f i⟩ (vP ⟨#[]⟩ i) (tixT key d) = (T, 0, ⟨((i + 1 : Nat) : Int), vL ⟨#[]⟩ f (i + 1)⟩) by rw [HF.out, vL_iss i h64, hT])
          have HI2 := Lib.hid (show issT ⟨((i + 1 : Nat) : Int), vL ⟨#[]⟩ f (i + 1)⟩ (vP ⟨#[]⟩ i) (tixT key d) = (⟨#[]⟩, 4, ⟨((i + 1 : Nat) : Int), vL ⟨#[]⟩ f (i + 1)⟩) by rw [HF.out, vL_iss2 i h64])
          have HGK := Lib.hid (show Gk ⟨(i : Int), vL ⟨#[]⟩ f i⟩ from vL_gk i (by omega) _ (by omega))
          have HGK2 := Lib.hid (show Gk ⟨((i + 1 : Nat) : Int), vL ⟨#[]⟩ f (i + 1)⟩ from vL_gk (i + 1) (by omega) _ (by omega))
          clear hT
          go_upto_region 10 with (go_at_call 18; (with_reducible refine (z_issue HZ.out HGK.out (vP ⟨#[]⟩ i) d T 0 _ HI.out HK3.out.1 HDZ.out (by show (i : Int) ≤ _; omega) (by show (⟨#[]⟩ : ByteArray).size ≤ _; decide) (by show (⟨#[]⟩ : ByteArray).size ≤ _; decide) HG.out).mono ?_); rintro e u3 ⟨H3, rfl, h1, h2⟩; have HZ3 := Lib.hid h1; clear h1 h2)
          go_upto_region 11 with (go_at_call 18; (with_reducible refine (z_issue HZ3.out HGK2.out (vP ⟨#[]⟩ i) d ⟨#[]⟩ 4 _ HI2.out HK3.out.1 HDZ.out (by show ((i + 1 : Nat) : Int) ≤ _; omega) (by show (⟨#[]⟩ : ByteArray).size ≤ _; decide) (by show (⟨#[]⟩ : ByteArray).size ≤ _; decide) HG.out).mono ?_); rintro e u4 ⟨H4, rfl, h1, h2⟩; have HZ4 := Lib.hid h1; clear h1 h2)
          go_wp2_with fail
          go_roundw
          case rel => exact ⟨i + 1, H4, by omega, by go_num, Lib.hid (by rw [show min (i + 1) 64 = i + 1 by omega]; exact HZ4.out)⟩
          case measure => simp [intOf]; omega
        · have hi3 : ¬ (i : Int) < 64 := by omega
          have hi4 : decide ((i : Int) ≥ 64) = true := decide_eq_true (by omega)
          have hi5 : decide ((64 : Int) ≤ (i : Int)) = true := decide_eq_true (by omega)
          have hi6 : decide ((i : Int) < 64) = false := decide_eq_false hi3
          rw [show min i 64 = 64 by omega] at HZ
          have HI := Lib.hid (show issT ⟨((64 : Nat) : Int), vL ⟨#[]⟩ f 64⟩ (vP ⟨#[]⟩ i) (tixT key d) = (⟨#[]⟩, 2, ⟨((64 : Nat) : Int), vL ⟨#[]⟩ f 64⟩) by rw [HF.out]; exact vL_iss3 i (by omega))
          have HGK := Lib.hid (show Gk ⟨((64 : Nat) : Int), vL ⟨#[]⟩ f 64⟩ from vL_gk 64 (by omega) _ (by omega))
          go_upto_region 10 with (go_at_call 18; (with_reducible refine (z_issue HZ.out HGK.out (vP ⟨#[]⟩ i) d ⟨#[]⟩ 2 _ HI.out HK3.out.1 HDZ.out (by show ((64 : Nat) : Int) ≤ _; omega) (by show (⟨#[]⟩ : ByteArray).size ≤ _; decide) (by show (⟨#[]⟩ : ByteArray).size ≤ _; decide) HG.out).mono ?_); rintro e u3 ⟨H3, rfl, h1, h2⟩; have HZ3 := Lib.hid h1; clear h1 h2)
          go_upto_region 11 with (go_at_call 18; (with_reducible refine (z_issue HZ3.out HGK.out (vP ⟨#[]⟩ i) d ⟨#[]⟩ 2 _ HI.out HK3.out.1 HDZ.out (by show ((64 : Nat) : Int) ≤ _; omega) (by show (⟨#[]⟩ : ByteArray).size ≤ _; decide) (by show (⟨#[]⟩ : ByteArray).size ≤ _; decide) HG.out).mono ?_); rintro e u4 ⟨H4, rfl, h1, h2⟩; have HZ4 := Lib.hid h1; clear h1 h2)
          go_wp2_with fail
          go_roundw
          case rel => exact ⟨i + 1, H4, by omega, by go_num, Lib.hid (by rw [show min (i + 1) 64 = 64 by omega]; exact HZ4.out)⟩
          case measure => simp [intOf]; omega
      · have hi2 : ¬ (i : Int) < (n : Int) := by omega
        have hin : i = n := by omega
        subst hin
        clear hi1 hi
        by_cases hi0 : i = 0
        · subst hi0
          go_wp2
          go_ret
          exact ⟨rfl, HZ.out.l⟩
        · have hi0b : ¬ ((i : Int) = 0) := by omega
          obtain ⟨m, hm⟩ : ∃ m, min i 64 = m := ⟨_, rfl⟩
          have hmi : min (i : Int) 64 = (m : Int) := by omega
          have hm1 : 0 < m := by omega
          have hm64 : m ≤ 64 := by omega
          rw [hm] at HZ
          obtain ⟨sr, hsr⟩ : ∃ sr, m + 1 = sr := ⟨_, rfl⟩
          have hsr2 : 2 ≤ sr ∧ sr ≤ 65 := by omega
          have hwsr : IntKind.i64.wrap ((m : Int) + 1) = (sr : Int) := (iwrap _ sr (by omega) (by omega)).1
          obtain ⟨T, hT⟩ : ∃ T, f (sr : Int) = T := ⟨_, rfl⟩
          obtain ⟨L1, hL1⟩ : ∃ L1, vK ⟨#[]⟩ f m 0 = L1 := ⟨_, rfl⟩
          have HV := Lib.hid (show voiT ⟨(m : Int), vL ⟨#[]⟩ f m⟩ 0 = (true, ⟨(m : Int), L1⟩) by
            have := vK_voi (a := ⟨#[]⟩) (f := f) m 0
            rw [decide_eq_true hm1, hL1] at this
            exact this)
          have HI := Lib.hid (show issT ⟨(m : Int), L1⟩ (vP ⟨#[]⟩ 1000) (tixT key d) = (T, 0, ⟨(sr : Int), L1 ++ [⟨T, vP ⟨#[]⟩ 1000⟩]⟩) by rw [HF.out, ← hL1, full_iss f m hm1 hm64, hL1, hsr, hT])
          have HGK := Lib.hid (show Gk ⟨(m : Int), vL ⟨#[]⟩ f m⟩ from vL_gk m hm64 _ (by omega))
          have HGK1 := Lib.hid (show Gk ⟨(m : Int), L1⟩ by rw [← hL1]; exact vK_gk m 0 hm64)
          have HLM := Lib.hid (show (L1 ++ [(⟨T, vP ⟨#[]⟩ 1000⟩ : Tk5)]).length = m by rw [List.length_append, ← hL1, vK_len, if_pos hm1]; simp; omega)
          have HTT := Lib.hid (show tixT key d (sr : Int) = T by rw [HF.out, hT])
          clear hL1 hT hm hsr
          go_upto_region 16 with (go_at_call 16; (with_reducible refine (z_void HZ.out HGK.out 0 true _ HV.out).mono ?_); rintro e u3 ⟨H3, rfl, h1, h2⟩; have HZ3 := Lib.hid h1; clear h1 h2)
          go_upto_region 17 with (go_at_call 18; (with_reducible refine (z_issue HZ3.out HGK1.out (vP ⟨#[]⟩ 1000) d T 0 _ HI.out HK3.out.1 HDZ.out (by show (m : Int) ≤ _; omega) (by decide) (by decide) HG.out).mono ?_); rintro e u4 ⟨H4, rfl, h1, h2⟩; have HZ4 := Lib.hid h1; clear h1 h2)
          go_upto_region 18 with fail
          try rw [hmi]
          try rw [hwsr]
          have hTT : (T.toList == T.toList) = true := by simp
          obtain ⟨KN, hK0⟩ : ∃ KN, min d.size 255 = KN := ⟨_, rfl⟩
          have HMIN := Lib.hid (show min (d.size : Int) 255 = (KN : Int) by omega)
          have HCUT := Lib.hid (show cutT d = d.extract 0 KN by unfold cutT; rw [hK0])
          have hK1i : (KN : Int) ≤ (d.size : Int) := by omega
          obtain ⟨D, hD⟩ : ∃ D, d.extract 0 KN = D := ⟨_, rfl⟩
          have HDS := Lib.hid (show D.size ≤ 255 by rw [← hD, ByteArray.size_extract]; omega)
          have HSMZ := Lib.hid (show ∀ a : ByteArray, a.size ≤ 1000 → ∀ z ∈ [a, D], z.size ≤ 140737488355328 from fun a ha z hz => by
            rcases List.mem_cons.1 hz with rfl | hz
            · omega
            · rw [List.mem_singleton.1 hz]; have := HDS.out; omega)
          have HTX := Lib.hid (show ∀ a : ByteArray, (textsB [a, D]).length ≤ 549755813888 from fun a => by
            have h1 := textB_few a
            have h2 := textB_few D
            unfold textsB
            simp only [List.map_cons, List.map_nil, List.flatten_cons, List.flatten_nil, List.length_append, List.length_nil]
            omega)
          have HCD := Lib.hid (HCUT.out.trans hD)
          obtain ⟨b1, hb1⟩ : ∃ b1, UInt8.ofNat (sr / 10 + 48) = b1 := ⟨_, rfl⟩
          obtain ⟨b2, hb2⟩ : ∃ b2, UInt8.ofNat (sr % 10 + 48) = b2 := ⟨_, rfl⟩
          have hb1n : b1.toNat = sr / 10 + 48 := by rw [← hb1]; simp; omega
          have hb2n : b2.toNat = sr % 10 + 48 := by rw [← hb2]; simp; omega
          have HB1 := Lib.hid (And.intro hb1 hb2)
          obtain ⟨q, hq0⟩ : ∃ q, sr / 10 = q := ⟨_, rfl⟩
          obtain ⟨r, hr0⟩ : ∃ r, sr % 10 = r := ⟨_, rfl⟩
          have hq : IntKind.i64.wrap ((sr : Int) / 10) = (q : Int) := (iwrap _ q (by rw [← hq0]; rfl) (by omega)).1
          have hr : IntKind.i64.wrap ((sr : Int) % 10) = (r : Int) := (iwrap _ r (by rw [← hr0]; rfl) (by omega)).1
          have hr' : (sr : Int).tmod 10 = (r : Int) := by rw [Int.tmod_eq_emod_of_nonneg (by omega)]; omega
          have hq8 : IntKind.u8.wrap (q : Int) = (q : Int) := by rw [IntKind.wrap_u8]; omega
          have hr8 : IntKind.u8.wrap (r : Int) = (r : Int) := by rw [IntKind.wrap_u8]; omega
          have hx1 : IntKind.u8.wrap (48 + (q : Int)) = (b1.toNat : Int) := by rw [IntKind.wrap_u8]; omega
          have hx2 : IntKind.u8.wrap (48 + (r : Int)) = (b2.toNat : Int) := by rw [IntKind.wrap_u8]; omega
          clear hK0 hb1 hb2 hb1n hb2n
          have HD := Lib.hid hD
          by_cases h10 : sr < 10
          · have h10b : (sr : Int) < 10 := by omega
            have h10c : decide ((sr : Int) < 10) = true := decide_eq_true h10b
            have HLIT := Lib.hid (show bs (decB (sr : Int).toNat) = ⟨#[b2]⟩ by rw [Int.toNat_natCast, dec_one sr h10, ← HB1.out.2, show sr % 10 = sr by omega])
            have hs8 : IntKind.u8.wrap (sr : Int) = (sr : Int) := by rw [IntKind.wrap_u8]; omega
            have hrsr : r = sr := by omega
            have hx3 : IntKind.u8.wrap (48 + (sr : Int)) = (b2.toNat : Int) := by rw [hrsr] at hx2; exact hx2
            try simp only [List.cons_append, List.nil_append]
            refine wp_region_held_drew (S := fun wz => Below u4.heap.size u4 wz) (by kernel_rfl) ((Below.refl _ _).drew) (fun hHeld => ?_)
            refine take_at (some 97) (i := 0) (v := ?_) rfl rfl (by kernel_rfl) (by kernel_rfl) (by kernel_rfl) (fun _ _ _ h => h) (Or.inl ⟨by kernel_rfl, ?_⟩) hHeld ?_
            rotate_left
            · intro wz hSw; go_simp; try (with_reducible rfl)
            try simp only [Act.put, List.setIfInBounds_toArray, List.set_cons_zero, List.set_cons_succ, List.getElem_toArray, List.getElem_cons_succ, List.getElem_cons_zero]
            refine take_at (some 99) (i := 2) (v := ?_) rfl rfl (by kernel_rfl) (by kernel_rfl) (by kernel_rfl) (fun _ _ _ h => h) (Or.inl ⟨by kernel_rfl, ?_⟩) hHeld ?_
            rotate_left
            · intro wz hSw; go_simp; try (with_reducible rfl)
            try simp only [Act.put, List.setIfInBounds_toArray, List.set_cons_zero, List.set_cons_succ, List.getElem_toArray, List.getElem_cons_succ, List.getElem_cons_zero]
            refine take_at (some 100) (i := 3) (v := ?_) rfl rfl (by kernel_rfl) (by kernel_rfl) (by kernel_rfl) (fun _ _ _ h => h) (Or.inl ⟨by kernel_rfl, ?_⟩) hHeld ?_
            rotate_left
            · intro wz hSw; go_simp; try (with_reducible rfl)
            try simp only [Act.put, List.setIfInBounds_toArray, List.set_cons_zero, List.set_cons_succ, List.getElem_toArray, List.getElem_cons_succ, List.getElem_cons_zero]
            refine take_at (some 101) (i := 4) (v := ?_) rfl rfl (by kernel_rfl) (by kernel_rfl) (by kernel_rfl) (fun _ _ _ h => h) (Or.inl ⟨by kernel_rfl, ?_⟩) hHeld ?_
            rotate_left
            · intro wz hSw; go_simp; try (with_reducible rfl)
            try simp only [Act.put, List.setIfInBounds_toArray, List.set_cons_zero, List.set_cons_succ, List.getElem_toArray, List.getElem_cons_succ, List.getElem_cons_zero]
            refine take_at (some 102) (i := 5) (v := ?_) rfl rfl (by kernel_rfl) (by kernel_rfl) (by kernel_rfl) (fun _ _ _ h => h) (Or.inl ⟨by kernel_rfl, ?_⟩) hHeld ?_
            rotate_left
            · intro wz hSw; go_simp; try (with_reducible rfl)
            try simp only [Act.put, List.setIfInBounds_toArray, List.set_cons_zero, List.set_cons_succ, List.getElem_toArray, List.getElem_cons_succ, List.getElem_cons_zero]
            refine take_at (some 103) (i := 6) (v := ?_) rfl rfl (by kernel_rfl) (by kernel_rfl) (by kernel_rfl) (fun _ _ _ h => h) (Or.inl ⟨by kernel_rfl, ?_⟩) hHeld ?_
            rotate_left
            · intro wz hSw; go_simp; try (with_reducible rfl)
            try simp only [Act.put, List.setIfInBounds_toArray, List.set_cons_zero, List.set_cons_succ, List.getElem_toArray, List.getElem_cons_succ, List.getElem_cons_zero]
            refine take_at (some 104) (i := 7) (v := ?_) rfl rfl (by kernel_rfl) (by kernel_rfl) (by kernel_rfl) (fun _ _ _ h => h) (Or.inl ⟨by kernel_rfl, ?_⟩) hHeld ?_
            rotate_left
            · intro wz hSw; go_simp; try (with_reducible rfl)
            try simp only [Act.put, List.setIfInBounds_toArray, List.set_cons_zero, List.set_cons_succ, List.getElem_toArray, List.getElem_cons_succ, List.getElem_cons_zero]
            refine take_at (some 105) (i := 8) (v := ?_) rfl rfl (by kernel_rfl) (by kernel_rfl) (by kernel_rfl) (fun _ _ _ h => h) (Or.inl ⟨by kernel_rfl, ?_⟩) hHeld ?_
            rotate_left
            · intro wz hSw; go_simp; try (with_reducible rfl)
            try simp only [Act.put, List.setIfInBounds_toArray, List.set_cons_zero, List.set_cons_succ, List.getElem_toArray, List.getElem_cons_succ, List.getElem_cons_zero]
            refine take_at (some 106) (i := 9) (v := ?_) rfl rfl (by kernel_rfl) (by kernel_rfl) (by kernel_rfl) (fun _ _ _ h => h) (Or.inl ⟨by kernel_rfl, ?_⟩) hHeld ?_
            rotate_left
            · intro wz hSw; go_simp; try (with_reducible rfl)
            try simp only [Act.put, List.setIfInBounds_toArray, List.set_cons_zero, List.set_cons_succ, List.getElem_toArray, List.getElem_cons_succ, List.getElem_cons_zero]
            refine take_at (some 109) (i := 12) (v := ?_) rfl rfl (by kernel_rfl) (by kernel_rfl) (by kernel_rfl) (fun _ _ _ h => h) (Or.inl ⟨by kernel_rfl, ?_⟩) hHeld ?_
            rotate_left
            · intro wz hSw; go_simp; try (with_reducible rfl)
            try simp only [Act.put, List.setIfInBounds_toArray, List.set_cons_zero, List.set_cons_succ, List.getElem_toArray, List.getElem_cons_succ, List.getElem_cons_zero]
            refine take_at (some 110) (i := 13) (v := ?_) rfl rfl (by kernel_rfl) (by kernel_rfl) (by kernel_rfl) (fun _ _ _ h => h) (Or.inl ⟨by kernel_rfl, ?_⟩) hHeld ?_
            rotate_left
            · intro wz hSw; go_simp; try (with_reducible rfl)
            try simp only [Act.put, List.setIfInBounds_toArray, List.set_cons_zero, List.set_cons_succ, List.getElem_toArray, List.getElem_cons_succ, List.getElem_cons_zero]
            refine take_at (some 111) (i := 14) (v := ?_) rfl rfl (by kernel_rfl) (by kernel_rfl) (by kernel_rfl) (fun _ _ _ h => h) (Or.inl ⟨by kernel_rfl, ?_⟩) hHeld ?_
            rotate_left
            · intro wz hSw; go_simp; try (with_reducible rfl)
            try simp only [Act.put, List.setIfInBounds_toArray, List.set_cons_zero, List.set_cons_succ, List.getElem_toArray, List.getElem_cons_succ, List.getElem_cons_zero]
            refine take_at (some 112) (i := 15) rfl rfl (by kernel_rfl) (by kernel_rfl) (by kernel_rfl) (fun _ _ _ h => h) (yieldsIf_min (by kernel_rfl) (.tmp 111) (.const (.int .i64 255)) 3 rfl _ _ _ rfl rfl HMIN.out) hHeld ?_
            try simp only [Act.put, List.setIfInBounds_toArray, List.set_cons_zero, List.set_cons_succ, List.getElem_toArray, List.getElem_cons_succ, List.getElem_cons_zero]
            refine take_at (some 113) (i := 16) (v := ?_) rfl rfl (by kernel_rfl) (by kernel_rfl) (by kernel_rfl) (fun _ _ _ h => h) (Or.inl ⟨by kernel_rfl, ?_⟩) hHeld ?_
            rotate_left
            · intro wz hSw; go_simp; try (with_reducible rfl)
            try simp only [Act.put, List.setIfInBounds_toArray, List.set_cons_zero, List.set_cons_succ, List.getElem_toArray, List.getElem_cons_succ, List.getElem_cons_zero]
            try rw [HD.out]
            obtain ⟨w0, hwd⟩ : ∃ wq, u4.drew = wq := ⟨_, rfl⟩
            have hx0 : Below u4.heap.size u4 w0 := by rw [← hwd]; exact (Below.refl _ _).drew
            try rw [hwd]
            clear hwd
            refine wpAnyH_ready (rs := [1, 10]) (by kernel_rfl) (by simp) (AllReadyH.cons rfl (fun K hK => ?_) (AllReadyH.cons rfl (fun K hK => ?_) (AllReadyH.nil)))
            · rw [if_pos (by kernel_rfl)]
              obtain ⟨cap, ob, hcb, hcap1, hcap2, hRB⟩ := conv_back key (Nat.le_trans HK3.out.1 (by decide)) w0
              go_simp
              try dsimp only
              obtain ⟨w1, hw1⟩ : ∃ wq, (w0.alloc ob).drew = wq := ⟨_, rfl⟩
              obtain ⟨gk, hgk⟩ : ∃ gq, w0.heap.size = gq := ⟨_, rfl⟩
              have hrk1 : Rb w1 w1.heap.size (some ⟨gk, 0, none⟩) key.data.toList := by rw [← hw1, ← hgk]; exact hRB
              have hbel : Below w0.heap.size w0 w1 := by rw [← hw1]; exact ((Below.refl _ _).alloc (Nat.le_refl _) _).drew
              have hx1 : Below u4.heap.size u4 w1 := hx0.trans (hbel.mono hx0.size)
              try rw [hw1]
              try rw [hgk]
              clear hcb hRB hw1 hgk hbel
              refine hK.out _ _ hx1 (fun hHeld => ?_)
              try simp only [Act.put, List.setIfInBounds_toArray, List.set_cons_zero, List.set_cons_succ, List.getElem_toArray, List.getElem_cons_succ, List.getElem_cons_zero]
              refine wpAnyH_ready (rs := [10]) (by kernel_rfl) (by simp) (AllReadyH.cons rfl (fun K hK => ?_) (AllReadyH.nil))
              · rw [if_pos (by kernel_rfl)]
                go_simp
                try dsimp only
                obtain ⟨w2, hw5⟩ : ∃ wq, w1.alloc (.cells #[.int .u8 (b1.toNat : Int), .int .u8 (b2.toNat : Int)] 5) = wq := ⟨_, rfl⟩
                obtain ⟨gb, hgw⟩ : ∃ gq, w1.heap.size = gq := ⟨_, rfl⟩
                have hbb2 : Bk w2 gb 5 (bcells [b1, b2]) := by rw [← hw5, ← hgw]; exact Bk.new _ _ _
                have hbel : Below w1.heap.size w1 w2 := by rw [← hw5]; exact (Below.refl _ _).alloc (Nat.le_refl _) _
                have hx2 : Below u4.heap.size u4 w2 := hx1.trans (hbel.mono hx1.size)
                have hrk2 := (hrk1.below hbel (Nat.le_refl _)).more hbel.size
                try rw [hw5]
                try rw [hgw]
                clear hw5 hgw hbel
                refine hK.out _ _ hx2 (fun hHeld => ?_)
                try simp only [Act.put, List.setIfInBounds_toArray, List.set_cons_zero, List.set_cons_succ, List.getElem_toArray, List.getElem_cons_succ, List.getElem_cons_zero]
                refine wpAnyH_ready (rs := [11]) (by kernel_rfl) (by simp) (AllReadyH.cons rfl (fun K hK => ?_) (AllReadyH.nil))
                · rw [if_pos (by kernel_rfl)]
                  have hcv := str_of (P := Tryd.prog) (B := w2.heap.size) (A := some ⟨gb, 0, none⟩) (l := [b1, b2]) ((Rb.bk hbb2).more hbb2.lt) 50 5 9 Tryd.underlying50 Tryd.underlying5 Tryd.underlying9 2 2 rfl
                  go_simp
                  clear hcv
                  refine hK.out _ _ hx2 (fun hHeld => ?_)
                  try simp only [Act.put, List.setIfInBounds_toArray, List.set_cons_zero, List.set_cons_succ, List.getElem_toArray, List.getElem_cons_succ, List.getElem_cons_zero]
                  refine wpAnyH_ready (rs := [17]) (by kernel_rfl) (by simp) (AllReadyH.cons rfl (fun K hK => ?_) (AllReadyH.nil))
                  · rw [if_pos (by kernel_rfl)]
                    go_simp
                    try dsimp only
                    obtain ⟨w3, hw5⟩ : ∃ wq, w2.alloc (.cells #[.string ⟨#[b1, b2]⟩, .string D] 9) = wq := ⟨_, rfl⟩
                    obtain ⟨gw, hgw⟩ : ∃ gq, w2.heap.size = gq := ⟨_, rfl⟩
                    have hbw3 : Bk w3 gw 9 (#[.string ⟨#[b1, b2]⟩, .string D]) := by rw [← hw5, ← hgw]; exact Bk.new _ _ _
                    have hbel : Below w2.heap.size w2 w3 := by rw [← hw5]; exact (Below.refl _ _).alloc (Nat.le_refl _) _
                    have hx3 : Below u4.heap.size u4 w3 := hx2.trans (hbel.mono hx2.size)
                    have hrk3 := (hrk2.below hbel (Nat.le_refl _)).more hbel.size
                    have hbb3 := hbb2.below hbel hbb2.lt
                    try rw [hw5]
                    try rw [hgw]
                    clear hw5 hgw hbel
                    refine hK.out _ _ hx3 (fun hHeld => ?_)
                    try simp only [Act.put, List.setIfInBounds_toArray, List.set_cons_zero, List.set_cons_succ, List.getElem_toArray, List.getElem_cons_succ, List.getElem_cons_zero]
                    refine wpAnyH_ready (rs := [18]) (by kernel_rfl) (by simp) (AllReadyH.cons rfl (fun K hK => ?_) AllReadyH.nil)
                    rw [if_pos (by kernel_rfl)]
                    go_simp
                    refine (rproof_ok (some ⟨gk, 0, none⟩) key.size cap key.data.toList (some ⟨gw, 0, none⟩) 2 2 [⟨#[b1, b2]⟩, D] w3 rfl hcap1 hcap2 (Nat.le_trans HK3.out.1 (by decide)) hrk3 (fun h => by cases h) rfl (by omega) (two_bkZ hbw3) (HSMZ.out _ (by show 2 ≤ 1000; decide)) (HTX.out _)).mono ?_
                    rintro e wp18 ⟨rfl, hbp⟩
                    try dsimp only
                    have hxp : Below u4.heap.size u4 wp18 := hx3.trans (hbp.mono hx3.size)
                    refine hK.out _ _ hxp (fun hHeld => ?_)
                    try simp only [Act.put, List.setIfInBounds_toArray, List.set_cons_zero, List.set_cons_succ, List.getElem_toArray, List.getElem_cons_succ, List.getElem_cons_zero]
                    refine wpAnyH_ready (rs := [19]) (by kernel_rfl) (by simp) (AllReadyH.cons rfl (fun K hK => ?_) AllReadyH.nil)
                    rw [if_pos (by kernel_rfl)]
                    go_simp
                    refine hK.out _ _ hxp (fun hHeld => ?_)
                    try simp only [Act.put, List.setIfInBounds_toArray, List.set_cons_zero, List.set_cons_succ, List.getElem_toArray, List.getElem_cons_succ, List.getElem_cons_zero]
                    refine wpAnyH_done (by kernel_rfl) ?_ _
                    have HXP := Lib.hid hxp
                    clear hHeld hbp hxp hcap1 hcap2 hx0 hx1 hx2 hx3
                    obtain ⟨PF, hPF⟩ : ∃ PQ : ByteArray, (⟨(proofB key.data.toList [⟨#[b1, b2]⟩, D]).toArray⟩ : ByteArray) = PQ := ⟨_, rfl⟩
                    rw [hPF]
                    clear hPF
                    have HZ5 := Lib.hid (HZ4.out.on HXP.out)
                    clear HXP HZ4
                    go_upto_region 20 with fail
                    try simp only [List.cons_append, List.nil_append]
                    refine wp_region_held_drew (S := fun wz => Below wp18.heap.size wp18 wz) (by kernel_rfl) ((Below.refl _ _).drew) (fun hHeld => ?_)
                    refine take_at (some 118) (i := 0) (v := ?_) rfl rfl (by kernel_rfl) (by kernel_rfl) (by kernel_rfl) (fun _ _ _ h => h) (Or.inl ⟨by kernel_rfl, ?_⟩) hHeld ?_
                    rotate_left
                    · intro wz hSw; go_simp; try (with_reducible rfl)
                    try simp only [Act.put, List.setIfInBounds_toArray, List.set_cons_zero, List.set_cons_succ, List.getElem_toArray, List.getElem_cons_succ, List.getElem_cons_zero]
                    refine take_at (some 120) (i := 2) (v := ?_) rfl rfl (by kernel_rfl) (by kernel_rfl) (by kernel_rfl) (fun _ _ _ h => h) (Or.inl ⟨by kernel_rfl, ?_⟩) hHeld ?_
                    rotate_left
                    · intro wz hSw; go_simp; try (with_reducible rfl)
                    try simp only [Act.put, List.setIfInBounds_toArray, List.set_cons_zero, List.set_cons_succ, List.getElem_toArray, List.getElem_cons_succ, List.getElem_cons_zero]
                    refine take_at (some 121) (i := 3) (v := ?_) rfl rfl (by kernel_rfl) (by kernel_rfl) (by kernel_rfl) (fun _ _ _ h => h) (Or.inl ⟨by kernel_rfl, ?_⟩) hHeld ?_
                    rotate_left
                    · intro wz hSw; go_simp; try (with_reducible rfl)
                    try simp only [Act.put, List.setIfInBounds_toArray, List.set_cons_zero, List.set_cons_succ, List.getElem_toArray, List.getElem_cons_succ, List.getElem_cons_zero]
                    refine take_at (some 122) (i := 4) (v := ?_) rfl rfl (by kernel_rfl) (by kernel_rfl) (by kernel_rfl) (fun _ _ _ h => h) (Or.inl ⟨by kernel_rfl, ?_⟩) hHeld ?_
                    rotate_left
                    · intro wz hSw; go_simp; try (with_reducible rfl)
                    try simp only [Act.put, List.setIfInBounds_toArray, List.set_cons_zero, List.set_cons_succ, List.getElem_toArray, List.getElem_cons_succ, List.getElem_cons_zero]
                    refine take_at (some 125) (i := 7) (v := ?_) rfl rfl (by kernel_rfl) (by kernel_rfl) (by kernel_rfl) (fun _ _ _ h => h) (Or.inl ⟨by kernel_rfl, ?_⟩) hHeld ?_
                    rotate_left
                    · intro wz hSw; go_simp; try (with_reducible rfl)
                    try simp only [Act.put, List.setIfInBounds_toArray, List.set_cons_zero, List.set_cons_succ, List.getElem_toArray, List.getElem_cons_succ, List.getElem_cons_zero]
                    refine take_at (some 126) (i := 8) (v := ?_) rfl rfl (by kernel_rfl) (by kernel_rfl) (by kernel_rfl) (fun _ _ _ h => h) (Or.inl ⟨by kernel_rfl, ?_⟩) hHeld ?_
                    rotate_left
                    · intro wz hSw; go_simp; try (with_reducible rfl)
                    try simp only [Act.put, List.setIfInBounds_toArray, List.set_cons_zero, List.set_cons_succ, List.getElem_toArray, List.getElem_cons_succ, List.getElem_cons_zero]
                    refine take_at (some 127) (i := 9) (v := ?_) rfl rfl (by kernel_rfl) (by kernel_rfl) (by kernel_rfl) (fun _ _ _ h => h) (Or.inl ⟨by kernel_rfl, ?_⟩) hHeld ?_
                    rotate_left
                    · intro wz hSw; go_simp; try (with_reducible rfl)
                    try simp only [Act.put, List.setIfInBounds_toArray, List.set_cons_zero, List.set_cons_succ, List.getElem_toArray, List.getElem_cons_succ, List.getElem_cons_zero]
                    refine take_at (some 128) (i := 10) rfl rfl (by kernel_rfl) (by kernel_rfl) (by kernel_rfl) (fun _ _ _ h => h) (yieldsIf_min (by kernel_rfl) (.tmp 127) (.const (.int .i64 255)) 3 rfl _ _ _ rfl rfl HMIN.out) hHeld ?_
                    try simp only [Act.put, List.setIfInBounds_toArray, List.set_cons_zero, List.set_cons_succ, List.getElem_toArray, List.getElem_cons_succ, List.getElem_cons_zero]
                    refine take_at (some 129) (i := 11) (v := ?_) rfl rfl (by kernel_rfl) (by kernel_rfl) (by kernel_rfl) (fun _ _ _ h => h) (Or.inl ⟨by kernel_rfl, ?_⟩) hHeld ?_
                    rotate_left
                    · intro wz hSw; go_simp; try (with_reducible rfl)
                    try simp only [Act.put, List.setIfInBounds_toArray, List.set_cons_zero, List.set_cons_succ, List.getElem_toArray, List.getElem_cons_succ, List.getElem_cons_zero]
                    try rw [HD.out]
                    obtain ⟨w0, hwd⟩ : ∃ wq, wp18.drew = wq := ⟨_, rfl⟩
                    have hx0 : Below wp18.heap.size wp18 w0 := by rw [← hwd]; exact (Below.refl _ _).drew
                    try rw [hwd]
                    clear hwd
                    refine wpAnyH_ready (rs := [1, 5]) (by kernel_rfl) (by simp) (AllReadyH.cons rfl (fun K hK => ?_) (AllReadyH.cons rfl (fun K hK => ?_) (AllReadyH.nil)))
                    · rw [if_pos (by kernel_rfl)]
                      obtain ⟨cap, ob, hcb, hcap1, hcap2, hRB⟩ := conv_back key (Nat.le_trans HK3.out.1 (by decide)) w0
                      go_simp
                      try dsimp only
                      obtain ⟨w1, hw1⟩ : ∃ wq, (w0.alloc ob).drew = wq := ⟨_, rfl⟩
                      obtain ⟨gk, hgk⟩ : ∃ gq, w0.heap.size = gq := ⟨_, rfl⟩
                      have hrk1 : Rb w1 w1.heap.size (some ⟨gk, 0, none⟩) key.data.toList := by rw [← hw1, ← hgk]; exact hRB
                      have hbel : Below w0.heap.size w0 w1 := by rw [← hw1]; exact ((Below.refl _ _).alloc (Nat.le_refl _) _).drew
                      have hx1 : Below wp18.heap.size wp18 w1 := hx0.trans (hbel.mono hx0.size)
                      try rw [hw1]
                      try rw [hgk]
                      clear hcb hRB hw1 hgk hbel
                      refine hK.out _ _ hx1 (fun hHeld => ?_)
                      try simp only [Act.put, List.setIfInBounds_toArray, List.set_cons_zero, List.set_cons_succ, List.getElem_toArray, List.getElem_cons_succ, List.getElem_cons_zero]
                      refine wpAnyH_ready (rs := [5]) (by kernel_rfl) (by simp) (AllReadyH.cons rfl (fun K hK => ?_) (AllReadyH.nil))
                      · rw [if_pos (by kernel_rfl)]
                        go_simp
                        try dsimp only
                        obtain ⟨w2, hw5⟩ : ∃ wq, w1.alloc (.cells #[.int .u8 (b2.toNat : Int)] 5) = wq := ⟨_, rfl⟩
                        obtain ⟨gb, hgw⟩ : ∃ gq, w1.heap.size = gq := ⟨_, rfl⟩
                        have hbb2 : Bk w2 gb 5 (bcells [b2]) := by rw [← hw5, ← hgw]; exact Bk.new _ _ _
                        have hbel : Below w1.heap.size w1 w2 := by rw [← hw5]; exact (Below.refl _ _).alloc (Nat.le_refl _) _
                        have hx2 : Below wp18.heap.size wp18 w2 := hx1.trans (hbel.mono hx1.size)
                        have hrk2 := (hrk1.below hbel (Nat.le_refl _)).more hbel.size
                        try rw [hw5]
                        try rw [hgw]
                        clear hw5 hgw hbel
                        refine hK.out _ _ hx2 (fun hHeld => ?_)
                        try simp only [Act.put, List.setIfInBounds_toArray, List.set_cons_zero, List.set_cons_succ, List.getElem_toArray, List.getElem_cons_succ, List.getElem_cons_zero]
                        refine wpAnyH_ready (rs := [6]) (by kernel_rfl) (by simp) (AllReadyH.cons rfl (fun K hK => ?_) (AllReadyH.nil))
                        · rw [if_pos (by kernel_rfl)]
                          have hcv := str_of (P := Tryd.prog) (B := w2.heap.size) (A := some ⟨gb, 0, none⟩) (l := [b2]) ((Rb.bk hbb2).more hbb2.lt) 50 5 9 Tryd.underlying50 Tryd.underlying5 Tryd.underlying9 1 1 rfl
                          go_simp
                          clear hcv
                          refine hK.out _ _ hx2 (fun hHeld => ?_)
                          try simp only [Act.put, List.setIfInBounds_toArray, List.set_cons_zero, List.set_cons_succ, List.getElem_toArray, List.getElem_cons_succ, List.getElem_cons_zero]
                          refine wpAnyH_ready (rs := [12]) (by kernel_rfl) (by simp) (AllReadyH.cons rfl (fun K hK => ?_) (AllReadyH.nil))
                          · rw [if_pos (by kernel_rfl)]
                            go_simp
                            try dsimp only
                            obtain ⟨w3, hw5⟩ : ∃ wq, w2.alloc (.cells #[.string ⟨#[b2]⟩, .string D] 9) = wq := ⟨_, rfl⟩
                            obtain ⟨gw, hgw⟩ : ∃ gq, w2.heap.size = gq := ⟨_, rfl⟩
                            have hbw3 : Bk w3 gw 9 (#[.string ⟨#[b2]⟩, .string D]) := by rw [← hw5, ← hgw]; exact Bk.new _ _ _
                            have hbel : Below w2.heap.size w2 w3 := by rw [← hw5]; exact (Below.refl _ _).alloc (Nat.le_refl _) _
                            have hx3 : Below wp18.heap.size wp18 w3 := hx2.trans (hbel.mono hx2.size)
                            have hrk3 := (hrk2.below hbel (Nat.le_refl _)).more hbel.size
                            have hbb3 := hbb2.below hbel hbb2.lt
                            try rw [hw5]
                            try rw [hgw]
                            clear hw5 hgw hbel
                            refine hK.out _ _ hx3 (fun hHeld => ?_)
                            try simp only [Act.put, List.setIfInBounds_toArray, List.set_cons_zero, List.set_cons_succ, List.getElem_toArray, List.getElem_cons_succ, List.getElem_cons_zero]
                            refine wpAnyH_ready (rs := [13]) (by kernel_rfl) (by simp) (AllReadyH.cons rfl (fun K hK => ?_) AllReadyH.nil)
                            rw [if_pos (by kernel_rfl)]
                            go_simp
                            refine (rproof_ok (some ⟨gk, 0, none⟩) key.size cap key.data.toList (some ⟨gw, 0, none⟩) 2 2 [⟨#[b2]⟩, D] w3 rfl hcap1 hcap2 (Nat.le_trans HK3.out.1 (by decide)) hrk3 (fun h => by cases h) rfl (by omega) (two_bkZ hbw3) (HSMZ.out _ (by show 1 ≤ 1000; decide)) (HTX.out _)).mono ?_
                            rintro e wp20 ⟨rfl, hbp⟩
                            try dsimp only
                            have hxp : Below wp18.heap.size wp18 wp20 := hx3.trans (hbp.mono hx3.size)
                            refine hK.out _ _ hxp (fun hHeld => ?_)
                            try simp only [Act.put, List.setIfInBounds_toArray, List.set_cons_zero, List.set_cons_succ, List.getElem_toArray, List.getElem_cons_succ, List.getElem_cons_zero]
                            refine wpAnyH_ready (rs := [14]) (by kernel_rfl) (by simp) (AllReadyH.cons rfl (fun K hK => ?_) AllReadyH.nil)
                            rw [if_pos (by kernel_rfl)]
                            go_simp
                            refine hK.out _ _ hxp (fun hHeld => ?_)
                            try simp only [Act.put, List.setIfInBounds_toArray, List.set_cons_zero, List.set_cons_succ, List.getElem_toArray, List.getElem_cons_succ, List.getElem_cons_zero]
                            refine wpAnyH_done (by kernel_rfl) ?_ _
                            have HXP := Lib.hid hxp
                            clear hHeld hbp hxp hcap1 hcap2 hx0 hx1 hx2 hx3
                            obtain ⟨PG, hPF⟩ : ∃ PQ : ByteArray, (⟨(proofB key.data.toList [⟨#[b2]⟩, D]).toArray⟩ : ByteArray) = PQ := ⟨_, rfl⟩
                            rw [hPF]
                            have HZ6 := Lib.hid (HZ5.out.on HXP.out)
                            have hTP : PG.extract 0 32 = T := by rw [← hPF, ← HTT.out, ← HCD.out]; exact (tix_of key d (sr : Int) _ HLIT.out).symm
                            have hpf : PG.size = 64 := by rw [← hPF, ← HCD.out]; exact prf_lit key d (sr : Int) _ HLIT.out (by show sr ≤ _; omega)
                            have hpi : (32 : Int) ≤ (PG.size : Int) := by omega
                            clear hPF
                            go_wp2_with (go_at_call 20; (with_reducible refine (z_many HZ6.out m HLM.out).mono ?_); rintro e u9 ⟨rfl, h1⟩; have HZ9 := Lib.hid (HZ6.out.on h1); clear h1)
                            go_ret
                            exact ⟨rfl, HZ9.out.l⟩
                    · rw [if_pos (by kernel_rfl)]
                      go_simp
                      try dsimp only
                      obtain ⟨w1, hw5⟩ : ∃ wq, w0.alloc (.cells #[.int .u8 (b2.toNat : Int)] 5) = wq := ⟨_, rfl⟩
                      obtain ⟨gb, hgw⟩ : ∃ gq, w0.heap.size = gq := ⟨_, rfl⟩
                      have hbb1 : Bk w1 gb 5 (bcells [b2]) := by rw [← hw5, ← hgw]; exact Bk.new _ _ _
                      have hbel : Below w0.heap.size w0 w1 := by rw [← hw5]; exact (Below.refl _ _).alloc (Nat.le_refl _) _
                      have hx1 : Below wp18.heap.size wp18 w1 := hx0.trans (hbel.mono hx0.size)
                      try rw [hw5]
                      try rw [hgw]
                      clear hw5 hgw hbel
                      refine hK.out _ _ hx1 (fun hHeld => ?_)
                      try simp only [Act.put, List.setIfInBounds_toArray, List.set_cons_zero, List.set_cons_succ, List.getElem_toArray, List.getElem_cons_succ, List.getElem_cons_zero]
                      refine wpAnyH_ready (rs := [1, 6]) (by kernel_rfl) (by simp) (AllReadyH.cons rfl (fun K hK => ?_) (AllReadyH.cons rfl (fun K hK => ?_) (AllReadyH.nil)))
                      · rw [if_pos (by kernel_rfl)]
                        obtain ⟨cap, ob, hcb, hcap1, hcap2, hRB⟩ := conv_back key (Nat.le_trans HK3.out.1 (by decide)) w1
                        go_simp
                        try dsimp only
                        obtain ⟨w2, hw1⟩ : ∃ wq, (w1.alloc ob).drew = wq := ⟨_, rfl⟩
                        obtain ⟨gk, hgk⟩ : ∃ gq, w1.heap.size = gq := ⟨_, rfl⟩
                        have hrk2 : Rb w2 w2.heap.size (some ⟨gk, 0, none⟩) key.data.toList := by rw [← hw1, ← hgk]; exact hRB
                        have hbel : Below w1.heap.size w1 w2 := by rw [← hw1]; exact ((Below.refl _ _).alloc (Nat.le_refl _) _).drew
                        have hx2 : Below wp18.heap.size wp18 w2 := hx1.trans (hbel.mono hx1.size)
                        have hbb2 := hbb1.below hbel hbb1.lt
                        try rw [hw1]
                        try rw [hgk]
                        clear hcb hRB hw1 hgk hbel
                        refine hK.out _ _ hx2 (fun hHeld => ?_)
                        try simp only [Act.put, List.setIfInBounds_toArray, List.set_cons_zero, List.set_cons_succ, List.getElem_toArray, List.getElem_cons_succ, List.getElem_cons_zero]
                        refine wpAnyH_ready (rs := [6]) (by kernel_rfl) (by simp) (AllReadyH.cons rfl (fun K hK => ?_) (AllReadyH.nil))
                        · rw [if_pos (by kernel_rfl)]
                          have hcv := str_of (P := Tryd.prog) (B := w2.heap.size) (A := some ⟨gb, 0, none⟩) (l := [b2]) ((Rb.bk hbb2).more hbb2.lt) 50 5 9 Tryd.underlying50 Tryd.underlying5 Tryd.underlying9 1 1 rfl
                          go_simp
                          clear hcv
                          refine hK.out _ _ hx2 (fun hHeld => ?_)
                          try simp only [Act.put, List.setIfInBounds_toArray, List.set_cons_zero, List.set_cons_succ, List.getElem_toArray, List.getElem_cons_succ, List.getElem_cons_zero]
                          refine wpAnyH_ready (rs := [12]) (by kernel_rfl) (by simp) (AllReadyH.cons rfl (fun K hK => ?_) (AllReadyH.nil))
                          · rw [if_pos (by kernel_rfl)]
                            go_simp
                            try dsimp only
                            obtain ⟨w3, hw5⟩ : ∃ wq, w2.alloc (.cells #[.string ⟨#[b2]⟩, .string D] 9) = wq := ⟨_, rfl⟩
                            obtain ⟨gw, hgw⟩ : ∃ gq, w2.heap.size = gq := ⟨_, rfl⟩
                            have hbw3 : Bk w3 gw 9 (#[.string ⟨#[b2]⟩, .string D]) := by rw [← hw5, ← hgw]; exact Bk.new _ _ _
                            have hbel : Below w2.heap.size w2 w3 := by rw [← hw5]; exact (Below.refl _ _).alloc (Nat.le_refl _) _
                            have hx3 : Below wp18.heap.size wp18 w3 := hx2.trans (hbel.mono hx2.size)
                            have hrk3 := (hrk2.below hbel (Nat.le_refl _)).more hbel.size
                            have hbb3 := hbb2.below hbel hbb2.lt
                            try rw [hw5]
                            try rw [hgw]
                            clear hw5 hgw hbel
                            refine hK.out _ _ hx3 (fun hHeld => ?_)
                            try simp only [Act.put, List.setIfInBounds_toArray, List.set_cons_zero, List.set_cons_succ, List.getElem_toArray, List.getElem_cons_succ, List.getElem_cons_zero]
                            refine wpAnyH_ready (rs := [13]) (by kernel_rfl) (by simp) (AllReadyH.cons rfl (fun K hK => ?_) AllReadyH.nil)
                            rw [if_pos (by kernel_rfl)]
                            go_simp
                            refine (rproof_ok (some ⟨gk, 0, none⟩) key.size cap key.data.toList (some ⟨gw, 0, none⟩) 2 2 [⟨#[b2]⟩, D] w3 rfl hcap1 hcap2 (Nat.le_trans HK3.out.1 (by decide)) hrk3 (fun h => by cases h) rfl (by omega) (two_bkZ hbw3) (HSMZ.out _ (by show 1 ≤ 1000; decide)) (HTX.out _)).mono ?_
                            rintro e wp20 ⟨rfl, hbp⟩
                            try dsimp only
                            have hxp : Below wp18.heap.size wp18 wp20 := hx3.trans (hbp.mono hx3.size)
                            refine hK.out _ _ hxp (fun hHeld => ?_)
                            try simp only [Act.put, List.setIfInBounds_toArray, List.set_cons_zero, List.set_cons_succ, List.getElem_toArray, List.getElem_cons_succ, List.getElem_cons_zero]
                            refine wpAnyH_ready (rs := [14]) (by kernel_rfl) (by simp) (AllReadyH.cons rfl (fun K hK => ?_) AllReadyH.nil)
                            rw [if_pos (by kernel_rfl)]
                            go_simp
                            refine hK.out _ _ hxp (fun hHeld => ?_)
                            try simp only [Act.put, List.setIfInBounds_toArray, List.set_cons_zero, List.set_cons_succ, List.getElem_toArray, List.getElem_cons_succ, List.getElem_cons_zero]
                            refine wpAnyH_done (by kernel_rfl) ?_ _
                            have HXP := Lib.hid hxp
                            clear hHeld hbp hxp hcap1 hcap2 hx0 hx1 hx2 hx3
                            obtain ⟨PG, hPF⟩ : ∃ PQ : ByteArray, (⟨(proofB key.data.toList [⟨#[b2]⟩, D]).toArray⟩ : ByteArray) = PQ := ⟨_, rfl⟩
                            rw [hPF]
                            have HZ6 := Lib.hid (HZ5.out.on HXP.out)
                            have hTP : PG.extract 0 32 = T := by rw [← hPF, ← HTT.out, ← HCD.out]; exact (tix_of key d (sr : Int) _ HLIT.out).symm
                            have hpf : PG.size = 64 := by rw [← hPF, ← HCD.out]; exact prf_lit key d (sr : Int) _ HLIT.out (by show sr ≤ _; omega)
                            have hpi : (32 : Int) ≤ (PG.size : Int) := by omega
                            clear hPF
                            go_wp2_with (go_at_call 20; (with_reducible refine (z_many HZ6.out m HLM.out).mono ?_); rintro e u9 ⟨rfl, h1⟩; have HZ9 := Lib.hid (HZ6.out.on h1); clear h1)
                            go_ret
                            exact ⟨rfl, HZ9.out.l⟩
                      · rw [if_pos (by kernel_rfl)]
                        have hcv := str_of (P := Tryd.prog) (B := w1.heap.size) (A := some ⟨gb, 0, none⟩) (l := [b2]) ((Rb.bk hbb1).more hbb1.lt) 50 5 9 Tryd.underlying50 Tryd.underlying5 Tryd.underlying9 1 1 rfl
                        go_simp
                        clear hcv
                        refine hK.out _ _ hx1 (fun hHeld => ?_)
                        try simp only [Act.put, List.setIfInBounds_toArray, List.set_cons_zero, List.set_cons_succ, List.getElem_toArray, List.getElem_cons_succ, List.getElem_cons_zero]
                        refine wpAnyH_ready (rs := [1, 12]) (by kernel_rfl) (by simp) (AllReadyH.cons rfl (fun K hK => ?_) (AllReadyH.cons rfl (fun K hK => ?_) (AllReadyH.nil)))
                        · rw [if_pos (by kernel_rfl)]
                          obtain ⟨cap, ob, hcb, hcap1, hcap2, hRB⟩ := conv_back key (Nat.le_trans HK3.out.1 (by decide)) w1
                          go_simp
                          try dsimp only
                          obtain ⟨w2, hw1⟩ : ∃ wq, (w1.alloc ob).drew = wq := ⟨_, rfl⟩
                          obtain ⟨gk, hgk⟩ : ∃ gq, w1.heap.size = gq := ⟨_, rfl⟩
                          have hrk2 : Rb w2 w2.heap.size (some ⟨gk, 0, none⟩) key.data.toList := by rw [← hw1, ← hgk]; exact hRB
                          have hbel : Below w1.heap.size w1 w2 := by rw [← hw1]; exact ((Below.refl _ _).alloc (Nat.le_refl _) _).drew
                          have hx2 : Below wp18.heap.size wp18 w2 := hx1.trans (hbel.mono hx1.size)
                          have hbb2 := hbb1.below hbel hbb1.lt
                          try rw [hw1]
                          try rw [hgk]
                          clear hcb hRB hw1 hgk hbel
                          refine hK.out _ _ hx2 (fun hHeld => ?_)
                          try simp only [Act.put, List.setIfInBounds_toArray, List.set_cons_zero, List.set_cons_succ, List.getElem_toArray, List.getElem_cons_succ, List.getElem_cons_zero]
                          refine wpAnyH_ready (rs := [12]) (by kernel_rfl) (by simp) (AllReadyH.cons rfl (fun K hK => ?_) (AllReadyH.nil))
                          · rw [if_pos (by kernel_rfl)]
                            go_simp
                            try dsimp only
                            obtain ⟨w3, hw5⟩ : ∃ wq, w2.alloc (.cells #[.string ⟨#[b2]⟩, .string D] 9) = wq := ⟨_, rfl⟩
                            obtain ⟨gw, hgw⟩ : ∃ gq, w2.heap.size = gq := ⟨_, rfl⟩
                            have hbw3 : Bk w3 gw 9 (#[.string ⟨#[b2]⟩, .string D]) := by rw [← hw5, ← hgw]; exact Bk.new _ _ _
                            have hbel : Below w2.heap.size w2 w3 := by rw [← hw5]; exact (Below.refl _ _).alloc (Nat.le_refl _) _
                            have hx3 : Below wp18.heap.size wp18 w3 := hx2.trans (hbel.mono hx2.size)
                            have hrk3 := (hrk2.below hbel (Nat.le_refl _)).more hbel.size
                            have hbb3 := hbb2.below hbel hbb2.lt
                            try rw [hw5]
                            try rw [hgw]
                            clear hw5 hgw hbel
                            refine hK.out _ _ hx3 (fun hHeld => ?_)
                            try simp only [Act.put, List.setIfInBounds_toArray, List.set_cons_zero, List.set_cons_succ, List.getElem_toArray, List.getElem_cons_succ, List.getElem_cons_zero]
                            refine wpAnyH_ready (rs := [13]) (by kernel_rfl) (by simp) (AllReadyH.cons rfl (fun K hK => ?_) AllReadyH.nil)
                            rw [if_pos (by kernel_rfl)]
                            go_simp
                            refine (rproof_ok (some ⟨gk, 0, none⟩) key.size cap key.data.toList (some ⟨gw, 0, none⟩) 2 2 [⟨#[b2]⟩, D] w3 rfl hcap1 hcap2 (Nat.le_trans HK3.out.1 (by decide)) hrk3 (fun h => by cases h) rfl (by omega) (two_bkZ hbw3) (HSMZ.out _ (by show 1 ≤ 1000; decide)) (HTX.out _)).mono ?_
                            rintro e wp20 ⟨rfl, hbp⟩
                            try dsimp only
                            have hxp : Below wp18.heap.size wp18 wp20 := hx3.trans (hbp.mono hx3.size)
                            refine hK.out _ _ hxp (fun hHeld => ?_)
                            try simp only [Act.put, List.setIfInBounds_toArray, List.set_cons_zero, List.set_cons_succ, List.getElem_toArray, List.getElem_cons_succ, List.getElem_cons_zero]
                            refine wpAnyH_ready (rs := [14]) (by kernel_rfl) (by simp) (AllReadyH.cons rfl (fun K hK => ?_) AllReadyH.nil)
                            rw [if_pos (by kernel_rfl)]
                            go_simp
                            refine hK.out _ _ hxp (fun hHeld => ?_)
                            try simp only [Act.put, List.setIfInBounds_toArray, List.set_cons_zero, List.set_cons_succ, List.getElem_toArray, List.getElem_cons_succ, List.getElem_cons_zero]
                            refine wpAnyH_done (by kernel_rfl) ?_ _
                            have HXP := Lib.hid hxp
                            clear hHeld hbp hxp hcap1 hcap2 hx0 hx1 hx2 hx3
                            obtain ⟨PG, hPF⟩ : ∃ PQ : ByteArray, (⟨(proofB key.data.toList [⟨#[b2]⟩, D]).toArray⟩ : ByteArray) = PQ := ⟨_, rfl⟩
                            rw [hPF]
                            have HZ6 := Lib.hid (HZ5.out.on HXP.out)
                            have hTP : PG.extract 0 32 = T := by rw [← hPF, ← HTT.out, ← HCD.out]; exact (tix_of key d (sr : Int) _ HLIT.out).symm
                            have hpf : PG.size = 64 := by rw [← hPF, ← HCD.out]; exact prf_lit key d (sr : Int) _ HLIT.out (by show sr ≤ _; omega)
                            have hpi : (32 : Int) ≤ (PG.size : Int) := by omega
                            clear hPF
                            go_wp2_with (go_at_call 20; (with_reducible refine (z_many HZ6.out m HLM.out).mono ?_); rintro e u9 ⟨rfl, h1⟩; have HZ9 := Lib.hid (HZ6.out.on h1); clear h1)
                            go_ret
                            exact ⟨rfl, HZ9.out.l⟩
                        · rw [if_pos (by kernel_rfl)]
                          go_simp
                          try dsimp only
                          obtain ⟨w2, hw5⟩ : ∃ wq, w1.alloc (.cells #[.string ⟨#[b2]⟩, .string D] 9) = wq := ⟨_, rfl⟩
                          obtain ⟨gw, hgw⟩ : ∃ gq, w1.heap.size = gq := ⟨_, rfl⟩
                          have hbw2 : Bk w2 gw 9 (#[.string ⟨#[b2]⟩, .string D]) := by rw [← hw5, ← hgw]; exact Bk.new _ _ _
                          have hbel : Below w1.heap.size w1 w2 := by rw [← hw5]; exact (Below.refl _ _).alloc (Nat.le_refl _) _
                          have hx2 : Below wp18.heap.size wp18 w2 := hx1.trans (hbel.mono hx1.size)
                          have hbb2 := hbb1.below hbel hbb1.lt
                          try rw [hw5]
                          try rw [hgw]
                          clear hw5 hgw hbel
                          refine hK.out _ _ hx2 (fun hHeld => ?_)
                          try simp only [Act.put, List.setIfInBounds_toArray, List.set_cons_zero, List.set_cons_succ, List.getElem_toArray, List.getElem_cons_succ, List.getElem_cons_zero]
                          refine wpAnyH_ready (rs := [1]) (by kernel_rfl) (by simp) (AllReadyH.cons rfl (fun K hK => ?_) (AllReadyH.nil))
                          · rw [if_pos (by kernel_rfl)]
                            obtain ⟨cap, ob, hcb, hcap1, hcap2, hRB⟩ := conv_back key (Nat.le_trans HK3.out.1 (by decide)) w2
                            go_simp
                            try dsimp only
                            obtain ⟨w3, hw1⟩ : ∃ wq, (w2.alloc ob).drew = wq := ⟨_, rfl⟩
                            obtain ⟨gk, hgk⟩ : ∃ gq, w2.heap.size = gq := ⟨_, rfl⟩
                            have hrk3 : Rb w3 w3.heap.size (some ⟨gk, 0, none⟩) key.data.toList := by rw [← hw1, ← hgk]; exact hRB
                            have hbel : Below w2.heap.size w2 w3 := by rw [← hw1]; exact ((Below.refl _ _).alloc (Nat.le_refl _) _).drew
                            have hx3 : Below wp18.heap.size wp18 w3 := hx2.trans (hbel.mono hx2.size)
                            have hbb3 := hbb2.below hbel hbb2.lt
                            have hbw3 := hbw2.below hbel hbw2.lt
                            try rw [hw1]
                            try rw [hgk]
                            clear hcb hRB hw1 hgk hbel
                            refine hK.out _ _ hx3 (fun hHeld => ?_)
                            try simp only [Act.put, List.setIfInBounds_toArray, List.set_cons_zero, List.set_cons_succ, List.getElem_toArray, List.getElem_cons_succ, List.getElem_cons_zero]
                            refine wpAnyH_ready (rs := [13]) (by kernel_rfl) (by simp) (AllReadyH.cons rfl (fun K hK => ?_) AllReadyH.nil)
                            rw [if_pos (by kernel_rfl)]
                            go_simp
                            refine (rproof_ok (some ⟨gk, 0, none⟩) key.size cap key.data.toList (some ⟨gw, 0, none⟩) 2 2 [⟨#[b2]⟩, D] w3 rfl hcap1 hcap2 (Nat.le_trans HK3.out.1 (by decide)) hrk3 (fun h => by cases h) rfl (by omega) (two_bkZ hbw3) (HSMZ.out _ (by show 1 ≤ 1000; decide)) (HTX.out _)).mono ?_
                            rintro e wp20 ⟨rfl, hbp⟩
                            try dsimp only
                            have hxp : Below wp18.heap.size wp18 wp20 := hx3.trans (hbp.mono hx3.size)
                            refine hK.out _ _ hxp (fun hHeld => ?_)
                            try simp only [Act.put, List.setIfInBounds_toArray, List.set_cons_zero, List.set_cons_succ, List.getElem_toArray, List.getElem_cons_succ, List.getElem_cons_zero]
                            refine wpAnyH_ready (rs := [14]) (by kernel_rfl) (by simp) (AllReadyH.cons rfl (fun K hK => ?_) AllReadyH.nil)
                            rw [if_pos (by kernel_rfl)]
                            go_simp
                            refine hK.out _ _ hxp (fun hHeld => ?_)
                            try simp only [Act.put, List.setIfInBounds_toArray, List.set_cons_zero, List.set_cons_succ, List.getElem_toArray, List.getElem_cons_succ, List.getElem_cons_zero]
                            refine wpAnyH_done (by kernel_rfl) ?_ _
                            have HXP := Lib.hid hxp
                            clear hHeld hbp hxp hcap1 hcap2 hx0 hx1 hx2 hx3
                            obtain ⟨PG, hPF⟩ : ∃ PQ : ByteArray, (⟨(proofB key.data.toList [⟨#[b2]⟩, D]).toArray⟩ : ByteArray) = PQ := ⟨_, rfl⟩
                            rw [hPF]
                            have HZ6 := Lib.hid (HZ5.out.on HXP.out)
                            have hTP : PG.extract 0 32 = T := by rw [← hPF, ← HTT.out, ← HCD.out]; exact (tix_of key d (sr : Int) _ HLIT.out).symm
                            have hpf : PG.size = 64 := by rw [← hPF, ← HCD.out]; exact prf_lit key d (sr : Int) _ HLIT.out (by show sr ≤ _; omega)
                            have hpi : (32 : Int) ≤ (PG.size : Int) := by omega
                            clear hPF
                            go_wp2_with (go_at_call 20; (with_reducible refine (z_many HZ6.out m HLM.out).mono ?_); rintro e u9 ⟨rfl, h1⟩; have HZ9 := Lib.hid (HZ6.out.on h1); clear h1)
                            go_ret
                            exact ⟨rfl, HZ9.out.l⟩
            · rw [if_pos (by kernel_rfl)]
              go_simp
              try dsimp only
              obtain ⟨w1, hw5⟩ : ∃ wq, w0.alloc (.cells #[.int .u8 (b1.toNat : Int), .int .u8 (b2.toNat : Int)] 5) = wq := ⟨_, rfl⟩
              obtain ⟨gb, hgw⟩ : ∃ gq, w0.heap.size = gq := ⟨_, rfl⟩
              have hbb1 : Bk w1 gb 5 (bcells [b1, b2]) := by rw [← hw5, ← hgw]; exact Bk.new _ _ _
              have hbel : Below w0.heap.size w0 w1 := by rw [← hw5]; exact (Below.refl _ _).alloc (Nat.le_refl _) _
              have hx1 : Below u4.heap.size u4 w1 := hx0.trans (hbel.mono hx0.size)
              try rw [hw5]
              try rw [hgw]
              clear hw5 hgw hbel
              refine hK.out _ _ hx1 (fun hHeld => ?_)
              try simp only [Act.put, List.setIfInBounds_toArray, List.set_cons_zero, List.set_cons_succ, List.getElem_toArray, List.getElem_cons_succ, List.getElem_cons_zero]
              refine wpAnyH_ready (rs := [1, 11]) (by kernel_rfl) (by simp) (AllReadyH.cons rfl (fun K hK => ?_) (AllReadyH.cons rfl (fun K hK => ?_) (AllReadyH.nil)))
              · rw [if_pos (by kernel_rfl)]
                obtain ⟨cap, ob, hcb, hcap1, hcap2, hRB⟩ := conv_back key (Nat.le_trans HK3.out.1 (by decide)) w1
                go_simp
                try dsimp only
                obtain ⟨w2, hw1⟩ : ∃ wq, (w1.alloc ob).drew = wq := ⟨_, rfl⟩
                obtain ⟨gk, hgk⟩ : ∃ gq, w1.heap.size = gq := ⟨_, rfl⟩
                have hrk2 : Rb w2 w2.heap.size (some ⟨gk, 0, none⟩) key.data.toList := by rw [← hw1, ← hgk]; exact hRB
                have hbel : Below w1.heap.size w1 w2 := by rw [← hw1]; exact ((Below.refl _ _).alloc (Nat.le_refl _) _).drew
                have hx2 : Below u4.heap.size u4 w2 := hx1.trans (hbel.mono hx1.size)
                have hbb2 := hbb1.below hbel hbb1.lt
                try rw [hw1]
                try rw [hgk]
                clear hcb hRB hw1 hgk hbel
                refine hK.out _ _ hx2 (fun hHeld => ?_)
                try simp only [Act.put, List.setIfInBounds_toArray, List.set_cons_zero, List.set_cons_succ, List.getElem_toArray, List.getElem_cons_succ, List.getElem_cons_zero]
                refine wpAnyH_ready (rs := [11]) (by kernel_rfl) (by simp) (AllReadyH.cons rfl (fun K hK => ?_) (AllReadyH.nil))
                · rw [if_pos (by kernel_rfl)]
                  have hcv := str_of (P := Tryd.prog) (B := w2.heap.size) (A := some ⟨gb, 0, none⟩) (l := [b1, b2]) ((Rb.bk hbb2).more hbb2.lt) 50 5 9 Tryd.underlying50 Tryd.underlying5 Tryd.underlying9 2 2 rfl
                  go_simp
                  clear hcv
                  refine hK.out _ _ hx2 (fun hHeld => ?_)
                  try simp only [Act.put, List.setIfInBounds_toArray, List.set_cons_zero, List.set_cons_succ, List.getElem_toArray, List.getElem_cons_succ, List.getElem_cons_zero]
                  refine wpAnyH_ready (rs := [17]) (by kernel_rfl) (by simp) (AllReadyH.cons rfl (fun K hK => ?_) (AllReadyH.nil))
                  · rw [if_pos (by kernel_rfl)]
                    go_simp
                    try dsimp only
                    obtain ⟨w3, hw5⟩ : ∃ wq, w2.alloc (.cells #[.string ⟨#[b1, b2]⟩, .string D] 9) = wq := ⟨_, rfl⟩
                    obtain ⟨gw, hgw⟩ : ∃ gq, w2.heap.size = gq := ⟨_, rfl⟩
                    have hbw3 : Bk w3 gw 9 (#[.string ⟨#[b1, b2]⟩, .string D]) := by rw [← hw5, ← hgw]; exact Bk.new _ _ _
                    have hbel : Below w2.heap.size w2 w3 := by rw [← hw5]; exact (Below.refl _ _).alloc (Nat.le_refl _) _
                    have hx3 : Below u4.heap.size u4 w3 := hx2.trans (hbel.mono hx2.size)
                    have hrk3 := (hrk2.below hbel (Nat.le_refl _)).more hbel.size
                    have hbb3 := hbb2.below hbel hbb2.lt
                    try rw [hw5]
                    try rw [hgw]
                    clear hw5 hgw hbel
                    refine hK.out _ _ hx3 (fun hHeld => ?_)
                    try simp only [Act.put, List.setIfInBounds_toArray, List.set_cons_zero, List.set_cons_succ, List.getElem_toArray, List.getElem_cons_succ, List.getElem_cons_zero]
                    refine wpAnyH_ready (rs := [18]) (by kernel_rfl) (by simp) (AllReadyH.cons rfl (fun K hK => ?_) AllReadyH.nil)
                    rw [if_pos (by kernel_rfl)]
                    go_simp
                    refine (rproof_ok (some ⟨gk, 0, none⟩) key.size cap key.data.toList (some ⟨gw, 0, none⟩) 2 2 [⟨#[b1, b2]⟩, D] w3 rfl hcap1 hcap2 (Nat.le_trans HK3.out.1 (by decide)) hrk3 (fun h => by cases h) rfl (by omega) (two_bkZ hbw3) (HSMZ.out _ (by show 2 ≤ 1000; decide)) (HTX.out _)).mono ?_
                    rintro e wp18 ⟨rfl, hbp⟩
                    try dsimp only
                    have hxp : Below u4.heap.size u4 wp18 := hx3.trans (hbp.mono hx3.size)
                    refine hK.out _ _ hxp (fun hHeld => ?_)
                    try simp only [Act.put, List.setIfInBounds_toArray, List.set_cons_zero, List.set_cons_succ, List.getElem_toArray, List.getElem_cons_succ, List.getElem_cons_zero]
                    refine wpAnyH_ready (rs := [19]) (by kernel_rfl) (by simp) (AllReadyH.cons rfl (fun K hK => ?_) AllReadyH.nil)
                    rw [if_pos (by kernel_rfl)]
                    go_simp
                    refine hK.out _ _ hxp (fun hHeld => ?_)
                    try simp only [Act.put, List.setIfInBounds_toArray, List.set_cons_zero, List.set_cons_succ, List.getElem_toArray, List.getElem_cons_succ, List.getElem_cons_zero]
                    refine wpAnyH_done (by kernel_rfl) ?_ _
                    have HXP := Lib.hid hxp
                    clear hHeld hbp hxp hcap1 hcap2 hx0 hx1 hx2 hx3
                    obtain ⟨PF, hPF⟩ : ∃ PQ : ByteArray, (⟨(proofB key.data.toList [⟨#[b1, b2]⟩, D]).toArray⟩ : ByteArray) = PQ := ⟨_, rfl⟩
                    rw [hPF]
                    clear hPF
                    have HZ5 := Lib.hid (HZ4.out.on HXP.out)
                    clear HXP HZ4
                    go_upto_region 20 with fail
                    try simp only [List.cons_append, List.nil_append]
                    refine wp_region_held_drew (S := fun wz => Below wp18.heap.size wp18 wz) (by kernel_rfl) ((Below.refl _ _).drew) (fun hHeld => ?_)
                    refine take_at (some 118) (i := 0) (v := ?_) rfl rfl (by kernel_rfl) (by kernel_rfl) (by kernel_rfl) (fun _ _ _ h => h) (Or.inl ⟨by kernel_rfl, ?_⟩) hHeld ?_
                    rotate_left
                    · intro wz hSw; go_simp; try (with_reducible rfl)
                    try simp only [Act.put, List.setIfInBounds_toArray, List.set_cons_zero, List.set_cons_succ, List.getElem_toArray, List.getElem_cons_succ, List.getElem_cons_zero]
                    refine take_at (some 120) (i := 2) (v := ?_) rfl rfl (by kernel_rfl) (by kernel_rfl) (by kernel_rfl) (fun _ _ _ h => h) (Or.inl ⟨by kernel_rfl, ?_⟩) hHeld ?_
                    rotate_left
                    · intro wz hSw; go_simp; try (with_reducible rfl)
                    try simp only [Act.put, List.setIfInBounds_toArray, List.set_cons_zero, List.set_cons_succ, List.getElem_toArray, List.getElem_cons_succ, List.getElem_cons_zero]
                    refine take_at (some 121) (i := 3) (v := ?_) rfl rfl (by kernel_rfl) (by kernel_rfl) (by kernel_rfl) (fun _ _ _ h => h) (Or.inl ⟨by kernel_rfl, ?_⟩) hHeld ?_
                    rotate_left
                    · intro wz hSw; go_simp; try (with_reducible rfl)
                    try simp only [Act.put, List.setIfInBounds_toArray, List.set_cons_zero, List.set_cons_succ, List.getElem_toArray, List.getElem_cons_succ, List.getElem_cons_zero]
                    refine take_at (some 122) (i := 4) (v := ?_) rfl rfl (by kernel_rfl) (by kernel_rfl) (by kernel_rfl) (fun _ _ _ h => h) (Or.inl ⟨by kernel_rfl, ?_⟩) hHeld ?_
                    rotate_left
                    · intro wz hSw; go_simp; try (with_reducible rfl)
                    try simp only [Act.put, List.setIfInBounds_toArray, List.set_cons_zero, List.set_cons_succ, List.getElem_toArray, List.getElem_cons_succ, List.getElem_cons_zero]
                    refine take_at (some 125) (i := 7) (v := ?_) rfl rfl (by kernel_rfl) (by kernel_rfl) (by kernel_rfl) (fun _ _ _ h => h) (Or.inl ⟨by kernel_rfl, ?_⟩) hHeld ?_
                    rotate_left
                    · intro wz hSw; go_simp; try (with_reducible rfl)
                    try simp only [Act.put, List.setIfInBounds_toArray, List.set_cons_zero, List.set_cons_succ, List.getElem_toArray, List.getElem_cons_succ, List.getElem_cons_zero]
                    refine take_at (some 126) (i := 8) (v := ?_) rfl rfl (by kernel_rfl) (by kernel_rfl) (by kernel_rfl) (fun _ _ _ h => h) (Or.inl ⟨by kernel_rfl, ?_⟩) hHeld ?_
                    rotate_left
                    · intro wz hSw; go_simp; try (with_reducible rfl)
                    try simp only [Act.put, List.setIfInBounds_toArray, List.set_cons_zero, List.set_cons_succ, List.getElem_toArray, List.getElem_cons_succ, List.getElem_cons_zero]
                    refine take_at (some 127) (i := 9) (v := ?_) rfl rfl (by kernel_rfl) (by kernel_rfl) (by kernel_rfl) (fun _ _ _ h => h) (Or.inl ⟨by kernel_rfl, ?_⟩) hHeld ?_
                    rotate_left
                    · intro wz hSw; go_simp; try (with_reducible rfl)
                    try simp only [Act.put, List.setIfInBounds_toArray, List.set_cons_zero, List.set_cons_succ, List.getElem_toArray, List.getElem_cons_succ, List.getElem_cons_zero]
                    refine take_at (some 128) (i := 10) rfl rfl (by kernel_rfl) (by kernel_rfl) (by kernel_rfl) (fun _ _ _ h => h) (yieldsIf_min (by kernel_rfl) (.tmp 127) (.const (.int .i64 255)) 3 rfl _ _ _ rfl rfl HMIN.out) hHeld ?_
                    try simp only [Act.put, List.setIfInBounds_toArray, List.set_cons_zero, List.set_cons_succ, List.getElem_toArray, List.getElem_cons_succ, List.getElem_cons_zero]
                    refine take_at (some 129) (i := 11) (v := ?_) rfl rfl (by kernel_rfl) (by kernel_rfl) (by kernel_rfl) (fun _ _ _ h => h) (Or.inl ⟨by kernel_rfl, ?_⟩) hHeld ?_
                    rotate_left
                    · intro wz hSw; go_simp; try (with_reducible rfl)
                    try simp only [Act.put, List.setIfInBounds_toArray, List.set_cons_zero, List.set_cons_succ, List.getElem_toArray, List.getElem_cons_succ, List.getElem_cons_zero]
                    try rw [HD.out]
                    obtain ⟨w0, hwd⟩ : ∃ wq, wp18.drew = wq := ⟨_, rfl⟩
                    have hx0 : Below wp18.heap.size wp18 w0 := by rw [← hwd]; exact (Below.refl _ _).drew
                    try rw [hwd]
                    clear hwd
                    refine wpAnyH_ready (rs := [1, 5]) (by kernel_rfl) (by simp) (AllReadyH.cons rfl (fun K hK => ?_) (AllReadyH.cons rfl (fun K hK => ?_) (AllReadyH.nil)))
                    · rw [if_pos (by kernel_rfl)]
                      obtain ⟨cap, ob, hcb, hcap1, hcap2, hRB⟩ := conv_back key (Nat.le_trans HK3.out.1 (by decide)) w0
                      go_simp
                      try dsimp only
                      obtain ⟨w1, hw1⟩ : ∃ wq, (w0.alloc ob).drew = wq := ⟨_, rfl⟩
                      obtain ⟨gk, hgk⟩ : ∃ gq, w0.heap.size = gq := ⟨_, rfl⟩
                      have hrk1 : Rb w1 w1.heap.size (some ⟨gk, 0, none⟩) key.data.toList := by rw [← hw1, ← hgk]; exact hRB
                      have hbel : Below w0.heap.size w0 w1 := by rw [← hw1]; exact ((Below.refl _ _).alloc (Nat.le_refl _) _).drew
                      have hx1 : Below wp18.heap.size wp18 w1 := hx0.trans (hbel.mono hx0.size)
                      try rw [hw1]
                      try rw [hgk]
                      clear hcb hRB hw1 hgk hbel
                      refine hK.out _ _ hx1 (fun hHeld => ?_)
                      try simp only [Act.put, List.setIfInBounds_toArray, List.set_cons_zero, List.set_cons_succ, List.getElem_toArray, List.getElem_cons_succ, List.getElem_cons_zero]
                      refine wpAnyH_ready (rs := [5]) (by kernel_rfl) (by simp) (AllReadyH.cons rfl (fun K hK => ?_) (AllReadyH.nil))
                      · rw [if_pos (by kernel_rfl)]
                        go_simp
                        try dsimp only
                        obtain ⟨w2, hw5⟩ : ∃ wq, w1.alloc (.cells #[.int .u8 (b2.toNat : Int)] 5) = wq := ⟨_, rfl⟩
                        obtain ⟨gb, hgw⟩ : ∃ gq, w1.heap.size = gq := ⟨_, rfl⟩
                        have hbb2 : Bk w2 gb 5 (bcells [b2]) := by rw [← hw5, ← hgw]; exact Bk.new _ _ _
                        have hbel : Below w1.heap.size w1 w2 := by rw [← hw5]; exact (Below.refl _ _).alloc (Nat.le_refl _) _
                        have hx2 : Below wp18.heap.size wp18 w2 := hx1.trans (hbel.mono hx1.size)
                        have hrk2 := (hrk1.below hbel (Nat.le_refl _)).more hbel.size
                        try rw [hw5]
                        try rw [hgw]
                        clear hw5 hgw hbel
                        refine hK.out _ _ hx2 (fun hHeld => ?_)
                        try simp only [Act.put, List.setIfInBounds_toArray, List.set_cons_zero, List.set_cons_succ, List.getElem_toArray, List.getElem_cons_succ, List.getElem_cons_zero]
                        refine wpAnyH_ready (rs := [6]) (by kernel_rfl) (by simp) (AllReadyH.cons rfl (fun K hK => ?_) (AllReadyH.nil))
                        · rw [if_pos (by kernel_rfl)]
                          have hcv := str_of (P := Tryd.prog) (B := w2.heap.size) (A := some ⟨gb, 0, none⟩) (l := [b2]) ((Rb.bk hbb2).more hbb2.lt) 50 5 9 Tryd.underlying50 Tryd.underlying5 Tryd.underlying9 1 1 rfl
                          go_simp
                          clear hcv
                          refine hK.out _ _ hx2 (fun hHeld => ?_)
                          try simp only [Act.put, List.setIfInBounds_toArray, List.set_cons_zero, List.set_cons_succ, List.getElem_toArray, List.getElem_cons_succ, List.getElem_cons_zero]
                          refine wpAnyH_ready (rs := [12]) (by kernel_rfl) (by simp) (AllReadyH.cons rfl (fun K hK => ?_) (AllReadyH.nil))
                          · rw [if_pos (by kernel_rfl)]
                            go_simp
                            try dsimp only
                            obtain ⟨w3, hw5⟩ : ∃ wq, w2.alloc (.cells #[.string ⟨#[b2]⟩, .string D] 9) = wq := ⟨_, rfl⟩
                            obtain ⟨gw, hgw⟩ : ∃ gq, w2.heap.size = gq := ⟨_, rfl⟩
                            have hbw3 : Bk w3 gw 9 (#[.string ⟨#[b2]⟩, .string D]) := by rw [← hw5, ← hgw]; exact Bk.new _ _ _
                            have hbel : Below w2.heap.size w2 w3 := by rw [← hw5]; exact (Below.refl _ _).alloc (Nat.le_refl _) _
                            have hx3 : Below wp18.heap.size wp18 w3 := hx2.trans (hbel.mono hx2.size)
                            have hrk3 := (hrk2.below hbel (Nat.le_refl _)).more hbel.size
                            have hbb3 := hbb2.below hbel hbb2.lt
                            try rw [hw5]
                            try rw [hgw]
                            clear hw5 hgw hbel
                            refine hK.out _ _ hx3 (fun hHeld => ?_)
                            try simp only [Act.put, List.setIfInBounds_toArray, List.set_cons_zero, List.set_cons_succ, List.getElem_toArray, List.getElem_cons_succ, List.getElem_cons_zero]
                            refine wpAnyH_ready (rs := [13]) (by kernel_rfl) (by simp) (AllReadyH.cons rfl (fun K hK => ?_) AllReadyH.nil)
                            rw [if_pos (by kernel_rfl)]
                            go_simp
                            refine (rproof_ok (some ⟨gk, 0, none⟩) key.size cap key.data.toList (some ⟨gw, 0, none⟩) 2 2 [⟨#[b2]⟩, D] w3 rfl hcap1 hcap2 (Nat.le_trans HK3.out.1 (by decide)) hrk3 (fun h => by cases h) rfl (by omega) (two_bkZ hbw3) (HSMZ.out _ (by show 1 ≤ 1000; decide)) (HTX.out _)).mono ?_
                            rintro e wp20 ⟨rfl, hbp⟩
                            try dsimp only
                            have hxp : Below wp18.heap.size wp18 wp20 := hx3.trans (hbp.mono hx3.size)
                            refine hK.out _ _ hxp (fun hHeld => ?_)
                            try simp only [Act.put, List.setIfInBounds_toArray, List.set_cons_zero, List.set_cons_succ, List.getElem_toArray, List.getElem_cons_succ, List.getElem_cons_zero]
                            refine wpAnyH_ready (rs := [14]) (by kernel_rfl) (by simp) (AllReadyH.cons rfl (fun K hK => ?_) AllReadyH.nil)
                            rw [if_pos (by kernel_rfl)]
                            go_simp
                            refine hK.out _ _ hxp (fun hHeld => ?_)
                            try simp only [Act.put, List.setIfInBounds_toArray, List.set_cons_zero, List.set_cons_succ, List.getElem_toArray, List.getElem_cons_succ, List.getElem_cons_zero]
                            refine wpAnyH_done (by kernel_rfl) ?_ _
                            have HXP := Lib.hid hxp
                            clear hHeld hbp hxp hcap1 hcap2 hx0 hx1 hx2 hx3
                            obtain ⟨PG, hPF⟩ : ∃ PQ : ByteArray, (⟨(proofB key.data.toList [⟨#[b2]⟩, D]).toArray⟩ : ByteArray) = PQ := ⟨_, rfl⟩
                            rw [hPF]
                            have HZ6 := Lib.hid (HZ5.out.on HXP.out)
                            have hTP : PG.extract 0 32 = T := by rw [← hPF, ← HTT.out, ← HCD.out]; exact (tix_of key d (sr : Int) _ HLIT.out).symm
                            have hpf : PG.size = 64 := by rw [← hPF, ← HCD.out]; exact prf_lit key d (sr : Int) _ HLIT.out (by show sr ≤ _; omega)
                            have hpi : (32 : Int) ≤ (PG.size : Int) := by omega
                            clear hPF
                            go_wp2_with (go_at_call 20; (with_reducible refine (z_many HZ6.out m HLM.out).mono ?_); rintro e u9 ⟨rfl, h1⟩; have HZ9 := Lib.hid (HZ6.out.on h1); clear h1)
                            go_ret
                            exact ⟨rfl, HZ9.out.l⟩
                    · rw [if_pos (by kernel_rfl)]
                      go_simp
                      try dsimp only
                      obtain ⟨w1, hw5⟩ : ∃ wq, w0.alloc (.cells #[.int .u8 (b2.toNat : Int)] 5) = wq := ⟨_, rfl⟩
                      obtain ⟨gb, hgw⟩ : ∃ gq, w0.heap.size = gq := ⟨_, rfl⟩
                      have hbb1 : Bk w1 gb 5 (bcells [b2]) := by rw [← hw5, ← hgw]; exact Bk.new _ _ _
                      have hbel : Below w0.heap.size w0 w1 := by rw [← hw5]; exact (Below.refl _ _).alloc (Nat.le_refl _) _
                      have hx1 : Below wp18.heap.size wp18 w1 := hx0.trans (hbel.mono hx0.size)
                      try rw [hw5]
                      try rw [hgw]
                      clear hw5 hgw hbel
                      refine hK.out _ _ hx1 (fun hHeld => ?_)
                      try simp only [Act.put, List.setIfInBounds_toArray, List.set_cons_zero, List.set_cons_succ, List.getElem_toArray, List.getElem_cons_succ, List.getElem_cons_zero]
                      refine wpAnyH_ready (rs := [1, 6]) (by kernel_rfl) (by simp) (AllReadyH.cons rfl (fun K hK => ?_) (AllReadyH.cons rfl (fun K hK => ?_) (AllReadyH.nil)))
                      · rw [if_pos (by kernel_rfl)]
                        obtain ⟨cap, ob, hcb, hcap1, hcap2, hRB⟩ := conv_back key (Nat.le_trans HK3.out.1 (by decide)) w1
                        go_simp
                        try dsimp only
                        obtain ⟨w2, hw1⟩ : ∃ wq, (w1.alloc ob).drew = wq := ⟨_, rfl⟩
                        obtain ⟨gk, hgk⟩ : ∃ gq, w1.heap.size = gq := ⟨_, rfl⟩
                        have hrk2 : Rb w2 w2.heap.size (some ⟨gk, 0, none⟩) key.data.toList := by rw [← hw1, ← hgk]; exact hRB
                        have hbel : Below w1.heap.size w1 w2 := by rw [← hw1]; exact ((Below.refl _ _).alloc (Nat.le_refl _) _).drew
                        have hx2 : Below wp18.heap.size wp18 w2 := hx1.trans (hbel.mono hx1.size)
                        have hbb2 := hbb1.below hbel hbb1.lt
                        try rw [hw1]
                        try rw [hgk]
                        clear hcb hRB hw1 hgk hbel
                        refine hK.out _ _ hx2 (fun hHeld => ?_)
                        try simp only [Act.put, List.setIfInBounds_toArray, List.set_cons_zero, List.set_cons_succ, List.getElem_toArray, List.getElem_cons_succ, List.getElem_cons_zero]
                        refine wpAnyH_ready (rs := [6]) (by kernel_rfl) (by simp) (AllReadyH.cons rfl (fun K hK => ?_) (AllReadyH.nil))
                        · rw [if_pos (by kernel_rfl)]
                          have hcv := str_of (P := Tryd.prog) (B := w2.heap.size) (A := some ⟨gb, 0, none⟩) (l := [b2]) ((Rb.bk hbb2).more hbb2.lt) 50 5 9 Tryd.underlying50 Tryd.underlying5 Tryd.underlying9 1 1 rfl
                          go_simp
                          clear hcv
                          refine hK.out _ _ hx2 (fun hHeld => ?_)
                          try simp only [Act.put, List.setIfInBounds_toArray, List.set_cons_zero, List.set_cons_succ, List.getElem_toArray, List.getElem_cons_succ, List.getElem_cons_zero]
                          refine wpAnyH_ready (rs := [12]) (by kernel_rfl) (by simp) (AllReadyH.cons rfl (fun K hK => ?_) (AllReadyH.nil))
                          · rw [if_pos (by kernel_rfl)]
                            go_simp
                            try dsimp only
                            obtain ⟨w3, hw5⟩ : ∃ wq, w2.alloc (.cells #[.string ⟨#[b2]⟩, .string D] 9) = wq := ⟨_, rfl⟩
                            obtain ⟨gw, hgw⟩ : ∃ gq, w2.heap.size = gq := ⟨_, rfl⟩
                            have hbw3 : Bk w3 gw 9 (#[.string ⟨#[b2]⟩, .string D]) := by rw [← hw5, ← hgw]; exact Bk.new _ _ _
                            have hbel : Below w2.heap.size w2 w3 := by rw [← hw5]; exact (Below.refl _ _).alloc (Nat.le_refl _) _
                            have hx3 : Below wp18.heap.size wp18 w3 := hx2.trans (hbel.mono hx2.size)
                            have hrk3 := (hrk2.below hbel (Nat.le_refl _)).more hbel.size
                            have hbb3 := hbb2.below hbel hbb2.lt
                            try rw [hw5]
                            try rw [hgw]
                            clear hw5 hgw hbel
                            refine hK.out _ _ hx3 (fun hHeld => ?_)
                            try simp only [Act.put, List.setIfInBounds_toArray, List.set_cons_zero, List.set_cons_succ, List.getElem_toArray, List.getElem_cons_succ, List.getElem_cons_zero]
                            refine wpAnyH_ready (rs := [13]) (by kernel_rfl) (by simp) (AllReadyH.cons rfl (fun K hK => ?_) AllReadyH.nil)
                            rw [if_pos (by kernel_rfl)]
                            go_simp
                            refine (rproof_ok (some ⟨gk, 0, none⟩) key.size cap key.data.toList (some ⟨gw, 0, none⟩) 2 2 [⟨#[b2]⟩, D] w3 rfl hcap1 hcap2 (Nat.le_trans HK3.out.1 (by decide)) hrk3 (fun h => by cases h) rfl (by omega) (two_bkZ hbw3) (HSMZ.out _ (by show 1 ≤ 1000; decide)) (HTX.out _)).mono ?_
                            rintro e wp20 ⟨rfl, hbp⟩
                            try dsimp only
                            have hxp : Below wp18.heap.size wp18 wp20 := hx3.trans (hbp.mono hx3.size)
                            refine hK.out _ _ hxp (fun hHeld => ?_)
                            try simp only [Act.put, List.setIfInBounds_toArray, List.set_cons_zero, List.set_cons_succ, List.getElem_toArray, List.getElem_cons_succ, List.getElem_cons_zero]
                            refine wpAnyH_ready (rs := [14]) (by kernel_rfl) (by simp) (AllReadyH.cons rfl (fun K hK => ?_) AllReadyH.nil)
                            rw [if_pos (by kernel_rfl)]
                            go_simp
                            refine hK.out _ _ hxp (fun hHeld => ?_)
                            try simp only [Act.put, List.setIfInBounds_toArray, List.set_cons_zero, List.set_cons_succ, List.getElem_toArray, List.getElem_cons_succ, List.getElem_cons_zero]
                            refine wpAnyH_done (by kernel_rfl) ?_ _
                            have HXP := Lib.hid hxp
                            clear hHeld hbp hxp hcap1 hcap2 hx0 hx1 hx2 hx3
                            obtain ⟨PG, hPF⟩ : ∃ PQ : ByteArray, (⟨(proofB key.data.toList [⟨#[b2]⟩, D]).toArray⟩ : ByteArray) = PQ := ⟨_, rfl⟩
                            rw [hPF]
                            have HZ6 := Lib.hid (HZ5.out.on HXP.out)
                            have hTP : PG.extract 0 32 = T := by rw [← hPF, ← HTT.out, ← HCD.out]; exact (tix_of key d (sr : Int) _ HLIT.out).symm
                            have hpf : PG.size = 64 := by rw [← hPF, ← HCD.out]; exact prf_lit key d (sr : Int) _ HLIT.out (by show sr ≤ _; omega)
                            have hpi : (32 : Int) ≤ (PG.size : Int) := by omega
                            clear hPF
                            go_wp2_with (go_at_call 20; (with_reducible refine (z_many HZ6.out m HLM.out).mono ?_); rintro e u9 ⟨rfl, h1⟩; have HZ9 := Lib.hid (HZ6.out.on h1); clear h1)
                            go_ret
                            exact ⟨rfl, HZ9.out.l⟩
                      · rw [if_pos (by kernel_rfl)]
                        have hcv := str_of (P := Tryd.prog) (B := w1.heap.size) (A := some ⟨gb, 0, none⟩) (l := [b2]) ((Rb.bk hbb1).more hbb1.lt) 50 5 9 Tryd.underlying50 Tryd.underlying5 Tryd.underlying9 1 1 rfl
                        go_simp
                        clear hcv
                        refine hK.out _ _ hx1 (fun hHeld => ?_)
                        try simp only [Act.put, List.setIfInBounds_toArray, List.set_cons_zero, List.set_cons_succ, List.getElem_toArray, List.getElem_cons_succ, List.getElem_cons_zero]
                        refine wpAnyH_ready (rs := [1, 12]) (by kernel_rfl) (by simp) (AllReadyH.cons rfl (fun K hK => ?_) (AllReadyH.cons rfl (fun K hK => ?_) (AllReadyH.nil)))
                        · rw [if_pos (by kernel_rfl)]
                          obtain ⟨cap, ob, hcb, hcap1, hcap2, hRB⟩ := conv_back key (Nat.le_trans HK3.out.1 (by decide)) w1
                          go_simp
                          try dsimp only
                          obtain ⟨w2, hw1⟩ : ∃ wq, (w1.alloc ob).drew = wq := ⟨_, rfl⟩
                          obtain ⟨gk, hgk⟩ : ∃ gq, w1.heap.size = gq := ⟨_, rfl⟩
                          have hrk2 : Rb w2 w2.heap.size (some ⟨gk, 0, none⟩) key.data.toList := by rw [← hw1, ← hgk]; exact hRB
                          have hbel : Below w1.heap.size w1 w2 := by rw [← hw1]; exact ((Below.refl _ _).alloc (Nat.le_refl _) _).drew
                          have hx2 : Below wp18.heap.size wp18 w2 := hx1.trans (hbel.mono hx1.size)
                          have hbb2 := hbb1.below hbel hbb1.lt
                          try rw [hw1]
                          try rw [hgk]
                          clear hcb hRB hw1 hgk hbel
                          refine hK.out _ _ hx2 (fun hHeld => ?_)
                          try simp only [Act.put, List.setIfInBounds_toArray, List.set_cons_zero, List.set_cons_succ, List.getElem_toArray, List.getElem_cons_succ, List.getElem_cons_zero]
                          refine wpAnyH_ready (rs := [12]) (by kernel_rfl) (by simp) (AllReadyH.cons rfl (fun K hK => ?_) (AllReadyH.nil))
                          · rw [if_pos (by kernel_rfl)]
                            go_simp
                            try dsimp only
                            obtain ⟨w3, hw5⟩ : ∃ wq, w2.alloc (.cells #[.string ⟨#[b2]⟩, .string D] 9) = wq := ⟨_, rfl⟩
                            obtain ⟨gw, hgw⟩ : ∃ gq, w2.heap.size = gq := ⟨_, rfl⟩
                            have hbw3 : Bk w3 gw 9 (#[.string ⟨#[b2]⟩, .string D]) := by rw [← hw5, ← hgw]; exact Bk.new _ _ _
                            have hbel : Below w2.heap.size w2 w3 := by rw [← hw5]; exact (Below.refl _ _).alloc (Nat.le_refl _) _
                            have hx3 : Below wp18.heap.size wp18 w3 := hx2.trans (hbel.mono hx2.size)
                            have hrk3 := (hrk2.below hbel (Nat.le_refl _)).more hbel.size
                            have hbb3 := hbb2.below hbel hbb2.lt
                            try rw [hw5]
                            try rw [hgw]
                            clear hw5 hgw hbel
                            refine hK.out _ _ hx3 (fun hHeld => ?_)
                            try simp only [Act.put, List.setIfInBounds_toArray, List.set_cons_zero, List.set_cons_succ, List.getElem_toArray, List.getElem_cons_succ, List.getElem_cons_zero]
                            refine wpAnyH_ready (rs := [13]) (by kernel_rfl) (by simp) (AllReadyH.cons rfl (fun K hK => ?_) AllReadyH.nil)
                            rw [if_pos (by kernel_rfl)]
                            go_simp
                            refine (rproof_ok (some ⟨gk, 0, none⟩) key.size cap key.data.toList (some ⟨gw, 0, none⟩) 2 2 [⟨#[b2]⟩, D] w3 rfl hcap1 hcap2 (Nat.le_trans HK3.out.1 (by decide)) hrk3 (fun h => by cases h) rfl (by omega) (two_bkZ hbw3) (HSMZ.out _ (by show 1 ≤ 1000; decide)) (HTX.out _)).mono ?_
                            rintro e wp20 ⟨rfl, hbp⟩
                            try dsimp only
                            have hxp : Below wp18.heap.size wp18 wp20 := hx3.trans (hbp.mono hx3.size)
                            refine hK.out _ _ hxp (fun hHeld => ?_)
                            try simp only [Act.put, List.setIfInBounds_toArray, List.set_cons_zero, List.set_cons_succ, List.getElem_toArray, List.getElem_cons_succ, List.getElem_cons_zero]
                            refine wpAnyH_ready (rs := [14]) (by kernel_rfl) (by simp) (AllReadyH.cons rfl (fun K hK => ?_) AllReadyH.nil)
                            rw [if_pos (by kernel_rfl)]
                            go_simp
                            refine hK.out _ _ hxp (fun hHeld => ?_)
                            try simp only [Act.put, List.setIfInBounds_toArray, List.set_cons_zero, List.set_cons_succ, List.getElem_toArray, List.getElem_cons_succ, List.getElem_cons_zero]
                            refine wpAnyH_done (by kernel_rfl) ?_ _
                            have HXP := Lib.hid hxp
                            clear hHeld hbp hxp hcap1 hcap2 hx0 hx1 hx2 hx3
                            obtain ⟨PG, hPF⟩ : ∃ PQ : ByteArray, (⟨(proofB key.data.toList [⟨#[b2]⟩, D]).toArray⟩ : ByteArray) = PQ := ⟨_, rfl⟩
                            rw [hPF]
                            have HZ6 := Lib.hid (HZ5.out.on HXP.out)
                            have hTP : PG.extract 0 32 = T := by rw [← hPF, ← HTT.out, ← HCD.out]; exact (tix_of key d (sr : Int) _ HLIT.out).symm
                            have hpf : PG.size = 64 := by rw [← hPF, ← HCD.out]; exact prf_lit key d (sr : Int) _ HLIT.out (by show sr ≤ _; omega)
                            have hpi : (32 : Int) ≤ (PG.size : Int) := by omega
                            clear hPF
                            go_wp2_with (go_at_call 20; (with_reducible refine (z_many HZ6.out m HLM.out).mono ?_); rintro e u9 ⟨rfl, h1⟩; have HZ9 := Lib.hid (HZ6.out.on h1); clear h1)
                            go_ret
                            exact ⟨rfl, HZ9.out.l⟩
                        · rw [if_pos (by kernel_rfl)]
                          go_simp
                          try dsimp only
                          obtain ⟨w2, hw5⟩ : ∃ wq, w1.alloc (.cells #[.string ⟨#[b2]⟩, .string D] 9) = wq := ⟨_, rfl⟩
                          obtain ⟨gw, hgw⟩ : ∃ gq, w1.heap.size = gq := ⟨_, rfl⟩
                          have hbw2 : Bk w2 gw 9 (#[.string ⟨#[b2]⟩, .string D]) := by rw [← hw5, ← hgw]; exact Bk.new _ _ _
                          have hbel : Below w1.heap.size w1 w2 := by rw [← hw5]; exact (Below.refl _ _).alloc (Nat.le_refl _) _
                          have hx2 : Below wp18.heap.size wp18 w2 := hx1.trans (hbel.mono hx1.size)
                          have hbb2 := hbb1.below hbel hbb1.lt
                          try rw [hw5]
                          try rw [hgw]
                          clear hw5 hgw hbel
                          refine hK.out _ _ hx2 (fun hHeld => ?_)
                          try simp only [Act.put, List.setIfInBounds_toArray, List.set_cons_zero, List.set_cons_succ, List.getElem_toArray, List.getElem_cons_succ, List.getElem_cons_zero]
                          refine wpAnyH_ready (rs := [1]) (by kernel_rfl) (by simp) (AllReadyH.cons rfl (fun K hK => ?_) (AllReadyH.nil))
                          · rw [if_pos (by kernel_rfl)]
                            obtain ⟨cap, ob, hcb, hcap1, hcap2, hRB⟩ := conv_back key (Nat.le_trans HK3.out.1 (by decide)) w2
                            go_simp
                            try dsimp only
                            obtain ⟨w3, hw1⟩ : ∃ wq, (w2.alloc ob).drew = wq := ⟨_, rfl⟩
                            obtain ⟨gk, hgk⟩ : ∃ gq, w2.heap.size = gq := ⟨_, rfl⟩
                            have hrk3 : Rb w3 w3.heap.size (some ⟨gk, 0, none⟩) key.data.toList := by rw [← hw1, ← hgk]; exact hRB
                            have hbel : Below w2.heap.size w2 w3 := by rw [← hw1]; exact ((Below.refl _ _).alloc (Nat.le_refl _) _).drew
                            have hx3 : Below wp18.heap.size wp18 w3 := hx2.trans (hbel.mono hx2.size)
                            have hbb3 := hbb2.below hbel hbb2.lt
                            have hbw3 := hbw2.below hbel hbw2.lt
                            try rw [hw1]
                            try rw [hgk]
                            clear hcb hRB hw1 hgk hbel
                            refine hK.out _ _ hx3 (fun hHeld => ?_)
                            try simp only [Act.put, List.setIfInBounds_toArray, List.set_cons_zero, List.set_cons_succ, List.getElem_toArray, List.getElem_cons_succ, List.getElem_cons_zero]
                            refine wpAnyH_ready (rs := [13]) (by kernel_rfl) (by simp) (AllReadyH.cons rfl (fun K hK => ?_) AllReadyH.nil)
                            rw [if_pos (by kernel_rfl)]
                            go_simp
                            refine (rproof_ok (some ⟨gk, 0, none⟩) key.size cap key.data.toList (some ⟨gw, 0, none⟩) 2 2 [⟨#[b2]⟩, D] w3 rfl hcap1 hcap2 (Nat.le_trans HK3.out.1 (by decide)) hrk3 (fun h => by cases h) rfl (by omega) (two_bkZ hbw3) (HSMZ.out _ (by show 1 ≤ 1000; decide)) (HTX.out _)).mono ?_
                            rintro e wp20 ⟨rfl, hbp⟩
                            try dsimp only
                            have hxp : Below wp18.heap.size wp18 wp20 := hx3.trans (hbp.mono hx3.size)
                            refine hK.out _ _ hxp (fun hHeld => ?_)
                            try simp only [Act.put, List.setIfInBounds_toArray, List.set_cons_zero, List.set_cons_succ, List.getElem_toArray, List.getElem_cons_succ, List.getElem_cons_zero]
                            refine wpAnyH_ready (rs := [14]) (by kernel_rfl) (by simp) (AllReadyH.cons rfl (fun K hK => ?_) AllReadyH.nil)
                            rw [if_pos (by kernel_rfl)]
                            go_simp
                            refine hK.out _ _ hxp (fun hHeld => ?_)
                            try simp only [Act.put, List.setIfInBounds_toArray, List.set_cons_zero, List.set_cons_succ, List.getElem_toArray, List.getElem_cons_succ, List.getElem_cons_zero]
                            refine wpAnyH_done (by kernel_rfl) ?_ _
                            have HXP := Lib.hid hxp
                            clear hHeld hbp hxp hcap1 hcap2 hx0 hx1 hx2 hx3
                            obtain ⟨PG, hPF⟩ : ∃ PQ : ByteArray, (⟨(proofB key.data.toList [⟨#[b2]⟩, D]).toArray⟩ : ByteArray) = PQ := ⟨_, rfl⟩
                            rw [hPF]
                            have HZ6 := Lib.hid (HZ5.out.on HXP.out)
                            have hTP : PG.extract 0 32 = T := by rw [← hPF, ← HTT.out, ← HCD.out]; exact (tix_of key d (sr : Int) _ HLIT.out).symm
                            have hpf : PG.size = 64 := by rw [← hPF, ← HCD.out]; exact prf_lit key d (sr : Int) _ HLIT.out (by show sr ≤ _; omega)
                            have hpi : (32 : Int) ≤ (PG.size : Int) := by omega
                            clear hPF
                            go_wp2_with (go_at_call 20; (with_reducible refine (z_many HZ6.out m HLM.out).mono ?_); rintro e u9 ⟨rfl, h1⟩; have HZ9 := Lib.hid (HZ6.out.on h1); clear h1)
                            go_ret
                            exact ⟨rfl, HZ9.out.l⟩
              · rw [if_pos (by kernel_rfl)]
                have hcv := str_of (P := Tryd.prog) (B := w1.heap.size) (A := some ⟨gb, 0, none⟩) (l := [b1, b2]) ((Rb.bk hbb1).more hbb1.lt) 50 5 9 Tryd.underlying50 Tryd.underlying5 Tryd.underlying9 2 2 rfl
                go_simp
                clear hcv
                refine hK.out _ _ hx1 (fun hHeld => ?_)
                try simp only [Act.put, List.setIfInBounds_toArray, List.set_cons_zero, List.set_cons_succ, List.getElem_toArray, List.getElem_cons_succ, List.getElem_cons_zero]
                refine wpAnyH_ready (rs := [1, 17]) (by kernel_rfl) (by simp) (AllReadyH.cons rfl (fun K hK => ?_) (AllReadyH.cons rfl (fun K hK => ?_) (AllReadyH.nil)))
                · rw [if_pos (by kernel_rfl)]
                  obtain ⟨cap, ob, hcb, hcap1, hcap2, hRB⟩ := conv_back key (Nat.le_trans HK3.out.1 (by decide)) w1
                  go_simp
                  try dsimp only
                  obtain ⟨w2, hw1⟩ : ∃ wq, (w1.alloc ob).drew = wq := ⟨_, rfl⟩
                  obtain ⟨gk, hgk⟩ : ∃ gq, w1.heap.size = gq := ⟨_, rfl⟩
                  have hrk2 : Rb w2 w2.heap.size (some ⟨gk, 0, none⟩) key.data.toList := by rw [← hw1, ← hgk]; exact hRB
                  have hbel : Below w1.heap.size w1 w2 := by rw [← hw1]; exact ((Below.refl _ _).alloc (Nat.le_refl _) _).drew
                  have hx2 : Below u4.heap.size u4 w2 := hx1.trans (hbel.mono hx1.size)
                  have hbb2 := hbb1.below hbel hbb1.lt
                  try rw [hw1]
                  try rw [hgk]
                  clear hcb hRB hw1 hgk hbel
                  refine hK.out _ _ hx2 (fun hHeld => ?_)
                  try simp only [Act.put, List.setIfInBounds_toArray, List.set_cons_zero, List.set_cons_succ, List.getElem_toArray, List.getElem_cons_succ, List.getElem_cons_zero]
                  refine wpAnyH_ready (rs := [17]) (by kernel_rfl) (by simp) (AllReadyH.cons rfl (fun K hK => ?_) (AllReadyH.nil))
                  · rw [if_pos (by kernel_rfl)]
                    go_simp
                    try dsimp only
                    obtain ⟨w3, hw5⟩ : ∃ wq, w2.alloc (.cells #[.string ⟨#[b1, b2]⟩, .string D] 9) = wq := ⟨_, rfl⟩
                    obtain ⟨gw, hgw⟩ : ∃ gq, w2.heap.size = gq := ⟨_, rfl⟩
                    have hbw3 : Bk w3 gw 9 (#[.string ⟨#[b1, b2]⟩, .string D]) := by rw [← hw5, ← hgw]; exact Bk.new _ _ _
                    have hbel : Below w2.heap.size w2 w3 := by rw [← hw5]; exact (Below.refl _ _).alloc (Nat.le_refl _) _
                    have hx3 : Below u4.heap.size u4 w3 := hx2.trans (hbel.mono hx2.size)
                    have hrk3 := (hrk2.below hbel (Nat.le_refl _)).more hbel.size
                    have hbb3 := hbb2.below hbel hbb2.lt
                    try rw [hw5]
                    try rw [hgw]
                    clear hw5 hgw hbel
                    refine hK.out _ _ hx3 (fun hHeld => ?_)
                    try simp only [Act.put, List.setIfInBounds_toArray, List.set_cons_zero, List.set_cons_succ, List.getElem_toArray, List.getElem_cons_succ, List.getElem_cons_zero]
                    refine wpAnyH_ready (rs := [18]) (by kernel_rfl) (by simp) (AllReadyH.cons rfl (fun K hK => ?_) AllReadyH.nil)
                    rw [if_pos (by kernel_rfl)]
                    go_simp
                    refine (rproof_ok (some ⟨gk, 0, none⟩) key.size cap key.data.toList (some ⟨gw, 0, none⟩) 2 2 [⟨#[b1, b2]⟩, D] w3 rfl hcap1 hcap2 (Nat.le_trans HK3.out.1 (by decide)) hrk3 (fun h => by cases h) rfl (by omega) (two_bkZ hbw3) (HSMZ.out _ (by show 2 ≤ 1000; decide)) (HTX.out _)).mono ?_
                    rintro e wp18 ⟨rfl, hbp⟩
                    try dsimp only
                    have hxp : Below u4.heap.size u4 wp18 := hx3.trans (hbp.mono hx3.size)
                    refine hK.out _ _ hxp (fun hHeld => ?_)
                    try simp only [Act.put, List.setIfInBounds_toArray, List.set_cons_zero, List.set_cons_succ, List.getElem_toArray, List.getElem_cons_succ, List.getElem_cons_zero]
                    refine wpAnyH_ready (rs := [19]) (by kernel_rfl) (by simp) (AllReadyH.cons rfl (fun K hK => ?_) AllReadyH.nil)
                    rw [if_pos (by kernel_rfl)]
                    go_simp
                    refine hK.out _ _ hxp (fun hHeld => ?_)
                    try simp only [Act.put, List.setIfInBounds_toArray, List.set_cons_zero, List.set_cons_succ, List.getElem_toArray, List.getElem_cons_succ, List.getElem_cons_zero]
                    refine wpAnyH_done (by kernel_rfl) ?_ _
                    have HXP := Lib.hid hxp
                    clear hHeld hbp hxp hcap1 hcap2 hx0 hx1 hx2 hx3
                    obtain ⟨PF, hPF⟩ : ∃ PQ : ByteArray, (⟨(proofB key.data.toList [⟨#[b1, b2]⟩, D]).toArray⟩ : ByteArray) = PQ := ⟨_, rfl⟩
                    rw [hPF]
                    clear hPF
                    have HZ5 := Lib.hid (HZ4.out.on HXP.out)
                    clear HXP HZ4
                    go_upto_region 20 with fail
                    try simp only [List.cons_append, List.nil_append]
                    refine wp_region_held_drew (S := fun wz => Below wp18.heap.size wp18 wz) (by kernel_rfl) ((Below.refl _ _).drew) (fun hHeld => ?_)
                    refine take_at (some 118) (i := 0) (v := ?_) rfl rfl (by kernel_rfl) (by kernel_rfl) (by kernel_rfl) (fun _ _ _ h => h) (Or.inl ⟨by kernel_rfl, ?_⟩) hHeld ?_
                    rotate_left
                    · intro wz hSw; go_simp; try (with_reducible rfl)
                    try simp only [Act.put, List.setIfInBounds_toArray, List.set_cons_zero, List.set_cons_succ, List.getElem_toArray, List.getElem_cons_succ, List.getElem_cons_zero]
                    refine take_at (some 120) (i := 2) (v := ?_) rfl rfl (by kernel_rfl) (by kernel_rfl) (by kernel_rfl) (fun _ _ _ h => h) (Or.inl ⟨by kernel_rfl, ?_⟩) hHeld ?_
                    rotate_left
                    · intro wz hSw; go_simp; try (with_reducible rfl)
                    try simp only [Act.put, List.setIfInBounds_toArray, List.set_cons_zero, List.set_cons_succ, List.getElem_toArray, List.getElem_cons_succ, List.getElem_cons_zero]
                    refine take_at (some 121) (i := 3) (v := ?_) rfl rfl (by kernel_rfl) (by kernel_rfl) (by kernel_rfl) (fun _ _ _ h => h) (Or.inl ⟨by kernel_rfl, ?_⟩) hHeld ?_
                    rotate_left
                    · intro wz hSw; go_simp; try (with_reducible rfl)
                    try simp only [Act.put, List.setIfInBounds_toArray, List.set_cons_zero, List.set_cons_succ, List.getElem_toArray, List.getElem_cons_succ, List.getElem_cons_zero]
                    refine take_at (some 122) (i := 4) (v := ?_) rfl rfl (by kernel_rfl) (by kernel_rfl) (by kernel_rfl) (fun _ _ _ h => h) (Or.inl ⟨by kernel_rfl, ?_⟩) hHeld ?_
                    rotate_left
                    · intro wz hSw; go_simp; try (with_reducible rfl)
                    try simp only [Act.put, List.setIfInBounds_toArray, List.set_cons_zero, List.set_cons_succ, List.getElem_toArray, List.getElem_cons_succ, List.getElem_cons_zero]
                    refine take_at (some 125) (i := 7) (v := ?_) rfl rfl (by kernel_rfl) (by kernel_rfl) (by kernel_rfl) (fun _ _ _ h => h) (Or.inl ⟨by kernel_rfl, ?_⟩) hHeld ?_
                    rotate_left
                    · intro wz hSw; go_simp; try (with_reducible rfl)
                    try simp only [Act.put, List.setIfInBounds_toArray, List.set_cons_zero, List.set_cons_succ, List.getElem_toArray, List.getElem_cons_succ, List.getElem_cons_zero]
                    refine take_at (some 126) (i := 8) (v := ?_) rfl rfl (by kernel_rfl) (by kernel_rfl) (by kernel_rfl) (fun _ _ _ h => h) (Or.inl ⟨by kernel_rfl, ?_⟩) hHeld ?_
                    rotate_left
                    · intro wz hSw; go_simp; try (with_reducible rfl)
                    try simp only [Act.put, List.setIfInBounds_toArray, List.set_cons_zero, List.set_cons_succ, List.getElem_toArray, List.getElem_cons_succ, List.getElem_cons_zero]
                    refine take_at (some 127) (i := 9) (v := ?_) rfl rfl (by kernel_rfl) (by kernel_rfl) (by kernel_rfl) (fun _ _ _ h => h) (Or.inl ⟨by kernel_rfl, ?_⟩) hHeld ?_
                    rotate_left
                    · intro wz hSw; go_simp; try (with_reducible rfl)
                    try simp only [Act.put, List.setIfInBounds_toArray, List.set_cons_zero, List.set_cons_succ, List.getElem_toArray, List.getElem_cons_succ, List.getElem_cons_zero]
                    refine take_at (some 128) (i := 10) rfl rfl (by kernel_rfl) (by kernel_rfl) (by kernel_rfl) (fun _ _ _ h => h) (yieldsIf_min (by kernel_rfl) (.tmp 127) (.const (.int .i64 255)) 3 rfl _ _ _ rfl rfl HMIN.out) hHeld ?_
                    try simp only [Act.put, List.setIfInBounds_toArray, List.set_cons_zero, List.set_cons_succ, List.getElem_toArray, List.getElem_cons_succ, List.getElem_cons_zero]
                    refine take_at (some 129) (i := 11) (v := ?_) rfl rfl (by kernel_rfl) (by kernel_rfl) (by kernel_rfl) (fun _ _ _ h => h) (Or.inl ⟨by kernel_rfl, ?_⟩) hHeld ?_
                    rotate_left
                    · intro wz hSw; go_simp; try (with_reducible rfl)
                    try simp only [Act.put, List.setIfInBounds_toArray, List.set_cons_zero, List.set_cons_succ, List.getElem_toArray, List.getElem_cons_succ, List.getElem_cons_zero]
                    try rw [HD.out]
                    obtain ⟨w0, hwd⟩ : ∃ wq, wp18.drew = wq := ⟨_, rfl⟩
                    have hx0 : Below wp18.heap.size wp18 w0 := by rw [← hwd]; exact (Below.refl _ _).drew
                    try rw [hwd]
                    clear hwd
                    refine wpAnyH_ready (rs := [1, 5]) (by kernel_rfl) (by simp) (AllReadyH.cons rfl (fun K hK => ?_) (AllReadyH.cons rfl (fun K hK => ?_) (AllReadyH.nil)))
                    · rw [if_pos (by kernel_rfl)]
                      obtain ⟨cap, ob, hcb, hcap1, hcap2, hRB⟩ := conv_back key (Nat.le_trans HK3.out.1 (by decide)) w0
                      go_simp
                      try dsimp only
                      obtain ⟨w1, hw1⟩ : ∃ wq, (w0.alloc ob).drew = wq := ⟨_, rfl⟩
                      obtain ⟨gk, hgk⟩ : ∃ gq, w0.heap.size = gq := ⟨_, rfl⟩
                      have hrk1 : Rb w1 w1.heap.size (some ⟨gk, 0, none⟩) key.data.toList := by rw [← hw1, ← hgk]; exact hRB
                      have hbel : Below w0.heap.size w0 w1 := by rw [← hw1]; exact ((Below.refl _ _).alloc (Nat.le_refl _) _).drew
                      have hx1 : Below wp18.heap.size wp18 w1 := hx0.trans (hbel.mono hx0.size)
                      try rw [hw1]
                      try rw [hgk]
                      clear hcb hRB hw1 hgk hbel
                      refine hK.out _ _ hx1 (fun hHeld => ?_)
                      try simp only [Act.put, List.setIfInBounds_toArray, List.set_cons_zero, List.set_cons_succ, List.getElem_toArray, List.getElem_cons_succ, List.getElem_cons_zero]
                      refine wpAnyH_ready (rs := [5]) (by kernel_rfl) (by simp) (AllReadyH.cons rfl (fun K hK => ?_) (AllReadyH.nil))
                      · rw [if_pos (by kernel_rfl)]
                        go_simp
                        try dsimp only
                        obtain ⟨w2, hw5⟩ : ∃ wq, w1.alloc (.cells #[.int .u8 (b2.toNat : Int)] 5) = wq := ⟨_, rfl⟩
                        obtain ⟨gb, hgw⟩ : ∃ gq, w1.heap.size = gq := ⟨_, rfl⟩
                        have hbb2 : Bk w2 gb 5 (bcells [b2]) := by rw [← hw5, ← hgw]; exact Bk.new _ _ _
                        have hbel : Below w1.heap.size w1 w2 := by rw [← hw5]; exact (Below.refl _ _).alloc (Nat.le_refl _) _
                        have hx2 : Below wp18.heap.size wp18 w2 := hx1.trans (hbel.mono hx1.size)
                        have hrk2 := (hrk1.below hbel (Nat.le_refl _)).more hbel.size
                        try rw [hw5]
                        try rw [hgw]
                        clear hw5 hgw hbel
                        refine hK.out _ _ hx2 (fun hHeld => ?_)
                        try simp only [Act.put, List.setIfInBounds_toArray, List.set_cons_zero, List.set_cons_succ, List.getElem_toArray, List.getElem_cons_succ, List.getElem_cons_zero]
                        refine wpAnyH_ready (rs := [6]) (by kernel_rfl) (by simp) (AllReadyH.cons rfl (fun K hK => ?_) (AllReadyH.nil))
                        · rw [if_pos (by kernel_rfl)]
                          have hcv := str_of (P := Tryd.prog) (B := w2.heap.size) (A := some ⟨gb, 0, none⟩) (l := [b2]) ((Rb.bk hbb2).more hbb2.lt) 50 5 9 Tryd.underlying50 Tryd.underlying5 Tryd.underlying9 1 1 rfl
                          go_simp
                          clear hcv
                          refine hK.out _ _ hx2 (fun hHeld => ?_)
                          try simp only [Act.put, List.setIfInBounds_toArray, List.set_cons_zero, List.set_cons_succ, List.getElem_toArray, List.getElem_cons_succ, List.getElem_cons_zero]
                          refine wpAnyH_ready (rs := [12]) (by kernel_rfl) (by simp) (AllReadyH.cons rfl (fun K hK => ?_) (AllReadyH.nil))
                          · rw [if_pos (by kernel_rfl)]
                            go_simp
                            try dsimp only
                            obtain ⟨w3, hw5⟩ : ∃ wq, w2.alloc (.cells #[.string ⟨#[b2]⟩, .string D] 9) = wq := ⟨_, rfl⟩
                            obtain ⟨gw, hgw⟩ : ∃ gq, w2.heap.size = gq := ⟨_, rfl⟩
                            have hbw3 : Bk w3 gw 9 (#[.string ⟨#[b2]⟩, .string D]) := by rw [← hw5, ← hgw]; exact Bk.new _ _ _
                            have hbel : Below w2.heap.size w2 w3 := by rw [← hw5]; exact (Below.refl _ _).alloc (Nat.le_refl _) _
                            have hx3 : Below wp18.heap.size wp18 w3 := hx2.trans (hbel.mono hx2.size)
                            have hrk3 := (hrk2.below hbel (Nat.le_refl _)).more hbel.size
                            have hbb3 := hbb2.below hbel hbb2.lt
                            try rw [hw5]
                            try rw [hgw]
                            clear hw5 hgw hbel
                            refine hK.out _ _ hx3 (fun hHeld => ?_)
                            try simp only [Act.put, List.setIfInBounds_toArray, List.set_cons_zero, List.set_cons_succ, List.getElem_toArray, List.getElem_cons_succ, List.getElem_cons_zero]
                            refine wpAnyH_ready (rs := [13]) (by kernel_rfl) (by simp) (AllReadyH.cons rfl (fun K hK => ?_) AllReadyH.nil)
                            rw [if_pos (by kernel_rfl)]
                            go_simp
                            refine (rproof_ok (some ⟨gk, 0, none⟩) key.size cap key.data.toList (some ⟨gw, 0, none⟩) 2 2 [⟨#[b2]⟩, D] w3 rfl hcap1 hcap2 (Nat.le_trans HK3.out.1 (by decide)) hrk3 (fun h => by cases h) rfl (by omega) (two_bkZ hbw3) (HSMZ.out _ (by show 1 ≤ 1000; decide)) (HTX.out _)).mono ?_
                            rintro e wp20 ⟨rfl, hbp⟩
                            try dsimp only
                            have hxp : Below wp18.heap.size wp18 wp20 := hx3.trans (hbp.mono hx3.size)
                            refine hK.out _ _ hxp (fun hHeld => ?_)
                            try simp only [Act.put, List.setIfInBounds_toArray, List.set_cons_zero, List.set_cons_succ, List.getElem_toArray, List.getElem_cons_succ, List.getElem_cons_zero]
                            refine wpAnyH_ready (rs := [14]) (by kernel_rfl) (by simp) (AllReadyH.cons rfl (fun K hK => ?_) AllReadyH.nil)
                            rw [if_pos (by kernel_rfl)]
                            go_simp
                            refine hK.out _ _ hxp (fun hHeld => ?_)
                            try simp only [Act.put, List.setIfInBounds_toArray, List.set_cons_zero, List.set_cons_succ, List.getElem_toArray, List.getElem_cons_succ, List.getElem_cons_zero]
                            refine wpAnyH_done (by kernel_rfl) ?_ _
                            have HXP := Lib.hid hxp
                            clear hHeld hbp hxp hcap1 hcap2 hx0 hx1 hx2 hx3
                            obtain ⟨PG, hPF⟩ : ∃ PQ : ByteArray, (⟨(proofB key.data.toList [⟨#[b2]⟩, D]).toArray⟩ : ByteArray) = PQ := ⟨_, rfl⟩
                            rw [hPF]
                            have HZ6 := Lib.hid (HZ5.out.on HXP.out)
                            have hTP : PG.extract 0 32 = T := by rw [← hPF, ← HTT.out, ← HCD.out]; exact (tix_of key d (sr : Int) _ HLIT.out).symm
                            have hpf : PG.size = 64 := by rw [← hPF, ← HCD.out]; exact prf_lit key d (sr : Int) _ HLIT.out (by show sr ≤ _; omega)
                            have hpi : (32 : Int) ≤ (PG.size : Int) := by omega
                            clear hPF
                            go_wp2_with (go_at_call 20; (with_reducible refine (z_many HZ6.out m HLM.out).mono ?_); rintro e u9 ⟨rfl, h1⟩; have HZ9 := Lib.hid (HZ6.out.on h1); clear h1)
                            go_ret
                            exact ⟨rfl, HZ9.out.l⟩
                    · rw [if_pos (by kernel_rfl)]
                      go_simp
                      try dsimp only
                      obtain ⟨w1, hw5⟩ : ∃ wq, w0.alloc (.cells #[.int .u8 (b2.toNat : Int)] 5) = wq := ⟨_, rfl⟩
                      obtain ⟨gb, hgw⟩ : ∃ gq, w0.heap.size = gq := ⟨_, rfl⟩
                      have hbb1 : Bk w1 gb 5 (bcells [b2]) := by rw [← hw5, ← hgw]; exact Bk.new _ _ _
                      have hbel : Below w0.heap.size w0 w1 := by rw [← hw5]; exact (Below.refl _ _).alloc (Nat.le_refl _) _
                      have hx1 : Below wp18.heap.size wp18 w1 := hx0.trans (hbel.mono hx0.size)
                      try rw [hw5]
                      try rw [hgw]
                      clear hw5 hgw hbel
                      refine hK.out _ _ hx1 (fun hHeld => ?_)
                      try simp only [Act.put, List.setIfInBounds_toArray, List.set_cons_zero, List.set_cons_succ, List.getElem_toArray, List.getElem_cons_succ, List.getElem_cons_zero]
                      refine wpAnyH_ready (rs := [1, 6]) (by kernel_rfl) (by simp) (AllReadyH.cons rfl (fun K hK => ?_) (AllReadyH.cons rfl (fun K hK => ?_) (AllReadyH.nil)))
                      · rw [if_pos (by kernel_rfl)]
                        obtain ⟨cap, ob, hcb, hcap1, hcap2, hRB⟩ := conv_back key (Nat.le_trans HK3.out.1 (by decide)) w1
                        go_simp
                        try dsimp only
                        obtain ⟨w2, hw1⟩ : ∃ wq, (w1.alloc ob).drew = wq := ⟨_, rfl⟩
                        obtain ⟨gk, hgk⟩ : ∃ gq, w1.heap.size = gq := ⟨_, rfl⟩
                        have hrk2 : Rb w2 w2.heap.size (some ⟨gk, 0, none⟩) key.data.toList := by rw [← hw1, ← hgk]; exact hRB
                        have hbel : Below w1.heap.size w1 w2 := by rw [← hw1]; exact ((Below.refl _ _).alloc (Nat.le_refl _) _).drew
                        have hx2 : Below wp18.heap.size wp18 w2 := hx1.trans (hbel.mono hx1.size)
                        have hbb2 := hbb1.below hbel hbb1.lt
                        try rw [hw1]
                        try rw [hgk]
                        clear hcb hRB hw1 hgk hbel
                        refine hK.out _ _ hx2 (fun hHeld => ?_)
                        try simp only [Act.put, List.setIfInBounds_toArray, List.set_cons_zero, List.set_cons_succ, List.getElem_toArray, List.getElem_cons_succ, List.getElem_cons_zero]
                        refine wpAnyH_ready (rs := [6]) (by kernel_rfl) (by simp) (AllReadyH.cons rfl (fun K hK => ?_) (AllReadyH.nil))
                        · rw [if_pos (by kernel_rfl)]
                          have hcv := str_of (P := Tryd.prog) (B := w2.heap.size) (A := some ⟨gb, 0, none⟩) (l := [b2]) ((Rb.bk hbb2).more hbb2.lt) 50 5 9 Tryd.underlying50 Tryd.underlying5 Tryd.underlying9 1 1 rfl
                          go_simp
                          clear hcv
                          refine hK.out _ _ hx2 (fun hHeld => ?_)
                          try simp only [Act.put, List.setIfInBounds_toArray, List.set_cons_zero, List.set_cons_succ, List.getElem_toArray, List.getElem_cons_succ, List.getElem_cons_zero]
                          refine wpAnyH_ready (rs := [12]) (by kernel_rfl) (by simp) (AllReadyH.cons rfl (fun K hK => ?_) (AllReadyH.nil))
                          · rw [if_pos (by kernel_rfl)]
                            go_simp
                            try dsimp only
                            obtain ⟨w3, hw5⟩ : ∃ wq, w2.alloc (.cells #[.string ⟨#[b2]⟩, .string D] 9) = wq := ⟨_, rfl⟩
                            obtain ⟨gw, hgw⟩ : ∃ gq, w2.heap.size = gq := ⟨_, rfl⟩
                            have hbw3 : Bk w3 gw 9 (#[.string ⟨#[b2]⟩, .string D]) := by rw [← hw5, ← hgw]; exact Bk.new _ _ _
                            have hbel : Below w2.heap.size w2 w3 := by rw [← hw5]; exact (Below.refl _ _).alloc (Nat.le_refl _) _
                            have hx3 : Below wp18.heap.size wp18 w3 := hx2.trans (hbel.mono hx2.size)
                            have hrk3 := (hrk2.below hbel (Nat.le_refl _)).more hbel.size
                            have hbb3 := hbb2.below hbel hbb2.lt
                            try rw [hw5]
                            try rw [hgw]
                            clear hw5 hgw hbel
                            refine hK.out _ _ hx3 (fun hHeld => ?_)
                            try simp only [Act.put, List.setIfInBounds_toArray, List.set_cons_zero, List.set_cons_succ, List.getElem_toArray, List.getElem_cons_succ, List.getElem_cons_zero]
                            refine wpAnyH_ready (rs := [13]) (by kernel_rfl) (by simp) (AllReadyH.cons rfl (fun K hK => ?_) AllReadyH.nil)
                            rw [if_pos (by kernel_rfl)]
                            go_simp
                            refine (rproof_ok (some ⟨gk, 0, none⟩) key.size cap key.data.toList (some ⟨gw, 0, none⟩) 2 2 [⟨#[b2]⟩, D] w3 rfl hcap1 hcap2 (Nat.le_trans HK3.out.1 (by decide)) hrk3 (fun h => by cases h) rfl (by omega) (two_bkZ hbw3) (HSMZ.out _ (by show 1 ≤ 1000; decide)) (HTX.out _)).mono ?_
                            rintro e wp20 ⟨rfl, hbp⟩
                            try dsimp only
                            have hxp : Below wp18.heap.size wp18 wp20 := hx3.trans (hbp.mono hx3.size)
                            refine hK.out _ _ hxp (fun hHeld => ?_)
                            try simp only [Act.put, List.setIfInBounds_toArray, List.set_cons_zero, List.set_cons_succ, List.getElem_toArray, List.getElem_cons_succ, List.getElem_cons_zero]
                            refine wpAnyH_ready (rs := [14]) (by kernel_rfl) (by simp) (AllReadyH.cons rfl (fun K hK => ?_) AllReadyH.nil)
                            rw [if_pos (by kernel_rfl)]
                            go_simp
                            refine hK.out _ _ hxp (fun hHeld => ?_)
                            try simp only [Act.put, List.setIfInBounds_toArray, List.set_cons_zero, List.set_cons_succ, List.getElem_toArray, List.getElem_cons_succ, List.getElem_cons_zero]
                            refine wpAnyH_done (by kernel_rfl) ?_ _
                            have HXP := Lib.hid hxp
                            clear hHeld hbp hxp hcap1 hcap2 hx0 hx1 hx2 hx3
                            obtain ⟨PG, hPF⟩ : ∃ PQ : ByteArray, (⟨(proofB key.data.toList [⟨#[b2]⟩, D]).toArray⟩ : ByteArray) = PQ := ⟨_, rfl⟩
                            rw [hPF]
                            have HZ6 := Lib.hid (HZ5.out.on HXP.out)
                            have hTP : PG.extract 0 32 = T := by rw [← hPF, ← HTT.out, ← HCD.out]; exact (tix_of key d (sr : Int) _ HLIT.out).symm
                            have hpf : PG.size = 64 := by rw [← hPF, ← HCD.out]; exact prf_lit key d (sr : Int) _ HLIT.out (by show sr ≤ _; omega)
                            have hpi : (32 : Int) ≤ (PG.size : Int) := by omega
                            clear hPF
                            go_wp2_with (go_at_call 20; (with_reducible refine (z_many HZ6.out m HLM.out).mono ?_); rintro e u9 ⟨rfl, h1⟩; have HZ9 := Lib.hid (HZ6.out.on h1); clear h1)
                            go_ret
                            exact ⟨rfl, HZ9.out.l⟩
                      · rw [if_pos (by kernel_rfl)]
                        have hcv := str_of (P := Tryd.prog) (B := w1.heap.size) (A := some ⟨gb, 0, none⟩) (l := [b2]) ((Rb.bk hbb1).more hbb1.lt) 50 5 9 Tryd.underlying50 Tryd.underlying5 Tryd.underlying9 1 1 rfl
                        go_simp
                        clear hcv
                        refine hK.out _ _ hx1 (fun hHeld => ?_)
                        try simp only [Act.put, List.setIfInBounds_toArray, List.set_cons_zero, List.set_cons_succ, List.getElem_toArray, List.getElem_cons_succ, List.getElem_cons_zero]
                        refine wpAnyH_ready (rs := [1, 12]) (by kernel_rfl) (by simp) (AllReadyH.cons rfl (fun K hK => ?_) (AllReadyH.cons rfl (fun K hK => ?_) (AllReadyH.nil)))
                        · rw [if_pos (by kernel_rfl)]
                          obtain ⟨cap, ob, hcb, hcap1, hcap2, hRB⟩ := conv_back key (Nat.le_trans HK3.out.1 (by decide)) w1
                          go_simp
                          try dsimp only
                          obtain ⟨w2, hw1⟩ : ∃ wq, (w1.alloc ob).drew = wq := ⟨_, rfl⟩
                          obtain ⟨gk, hgk⟩ : ∃ gq, w1.heap.size = gq := ⟨_, rfl⟩
                          have hrk2 : Rb w2 w2.heap.size (some ⟨gk, 0, none⟩) key.data.toList := by rw [← hw1, ← hgk]; exact hRB
                          have hbel : Below w1.heap.size w1 w2 := by rw [← hw1]; exact ((Below.refl _ _).alloc (Nat.le_refl _) _).drew
                          have hx2 : Below wp18.heap.size wp18 w2 := hx1.trans (hbel.mono hx1.size)
                          have hbb2 := hbb1.below hbel hbb1.lt
                          try rw [hw1]
                          try rw [hgk]
                          clear hcb hRB hw1 hgk hbel
                          refine hK.out _ _ hx2 (fun hHeld => ?_)
                          try simp only [Act.put, List.setIfInBounds_toArray, List.set_cons_zero, List.set_cons_succ, List.getElem_toArray, List.getElem_cons_succ, List.getElem_cons_zero]
                          refine wpAnyH_ready (rs := [12]) (by kernel_rfl) (by simp) (AllReadyH.cons rfl (fun K hK => ?_) (AllReadyH.nil))
                          · rw [if_pos (by kernel_rfl)]
                            go_simp
                            try dsimp only
                            obtain ⟨w3, hw5⟩ : ∃ wq, w2.alloc (.cells #[.string ⟨#[b2]⟩, .string D] 9) = wq := ⟨_, rfl⟩
                            obtain ⟨gw, hgw⟩ : ∃ gq, w2.heap.size = gq := ⟨_, rfl⟩
                            have hbw3 : Bk w3 gw 9 (#[.string ⟨#[b2]⟩, .string D]) := by rw [← hw5, ← hgw]; exact Bk.new _ _ _
                            have hbel : Below w2.heap.size w2 w3 := by rw [← hw5]; exact (Below.refl _ _).alloc (Nat.le_refl _) _
                            have hx3 : Below wp18.heap.size wp18 w3 := hx2.trans (hbel.mono hx2.size)
                            have hrk3 := (hrk2.below hbel (Nat.le_refl _)).more hbel.size
                            have hbb3 := hbb2.below hbel hbb2.lt
                            try rw [hw5]
                            try rw [hgw]
                            clear hw5 hgw hbel
                            refine hK.out _ _ hx3 (fun hHeld => ?_)
                            try simp only [Act.put, List.setIfInBounds_toArray, List.set_cons_zero, List.set_cons_succ, List.getElem_toArray, List.getElem_cons_succ, List.getElem_cons_zero]
                            refine wpAnyH_ready (rs := [13]) (by kernel_rfl) (by simp) (AllReadyH.cons rfl (fun K hK => ?_) AllReadyH.nil)
                            rw [if_pos (by kernel_rfl)]
                            go_simp
                            refine (rproof_ok (some ⟨gk, 0, none⟩) key.size cap key.data.toList (some ⟨gw, 0, none⟩) 2 2 [⟨#[b2]⟩, D] w3 rfl hcap1 hcap2 (Nat.le_trans HK3.out.1 (by decide)) hrk3 (fun h => by cases h) rfl (by omega) (two_bkZ hbw3) (HSMZ.out _ (by show 1 ≤ 1000; decide)) (HTX.out _)).mono ?_
                            rintro e wp20 ⟨rfl, hbp⟩
                            try dsimp only
                            have hxp : Below wp18.heap.size wp18 wp20 := hx3.trans (hbp.mono hx3.size)
                            refine hK.out _ _ hxp (fun hHeld => ?_)
                            try simp only [Act.put, List.setIfInBounds_toArray, List.set_cons_zero, List.set_cons_succ, List.getElem_toArray, List.getElem_cons_succ, List.getElem_cons_zero]
                            refine wpAnyH_ready (rs := [14]) (by kernel_rfl) (by simp) (AllReadyH.cons rfl (fun K hK => ?_) AllReadyH.nil)
                            rw [if_pos (by kernel_rfl)]
                            go_simp
                            refine hK.out _ _ hxp (fun hHeld => ?_)
                            try simp only [Act.put, List.setIfInBounds_toArray, List.set_cons_zero, List.set_cons_succ, List.getElem_toArray, List.getElem_cons_succ, List.getElem_cons_zero]
                            refine wpAnyH_done (by kernel_rfl) ?_ _
                            have HXP := Lib.hid hxp
                            clear hHeld hbp hxp hcap1 hcap2 hx0 hx1 hx2 hx3
                            obtain ⟨PG, hPF⟩ : ∃ PQ : ByteArray, (⟨(proofB key.data.toList [⟨#[b2]⟩, D]).toArray⟩ : ByteArray) = PQ := ⟨_, rfl⟩
                            rw [hPF]
                            have HZ6 := Lib.hid (HZ5.out.on HXP.out)
                            have hTP : PG.extract 0 32 = T := by rw [← hPF, ← HTT.out, ← HCD.out]; exact (tix_of key d (sr : Int) _ HLIT.out).symm
                            have hpf : PG.size = 64 := by rw [← hPF, ← HCD.out]; exact prf_lit key d (sr : Int) _ HLIT.out (by show sr ≤ _; omega)
                            have hpi : (32 : Int) ≤ (PG.size : Int) := by omega
                            clear hPF
                            go_wp2_with (go_at_call 20; (with_reducible refine (z_many HZ6.out m HLM.out).mono ?_); rintro e u9 ⟨rfl, h1⟩; have HZ9 := Lib.hid (HZ6.out.on h1); clear h1)
                            go_ret
                            exact ⟨rfl, HZ9.out.l⟩
                        · rw [if_pos (by kernel_rfl)]
                          go_simp
                          try dsimp only
                          obtain ⟨w2, hw5⟩ : ∃ wq, w1.alloc (.cells #[.string ⟨#[b2]⟩, .string D] 9) = wq := ⟨_, rfl⟩
                          obtain ⟨gw, hgw⟩ : ∃ gq, w1.heap.size = gq := ⟨_, rfl⟩
                          have hbw2 : Bk w2 gw 9 (#[.string ⟨#[b2]⟩, .string D]) := by rw [← hw5, ← hgw]; exact Bk.new _ _ _
                          have hbel : Below w1.heap.size w1 w2 := by rw [← hw5]; exact (Below.refl _ _).alloc (Nat.le_refl _) _
                          have hx2 : Below wp18.heap.size wp18 w2 := hx1.trans (hbel.mono hx1.size)
                          have hbb2 := hbb1.below hbel hbb1.lt
                          try rw [hw5]
                          try rw [hgw]
                          clear hw5 hgw hbel
                          refine hK.out _ _ hx2 (fun hHeld => ?_)
                          try simp only [Act.put, List.setIfInBounds_toArray, List.set_cons_zero, List.set_cons_succ, List.getElem_toArray, List.getElem_cons_succ, List.getElem_cons_zero]
                          refine wpAnyH_ready (rs := [1]) (by kernel_rfl) (by simp) (AllReadyH.cons rfl (fun K hK => ?_) (AllReadyH.nil))
                          · rw [if_pos (by kernel_rfl)]
                            obtain ⟨cap, ob, hcb, hcap1, hcap2, hRB⟩ := conv_back key (Nat.le_trans HK3.out.1 (by decide)) w2
                            go_simp
                            try dsimp only
                            obtain ⟨w3, hw1⟩ : ∃ wq, (w2.alloc ob).drew = wq := ⟨_, rfl⟩
                            obtain ⟨gk, hgk⟩ : ∃ gq, w2.heap.size = gq := ⟨_, rfl⟩
                            have hrk3 : Rb w3 w3.heap.size (some ⟨gk, 0, none⟩) key.data.toList := by rw [← hw1, ← hgk]; exact hRB
                            have hbel : Below w2.heap.size w2 w3 := by rw [← hw1]; exact ((Below.refl _ _).alloc (Nat.le_refl _) _).drew
                            have hx3 : Below wp18.heap.size wp18 w3 := hx2.trans (hbel.mono hx2.size)
                            have hbb3 := hbb2.below hbel hbb2.lt
                            have hbw3 := hbw2.below hbel hbw2.lt
                            try rw [hw1]
                            try rw [hgk]
                            clear hcb hRB hw1 hgk hbel
                            refine hK.out _ _ hx3 (fun hHeld => ?_)
                            try simp only [Act.put, List.setIfInBounds_toArray, List.set_cons_zero, List.set_cons_succ, List.getElem_toArray, List.getElem_cons_succ, List.getElem_cons_zero]
                            refine wpAnyH_ready (rs := [13]) (by kernel_rfl) (by simp) (AllReadyH.cons rfl (fun K hK => ?_) AllReadyH.nil)
                            rw [if_pos (by kernel_rfl)]
                            go_simp
                            refine (rproof_ok (some ⟨gk, 0, none⟩) key.size cap key.data.toList (some ⟨gw, 0, none⟩) 2 2 [⟨#[b2]⟩, D] w3 rfl hcap1 hcap2 (Nat.le_trans HK3.out.1 (by decide)) hrk3 (fun h => by cases h) rfl (by omega) (two_bkZ hbw3) (HSMZ.out _ (by show 1 ≤ 1000; decide)) (HTX.out _)).mono ?_
                            rintro e wp20 ⟨rfl, hbp⟩
                            try dsimp only
                            have hxp : Below wp18.heap.size wp18 wp20 := hx3.trans (hbp.mono hx3.size)
                            refine hK.out _ _ hxp (fun hHeld => ?_)
                            try simp only [Act.put, List.setIfInBounds_toArray, List.set_cons_zero, List.set_cons_succ, List.getElem_toArray, List.getElem_cons_succ, List.getElem_cons_zero]
                            refine wpAnyH_ready (rs := [14]) (by kernel_rfl) (by simp) (AllReadyH.cons rfl (fun K hK => ?_) AllReadyH.nil)
                            rw [if_pos (by kernel_rfl)]
                            go_simp
                            refine hK.out _ _ hxp (fun hHeld => ?_)
                            try simp only [Act.put, List.setIfInBounds_toArray, List.set_cons_zero, List.set_cons_succ, List.getElem_toArray, List.getElem_cons_succ, List.getElem_cons_zero]
                            refine wpAnyH_done (by kernel_rfl) ?_ _
                            have HXP := Lib.hid hxp
                            clear hHeld hbp hxp hcap1 hcap2 hx0 hx1 hx2 hx3
                            obtain ⟨PG, hPF⟩ : ∃ PQ : ByteArray, (⟨(proofB key.data.toList [⟨#[b2]⟩, D]).toArray⟩ : ByteArray) = PQ := ⟨_, rfl⟩
                            rw [hPF]
                            have HZ6 := Lib.hid (HZ5.out.on HXP.out)
                            have hTP : PG.extract 0 32 = T := by rw [← hPF, ← HTT.out, ← HCD.out]; exact (tix_of key d (sr : Int) _ HLIT.out).symm
                            have hpf : PG.size = 64 := by rw [← hPF, ← HCD.out]; exact prf_lit key d (sr : Int) _ HLIT.out (by show sr ≤ _; omega)
                            have hpi : (32 : Int) ≤ (PG.size : Int) := by omega
                            clear hPF
                            go_wp2_with (go_at_call 20; (with_reducible refine (z_many HZ6.out m HLM.out).mono ?_); rintro e u9 ⟨rfl, h1⟩; have HZ9 := Lib.hid (HZ6.out.on h1); clear h1)
                            go_ret
                            exact ⟨rfl, HZ9.out.l⟩
                · rw [if_pos (by kernel_rfl)]
                  go_simp
                  try dsimp only
                  obtain ⟨w2, hw5⟩ : ∃ wq, w1.alloc (.cells #[.string ⟨#[b1, b2]⟩, .string D] 9) = wq := ⟨_, rfl⟩
                  obtain ⟨gw, hgw⟩ : ∃ gq, w1.heap.size = gq := ⟨_, rfl⟩
                  have hbw2 : Bk w2 gw 9 (#[.string ⟨#[b1, b2]⟩, .string D]) := by rw [← hw5, ← hgw]; exact Bk.new _ _ _
                  have hbel : Below w1.heap.size w1 w2 := by rw [← hw5]; exact (Below.refl _ _).alloc (Nat.le_refl _) _
                  have hx2 : Below u4.heap.size u4 w2 := hx1.trans (hbel.mono hx1.size)
                  have hbb2 := hbb1.below hbel hbb1.lt
                  try rw [hw5]
                  try rw [hgw]
                  clear hw5 hgw hbel
                  refine hK.out _ _ hx2 (fun hHeld => ?_)
                  try simp only [Act.put, List.setIfInBounds_toArray, List.set_cons_zero, List.set_cons_succ, List.getElem_toArray, List.getElem_cons_succ, List.getElem_cons_zero]
                  refine wpAnyH_ready (rs := [1]) (by kernel_rfl) (by simp) (AllReadyH.cons rfl (fun K hK => ?_) (AllReadyH.nil))
                  · rw [if_pos (by kernel_rfl)]
                    obtain ⟨cap, ob, hcb, hcap1, hcap2, hRB⟩ := conv_back key (Nat.le_trans HK3.out.1 (by decide)) w2
                    go_simp
                    try dsimp only
                    obtain ⟨w3, hw1⟩ : ∃ wq, (w2.alloc ob).drew = wq := ⟨_, rfl⟩
                    obtain ⟨gk, hgk⟩ : ∃ gq, w2.heap.size = gq := ⟨_, rfl⟩
                    have hrk3 : Rb w3 w3.heap.size (some ⟨gk, 0, none⟩) key.data.toList := by rw [← hw1, ← hgk]; exact hRB
                    have hbel : Below w2.heap.size w2 w3 := by rw [← hw1]; exact ((Below.refl _ _).alloc (Nat.le_refl _) _).drew
                    have hx3 : Below u4.heap.size u4 w3 := hx2.trans (hbel.mono hx2.size)
                    have hbb3 := hbb2.below hbel hbb2.lt
                    have hbw3 := hbw2.below hbel hbw2.lt
                    try rw [hw1]
                    try rw [hgk]
                    clear hcb hRB hw1 hgk hbel
                    refine hK.out _ _ hx3 (fun hHeld => ?_)
                    try simp only [Act.put, List.setIfInBounds_toArray, List.set_cons_zero, List.set_cons_succ, List.getElem_toArray, List.getElem_cons_succ, List.getElem_cons_zero]
                    refine wpAnyH_ready (rs := [18]) (by kernel_rfl) (by simp) (AllReadyH.cons rfl (fun K hK => ?_) AllReadyH.nil)
                    rw [if_pos (by kernel_rfl)]
                    go_simp
                    refine (rproof_ok (some ⟨gk, 0, none⟩) key.size cap key.data.toList (some ⟨gw, 0, none⟩) 2 2 [⟨#[b1, b2]⟩, D] w3 rfl hcap1 hcap2 (Nat.le_trans HK3.out.1 (by decide)) hrk3 (fun h => by cases h) rfl (by omega) (two_bkZ hbw3) (HSMZ.out _ (by show 2 ≤ 1000; decide)) (HTX.out _)).mono ?_
                    rintro e wp18 ⟨rfl, hbp⟩
                    try dsimp only
                    have hxp : Below u4.heap.size u4 wp18 := hx3.trans (hbp.mono hx3.size)
                    refine hK.out _ _ hxp (fun hHeld => ?_)
                    try simp only [Act.put, List.setIfInBounds_toArray, List.set_cons_zero, List.set_cons_succ, List.getElem_toArray, List.getElem_cons_succ, List.getElem_cons_zero]
                    refine wpAnyH_ready (rs := [19]) (by kernel_rfl) (by simp) (AllReadyH.cons rfl (fun K hK => ?_) AllReadyH.nil)
                    rw [if_pos (by kernel_rfl)]
                    go_simp
                    refine hK.out _ _ hxp (fun hHeld => ?_)
                    try simp only [Act.put, List.setIfInBounds_toArray, List.set_cons_zero, List.set_cons_succ, List.getElem_toArray, List.getElem_cons_succ, List.getElem_cons_zero]
                    refine wpAnyH_done (by kernel_rfl) ?_ _
                    have HXP := Lib.hid hxp
                    clear hHeld hbp hxp hcap1 hcap2 hx0 hx1 hx2 hx3
                    obtain ⟨PF, hPF⟩ : ∃ PQ : ByteArray, (⟨(proofB key.data.toList [⟨#[b1, b2]⟩, D]).toArray⟩ : ByteArray) = PQ := ⟨_, rfl⟩
                    rw [hPF]
                    clear hPF
                    have HZ5 := Lib.hid (HZ4.out.on HXP.out)
                    clear HXP HZ4
                    go_upto_region 20 with fail
                    try simp only [List.cons_append, List.nil_append]
                    refine wp_region_held_drew (S := fun wz => Below wp18.heap.size wp18 wz) (by kernel_rfl) ((Below.refl _ _).drew) (fun hHeld => ?_)
                    refine take_at (some 118) (i := 0) (v := ?_) rfl rfl (by kernel_rfl) (by kernel_rfl) (by kernel_rfl) (fun _ _ _ h => h) (Or.inl ⟨by kernel_rfl, ?_⟩) hHeld ?_
                    rotate_left
                    · intro wz hSw; go_simp; try (with_reducible rfl)
                    try simp only [Act.put, List.setIfInBounds_toArray, List.set_cons_zero, List.set_cons_succ, List.getElem_toArray, List.getElem_cons_succ, List.getElem_cons_zero]
                    refine take_at (some 120) (i := 2) (v := ?_) rfl rfl (by kernel_rfl) (by kernel_rfl) (by kernel_rfl) (fun _ _ _ h => h) (Or.inl ⟨by kernel_rfl, ?_⟩) hHeld ?_
                    rotate_left
                    · intro wz hSw; go_simp; try (with_reducible rfl)
                    try simp only [Act.put, List.setIfInBounds_toArray, List.set_cons_zero, List.set_cons_succ, List.getElem_toArray, List.getElem_cons_succ, List.getElem_cons_zero]
                    refine take_at (some 121) (i := 3) (v := ?_) rfl rfl (by kernel_rfl) (by kernel_rfl) (by kernel_rfl) (fun _ _ _ h => h) (Or.inl ⟨by kernel_rfl, ?_⟩) hHeld ?_
                    rotate_left
                    · intro wz hSw; go_simp; try (with_reducible rfl)
                    try simp only [Act.put, List.setIfInBounds_toArray, List.set_cons_zero, List.set_cons_succ, List.getElem_toArray, List.getElem_cons_succ, List.getElem_cons_zero]
                    refine take_at (some 122) (i := 4) (v := ?_) rfl rfl (by kernel_rfl) (by kernel_rfl) (by kernel_rfl) (fun _ _ _ h => h) (Or.inl ⟨by kernel_rfl, ?_⟩) hHeld ?_
                    rotate_left
                    · intro wz hSw; go_simp; try (with_reducible rfl)
                    try simp only [Act.put, List.setIfInBounds_toArray, List.set_cons_zero, List.set_cons_succ, List.getElem_toArray, List.getElem_cons_succ, List.getElem_cons_zero]
                    refine take_at (some 125) (i := 7) (v := ?_) rfl rfl (by kernel_rfl) (by kernel_rfl) (by kernel_rfl) (fun _ _ _ h => h) (Or.inl ⟨by kernel_rfl, ?_⟩) hHeld ?_
                    rotate_left
                    · intro wz hSw; go_simp; try (with_reducible rfl)
                    try simp only [Act.put, List.setIfInBounds_toArray, List.set_cons_zero, List.set_cons_succ, List.getElem_toArray, List.getElem_cons_succ, List.getElem_cons_zero]
                    refine take_at (some 126) (i := 8) (v := ?_) rfl rfl (by kernel_rfl) (by kernel_rfl) (by kernel_rfl) (fun _ _ _ h => h) (Or.inl ⟨by kernel_rfl, ?_⟩) hHeld ?_
                    rotate_left
                    · intro wz hSw; go_simp; try (with_reducible rfl)
                    try simp only [Act.put, List.setIfInBounds_toArray, List.set_cons_zero, List.set_cons_succ, List.getElem_toArray, List.getElem_cons_succ, List.getElem_cons_zero]
                    refine take_at (some 127) (i := 9) (v := ?_) rfl rfl (by kernel_rfl) (by kernel_rfl) (by kernel_rfl) (fun _ _ _ h => h) (Or.inl ⟨by kernel_rfl, ?_⟩) hHeld ?_
                    rotate_left
                    · intro wz hSw; go_simp; try (with_reducible rfl)
                    try simp only [Act.put, List.setIfInBounds_toArray, List.set_cons_zero, List.set_cons_succ, List.getElem_toArray, List.getElem_cons_succ, List.getElem_cons_zero]
                    refine take_at (some 128) (i := 10) rfl rfl (by kernel_rfl) (by kernel_rfl) (by kernel_rfl) (fun _ _ _ h => h) (yieldsIf_min (by kernel_rfl) (.tmp 127) (.const (.int .i64 255)) 3 rfl _ _ _ rfl rfl HMIN.out) hHeld ?_
                    try simp only [Act.put, List.setIfInBounds_toArray, List.set_cons_zero, List.set_cons_succ, List.getElem_toArray, List.getElem_cons_succ, List.getElem_cons_zero]
                    refine take_at (some 129) (i := 11) (v := ?_) rfl rfl (by kernel_rfl) (by kernel_rfl) (by kernel_rfl) (fun _ _ _ h => h) (Or.inl ⟨by kernel_rfl, ?_⟩) hHeld ?_
                    rotate_left
                    · intro wz hSw; go_simp; try (with_reducible rfl)
                    try simp only [Act.put, List.setIfInBounds_toArray, List.set_cons_zero, List.set_cons_succ, List.getElem_toArray, List.getElem_cons_succ, List.getElem_cons_zero]
                    try rw [HD.out]
                    obtain ⟨w0, hwd⟩ : ∃ wq, wp18.drew = wq := ⟨_, rfl⟩
                    have hx0 : Below wp18.heap.size wp18 w0 := by rw [← hwd]; exact (Below.refl _ _).drew
                    try rw [hwd]
                    clear hwd
                    refine wpAnyH_ready (rs := [1, 5]) (by kernel_rfl) (by simp) (AllReadyH.cons rfl (fun K hK => ?_) (AllReadyH.cons rfl (fun K hK => ?_) (AllReadyH.nil)))
                    · rw [if_pos (by kernel_rfl)]
                      obtain ⟨cap, ob, hcb, hcap1, hcap2, hRB⟩ := conv_back key (Nat.le_trans HK3.out.1 (by decide)) w0
                      go_simp
                      try dsimp only
                      obtain ⟨w1, hw1⟩ : ∃ wq, (w0.alloc ob).drew = wq := ⟨_, rfl⟩
                      obtain ⟨gk, hgk⟩ : ∃ gq, w0.heap.size = gq := ⟨_, rfl⟩
                      have hrk1 : Rb w1 w1.heap.size (some ⟨gk, 0, none⟩) key.data.toList := by rw [← hw1, ← hgk]; exact hRB
                      have hbel : Below w0.heap.size w0 w1 := by rw [← hw1]; exact ((Below.refl _ _).alloc (Nat.le_refl _) _).drew
                      have hx1 : Below wp18.heap.size wp18 w1 := hx0.trans (hbel.mono hx0.size)
                      try rw [hw1]
                      try rw [hgk]
                      clear hcb hRB hw1 hgk hbel
                      refine hK.out _ _ hx1 (fun hHeld => ?_)
                      try simp only [Act.put, List.setIfInBounds_toArray, List.set_cons_zero, List.set_cons_succ, List.getElem_toArray, List.getElem_cons_succ, List.getElem_cons_zero]
                      refine wpAnyH_ready (rs := [5]) (by kernel_rfl) (by simp) (AllReadyH.cons rfl (fun K hK => ?_) (AllReadyH.nil))
                      · rw [if_pos (by kernel_rfl)]
                        go_simp
                        try dsimp only
                        obtain ⟨w2, hw5⟩ : ∃ wq, w1.alloc (.cells #[.int .u8 (b2.toNat : Int)] 5) = wq := ⟨_, rfl⟩
                        obtain ⟨gb, hgw⟩ : ∃ gq, w1.heap.size = gq := ⟨_, rfl⟩
                        have hbb2 : Bk w2 gb 5 (bcells [b2]) := by rw [← hw5, ← hgw]; exact Bk.new _ _ _
                        have hbel : Below w1.heap.size w1 w2 := by rw [← hw5]; exact (Below.refl _ _).alloc (Nat.le_refl _) _
                        have hx2 : Below wp18.heap.size wp18 w2 := hx1.trans (hbel.mono hx1.size)
                        have hrk2 := (hrk1.below hbel (Nat.le_refl _)).more hbel.size
                        try rw [hw5]
                        try rw [hgw]
                        clear hw5 hgw hbel
                        refine hK.out _ _ hx2 (fun hHeld => ?_)
                        try simp only [Act.put, List.setIfInBounds_toArray, List.set_cons_zero, List.set_cons_succ, List.getElem_toArray, List.getElem_cons_succ, List.getElem_cons_zero]
                        refine wpAnyH_ready (rs := [6]) (by kernel_rfl) (by simp) (AllReadyH.cons rfl (fun K hK => ?_) (AllReadyH.nil))
                        · rw [if_pos (by kernel_rfl)]
                          have hcv := str_of (P := Tryd.prog) (B := w2.heap.size) (A := some ⟨gb, 0, none⟩) (l := [b2]) ((Rb.bk hbb2).more hbb2.lt) 50 5 9 Tryd.underlying50 Tryd.underlying5 Tryd.underlying9 1 1 rfl
                          go_simp
                          clear hcv
                          refine hK.out _ _ hx2 (fun hHeld => ?_)
                          try simp only [Act.put, List.setIfInBounds_toArray, List.set_cons_zero, List.set_cons_succ, List.getElem_toArray, List.getElem_cons_succ, List.getElem_cons_zero]
                          refine wpAnyH_ready (rs := [12]) (by kernel_rfl) (by simp) (AllReadyH.cons rfl (fun K hK => ?_) (AllReadyH.nil))
                          · rw [if_pos (by kernel_rfl)]
                            go_simp
                            try dsimp only
                            obtain ⟨w3, hw5⟩ : ∃ wq, w2.alloc (.cells #[.string ⟨#[b2]⟩, .string D] 9) = wq := ⟨_, rfl⟩
                            obtain ⟨gw, hgw⟩ : ∃ gq, w2.heap.size = gq := ⟨_, rfl⟩
                            have hbw3 : Bk w3 gw 9 (#[.string ⟨#[b2]⟩, .string D]) := by rw [← hw5, ← hgw]; exact Bk.new _ _ _
                            have hbel : Below w2.heap.size w2 w3 := by rw [← hw5]; exact (Below.refl _ _).alloc (Nat.le_refl _) _
                            have hx3 : Below wp18.heap.size wp18 w3 := hx2.trans (hbel.mono hx2.size)
                            have hrk3 := (hrk2.below hbel (Nat.le_refl _)).more hbel.size
                            have hbb3 := hbb2.below hbel hbb2.lt
                            try rw [hw5]
                            try rw [hgw]
                            clear hw5 hgw hbel
                            refine hK.out _ _ hx3 (fun hHeld => ?_)
                            try simp only [Act.put, List.setIfInBounds_toArray, List.set_cons_zero, List.set_cons_succ, List.getElem_toArray, List.getElem_cons_succ, List.getElem_cons_zero]
                            refine wpAnyH_ready (rs := [13]) (by kernel_rfl) (by simp) (AllReadyH.cons rfl (fun K hK => ?_) AllReadyH.nil)
                            rw [if_pos (by kernel_rfl)]
                            go_simp
                            refine (rproof_ok (some ⟨gk, 0, none⟩) key.size cap key.data.toList (some ⟨gw, 0, none⟩) 2 2 [⟨#[b2]⟩, D] w3 rfl hcap1 hcap2 (Nat.le_trans HK3.out.1 (by decide)) hrk3 (fun h => by cases h) rfl (by omega) (two_bkZ hbw3) (HSMZ.out _ (by show 1 ≤ 1000; decide)) (HTX.out _)).mono ?_
                            rintro e wp20 ⟨rfl, hbp⟩
                            try dsimp only
                            have hxp : Below wp18.heap.size wp18 wp20 := hx3.trans (hbp.mono hx3.size)
                            refine hK.out _ _ hxp (fun hHeld => ?_)
                            try simp only [Act.put, List.setIfInBounds_toArray, List.set_cons_zero, List.set_cons_succ, List.getElem_toArray, List.getElem_cons_succ, List.getElem_cons_zero]
                            refine wpAnyH_ready (rs := [14]) (by kernel_rfl) (by simp) (AllReadyH.cons rfl (fun K hK => ?_) AllReadyH.nil)
                            rw [if_pos (by kernel_rfl)]
                            go_simp
                            refine hK.out _ _ hxp (fun hHeld => ?_)
                            try simp only [Act.put, List.setIfInBounds_toArray, List.set_cons_zero, List.set_cons_succ, List.getElem_toArray, List.getElem_cons_succ, List.getElem_cons_zero]
                            refine wpAnyH_done (by kernel_rfl) ?_ _
                            have HXP := Lib.hid hxp
                            clear hHeld hbp hxp hcap1 hcap2 hx0 hx1 hx2 hx3
                            obtain ⟨PG, hPF⟩ : ∃ PQ : ByteArray, (⟨(proofB key.data.toList [⟨#[b2]⟩, D]).toArray⟩ : ByteArray) = PQ := ⟨_, rfl⟩
                            rw [hPF]
                            have HZ6 := Lib.hid (HZ5.out.on HXP.out)
                            have hTP : PG.extract 0 32 = T := by rw [← hPF, ← HTT.out, ← HCD.out]; exact (tix_of key d (sr : Int) _ HLIT.out).symm
                            have hpf : PG.size = 64 := by rw [← hPF, ← HCD.out]; exact prf_lit key d (sr : Int) _ HLIT.out (by show sr ≤ _; omega)
                            have hpi : (32 : Int) ≤ (PG.size : Int) := by omega
                            clear hPF
                            go_wp2_with (go_at_call 20; (with_reducible refine (z_many HZ6.out m HLM.out).mono ?_); rintro e u9 ⟨rfl, h1⟩; have HZ9 := Lib.hid (HZ6.out.on h1); clear h1)
                            go_ret
                            exact ⟨rfl, HZ9.out.l⟩
                    · rw [if_pos (by kernel_rfl)]
                      go_simp
                      try dsimp only
                      obtain ⟨w1, hw5⟩ : ∃ wq, w0.alloc (.cells #[.int .u8 (b2.toNat : Int)] 5) = wq := ⟨_, rfl⟩
                      obtain ⟨gb, hgw⟩ : ∃ gq, w0.heap.size = gq := ⟨_, rfl⟩
                      have hbb1 : Bk w1 gb 5 (bcells [b2]) := by rw [← hw5, ← hgw]; exact Bk.new _ _ _
                      have hbel : Below w0.heap.size w0 w1 := by rw [← hw5]; exact (Below.refl _ _).alloc (Nat.le_refl _) _
                      have hx1 : Below wp18.heap.size wp18 w1 := hx0.trans (hbel.mono hx0.size)
                      try rw [hw5]
                      try rw [hgw]
                      clear hw5 hgw hbel
                      refine hK.out _ _ hx1 (fun hHeld => ?_)
                      try simp only [Act.put, List.setIfInBounds_toArray, List.set_cons_zero, List.set_cons_succ, List.getElem_toArray, List.getElem_cons_succ, List.getElem_cons_zero]
                      refine wpAnyH_ready (rs := [1, 6]) (by kernel_rfl) (by simp) (AllReadyH.cons rfl (fun K hK => ?_) (AllReadyH.cons rfl (fun K hK => ?_) (AllReadyH.nil)))
                      · rw [if_pos (by kernel_rfl)]
                        obtain ⟨cap, ob, hcb, hcap1, hcap2, hRB⟩ := conv_back key (Nat.le_trans HK3.out.1 (by decide)) w1
                        go_simp
                        try dsimp only
                        obtain ⟨w2, hw1⟩ : ∃ wq, (w1.alloc ob).drew = wq := ⟨_, rfl⟩
                        obtain ⟨gk, hgk⟩ : ∃ gq, w1.heap.size = gq := ⟨_, rfl⟩
                        have hrk2 : Rb w2 w2.heap.size (some ⟨gk, 0, none⟩) key.data.toList := by rw [← hw1, ← hgk]; exact hRB
                        have hbel : Below w1.heap.size w1 w2 := by rw [← hw1]; exact ((Below.refl _ _).alloc (Nat.le_refl _) _).drew
                        have hx2 : Below wp18.heap.size wp18 w2 := hx1.trans (hbel.mono hx1.size)
                        have hbb2 := hbb1.below hbel hbb1.lt
                        try rw [hw1]
                        try rw [hgk]
                        clear hcb hRB hw1 hgk hbel
                        refine hK.out _ _ hx2 (fun hHeld => ?_)
                        try simp only [Act.put, List.setIfInBounds_toArray, List.set_cons_zero, List.set_cons_succ, List.getElem_toArray, List.getElem_cons_succ, List.getElem_cons_zero]
                        refine wpAnyH_ready (rs := [6]) (by kernel_rfl) (by simp) (AllReadyH.cons rfl (fun K hK => ?_) (AllReadyH.nil))
                        · rw [if_pos (by kernel_rfl)]
                          have hcv := str_of (P := Tryd.prog) (B := w2.heap.size) (A := some ⟨gb, 0, none⟩) (l := [b2]) ((Rb.bk hbb2).more hbb2.lt) 50 5 9 Tryd.underlying50 Tryd.underlying5 Tryd.underlying9 1 1 rfl
                          go_simp
                          clear hcv
                          refine hK.out _ _ hx2 (fun hHeld => ?_)
                          try simp only [Act.put, List.setIfInBounds_toArray, List.set_cons_zero, List.set_cons_succ, List.getElem_toArray, List.getElem_cons_succ, List.getElem_cons_zero]
                          refine wpAnyH_ready (rs := [12]) (by kernel_rfl) (by simp) (AllReadyH.cons rfl (fun K hK => ?_) (AllReadyH.nil))
                          · rw [if_pos (by kernel_rfl)]
                            go_simp
                            try dsimp only
                            obtain ⟨w3, hw5⟩ : ∃ wq, w2.alloc (.cells #[.string ⟨#[b2]⟩, .string D] 9) = wq := ⟨_, rfl⟩
                            obtain ⟨gw, hgw⟩ : ∃ gq, w2.heap.size = gq := ⟨_, rfl⟩
                            have hbw3 : Bk w3 gw 9 (#[.string ⟨#[b2]⟩, .string D]) := by rw [← hw5, ← hgw]; exact Bk.new _ _ _
                            have hbel : Below w2.heap.size w2 w3 := by rw [← hw5]; exact (Below.refl _ _).alloc (Nat.le_refl _) _
                            have hx3 : Below wp18.heap.size wp18 w3 := hx2.trans (hbel.mono hx2.size)
                            have hrk3 := (hrk2.below hbel (Nat.le_refl _)).more hbel.size
                            have hbb3 := hbb2.below hbel hbb2.lt
                            try rw [hw5]
                            try rw [hgw]
                            clear hw5 hgw hbel
                            refine hK.out _ _ hx3 (fun hHeld => ?_)
                            try simp only [Act.put, List.setIfInBounds_toArray, List.set_cons_zero, List.set_cons_succ, List.getElem_toArray, List.getElem_cons_succ, List.getElem_cons_zero]
                            refine wpAnyH_ready (rs := [13]) (by kernel_rfl) (by simp) (AllReadyH.cons rfl (fun K hK => ?_) AllReadyH.nil)
                            rw [if_pos (by kernel_rfl)]
                            go_simp
                            refine (rproof_ok (some ⟨gk, 0, none⟩) key.size cap key.data.toList (some ⟨gw, 0, none⟩) 2 2 [⟨#[b2]⟩, D] w3 rfl hcap1 hcap2 (Nat.le_trans HK3.out.1 (by decide)) hrk3 (fun h => by cases h) rfl (by omega) (two_bkZ hbw3) (HSMZ.out _ (by show 1 ≤ 1000; decide)) (HTX.out _)).mono ?_
                            rintro e wp20 ⟨rfl, hbp⟩
                            try dsimp only
                            have hxp : Below wp18.heap.size wp18 wp20 := hx3.trans (hbp.mono hx3.size)
                            refine hK.out _ _ hxp (fun hHeld => ?_)
                            try simp only [Act.put, List.setIfInBounds_toArray, List.set_cons_zero, List.set_cons_succ, List.getElem_toArray, List.getElem_cons_succ, List.getElem_cons_zero]
                            refine wpAnyH_ready (rs := [14]) (by kernel_rfl) (by simp) (AllReadyH.cons rfl (fun K hK => ?_) AllReadyH.nil)
                            rw [if_pos (by kernel_rfl)]
                            go_simp
                            refine hK.out _ _ hxp (fun hHeld => ?_)
                            try simp only [Act.put, List.setIfInBounds_toArray, List.set_cons_zero, List.set_cons_succ, List.getElem_toArray, List.getElem_cons_succ, List.getElem_cons_zero]
                            refine wpAnyH_done (by kernel_rfl) ?_ _
                            have HXP := Lib.hid hxp
                            clear hHeld hbp hxp hcap1 hcap2 hx0 hx1 hx2 hx3
                            obtain ⟨PG, hPF⟩ : ∃ PQ : ByteArray, (⟨(proofB key.data.toList [⟨#[b2]⟩, D]).toArray⟩ : ByteArray) = PQ := ⟨_, rfl⟩
                            rw [hPF]
                            have HZ6 := Lib.hid (HZ5.out.on HXP.out)
                            have hTP : PG.extract 0 32 = T := by rw [← hPF, ← HTT.out, ← HCD.out]; exact (tix_of key d (sr : Int) _ HLIT.out).symm
                            have hpf : PG.size = 64 := by rw [← hPF, ← HCD.out]; exact prf_lit key d (sr : Int) _ HLIT.out (by show sr ≤ _; omega)
                            have hpi : (32 : Int) ≤ (PG.size : Int) := by omega
                            clear hPF
                            go_wp2_with (go_at_call 20; (with_reducible refine (z_many HZ6.out m HLM.out).mono ?_); rintro e u9 ⟨rfl, h1⟩; have HZ9 := Lib.hid (HZ6.out.on h1); clear h1)
                            go_ret
                            exact ⟨rfl, HZ9.out.l⟩
                      · rw [if_pos (by kernel_rfl)]
                        have hcv := str_of (P := Tryd.prog) (B := w1.heap.size) (A := some ⟨gb, 0, none⟩) (l := [b2]) ((Rb.bk hbb1).more hbb1.lt) 50 5 9 Tryd.underlying50 Tryd.underlying5 Tryd.underlying9 1 1 rfl
                        go_simp
                        clear hcv
                        refine hK.out _ _ hx1 (fun hHeld => ?_)
                        try simp only [Act.put, List.setIfInBounds_toArray, List.set_cons_zero, List.set_cons_succ, List.getElem_toArray, List.getElem_cons_succ, List.getElem_cons_zero]
                        refine wpAnyH_ready (rs := [1, 12]) (by kernel_rfl) (by simp) (AllReadyH.cons rfl (fun K hK => ?_) (AllReadyH.cons rfl (fun K hK => ?_) (AllReadyH.nil)))
                        · rw [if_pos (by kernel_rfl)]
                          obtain ⟨cap, ob, hcb, hcap1, hcap2, hRB⟩ := conv_back key (Nat.le_trans HK3.out.1 (by decide)) w1
                          go_simp
                          try dsimp only
                          obtain ⟨w2, hw1⟩ : ∃ wq, (w1.alloc ob).drew = wq := ⟨_, rfl⟩
                          obtain ⟨gk, hgk⟩ : ∃ gq, w1.heap.size = gq := ⟨_, rfl⟩
                          have hrk2 : Rb w2 w2.heap.size (some ⟨gk, 0, none⟩) key.data.toList := by rw [← hw1, ← hgk]; exact hRB
                          have hbel : Below w1.heap.size w1 w2 := by rw [← hw1]; exact ((Below.refl _ _).alloc (Nat.le_refl _) _).drew
                          have hx2 : Below wp18.heap.size wp18 w2 := hx1.trans (hbel.mono hx1.size)
                          have hbb2 := hbb1.below hbel hbb1.lt
                          try rw [hw1]
                          try rw [hgk]
                          clear hcb hRB hw1 hgk hbel
                          refine hK.out _ _ hx2 (fun hHeld => ?_)
                          try simp only [Act.put, List.setIfInBounds_toArray, List.set_cons_zero, List.set_cons_succ, List.getElem_toArray, List.getElem_cons_succ, List.getElem_cons_zero]
                          refine wpAnyH_ready (rs := [12]) (by kernel_rfl) (by simp) (AllReadyH.cons rfl (fun K hK => ?_) (AllReadyH.nil))
                          · rw [if_pos (by kernel_rfl)]
                            go_simp
                            try dsimp only
                            obtain ⟨w3, hw5⟩ : ∃ wq, w2.alloc (.cells #[.string ⟨#[b2]⟩, .string D] 9) = wq := ⟨_, rfl⟩
                            obtain ⟨gw, hgw⟩ : ∃ gq, w2.heap.size = gq := ⟨_, rfl⟩
                            have hbw3 : Bk w3 gw 9 (#[.string ⟨#[b2]⟩, .string D]) := by rw [← hw5, ← hgw]; exact Bk.new _ _ _
                            have hbel : Below w2.heap.size w2 w3 := by rw [← hw5]; exact (Below.refl _ _).alloc (Nat.le_refl _) _
                            have hx3 : Below wp18.heap.size wp18 w3 := hx2.trans (hbel.mono hx2.size)
                            have hrk3 := (hrk2.below hbel (Nat.le_refl _)).more hbel.size
                            have hbb3 := hbb2.below hbel hbb2.lt
                            try rw [hw5]
                            try rw [hgw]
                            clear hw5 hgw hbel
                            refine hK.out _ _ hx3 (fun hHeld => ?_)
                            try simp only [Act.put, List.setIfInBounds_toArray, List.set_cons_zero, List.set_cons_succ, List.getElem_toArray, List.getElem_cons_succ, List.getElem_cons_zero]
                            refine wpAnyH_ready (rs := [13]) (by kernel_rfl) (by simp) (AllReadyH.cons rfl (fun K hK => ?_) AllReadyH.nil)
                            rw [if_pos (by kernel_rfl)]
                            go_simp
                            refine (rproof_ok (some ⟨gk, 0, none⟩) key.size cap key.data.toList (some ⟨gw, 0, none⟩) 2 2 [⟨#[b2]⟩, D] w3 rfl hcap1 hcap2 (Nat.le_trans HK3.out.1 (by decide)) hrk3 (fun h => by cases h) rfl (by omega) (two_bkZ hbw3) (HSMZ.out _ (by show 1 ≤ 1000; decide)) (HTX.out _)).mono ?_
                            rintro e wp20 ⟨rfl, hbp⟩
                            try dsimp only
                            have hxp : Below wp18.heap.size wp18 wp20 := hx3.trans (hbp.mono hx3.size)
                            refine hK.out _ _ hxp (fun hHeld => ?_)
                            try simp only [Act.put, List.setIfInBounds_toArray, List.set_cons_zero, List.set_cons_succ, List.getElem_toArray, List.getElem_cons_succ, List.getElem_cons_zero]
                            refine wpAnyH_ready (rs := [14]) (by kernel_rfl) (by simp) (AllReadyH.cons rfl (fun K hK => ?_) AllReadyH.nil)
                            rw [if_pos (by kernel_rfl)]
                            go_simp
                            refine hK.out _ _ hxp (fun hHeld => ?_)
                            try simp only [Act.put, List.setIfInBounds_toArray, List.set_cons_zero, List.set_cons_succ, List.getElem_toArray, List.getElem_cons_succ, List.getElem_cons_zero]
                            refine wpAnyH_done (by kernel_rfl) ?_ _
                            have HXP := Lib.hid hxp
                            clear hHeld hbp hxp hcap1 hcap2 hx0 hx1 hx2 hx3
                            obtain ⟨PG, hPF⟩ : ∃ PQ : ByteArray, (⟨(proofB key.data.toList [⟨#[b2]⟩, D]).toArray⟩ : ByteArray) = PQ := ⟨_, rfl⟩
                            rw [hPF]
                            have HZ6 := Lib.hid (HZ5.out.on HXP.out)
                            have hTP : PG.extract 0 32 = T := by rw [← hPF, ← HTT.out, ← HCD.out]; exact (tix_of key d (sr : Int) _ HLIT.out).symm
                            have hpf : PG.size = 64 := by rw [← hPF, ← HCD.out]; exact prf_lit key d (sr : Int) _ HLIT.out (by show sr ≤ _; omega)
                            have hpi : (32 : Int) ≤ (PG.size : Int) := by omega
                            clear hPF
                            go_wp2_with (go_at_call 20; (with_reducible refine (z_many HZ6.out m HLM.out).mono ?_); rintro e u9 ⟨rfl, h1⟩; have HZ9 := Lib.hid (HZ6.out.on h1); clear h1)
                            go_ret
                            exact ⟨rfl, HZ9.out.l⟩
                        · rw [if_pos (by kernel_rfl)]
                          go_simp
                          try dsimp only
                          obtain ⟨w2, hw5⟩ : ∃ wq, w1.alloc (.cells #[.string ⟨#[b2]⟩, .string D] 9) = wq := ⟨_, rfl⟩
                          obtain ⟨gw, hgw⟩ : ∃ gq, w1.heap.size = gq := ⟨_, rfl⟩
                          have hbw2 : Bk w2 gw 9 (#[.string ⟨#[b2]⟩, .string D]) := by rw [← hw5, ← hgw]; exact Bk.new _ _ _
                          have hbel : Below w1.heap.size w1 w2 := by rw [← hw5]; exact (Below.refl _ _).alloc (Nat.le_refl _) _
                          have hx2 : Below wp18.heap.size wp18 w2 := hx1.trans (hbel.mono hx1.size)
                          have hbb2 := hbb1.below hbel hbb1.lt
                          try rw [hw5]
                          try rw [hgw]
                          clear hw5 hgw hbel
                          refine hK.out _ _ hx2 (fun hHeld => ?_)
                          try simp only [Act.put, List.setIfInBounds_toArray, List.set_cons_zero, List.set_cons_succ, List.getElem_toArray, List.getElem_cons_succ, List.getElem_cons_zero]
                          refine wpAnyH_ready (rs := [1]) (by kernel_rfl) (by simp) (AllReadyH.cons rfl (fun K hK => ?_) (AllReadyH.nil))
                          · rw [if_pos (by kernel_rfl)]
                            obtain ⟨cap, ob, hcb, hcap1, hcap2, hRB⟩ := conv_back key (Nat.le_trans HK3.out.1 (by decide)) w2
                            go_simp
                            try dsimp only
                            obtain ⟨w3, hw1⟩ : ∃ wq, (w2.alloc ob).drew = wq := ⟨_, rfl⟩
                            obtain ⟨gk, hgk⟩ : ∃ gq, w2.heap.size = gq := ⟨_, rfl⟩
                            have hrk3 : Rb w3 w3.heap.size (some ⟨gk, 0, none⟩) key.data.toList := by rw [← hw1, ← hgk]; exact hRB
                            have hbel : Below w2.heap.size w2 w3 := by rw [← hw1]; exact ((Below.refl _ _).alloc (Nat.le_refl _) _).drew
                            have hx3 : Below wp18.heap.size wp18 w3 := hx2.trans (hbel.mono hx2.size)
                            have hbb3 := hbb2.below hbel hbb2.lt
                            have hbw3 := hbw2.below hbel hbw2.lt
                            try rw [hw1]
                            try rw [hgk]
                            clear hcb hRB hw1 hgk hbel
                            refine hK.out _ _ hx3 (fun hHeld => ?_)
                            try simp only [Act.put, List.setIfInBounds_toArray, List.set_cons_zero, List.set_cons_succ, List.getElem_toArray, List.getElem_cons_succ, List.getElem_cons_zero]
                            refine wpAnyH_ready (rs := [13]) (by kernel_rfl) (by simp) (AllReadyH.cons rfl (fun K hK => ?_) AllReadyH.nil)
                            rw [if_pos (by kernel_rfl)]
                            go_simp
                            refine (rproof_ok (some ⟨gk, 0, none⟩) key.size cap key.data.toList (some ⟨gw, 0, none⟩) 2 2 [⟨#[b2]⟩, D] w3 rfl hcap1 hcap2 (Nat.le_trans HK3.out.1 (by decide)) hrk3 (fun h => by cases h) rfl (by omega) (two_bkZ hbw3) (HSMZ.out _ (by show 1 ≤ 1000; decide)) (HTX.out _)).mono ?_
                            rintro e wp20 ⟨rfl, hbp⟩
                            try dsimp only
                            have hxp : Below wp18.heap.size wp18 wp20 := hx3.trans (hbp.mono hx3.size)
                            refine hK.out _ _ hxp (fun hHeld => ?_)
                            try simp only [Act.put, List.setIfInBounds_toArray, List.set_cons_zero, List.set_cons_succ, List.getElem_toArray, List.getElem_cons_succ, List.getElem_cons_zero]
                            refine wpAnyH_ready (rs := [14]) (by kernel_rfl) (by simp) (AllReadyH.cons rfl (fun K hK => ?_) AllReadyH.nil)
                            rw [if_pos (by kernel_rfl)]
                            go_simp
                            refine hK.out _ _ hxp (fun hHeld => ?_)
                            try simp only [Act.put, List.setIfInBounds_toArray, List.set_cons_zero, List.set_cons_succ, List.getElem_toArray, List.getElem_cons_succ, List.getElem_cons_zero]
                            refine wpAnyH_done (by kernel_rfl) ?_ _
                            have HXP := Lib.hid hxp
                            clear hHeld hbp hxp hcap1 hcap2 hx0 hx1 hx2 hx3
                            obtain ⟨PG, hPF⟩ : ∃ PQ : ByteArray, (⟨(proofB key.data.toList [⟨#[b2]⟩, D]).toArray⟩ : ByteArray) = PQ := ⟨_, rfl⟩
                            rw [hPF]
                            have HZ6 := Lib.hid (HZ5.out.on HXP.out)
                            have hTP : PG.extract 0 32 = T := by rw [← hPF, ← HTT.out, ← HCD.out]; exact (tix_of key d (sr : Int) _ HLIT.out).symm
                            have hpf : PG.size = 64 := by rw [← hPF, ← HCD.out]; exact prf_lit key d (sr : Int) _ HLIT.out (by show sr ≤ _; omega)
                            have hpi : (32 : Int) ≤ (PG.size : Int) := by omega
                            clear hPF
                            go_wp2_with (go_at_call 20; (with_reducible refine (z_many HZ6.out m HLM.out).mono ?_); rintro e u9 ⟨rfl, h1⟩; have HZ9 := Lib.hid (HZ6.out.on h1); clear h1)
                            go_ret
                            exact ⟨rfl, HZ9.out.l⟩
          · have h10b : ¬ (sr : Int) < 10 := by omega
            have h10c : decide ((sr : Int) < 10) = false := decide_eq_false h10b
            have HLIT := Lib.hid (show bs (decB (sr : Int).toNat) = ⟨#[b1, b2]⟩ by rw [Int.toNat_natCast, dec_two sr (by omega) (by omega), HB1.out.1, HB1.out.2])
            try simp only [List.cons_append, List.nil_append]
            refine wp_region_held_drew (S := fun wz => Below u4.heap.size u4 wz) (by kernel_rfl) ((Below.refl _ _).drew) (fun hHeld => ?_)
            refine take_at (some 97) (i := 0) (v := ?_) rfl rfl (by kernel_rfl) (by kernel_rfl) (by kernel_rfl) (fun _ _ _ h => h) (Or.inl ⟨by kernel_rfl, ?_⟩) hHeld ?_
            rotate_left
            · intro wz hSw; go_simp; try (with_reducible rfl)
            try simp only [Act.put, List.setIfInBounds_toArray, List.set_cons_zero, List.set_cons_succ, List.getElem_toArray, List.getElem_cons_succ, List.getElem_cons_zero]
            refine take_at (some 99) (i := 2) (v := ?_) rfl rfl (by kernel_rfl) (by kernel_rfl) (by kernel_rfl) (fun _ _ _ h => h) (Or.inl ⟨by kernel_rfl, ?_⟩) hHeld ?_
            rotate_left
            · intro wz hSw; go_simp; try (with_reducible rfl)
            try simp only [Act.put, List.setIfInBounds_toArray, List.set_cons_zero, List.set_cons_succ, List.getElem_toArray, List.getElem_cons_succ, List.getElem_cons_zero]
            refine take_at (some 100) (i := 3) (v := ?_) rfl rfl (by kernel_rfl) (by kernel_rfl) (by kernel_rfl) (fun _ _ _ h => h) (Or.inl ⟨by kernel_rfl, ?_⟩) hHeld ?_
            rotate_left
            · intro wz hSw; go_simp; try (with_reducible rfl)
            try simp only [Act.put, List.setIfInBounds_toArray, List.set_cons_zero, List.set_cons_succ, List.getElem_toArray, List.getElem_cons_succ, List.getElem_cons_zero]
            refine take_at (some 101) (i := 4) (v := ?_) rfl rfl (by kernel_rfl) (by kernel_rfl) (by kernel_rfl) (fun _ _ _ h => h) (Or.inl ⟨by kernel_rfl, ?_⟩) hHeld ?_
            rotate_left
            · intro wz hSw; go_simp; try (with_reducible rfl)
            try simp only [Act.put, List.setIfInBounds_toArray, List.set_cons_zero, List.set_cons_succ, List.getElem_toArray, List.getElem_cons_succ, List.getElem_cons_zero]
            refine take_at (some 102) (i := 5) (v := ?_) rfl rfl (by kernel_rfl) (by kernel_rfl) (by kernel_rfl) (fun _ _ _ h => h) (Or.inl ⟨by kernel_rfl, ?_⟩) hHeld ?_
            rotate_left
            · intro wz hSw; go_simp; try (with_reducible rfl)
            try simp only [Act.put, List.setIfInBounds_toArray, List.set_cons_zero, List.set_cons_succ, List.getElem_toArray, List.getElem_cons_succ, List.getElem_cons_zero]
            refine take_at (some 103) (i := 6) (v := ?_) rfl rfl (by kernel_rfl) (by kernel_rfl) (by kernel_rfl) (fun _ _ _ h => h) (Or.inl ⟨by kernel_rfl, ?_⟩) hHeld ?_
            rotate_left
            · intro wz hSw; go_simp; try (with_reducible rfl)
            try simp only [Act.put, List.setIfInBounds_toArray, List.set_cons_zero, List.set_cons_succ, List.getElem_toArray, List.getElem_cons_succ, List.getElem_cons_zero]
            refine take_at (some 104) (i := 7) (v := ?_) rfl rfl (by kernel_rfl) (by kernel_rfl) (by kernel_rfl) (fun _ _ _ h => h) (Or.inl ⟨by kernel_rfl, ?_⟩) hHeld ?_
            rotate_left
            · intro wz hSw; go_simp; try (with_reducible rfl)
            try simp only [Act.put, List.setIfInBounds_toArray, List.set_cons_zero, List.set_cons_succ, List.getElem_toArray, List.getElem_cons_succ, List.getElem_cons_zero]
            refine take_at (some 105) (i := 8) (v := ?_) rfl rfl (by kernel_rfl) (by kernel_rfl) (by kernel_rfl) (fun _ _ _ h => h) (Or.inl ⟨by kernel_rfl, ?_⟩) hHeld ?_
            rotate_left
            · intro wz hSw; go_simp; try (with_reducible rfl)
            try simp only [Act.put, List.setIfInBounds_toArray, List.set_cons_zero, List.set_cons_succ, List.getElem_toArray, List.getElem_cons_succ, List.getElem_cons_zero]
            refine take_at (some 106) (i := 9) (v := ?_) rfl rfl (by kernel_rfl) (by kernel_rfl) (by kernel_rfl) (fun _ _ _ h => h) (Or.inl ⟨by kernel_rfl, ?_⟩) hHeld ?_
            rotate_left
            · intro wz hSw; go_simp; try (with_reducible rfl)
            try simp only [Act.put, List.setIfInBounds_toArray, List.set_cons_zero, List.set_cons_succ, List.getElem_toArray, List.getElem_cons_succ, List.getElem_cons_zero]
            refine take_at (some 109) (i := 12) (v := ?_) rfl rfl (by kernel_rfl) (by kernel_rfl) (by kernel_rfl) (fun _ _ _ h => h) (Or.inl ⟨by kernel_rfl, ?_⟩) hHeld ?_
            rotate_left
            · intro wz hSw; go_simp; try (with_reducible rfl)
            try simp only [Act.put, List.setIfInBounds_toArray, List.set_cons_zero, List.set_cons_succ, List.getElem_toArray, List.getElem_cons_succ, List.getElem_cons_zero]
            refine take_at (some 110) (i := 13) (v := ?_) rfl rfl (by kernel_rfl) (by kernel_rfl) (by kernel_rfl) (fun _ _ _ h => h) (Or.inl ⟨by kernel_rfl, ?_⟩) hHeld ?_
            rotate_left
            · intro wz hSw; go_simp; try (with_reducible rfl)
            try simp only [Act.put, List.setIfInBounds_toArray, List.set_cons_zero, List.set_cons_succ, List.getElem_toArray, List.getElem_cons_succ, List.getElem_cons_zero]
            refine take_at (some 111) (i := 14) (v := ?_) rfl rfl (by kernel_rfl) (by kernel_rfl) (by kernel_rfl) (fun _ _ _ h => h) (Or.inl ⟨by kernel_rfl, ?_⟩) hHeld ?_
            rotate_left
            · intro wz hSw; go_simp; try (with_reducible rfl)
            try simp only [Act.put, List.setIfInBounds_toArray, List.set_cons_zero, List.set_cons_succ, List.getElem_toArray, List.getElem_cons_succ, List.getElem_cons_zero]
            refine take_at (some 112) (i := 15) rfl rfl (by kernel_rfl) (by kernel_rfl) (by kernel_rfl) (fun _ _ _ h => h) (yieldsIf_min (by kernel_rfl) (.tmp 111) (.const (.int .i64 255)) 3 rfl _ _ _ rfl rfl HMIN.out) hHeld ?_
            try simp only [Act.put, List.setIfInBounds_toArray, List.set_cons_zero, List.set_cons_succ, List.getElem_toArray, List.getElem_cons_succ, List.getElem_cons_zero]
            refine take_at (some 113) (i := 16) (v := ?_) rfl rfl (by kernel_rfl) (by kernel_rfl) (by kernel_rfl) (fun _ _ _ h => h) (Or.inl ⟨by kernel_rfl, ?_⟩) hHeld ?_
            rotate_left
            · intro wz hSw; go_simp; try (with_reducible rfl)
            try simp only [Act.put, List.setIfInBounds_toArray, List.set_cons_zero, List.set_cons_succ, List.getElem_toArray, List.getElem_cons_succ, List.getElem_cons_zero]
            try rw [HD.out]
            obtain ⟨w0, hwd⟩ : ∃ wq, u4.drew = wq := ⟨_, rfl⟩
            have hx0 : Below u4.heap.size u4 w0 := by rw [← hwd]; exact (Below.refl _ _).drew
            try rw [hwd]
            clear hwd
            refine wpAnyH_ready (rs := [1, 10]) (by kernel_rfl) (by simp) (AllReadyH.cons rfl (fun K hK => ?_) (AllReadyH.cons rfl (fun K hK => ?_) (AllReadyH.nil)))
            · rw [if_pos (by kernel_rfl)]
              obtain ⟨cap, ob, hcb, hcap1, hcap2, hRB⟩ := conv_back key (Nat.le_trans HK3.out.1 (by decide)) w0
              go_simp
              try dsimp only
              obtain ⟨w1, hw1⟩ : ∃ wq, (w0.alloc ob).drew = wq := ⟨_, rfl⟩
              obtain ⟨gk, hgk⟩ : ∃ gq, w0.heap.size = gq := ⟨_, rfl⟩
              have hrk1 : Rb w1 w1.heap.size (some ⟨gk, 0, none⟩) key.data.toList := by rw [← hw1, ← hgk]; exact hRB
              have hbel : Below w0.heap.size w0 w1 := by rw [← hw1]; exact ((Below.refl _ _).alloc (Nat.le_refl _) _).drew
              have hx1 : Below u4.heap.size u4 w1 := hx0.trans (hbel.mono hx0.size)
              try rw [hw1]
              try rw [hgk]
              clear hcb hRB hw1 hgk hbel
              refine hK.out _ _ hx1 (fun hHeld => ?_)
              try simp only [Act.put, List.setIfInBounds_toArray, List.set_cons_zero, List.set_cons_succ, List.getElem_toArray, List.getElem_cons_succ, List.getElem_cons_zero]
              refine wpAnyH_ready (rs := [10]) (by kernel_rfl) (by simp) (AllReadyH.cons rfl (fun K hK => ?_) (AllReadyH.nil))
              · rw [if_pos (by kernel_rfl)]
                go_simp
                try dsimp only
                obtain ⟨w2, hw5⟩ : ∃ wq, w1.alloc (.cells #[.int .u8 (b1.toNat : Int), .int .u8 (b2.toNat : Int)] 5) = wq := ⟨_, rfl⟩
                obtain ⟨gb, hgw⟩ : ∃ gq, w1.heap.size = gq := ⟨_, rfl⟩
                have hbb2 : Bk w2 gb 5 (bcells [b1, b2]) := by rw [← hw5, ← hgw]; exact Bk.new _ _ _
                have hbel : Below w1.heap.size w1 w2 := by rw [← hw5]; exact (Below.refl _ _).alloc (Nat.le_refl _) _
                have hx2 : Below u4.heap.size u4 w2 := hx1.trans (hbel.mono hx1.size)
                have hrk2 := (hrk1.below hbel (Nat.le_refl _)).more hbel.size
                try rw [hw5]
                try rw [hgw]
                clear hw5 hgw hbel
                refine hK.out _ _ hx2 (fun hHeld => ?_)
                try simp only [Act.put, List.setIfInBounds_toArray, List.set_cons_zero, List.set_cons_succ, List.getElem_toArray, List.getElem_cons_succ, List.getElem_cons_zero]
                refine wpAnyH_ready (rs := [11]) (by kernel_rfl) (by simp) (AllReadyH.cons rfl (fun K hK => ?_) (AllReadyH.nil))
                · rw [if_pos (by kernel_rfl)]
                  have hcv := str_of (P := Tryd.prog) (B := w2.heap.size) (A := some ⟨gb, 0, none⟩) (l := [b1, b2]) ((Rb.bk hbb2).more hbb2.lt) 50 5 9 Tryd.underlying50 Tryd.underlying5 Tryd.underlying9 2 2 rfl
                  go_simp
                  clear hcv
                  refine hK.out _ _ hx2 (fun hHeld => ?_)
                  try simp only [Act.put, List.setIfInBounds_toArray, List.set_cons_zero, List.set_cons_succ, List.getElem_toArray, List.getElem_cons_succ, List.getElem_cons_zero]
                  refine wpAnyH_ready (rs := [17]) (by kernel_rfl) (by simp) (AllReadyH.cons rfl (fun K hK => ?_) (AllReadyH.nil))
                  · rw [if_pos (by kernel_rfl)]
                    go_simp
                    try dsimp only
                    obtain ⟨w3, hw5⟩ : ∃ wq, w2.alloc (.cells #[.string ⟨#[b1, b2]⟩, .string D] 9) = wq := ⟨_, rfl⟩
                    obtain ⟨gw, hgw⟩ : ∃ gq, w2.heap.size = gq := ⟨_, rfl⟩
                    have hbw3 : Bk w3 gw 9 (#[.string ⟨#[b1, b2]⟩, .string D]) := by rw [← hw5, ← hgw]; exact Bk.new _ _ _
                    have hbel : Below w2.heap.size w2 w3 := by rw [← hw5]; exact (Below.refl _ _).alloc (Nat.le_refl _) _
                    have hx3 : Below u4.heap.size u4 w3 := hx2.trans (hbel.mono hx2.size)
                    have hrk3 := (hrk2.below hbel (Nat.le_refl _)).more hbel.size
                    have hbb3 := hbb2.below hbel hbb2.lt
                    try rw [hw5]
                    try rw [hgw]
                    clear hw5 hgw hbel
                    refine hK.out _ _ hx3 (fun hHeld => ?_)
                    try simp only [Act.put, List.setIfInBounds_toArray, List.set_cons_zero, List.set_cons_succ, List.getElem_toArray, List.getElem_cons_succ, List.getElem_cons_zero]
                    refine wpAnyH_ready (rs := [18]) (by kernel_rfl) (by simp) (AllReadyH.cons rfl (fun K hK => ?_) AllReadyH.nil)
                    rw [if_pos (by kernel_rfl)]
                    go_simp
                    refine (rproof_ok (some ⟨gk, 0, none⟩) key.size cap key.data.toList (some ⟨gw, 0, none⟩) 2 2 [⟨#[b1, b2]⟩, D] w3 rfl hcap1 hcap2 (Nat.le_trans HK3.out.1 (by decide)) hrk3 (fun h => by cases h) rfl (by omega) (two_bkZ hbw3) (HSMZ.out _ (by show 2 ≤ 1000; decide)) (HTX.out _)).mono ?_
                    rintro e wp18 ⟨rfl, hbp⟩
                    try dsimp only
                    have hxp : Below u4.heap.size u4 wp18 := hx3.trans (hbp.mono hx3.size)
                    refine hK.out _ _ hxp (fun hHeld => ?_)
                    try simp only [Act.put, List.setIfInBounds_toArray, List.set_cons_zero, List.set_cons_succ, List.getElem_toArray, List.getElem_cons_succ, List.getElem_cons_zero]
                    refine wpAnyH_ready (rs := [19]) (by kernel_rfl) (by simp) (AllReadyH.cons rfl (fun K hK => ?_) AllReadyH.nil)
                    rw [if_pos (by kernel_rfl)]
                    go_simp
                    refine hK.out _ _ hxp (fun hHeld => ?_)
                    try simp only [Act.put, List.setIfInBounds_toArray, List.set_cons_zero, List.set_cons_succ, List.getElem_toArray, List.getElem_cons_succ, List.getElem_cons_zero]
                    refine wpAnyH_done (by kernel_rfl) ?_ _
                    have HXP := Lib.hid hxp
                    clear hHeld hbp hxp hcap1 hcap2 hx0 hx1 hx2 hx3
                    obtain ⟨PF, hPF⟩ : ∃ PQ : ByteArray, (⟨(proofB key.data.toList [⟨#[b1, b2]⟩, D]).toArray⟩ : ByteArray) = PQ := ⟨_, rfl⟩
                    rw [hPF]
                    have HZ6 := Lib.hid (HZ4.out.on HXP.out)
                    have hTP : PF.extract 0 32 = T := by rw [← hPF, ← HTT.out, ← HCD.out]; exact (tix_of key d (sr : Int) _ HLIT.out).symm
                    have hpf : PF.size = 64 := by rw [← hPF, ← HCD.out]; exact prf_lit key d (sr : Int) _ HLIT.out (by show sr ≤ _; omega)
                    have hpi : (32 : Int) ≤ (PF.size : Int) := by omega
                    clear hPF
                    go_wp2_with (go_at_call 20; (with_reducible refine (z_many HZ6.out m HLM.out).mono ?_); rintro e u9 ⟨rfl, h1⟩; have HZ9 := Lib.hid (HZ6.out.on h1); clear h1)
                    go_ret
                    exact ⟨rfl, HZ9.out.l⟩
            · rw [if_pos (by kernel_rfl)]
              go_simp
              try dsimp only
              obtain ⟨w1, hw5⟩ : ∃ wq, w0.alloc (.cells #[.int .u8 (b1.toNat : Int), .int .u8 (b2.toNat : Int)] 5) = wq := ⟨_, rfl⟩
              obtain ⟨gb, hgw⟩ : ∃ gq, w0.heap.size = gq := ⟨_, rfl⟩
              have hbb1 : Bk w1 gb 5 (bcells [b1, b2]) := by rw [← hw5, ← hgw]; exact Bk.new _ _ _
              have hbel : Below w0.heap.size w0 w1 := by rw [← hw5]; exact (Below.refl _ _).alloc (Nat.le_refl _) _
              have hx1 : Below u4.heap.size u4 w1 := hx0.trans (hbel.mono hx0.size)
              try rw [hw5]
              try rw [hgw]
              clear hw5 hgw hbel
              refine hK.out _ _ hx1 (fun hHeld => ?_)
              try simp only [Act.put, List.setIfInBounds_toArray, List.set_cons_zero, List.set_cons_succ, List.getElem_toArray, List.getElem_cons_succ, List.getElem_cons_zero]
              refine wpAnyH_ready (rs := [1, 11]) (by kernel_rfl) (by simp) (AllReadyH.cons rfl (fun K hK => ?_) (AllReadyH.cons rfl (fun K hK => ?_) (AllReadyH.nil)))
              · rw [if_pos (by kernel_rfl)]
                obtain ⟨cap, ob, hcb, hcap1, hcap2, hRB⟩ := conv_back key (Nat.le_trans HK3.out.1 (by decide)) w1
                go_simp
                try dsimp only
                obtain ⟨w2, hw1⟩ : ∃ wq, (w1.alloc ob).drew = wq := ⟨_, rfl⟩
                obtain ⟨gk, hgk⟩ : ∃ gq, w1.heap.size = gq := ⟨_, rfl⟩
                have hrk2 : Rb w2 w2.heap.size (some ⟨gk, 0, none⟩) key.data.toList := by rw [← hw1, ← hgk]; exact hRB
                have hbel : Below w1.heap.size w1 w2 := by rw [← hw1]; exact ((Below.refl _ _).alloc (Nat.le_refl _) _).drew
                have hx2 : Below u4.heap.size u4 w2 := hx1.trans (hbel.mono hx1.size)
                have hbb2 := hbb1.below hbel hbb1.lt
                try rw [hw1]
                try rw [hgk]
                clear hcb hRB hw1 hgk hbel
                refine hK.out _ _ hx2 (fun hHeld => ?_)
                try simp only [Act.put, List.setIfInBounds_toArray, List.set_cons_zero, List.set_cons_succ, List.getElem_toArray, List.getElem_cons_succ, List.getElem_cons_zero]
                refine wpAnyH_ready (rs := [11]) (by kernel_rfl) (by simp) (AllReadyH.cons rfl (fun K hK => ?_) (AllReadyH.nil))
                · rw [if_pos (by kernel_rfl)]
                  have hcv := str_of (P := Tryd.prog) (B := w2.heap.size) (A := some ⟨gb, 0, none⟩) (l := [b1, b2]) ((Rb.bk hbb2).more hbb2.lt) 50 5 9 Tryd.underlying50 Tryd.underlying5 Tryd.underlying9 2 2 rfl
                  go_simp
                  clear hcv
                  refine hK.out _ _ hx2 (fun hHeld => ?_)
                  try simp only [Act.put, List.setIfInBounds_toArray, List.set_cons_zero, List.set_cons_succ, List.getElem_toArray, List.getElem_cons_succ, List.getElem_cons_zero]
                  refine wpAnyH_ready (rs := [17]) (by kernel_rfl) (by simp) (AllReadyH.cons rfl (fun K hK => ?_) (AllReadyH.nil))
                  · rw [if_pos (by kernel_rfl)]
                    go_simp
                    try dsimp only
                    obtain ⟨w3, hw5⟩ : ∃ wq, w2.alloc (.cells #[.string ⟨#[b1, b2]⟩, .string D] 9) = wq := ⟨_, rfl⟩
                    obtain ⟨gw, hgw⟩ : ∃ gq, w2.heap.size = gq := ⟨_, rfl⟩
                    have hbw3 : Bk w3 gw 9 (#[.string ⟨#[b1, b2]⟩, .string D]) := by rw [← hw5, ← hgw]; exact Bk.new _ _ _
                    have hbel : Below w2.heap.size w2 w3 := by rw [← hw5]; exact (Below.refl _ _).alloc (Nat.le_refl _) _
                    have hx3 : Below u4.heap.size u4 w3 := hx2.trans (hbel.mono hx2.size)
                    have hrk3 := (hrk2.below hbel (Nat.le_refl _)).more hbel.size
                    have hbb3 := hbb2.below hbel hbb2.lt
                    try rw [hw5]
                    try rw [hgw]
                    clear hw5 hgw hbel
                    refine hK.out _ _ hx3 (fun hHeld => ?_)
                    try simp only [Act.put, List.setIfInBounds_toArray, List.set_cons_zero, List.set_cons_succ, List.getElem_toArray, List.getElem_cons_succ, List.getElem_cons_zero]
                    refine wpAnyH_ready (rs := [18]) (by kernel_rfl) (by simp) (AllReadyH.cons rfl (fun K hK => ?_) AllReadyH.nil)
                    rw [if_pos (by kernel_rfl)]
                    go_simp
                    refine (rproof_ok (some ⟨gk, 0, none⟩) key.size cap key.data.toList (some ⟨gw, 0, none⟩) 2 2 [⟨#[b1, b2]⟩, D] w3 rfl hcap1 hcap2 (Nat.le_trans HK3.out.1 (by decide)) hrk3 (fun h => by cases h) rfl (by omega) (two_bkZ hbw3) (HSMZ.out _ (by show 2 ≤ 1000; decide)) (HTX.out _)).mono ?_
                    rintro e wp18 ⟨rfl, hbp⟩
                    try dsimp only
                    have hxp : Below u4.heap.size u4 wp18 := hx3.trans (hbp.mono hx3.size)
                    refine hK.out _ _ hxp (fun hHeld => ?_)
                    try simp only [Act.put, List.setIfInBounds_toArray, List.set_cons_zero, List.set_cons_succ, List.getElem_toArray, List.getElem_cons_succ, List.getElem_cons_zero]
                    refine wpAnyH_ready (rs := [19]) (by kernel_rfl) (by simp) (AllReadyH.cons rfl (fun K hK => ?_) AllReadyH.nil)
                    rw [if_pos (by kernel_rfl)]
                    go_simp
                    refine hK.out _ _ hxp (fun hHeld => ?_)
                    try simp only [Act.put, List.setIfInBounds_toArray, List.set_cons_zero, List.set_cons_succ, List.getElem_toArray, List.getElem_cons_succ, List.getElem_cons_zero]
                    refine wpAnyH_done (by kernel_rfl) ?_ _
                    have HXP := Lib.hid hxp
                    clear hHeld hbp hxp hcap1 hcap2 hx0 hx1 hx2 hx3
                    obtain ⟨PF, hPF⟩ : ∃ PQ : ByteArray, (⟨(proofB key.data.toList [⟨#[b1, b2]⟩, D]).toArray⟩ : ByteArray) = PQ := ⟨_, rfl⟩
                    rw [hPF]
                    have HZ6 := Lib.hid (HZ4.out.on HXP.out)
                    have hTP : PF.extract 0 32 = T := by rw [← hPF, ← HTT.out, ← HCD.out]; exact (tix_of key d (sr : Int) _ HLIT.out).symm
                    have hpf : PF.size = 64 := by rw [← hPF, ← HCD.out]; exact prf_lit key d (sr : Int) _ HLIT.out (by show sr ≤ _; omega)
                    have hpi : (32 : Int) ≤ (PF.size : Int) := by omega
                    clear hPF
                    go_wp2_with (go_at_call 20; (with_reducible refine (z_many HZ6.out m HLM.out).mono ?_); rintro e u9 ⟨rfl, h1⟩; have HZ9 := Lib.hid (HZ6.out.on h1); clear h1)
                    go_ret
                    exact ⟨rfl, HZ9.out.l⟩
              · rw [if_pos (by kernel_rfl)]
                have hcv := str_of (P := Tryd.prog) (B := w1.heap.size) (A := some ⟨gb, 0, none⟩) (l := [b1, b2]) ((Rb.bk hbb1).more hbb1.lt) 50 5 9 Tryd.underlying50 Tryd.underlying5 Tryd.underlying9 2 2 rfl
                go_simp
                clear hcv
                refine hK.out _ _ hx1 (fun hHeld => ?_)
                try simp only [Act.put, List.setIfInBounds_toArray, List.set_cons_zero, List.set_cons_succ, List.getElem_toArray, List.getElem_cons_succ, List.getElem_cons_zero]
                refine wpAnyH_ready (rs := [1, 17]) (by kernel_rfl) (by simp) (AllReadyH.cons rfl (fun K hK => ?_) (AllReadyH.cons rfl (fun K hK => ?_) (AllReadyH.nil)))
                · rw [if_pos (by kernel_rfl)]
                  obtain ⟨cap, ob, hcb, hcap1, hcap2, hRB⟩ := conv_back key (Nat.le_trans HK3.out.1 (by decide)) w1
                  go_simp
                  try dsimp only
                  obtain ⟨w2, hw1⟩ : ∃ wq, (w1.alloc ob).drew = wq := ⟨_, rfl⟩
                  obtain ⟨gk, hgk⟩ : ∃ gq, w1.heap.size = gq := ⟨_, rfl⟩
                  have hrk2 : Rb w2 w2.heap.size (some ⟨gk, 0, none⟩) key.data.toList := by rw [← hw1, ← hgk]; exact hRB
                  have hbel : Below w1.heap.size w1 w2 := by rw [← hw1]; exact ((Below.refl _ _).alloc (Nat.le_refl _) _).drew
                  have hx2 : Below u4.heap.size u4 w2 := hx1.trans (hbel.mono hx1.size)
                  have hbb2 := hbb1.below hbel hbb1.lt
                  try rw [hw1]
                  try rw [hgk]
                  clear hcb hRB hw1 hgk hbel
                  refine hK.out _ _ hx2 (fun hHeld => ?_)
                  try simp only [Act.put, List.setIfInBounds_toArray, List.set_cons_zero, List.set_cons_succ, List.getElem_toArray, List.getElem_cons_succ, List.getElem_cons_zero]
                  refine wpAnyH_ready (rs := [17]) (by kernel_rfl) (by simp) (AllReadyH.cons rfl (fun K hK => ?_) (AllReadyH.nil))
                  · rw [if_pos (by kernel_rfl)]
                    go_simp
                    try dsimp only
                    obtain ⟨w3, hw5⟩ : ∃ wq, w2.alloc (.cells #[.string ⟨#[b1, b2]⟩, .string D] 9) = wq := ⟨_, rfl⟩
                    obtain ⟨gw, hgw⟩ : ∃ gq, w2.heap.size = gq := ⟨_, rfl⟩
                    have hbw3 : Bk w3 gw 9 (#[.string ⟨#[b1, b2]⟩, .string D]) := by rw [← hw5, ← hgw]; exact Bk.new _ _ _
                    have hbel : Below w2.heap.size w2 w3 := by rw [← hw5]; exact (Below.refl _ _).alloc (Nat.le_refl _) _
                    have hx3 : Below u4.heap.size u4 w3 := hx2.trans (hbel.mono hx2.size)
                    have hrk3 := (hrk2.below hbel (Nat.le_refl _)).more hbel.size
                    have hbb3 := hbb2.below hbel hbb2.lt
                    try rw [hw5]
                    try rw [hgw]
                    clear hw5 hgw hbel
                    refine hK.out _ _ hx3 (fun hHeld => ?_)
                    try simp only [Act.put, List.setIfInBounds_toArray, List.set_cons_zero, List.set_cons_succ, List.getElem_toArray, List.getElem_cons_succ, List.getElem_cons_zero]
                    refine wpAnyH_ready (rs := [18]) (by kernel_rfl) (by simp) (AllReadyH.cons rfl (fun K hK => ?_) AllReadyH.nil)
                    rw [if_pos (by kernel_rfl)]
                    go_simp
                    refine (rproof_ok (some ⟨gk, 0, none⟩) key.size cap key.data.toList (some ⟨gw, 0, none⟩) 2 2 [⟨#[b1, b2]⟩, D] w3 rfl hcap1 hcap2 (Nat.le_trans HK3.out.1 (by decide)) hrk3 (fun h => by cases h) rfl (by omega) (two_bkZ hbw3) (HSMZ.out _ (by show 2 ≤ 1000; decide)) (HTX.out _)).mono ?_
                    rintro e wp18 ⟨rfl, hbp⟩
                    try dsimp only
                    have hxp : Below u4.heap.size u4 wp18 := hx3.trans (hbp.mono hx3.size)
                    refine hK.out _ _ hxp (fun hHeld => ?_)
                    try simp only [Act.put, List.setIfInBounds_toArray, List.set_cons_zero, List.set_cons_succ, List.getElem_toArray, List.getElem_cons_succ, List.getElem_cons_zero]
                    refine wpAnyH_ready (rs := [19]) (by kernel_rfl) (by simp) (AllReadyH.cons rfl (fun K hK => ?_) AllReadyH.nil)
                    rw [if_pos (by kernel_rfl)]
                    go_simp
                    refine hK.out _ _ hxp (fun hHeld => ?_)
                    try simp only [Act.put, List.setIfInBounds_toArray, List.set_cons_zero, List.set_cons_succ, List.getElem_toArray, List.getElem_cons_succ, List.getElem_cons_zero]
                    refine wpAnyH_done (by kernel_rfl) ?_ _
                    have HXP := Lib.hid hxp
                    clear hHeld hbp hxp hcap1 hcap2 hx0 hx1 hx2 hx3
                    obtain ⟨PF, hPF⟩ : ∃ PQ : ByteArray, (⟨(proofB key.data.toList [⟨#[b1, b2]⟩, D]).toArray⟩ : ByteArray) = PQ := ⟨_, rfl⟩
                    rw [hPF]
                    have HZ6 := Lib.hid (HZ4.out.on HXP.out)
                    have hTP : PF.extract 0 32 = T := by rw [← hPF, ← HTT.out, ← HCD.out]; exact (tix_of key d (sr : Int) _ HLIT.out).symm
                    have hpf : PF.size = 64 := by rw [← hPF, ← HCD.out]; exact prf_lit key d (sr : Int) _ HLIT.out (by show sr ≤ _; omega)
                    have hpi : (32 : Int) ≤ (PF.size : Int) := by omega
                    clear hPF
                    go_wp2_with (go_at_call 20; (with_reducible refine (z_many HZ6.out m HLM.out).mono ?_); rintro e u9 ⟨rfl, h1⟩; have HZ9 := Lib.hid (HZ6.out.on h1); clear h1)
                    go_ret
                    exact ⟨rfl, HZ9.out.l⟩
                · rw [if_pos (by kernel_rfl)]
                  go_simp
                  try dsimp only
                  obtain ⟨w2, hw5⟩ : ∃ wq, w1.alloc (.cells #[.string ⟨#[b1, b2]⟩, .string D] 9) = wq := ⟨_, rfl⟩
                  obtain ⟨gw, hgw⟩ : ∃ gq, w1.heap.size = gq := ⟨_, rfl⟩
                  have hbw2 : Bk w2 gw 9 (#[.string ⟨#[b1, b2]⟩, .string D]) := by rw [← hw5, ← hgw]; exact Bk.new _ _ _
                  have hbel : Below w1.heap.size w1 w2 := by rw [← hw5]; exact (Below.refl _ _).alloc (Nat.le_refl _) _
                  have hx2 : Below u4.heap.size u4 w2 := hx1.trans (hbel.mono hx1.size)
                  have hbb2 := hbb1.below hbel hbb1.lt
                  try rw [hw5]
                  try rw [hgw]
                  clear hw5 hgw hbel
                  refine hK.out _ _ hx2 (fun hHeld => ?_)
                  try simp only [Act.put, List.setIfInBounds_toArray, List.set_cons_zero, List.set_cons_succ, List.getElem_toArray, List.getElem_cons_succ, List.getElem_cons_zero]
                  refine wpAnyH_ready (rs := [1]) (by kernel_rfl) (by simp) (AllReadyH.cons rfl (fun K hK => ?_) (AllReadyH.nil))
                  · rw [if_pos (by kernel_rfl)]
                    obtain ⟨cap, ob, hcb, hcap1, hcap2, hRB⟩ := conv_back key (Nat.le_trans HK3.out.1 (by decide)) w2
                    go_simp
                    try dsimp only
                    obtain ⟨w3, hw1⟩ : ∃ wq, (w2.alloc ob).drew = wq := ⟨_, rfl⟩
                    obtain ⟨gk, hgk⟩ : ∃ gq, w2.heap.size = gq := ⟨_, rfl⟩
                    have hrk3 : Rb w3 w3.heap.size (some ⟨gk, 0, none⟩) key.data.toList := by rw [← hw1, ← hgk]; exact hRB
                    have hbel : Below w2.heap.size w2 w3 := by rw [← hw1]; exact ((Below.refl _ _).alloc (Nat.le_refl _) _).drew
                    have hx3 : Below u4.heap.size u4 w3 := hx2.trans (hbel.mono hx2.size)
                    have hbb3 := hbb2.below hbel hbb2.lt
                    have hbw3 := hbw2.below hbel hbw2.lt
                    try rw [hw1]
                    try rw [hgk]
                    clear hcb hRB hw1 hgk hbel
                    refine hK.out _ _ hx3 (fun hHeld => ?_)
                    try simp only [Act.put, List.setIfInBounds_toArray, List.set_cons_zero, List.set_cons_succ, List.getElem_toArray, List.getElem_cons_succ, List.getElem_cons_zero]
                    refine wpAnyH_ready (rs := [18]) (by kernel_rfl) (by simp) (AllReadyH.cons rfl (fun K hK => ?_) AllReadyH.nil)
                    rw [if_pos (by kernel_rfl)]
                    go_simp
                    refine (rproof_ok (some ⟨gk, 0, none⟩) key.size cap key.data.toList (some ⟨gw, 0, none⟩) 2 2 [⟨#[b1, b2]⟩, D] w3 rfl hcap1 hcap2 (Nat.le_trans HK3.out.1 (by decide)) hrk3 (fun h => by cases h) rfl (by omega) (two_bkZ hbw3) (HSMZ.out _ (by show 2 ≤ 1000; decide)) (HTX.out _)).mono ?_
                    rintro e wp18 ⟨rfl, hbp⟩
                    try dsimp only
                    have hxp : Below u4.heap.size u4 wp18 := hx3.trans (hbp.mono hx3.size)
                    refine hK.out _ _ hxp (fun hHeld => ?_)
                    try simp only [Act.put, List.setIfInBounds_toArray, List.set_cons_zero, List.set_cons_succ, List.getElem_toArray, List.getElem_cons_succ, List.getElem_cons_zero]
                    refine wpAnyH_ready (rs := [19]) (by kernel_rfl) (by simp) (AllReadyH.cons rfl (fun K hK => ?_) AllReadyH.nil)
                    rw [if_pos (by kernel_rfl)]
                    go_simp
                    refine hK.out _ _ hxp (fun hHeld => ?_)
                    try simp only [Act.put, List.setIfInBounds_toArray, List.set_cons_zero, List.set_cons_succ, List.getElem_toArray, List.getElem_cons_succ, List.getElem_cons_zero]
                    refine wpAnyH_done (by kernel_rfl) ?_ _
                    have HXP := Lib.hid hxp
                    clear hHeld hbp hxp hcap1 hcap2 hx0 hx1 hx2 hx3
                    obtain ⟨PF, hPF⟩ : ∃ PQ : ByteArray, (⟨(proofB key.data.toList [⟨#[b1, b2]⟩, D]).toArray⟩ : ByteArray) = PQ := ⟨_, rfl⟩
                    rw [hPF]
                    have HZ6 := Lib.hid (HZ4.out.on HXP.out)
                    have hTP : PF.extract 0 32 = T := by rw [← hPF, ← HTT.out, ← HCD.out]; exact (tix_of key d (sr : Int) _ HLIT.out).symm
                    have hpf : PF.size = 64 := by rw [← hPF, ← HCD.out]; exact prf_lit key d (sr : Int) _ HLIT.out (by show sr ≤ _; omega)
                    have hpi : (32 : Int) ≤ (PF.size : Int) := by omega
                    clear hPF
                    go_wp2_with (go_at_call 20; (with_reducible refine (z_many HZ6.out m HLM.out).mono ?_); rintro e u9 ⟨rfl, h1⟩; have HZ9 := Lib.hid (HZ6.out.on h1); clear h1)
                    go_ret
                    exact ⟨rfl, HZ9.out.l⟩
end Go.Proofs.YtinbegnojfpeiaaDoor
