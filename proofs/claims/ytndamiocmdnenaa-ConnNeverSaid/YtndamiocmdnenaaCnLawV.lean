/- ConnNever: numbers rise; what was closed never comes again: the walk. (Written by gen_cnnever.py.) -/
import Derived.Test.YtndamiocmdnenaaCnNev
import Derived.Test.YtndamiocmdnenaaOpen
namespace Go.Proofs.Ytndamiocmdnenaa
set_option linter.unusedVariables false
set_option maxRecDepth 100000
set_option linter.unusedSimpArgs false
open Go.RowKit

set_option maxRecDepth 100000 in
set_option maxHeartbeats 16000000 in
theorem walk_ConnNever (A : Option Addr) (L : List OpC) (n c : Nat) (W : World) (h : InCn W A L n c) :
    Calls Try.prog 3 #[.slice A n c] W fun e w' => e = .returned (.bool true) ∧ Below W.heap.size W w' := by
  have HI := Lib.hid h
  have hcapn : n ≤ 9223372036854775807 := by have h1 := h.cap; have h2 := h.max; unfold maxLen at h2; omega
  clear h
  go_enter Try.func3, Try.ntmps3
  go_upto_region 2 with (go_at_call 10; (with_reducible refine (cnhead_ok _).mono ?_); rintro e u1 ⟨rfl, hb⟩; have HB1 := Lib.hid hb; clear hb)
  go_upto_region 3 with (go_at_call 11; (with_reducible refine (c_new HB1.out).mono ?_); rintro e u2 ⟨G2, tb, rfl, h1, h2, h3⟩; have HZ2 := Lib.hid h1; clear h1 h2 h3)
  go_upto_region 4 with (go_at_call 12; (with_reducible refine (cngreat_ok A L n c W _ HI.out HZ2.out.l).mono ?_); rintro e uu ⟨⟨v, rfl, hv⟩, hw⟩; rw [hw]; clear hw; cases v)
  all_goals try (go_wp2_with fail; go_ret; exact ⟨rfl, HZ2.out.l⟩)
  have h400 : n ≤ 400 := by simpa using hv
  clear hv
  go_wp2_with fail
  go_loopw [5, 6, 7] (fun v5 v6 v7 wr => ∃ (i m : Nat) (t : Tc) (G : List Nat) (A5 : Option Addr) (c5 : Nat) (g : List Int) (la : Nat), i ≤ n ∧ v7 = .int .i64 (i : Int) ∧ v5 = .int .i64 (la : Int) ∧ v6 = .slice A5 m c5 ∧ Hid (Zc W wr G tb t) ∧ Hid (Jx W wr G A5 c5 g) ∧ Hid (Nv t g ∧ g.length = m ∧ Gc t ∧ t.la = la) ∧ la ≤ i) (fun _ _ v7 _ => n - (intOf v7).toNat)
  case atStart => exact ⟨0, 0, tc0, G2, none, 0, [], 0, by omega, rfl, rfl, rfl, HZ2, Lib.hid (Jx.nil _ _ _), Lib.hid ⟨nv_new, rfl, gc_new, rfl⟩, by omega⟩
  case round =>
    obtain ⟨i, m, t, G, A5, c5, g, la, hi, rfl, rfl, rfl, HZ, HJ, HN, hla⟩ := hrel
    by_cases hi1 : i < n
    · have hi2 : (i : Int) < (n : Int) := by omega
      obtain ⟨bx, o, op, rfl, hx, hwf, hc⟩ := HI.out.at_ i hi1
      have HWI := Lib.hid hwf.1
      have HWX := Lib.hid hwf.2.1
      obtain ⟨⟨x0, x1, x2, x3⟩, hok⟩ := hc wr HZ.out.l
      obtain ⟨ow, oi, ox, oA, oc, ol⟩ := op
      dsimp only at x0 x1 x2 x3
      obtain ⟨on, hon⟩ : ∃ on, ol.length = on := ⟨_, rfl⟩
      rw [hon] at x3
      have HON := Lib.hid hon
      have HOK := Lib.hid (fun u (hu : Below W.heap.size W u) => (hc u hu).2)
      have HOX := Lib.hid hx
      clear hx hc hok hon hwf
      obtain ⟨kb, hkb⟩ : ∃ kb, wr.heap.size = kb := ⟨_, rfl⟩
      obtain ⟨v, hv⟩ : ∃ v, wr.alloc (.cells #[.int .i64 ow, .int .i64 oi, .int .i64 ox, .slice oA on oc] 30) = v := ⟨_, rfl⟩
      have hbv : Below wr.heap.size wr v := by rw [← hv]; exact (Below.refl _ _).alloc (Nat.le_refl _) _
      have HB := Lib.hid (show Bz v G kb 30 #[.int .i64 ow, .int .i64 oi, .int .i64 ox, .slice oA on oc] by rw [← hv, ← hkb]; exact Bz.new HZ.out.hi _ _)
      have HZv := Lib.hid (HZ.out.on hbv)
      have HJv := Lib.hid (HJ.out.on hbv)
      go_upto_region 11 with fail
      try rw [hv]
      try rw [hkb]
      clear hv hkb hbv x0 x1 x2 x3
      obtain ⟨k, hk⟩ : ∃ k, t.l.length = k := ⟨_, rfl⟩
      have HK := Lib.hid (show (alC t).length = k by rw [al_len]; exact hk)
      have HKL := Lib.hid (show t.l.length = k ∧ k ≤ 64 ∧ k + m = la from ⟨hk, by rw [← hk]; exact HN.out.2.2.1.few, by have h1 := HN.out.1.len; have h2 := HN.out.2.1; have h3 := HN.out.2.2.2; omega⟩)
      have hmb0 : m ≤ 400 := by have := HKL.out; omega
      clear hk
      by_cases h0 : ow = 0
      · subst h0
        have e0 : v.cell? ⟨kb, 0, none⟩ = some (.int .i64 0) := HB.out.b.cell 0
        have e1 : v.cell? ⟨kb, 1, none⟩ = some (.int .i64 oi) := HB.out.b.cell 1
        have e2 : v.cell? ⟨kb, 2, none⟩ = some (.int .i64 ox) := HB.out.b.cell 2
        have e3 : v.cell? ⟨kb, 3, none⟩ = some (.slice oA on oc) := HB.out.b.cell 3
        go_upto_region 13 with (go_at_call 13; (with_reducible refine (c_all HZv.out HN.out.2.2.1 k HK.out).mono ?_); rintro e w3 ⟨A3, c3, rfl, -, h1⟩; have HZ3 := Lib.hid (HZv.out.on h1); have HJ3 := Lib.hid (HJv.out.on h1); have HB3 := Lib.hid (HB.out.on h1); clear h1)
        clear e0 e1 e2 e3
        have e0 : w3.cell? ⟨kb, 0, none⟩ = some (.int .i64 0) := HB3.out.b.cell 0
        have e1 : w3.cell? ⟨kb, 1, none⟩ = some (.int .i64 oi) := HB3.out.b.cell 1
        have e2 : w3.cell? ⟨kb, 2, none⟩ = some (.int .i64 ox) := HB3.out.b.cell 2
        have e3 : w3.cell? ⟨kb, 3, none⟩ = some (.slice oA on oc) := HB3.out.b.cell 3
        by_cases hk6 : k = 64
        · subst hk6
          have HNF := Lib.hid (open_full (t := t) (ox % 4294967296) (by have := HKL.out; omega))
          go_upto_region 14 with (go_at_call 14; (with_reducible refine (c_open HZ3.out HN.out.2.2.1 (by have := HN.out.2.2.2; omega) (ox % 4294967296) 0 2 t HNF.out).mono ?_); rintro e w4 ⟨G5, rfl, h1, h2⟩; have HZ5 := Lib.hid h1; have HJ5 := Lib.hid (HJ3.out.step h2); clear h1 h2)
          clear e0 e1 e2 e3
          have HN5 := HN
          obtain ⟨mm, hmm⟩ : ∃ mm, m = mm := ⟨_, rfl⟩
          obtain ⟨gg, hgg⟩ : ∃ gg, g = gg := ⟨_, rfl⟩
          obtain ⟨A7, hA7⟩ : ∃ A7, A5 = A7 := ⟨_, rfl⟩
          obtain ⟨c7, hc7⟩ : ∃ c7, c5 = c7 := ⟨_, rfl⟩
          rw [hmm, hgg] at HN5
          rw [hA7, hc7, hgg] at HJ5
          try rw [hmm]
          try rw [hA7]
          try rw [hc7]
          have hmb : mm ≤ 1000 := by omega
          clear hmm hgg hA7 hc7
          go_wp2_with fail
          go_loopw [14] (fun v14 w9 => ∃ j : Nat, j ≤ mm ∧ v14 = .int .i64 (j : Int) ∧ Hid (Zc W w9 G5 tb t) ∧ Hid (Jx W w9 G5 A7 c7 gg)) (fun v14 _ => mm - (intOf v14).toNat)
          case atStart => exact ⟨0, by omega, rfl, HZ5, HJ5⟩
          case round =>
            obtain ⟨j, hj, rfl, HZ9, HJ9⟩ := hrel
            by_cases hj1 : j < mm
            · have hj2 : (j : Int) < (mm : Int) := by omega
              obtain ⟨b9, o9, x9, rfl, hx9, k9⟩ := HJ9.out.at_ j (by rw [HN5.out.2.1]; exact hj1)
              have HM9 := Lib.hid (List.mem_of_getElem? hx9)
              clear hx9
              go_wp2_with (go_at_call 15; (with_reducible refine (c_has HZ9.out x9 false (HN5.out.1.out x9 HM9.out).2 (HN5.out.1.wf x9 HM9.out)).mono ?_); rintro e y1 ⟨rfl, h1⟩; have HZa := Lib.hid (HZ9.out.on h1); have HJa := Lib.hid (HJ9.out.on h1); clear h1)
              go_roundw
              case rel => exact ⟨j + 1, by omega, by go_num, HZa, HJa⟩
              case measure => simp [intOf] <;> omega
            · have hj2 : ¬ (j : Int) < (mm : Int) := by omega
              go_wp2_with fail
              go_roundw
              case rel => exact ⟨i + 1, mm, _, G5, A7, c7, gg, la, by omega, by go_num, by first | rfl | go_num, rfl, HZ9, HJ9, Lib.hid ⟨HN5.out.1, HN5.out.2.1, HN5.out.2.2.1, by first | exact HN5.out.2.2.2 | rfl⟩, by omega⟩
              case measure => simp [intOf] <;> omega
        · have hk7 : ((k : Int) == 64) = false := by rw [beq_eq_false_iff_ne]; omega
          have HNF := open_more (t := t) (ox % 4294967296) (by have := HKL.out; omega)
          rw [HN.out.2.2.2] at HNF
          have HNF := Lib.hid HNF
          have HN5 := Lib.hid (show Nv ⟨t.l ++ [(((la + 1 : Nat) : Int), cn0 (ox % 4294967296))], la + 1⟩ g ∧ g.length = m ∧ Gc ⟨t.l ++ [(((la + 1 : Nat) : Int), cn0 (ox % 4294967296))], la + 1⟩ ∧ la + 1 = la + 1 from by
            have h1 := HN.out.1.open_ (ox % 4294967296)
            have h2 := gc_open2 HN.out.2.2.1 (ox % 4294967296) (by have := HKL.out; omega)
            rw [HN.out.2.2.2] at h1 h2
            exact ⟨h1, HN.out.2.1, h2, rfl⟩)
          have hwl := (iwrap ((la : Int) + 1) (la + 1) (by omega) (by omega)).1
          have hnn : ((((la + 1 : Nat) : Int)) != ((la + 1 : Nat) : Int)) = false := by simp
          have hk8 : ¬ (k = 64) := hk6
          clear hk6
          go_upto_region 14 with (go_at_call 14; (with_reducible refine (c_open HZ3.out HN.out.2.2.1 (by have := HN.out.2.2.2; omega) (ox % 4294967296) ((la + 1 : Nat) : Int) 0 _ HNF.out).mono ?_); rintro e w4 ⟨G5, rfl, h1, h2⟩; have HZ5 := Lib.hid h1; have HJ5 := Lib.hid (HJ3.out.step h2); clear h1 h2)
          clear e0 e1 e2 e3
          obtain ⟨mm, hmm⟩ : ∃ mm, m = mm := ⟨_, rfl⟩
          obtain ⟨gg, hgg⟩ : ∃ gg, g = gg := ⟨_, rfl⟩
          obtain ⟨A7, hA7⟩ : ∃ A7, A5 = A7 := ⟨_, rfl⟩
          obtain ⟨c7, hc7⟩ : ∃ c7, c5 = c7 := ⟨_, rfl⟩
          rw [hmm, hgg] at HN5
          rw [hA7, hc7, hgg] at HJ5
          try rw [hmm]
          try rw [hA7]
          try rw [hc7]
          have hmb : mm ≤ 1000 := by omega
          clear hmm hgg hA7 hc7
          go_wp2_with fail
          go_loopw [14] (fun v14 w9 => ∃ j : Nat, j ≤ mm ∧ v14 = .int .i64 (j : Int) ∧ Hid (Zc W w9 G5 tb ⟨t.l ++ [(((la + 1 : Nat) : Int), cn0 (ox % 4294967296))], la + 1⟩) ∧ Hid (Jx W w9 G5 A7 c7 gg)) (fun v14 _ => mm - (intOf v14).toNat)
          case atStart => exact ⟨0, by omega, rfl, HZ5, HJ5⟩
          case round =>
            obtain ⟨j, hj, rfl, HZ9, HJ9⟩ := hrel
            by_cases hj1 : j < mm
            · have hj2 : (j : Int) < (mm : Int) := by omega
              obtain ⟨b9, o9, x9, rfl, hx9, k9⟩ := HJ9.out.at_ j (by rw [HN5.out.2.1]; exact hj1)
              have HM9 := Lib.hid (List.mem_of_getElem? hx9)
              clear hx9
              go_wp2_with (go_at_call 15; (with_reducible refine (c_has HZ9.out x9 false (HN5.out.1.out x9 HM9.out).2 (HN5.out.1.wf x9 HM9.out)).mono ?_); rintro e y1 ⟨rfl, h1⟩; have HZa := Lib.hid (HZ9.out.on h1); have HJa := Lib.hid (HJ9.out.on h1); clear h1)
              go_roundw
              case rel => exact ⟨j + 1, by omega, by go_num, HZa, HJa⟩
              case measure => simp [intOf] <;> omega
            · have hj2 : ¬ (j : Int) < (mm : Int) := by omega
              go_wp2_with fail
              go_roundw
              case rel => exact ⟨i + 1, mm, _, G5, A7, c7, gg, la + 1, by omega, by go_num, by first | rfl | go_num, rfl, HZ9, HJ9, Lib.hid ⟨HN5.out.1, HN5.out.2.1, HN5.out.2.2.1, by first | exact HN5.out.2.2.2 | rfl⟩, by omega⟩
              case measure => simp [intOf] <;> omega
      · have h0b : (ow == 0) = false := by simp [h0]
        have HO0 := Lib.hid h0
        clear h0
        by_cases h1 : ow = 1
        · subst h1
          have e0 : v.cell? ⟨kb, 0, none⟩ = some (.int .i64 1) := HB.out.b.cell 0
          have e1 : v.cell? ⟨kb, 1, none⟩ = some (.int .i64 oi) := HB.out.b.cell 1
          have e2 : v.cell? ⟨kb, 2, none⟩ = some (.int .i64 ox) := HB.out.b.cell 2
          have e3 : v.cell? ⟨kb, 3, none⟩ = some (.slice oA on oc) := HB.out.b.cell 3
          obtain ⟨hd, hhd⟩ : ∃ hd, hsC t oi = hd := ⟨_, rfl⟩
          have HHD := Lib.hid hhd
          clear hhd
          go_upto_region 20 with (go_at_call 15; (with_reducible refine (c_has HZv.out oi hd HHD.out HWI.out).mono ?_); rintro e w3 ⟨rfl, h1⟩; have HZ3 := Lib.hid (HZv.out.on h1); have HJ3 := Lib.hid (HJv.out.on h1); have HB3 := Lib.hid (HB.out.on h1); clear h1)
          clear e0 e1 e2 e3
          have e0 : w3.cell? ⟨kb, 0, none⟩ = some (.int .i64 1) := HB3.out.b.cell 0
          have e1 : w3.cell? ⟨kb, 1, none⟩ = some (.int .i64 oi) := HB3.out.b.cell 1
          have e2 : w3.cell? ⟨kb, 2, none⟩ = some (.int .i64 ox) := HB3.out.b.cell 2
          have e3 : w3.cell? ⟨kb, 3, none⟩ = some (.slice oA on oc) := HB3.out.b.cell 3
          cases hd with
          | false =>
            have HCL := Lib.hid (close_no HHD.out)
            go_upto_region 21 with (go_at_call 16; (with_reducible refine (c_close HZ3.out HN.out.2.2.1 oi false t HCL.out HWI.out).mono ?_); rintro e w4 ⟨rfl, h1, h2⟩; have HZ4 := Lib.hid h1; have HJ4 := Lib.hid (HJ3.out.step h2); have HB4 := Lib.hid (HB3.out.step h2); clear h1 h2)
            clear e0 e1 e2 e3
            have e0 : w4.cell? ⟨kb, 0, none⟩ = some (.int .i64 1) := HB4.out.b.cell 0
            have e1 : w4.cell? ⟨kb, 1, none⟩ = some (.int .i64 oi) := HB4.out.b.cell 1
            have e2 : w4.cell? ⟨kb, 2, none⟩ = some (.int .i64 ox) := HB4.out.b.cell 2
            have e3 : w4.cell? ⟨kb, 3, none⟩ = some (.slice oA on oc) := HB4.out.b.cell 3
            go_upto_region 26 with (go_at_call 15; (with_reducible refine (c_has HZ4.out oi false HHD.out HWI.out).mono ?_); rintro e w5 ⟨rfl, h1⟩; obtain ⟨G5, hG5⟩ : ∃ G5, G = G5 := ⟨_, rfl⟩; have HZ5 := Lib.hid (show Zc W w5 G5 tb t by rw [← hG5]; exact HZ4.out.on h1); have HJ5 := Lib.hid (show Jx W w5 G5 A5 c5 g by rw [← hG5]; exact HJ4.out.on h1); clear h1 hG5)
            clear e0 e1 e2 e3
            have HN5 := HN
            obtain ⟨mm, hmm⟩ : ∃ mm, m = mm := ⟨_, rfl⟩
            obtain ⟨gg, hgg⟩ : ∃ gg, g = gg := ⟨_, rfl⟩
            obtain ⟨A7, hA7⟩ : ∃ A7, A5 = A7 := ⟨_, rfl⟩
            obtain ⟨c7, hc7⟩ : ∃ c7, c5 = c7 := ⟨_, rfl⟩
            rw [hmm, hgg] at HN5
            rw [hA7, hc7, hgg] at HJ5
            try rw [hmm]
            try rw [hA7]
            try rw [hc7]
            have hmb : mm ≤ 1000 := by omega
            clear hmm hgg hA7 hc7
            go_wp2_with fail
            go_loopw [14] (fun v14 w9 => ∃ j : Nat, j ≤ mm ∧ v14 = .int .i64 (j : Int) ∧ Hid (Zc W w9 G5 tb t) ∧ Hid (Jx W w9 G5 A7 c7 gg)) (fun v14 _ => mm - (intOf v14).toNat)
            case atStart => exact ⟨0, by omega, rfl, HZ5, HJ5⟩
            case round =>
              obtain ⟨j, hj, rfl, HZ9, HJ9⟩ := hrel
              by_cases hj1 : j < mm
              · have hj2 : (j : Int) < (mm : Int) := by omega
                obtain ⟨b9, o9, x9, rfl, hx9, k9⟩ := HJ9.out.at_ j (by rw [HN5.out.2.1]; exact hj1)
                have HM9 := Lib.hid (List.mem_of_getElem? hx9)
                clear hx9
                go_wp2_with (go_at_call 15; (with_reducible refine (c_has HZ9.out x9 false (HN5.out.1.out x9 HM9.out).2 (HN5.out.1.wf x9 HM9.out)).mono ?_); rintro e y1 ⟨rfl, h1⟩; have HZa := Lib.hid (HZ9.out.on h1); have HJa := Lib.hid (HJ9.out.on h1); clear h1)
                go_roundw
                case rel => exact ⟨j + 1, by omega, by go_num, HZa, HJa⟩
                case measure => simp [intOf] <;> omega
              · have hj2 : ¬ (j : Int) < (mm : Int) := by omega
                go_wp2_with fail
                go_roundw
                case rel => exact ⟨i + 1, mm, _, G5, A7, c7, gg, la, by omega, by go_num, by first | rfl | go_num, rfl, HZ9, HJ9, Lib.hid ⟨HN5.out.1, HN5.out.2.1, HN5.out.2.2.1, by first | exact HN5.out.2.2.2 | rfl⟩, by omega⟩
                case measure => simp [intOf] <;> omega
          | true =>
            have HCL := Lib.hid (close_yes HHD.out)
            have HNC := Lib.hid (show Nv { t with l := rmC t.l oi } (g ++ [oi]) ∧ (g ++ [oi]).length = m + 1 ∧ Gc { t with l := rmC t.l oi } ∧ t.la = la from ⟨HN.out.1.close_ HN.out.2.2.1 HHD.out HWI.out, by rw [List.length_append, HN.out.2.1]; rfl, gc_close2 HN.out.2.2.1 HHD.out, HN.out.2.2.2⟩)
            go_upto_region 21 with (go_at_call 16; (with_reducible refine (c_close HZ3.out HN.out.2.2.1 oi true _ HCL.out HWI.out).mono ?_); rintro e w4 ⟨rfl, h1, h2⟩; have HZ4 := Lib.hid h1; have HJ4 := Lib.hid (HJ3.out.step h2); have HB4 := Lib.hid (HB3.out.step h2); clear h1 h2)
            clear e0 e1 e2 e3
            have e0 : w4.cell? ⟨kb, 0, none⟩ = some (.int .i64 1) := HB4.out.b.cell 0
            have e1 : w4.cell? ⟨kb, 1, none⟩ = some (.int .i64 oi) := HB4.out.b.cell 1
            have e2 : w4.cell? ⟨kb, 2, none⟩ = some (.int .i64 ox) := HB4.out.b.cell 2
            have e3 : w4.cell? ⟨kb, 3, none⟩ = some (.slice oA on oc) := HB4.out.b.cell 3
            go_upto_region 24 with (go_at_call 15; (with_reducible refine (c_has HZ4.out oi false (rm_gone t oi) HWI.out).mono ?_); rintro e w5 ⟨rfl, h1⟩; have HZ5 := Lib.hid (HZ4.out.on h1); have HJ5 := Lib.hid (HJ4.out.on h1); have HB5 := Lib.hid (HB4.out.on h1); clear h1)
            clear e0 e1 e2 e3
            have e1 : w5.cell? ⟨kb, 1, none⟩ = some (.int .i64 oi) := HB5.out.b.cell 1
            obtain ⟨ab, hab⟩ : ∃ ab, w5.heap.size = ab := ⟨_, rfl⟩
            obtain ⟨w6, hw6⟩ : ∃ w6, w5.alloc (.cells #[.int .i64 oi] 3) = w6 := ⟨_, rfl⟩
            have hb6 : Below w5.heap.size w5 w6 := by rw [← hw6]; exact (Below.refl _ _).alloc (Nat.le_refl _) _
            have z0 : w6.cell? ⟨ab, 0, none⟩ = some (.int .i64 oi) := by rw [← hw6, ← hab]; exact (Bk.new w5 3 #[.int .i64 oi]).cell 0
            have HJ6 := Lib.hid (HJ5.out.on hb6)
            have HZ6 := Lib.hid (HZ5.out.on hb6)
            clear hb6 HJ5 HZ5
            go_upto_region 26 with ((try rw [hw6]); (try rw [hab]); at_builtin; refine wp_jx rfl (.tmp 99) (.tmp 102) rfl m rfl HN.out.2.1 HJ6.out HZ6.out.hi oi ab 1 rfl z0 HZ6.out.l.size (by have := HKL.out; omega) (m + 1) rfl ?_; intro g7 c7 w7 HA7)
            clear hw6 hab z0 e1
            obtain ⟨G5, hG5⟩ : ∃ G5, G = G5 := ⟨_, rfl⟩
            have HZ5 := Lib.hid (show Zc W w7 G5 tb { t with l := rmC t.l oi } by rw [← hG5]; exact HA7.out.z HZ6.out)
            obtain ⟨gg, hgg⟩ : ∃ gg, g ++ [oi] = gg := ⟨_, rfl⟩
            obtain ⟨A7, hA7⟩ : ∃ A7 : Option Addr, some ⟨g7, 0, none⟩ = A7 := ⟨_, rfl⟩
            have HJ5 := Lib.hid (show Jx W w7 G5 A7 c7 gg by rw [← hG5, ← hgg, ← hA7]; exact HA7.out.j)
            obtain ⟨mm, hmm⟩ : ∃ mm, m + 1 = mm := ⟨_, rfl⟩
            rw [hgg, hmm] at HNC
            have HN5 := HNC
            try rw [hmm]
            try rw [hA7]
            have hmb : mm ≤ 1000 := by omega
            clear hG5 hgg hA7 hmm
            go_wp2_with fail
            go_loopw [14] (fun v14 w9 => ∃ j : Nat, j ≤ mm ∧ v14 = .int .i64 (j : Int) ∧ Hid (Zc W w9 G5 tb { t with l := rmC t.l oi }) ∧ Hid (Jx W w9 G5 A7 c7 gg)) (fun v14 _ => mm - (intOf v14).toNat)
            case atStart => exact ⟨0, by omega, rfl, HZ5, HJ5⟩
            case round =>
              obtain ⟨j, hj, rfl, HZ9, HJ9⟩ := hrel
              by_cases hj1 : j < mm
              · have hj2 : (j : Int) < (mm : Int) := by omega
                obtain ⟨b9, o9, x9, rfl, hx9, k9⟩ := HJ9.out.at_ j (by rw [HN5.out.2.1]; exact hj1)
                have HM9 := Lib.hid (List.mem_of_getElem? hx9)
                clear hx9
                go_wp2_with (go_at_call 15; (with_reducible refine (c_has HZ9.out x9 false (HN5.out.1.out x9 HM9.out).2 (HN5.out.1.wf x9 HM9.out)).mono ?_); rintro e y1 ⟨rfl, h1⟩; have HZa := Lib.hid (HZ9.out.on h1); have HJa := Lib.hid (HJ9.out.on h1); clear h1)
                go_roundw
                case rel => exact ⟨j + 1, by omega, by go_num, HZa, HJa⟩
                case measure => simp [intOf] <;> omega
              · have hj2 : ¬ (j : Int) < (mm : Int) := by omega
                go_wp2_with fail
                go_roundw
                case rel => exact ⟨i + 1, mm, _, G5, A7, c7, gg, la, by omega, by go_num, by first | rfl | go_num, rfl, HZ9, HJ9, Lib.hid ⟨HN5.out.1, HN5.out.2.1, HN5.out.2.2.1, by first | exact HN5.out.2.2.2 | rfl⟩, by omega⟩
                case measure => simp [intOf] <;> omega
        · have h1b : (ow == 1) = false := by simp [h1]
          have HO1 := Lib.hid h1
          clear h1
          have e0 : v.cell? ⟨kb, 0, none⟩ = some (.int .i64 ow) := HB.out.b.cell 0
          have e1 : v.cell? ⟨kb, 1, none⟩ = some (.int .i64 oi) := HB.out.b.cell 1
          have e2 : v.cell? ⟨kb, 2, none⟩ = some (.int .i64 ox) := HB.out.b.cell 2
          have e3 : v.cell? ⟨kb, 3, none⟩ = some (.slice oA on oc) := HB.out.b.cell 3
          have HDO := Lib.hid (does_ok HZv.out HN.out.2.2.1 (by have := HN.out.2.2.2; omega) ⟨ow, oi, ox, oA, oc, ol⟩ on HON.out HWI.out (HOK.out v HZv.out.l))
          have HN5 := Lib.hid (show Nv (doC t ⟨ow, oi, ox, oA, oc, ol⟩) g ∧ g.length = m ∧ Gc (doC t ⟨ow, oi, ox, oA, oc, ol⟩) ∧ (doC t ⟨ow, oi, ox, oA, oc, ol⟩).la = la from by
            have hs := sk_do t ⟨ow, oi, ox, oA, oc, ol⟩ HO0.out HO1.out
            exact ⟨HN.out.1.sk hs, HN.out.2.1, gc_do HN.out.2.2.1 _, hs.la.trans HN.out.2.2.2⟩)
          obtain ⟨t2, ht2⟩ : ∃ t2, doC t ⟨ow, oi, ox, oA, oc, ol⟩ = t2 := ⟨_, rfl⟩
          rw [ht2] at HDO HN5
          clear ht2
          go_upto_region 26 with (go_at_call 17; (with_reducible refine (HDO.out).mono ?_); rintro e w4 ⟨G5, rfl, h1, h2⟩; have HZ5 := Lib.hid h1; have HJ5 := Lib.hid (HJv.out.step h2); clear h1 h2)
          clear e0 e1 e2 e3
          obtain ⟨mm, hmm⟩ : ∃ mm, m = mm := ⟨_, rfl⟩
          obtain ⟨gg, hgg⟩ : ∃ gg, g = gg := ⟨_, rfl⟩
          obtain ⟨A7, hA7⟩ : ∃ A7, A5 = A7 := ⟨_, rfl⟩
          obtain ⟨c7, hc7⟩ : ∃ c7, c5 = c7 := ⟨_, rfl⟩
          rw [hmm, hgg] at HN5
          rw [hA7, hc7, hgg] at HJ5
          try rw [hmm]
          try rw [hA7]
          try rw [hc7]
          have hmb : mm ≤ 1000 := by omega
          clear hmm hgg hA7 hc7
          go_wp2_with fail
          go_loopw [14] (fun v14 w9 => ∃ j : Nat, j ≤ mm ∧ v14 = .int .i64 (j : Int) ∧ Hid (Zc W w9 G5 tb t2) ∧ Hid (Jx W w9 G5 A7 c7 gg)) (fun v14 _ => mm - (intOf v14).toNat)
          case atStart => exact ⟨0, by omega, rfl, HZ5, HJ5⟩
          case round =>
            obtain ⟨j, hj, rfl, HZ9, HJ9⟩ := hrel
            by_cases hj1 : j < mm
            · have hj2 : (j : Int) < (mm : Int) := by omega
              obtain ⟨b9, o9, x9, rfl, hx9, k9⟩ := HJ9.out.at_ j (by rw [HN5.out.2.1]; exact hj1)
              have HM9 := Lib.hid (List.mem_of_getElem? hx9)
              clear hx9
              go_wp2_with (go_at_call 15; (with_reducible refine (c_has HZ9.out x9 false (HN5.out.1.out x9 HM9.out).2 (HN5.out.1.wf x9 HM9.out)).mono ?_); rintro e y1 ⟨rfl, h1⟩; have HZa := Lib.hid (HZ9.out.on h1); have HJa := Lib.hid (HJ9.out.on h1); clear h1)
              go_roundw
              case rel => exact ⟨j + 1, by omega, by go_num, HZa, HJa⟩
              case measure => simp [intOf] <;> omega
            · have hj2 : ¬ (j : Int) < (mm : Int) := by omega
              go_wp2_with fail
              go_roundw
              case rel => exact ⟨i + 1, mm, _, G5, A7, c7, gg, la, by omega, by go_num, by first | rfl | go_num, rfl, HZ9, HJ9, Lib.hid ⟨HN5.out.1, HN5.out.2.1, HN5.out.2.2.1, by first | exact HN5.out.2.2.2 | rfl⟩, by omega⟩
              case measure => simp [intOf] <;> omega
    · have hi2 : ¬ (i : Int) < (n : Int) := by omega
      obtain ⟨k, hk⟩ : ∃ k, (alC t).length = k := ⟨_, rfl⟩
      have HK := Lib.hid hk
      have hk6 : k ≤ 64 := by rw [← hk, al_len]; exact HN.out.2.2.1.few
      have hkm : k + m = la := by have h1 := HN.out.1.len; have h2 := HN.out.2.1; have h3 := HN.out.2.2.2; rw [al_len] at hk; omega
      have hwk := iwrap ((la : Int) - (m : Int)) k (by omega) (by omega)
      have hwk1 := hwk.1
      have hk7 : (k : Int) ≤ 64 := by omega
      clear hk hkm hwk
      go_wp2_with (first
        | (go_at_call 13; have HZ0 := HZ; (with_reducible refine (c_all HZ0.out HN.out.2.2.1 k HK.out).mono ?_); rintro e w4 ⟨A4, c4, rfl, -, h1⟩; have HZ4 := Lib.hid (HZ.out.on h1); clear h1 HZ HZ0)
        | (go_at_call 13; (with_reducible refine (c_all HZ4.out HN.out.2.2.1 k HK.out).mono ?_); rintro e w5 ⟨A6, c6, rfl, -, h1⟩; have HZ5 := Lib.hid (HZ4.out.on h1); clear h1))
      go_ret
      exact ⟨rfl, HZ5.out.l⟩
end Go.Proofs.Ytndamiocmdnenaa
