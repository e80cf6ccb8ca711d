/- PumpPlays: calls answer as the document says: the walk. (Written by gen_puplays.py.) -/
import Derived.Test.YtpomeimjgbblmaaPuP
namespace Go.Proofs.Ytpomeimjgbblmaa
set_option linter.unusedVariables false
set_option maxRecDepth 100000
set_option linter.unusedSimpArgs false
open Go.RowKit

set_option maxRecDepth 100000 in
set_option maxHeartbeats 16000000 in
theorem walk_PumpPlays (x0 : Int) (A : Option Addr) (L : List OpP) (n c : Nat) (W : World) (w0 : (Lit.int .i64 x0).wf = true) (h : InP W A L n c) :
    Calls Try.prog 3 #[.int .i64 x0, .slice A n c] W fun e w' => e = .returned (.bool true) ∧ Below W.heap.size W w' := by
  have HI := Lib.hid h
  have hcapn : n ≤ 9223372036854775807 := by have h1 := h.cap; have h2 := h.max; unfold maxLen at h2; omega
  obtain ⟨m, hm⟩ : ∃ m, mostM x0 = m := ⟨_, rfl⟩
  have hm6 : m ≤ 65536 := by unfold mostM at hm; omega
  have HMM := Lib.hid hm
  clear h w0 hm
  go_enter Try.func3, Try.ntmps3
  go_upto_region 2 with (go_at_call 10; (with_reducible refine (puhead_ok _).mono ?_); rintro e u1 ⟨rfl, hb⟩; have HB1 := Lib.hid hb; clear hb)
  go_upto_region 3 with (go_at_call 11; (with_reducible refine (y_new x0 m HMM.out HB1.out).mono ?_); rintro e u2 ⟨G2, pb, rfl, h1, h2, h3⟩; have HZ2 := Lib.hid h1; clear h1 h2 h3)
  go_upto_region 4 with (go_at_call 12; (with_reducible refine (r_new x0 m HMM.out HZ2.out.l).mono ?_); rintro e u3 ⟨H3, rb, rfl, h1, h2, h3⟩; have HV3 := Lib.hid (show Vp W u3 G2 pb pu0 H3 rb pu0 m from ⟨HZ2.out.on h2, h1, fun y hy hH => absurd (HZ2.out.hi y hy) (Nat.not_lt.2 (h3 y hH))⟩); clear h1 h2 h3)
  have HG := Lib.hid (pugreat_ok A L n c W u3 HI.out HV3.out.z.l)
  go_wp2_with (go_at_call 13; (with_reducible refine HG.out.mono ?_); rintro e uu ⟨⟨v, rfl, hv⟩, hw⟩; rw [hw]; clear hw; cases v)
  all_goals try (go_ret; exact ⟨rfl, HV3.out.z.l⟩)
  have h400 : n ≤ 400 := by simpa using hv
  clear HG hv
  go_loopw [8] (fun v8 wr => ∃ (i : Nat) (p : Pu) (G H : List Nat), i ≤ n ∧ v8 = .int .i64 (i : Int) ∧ Hid (Vp W wr G pb p H rb p m) ∧ Hid (Gu m p ∧ Fi i p)) (fun v8 _ => n - (intOf v8).toNat)
  case atStart => exact ⟨0, pu0, G2, H3, by omega, rfl, HV3, Lib.hid ⟨gu_new m, fi_new⟩⟩
  case round =>
    obtain ⟨i, p, G, H, hi, rfl, HV, HE⟩ := hrel
    by_cases hi1 : i < n
    · have hi2 : (i : Int) < (n : Int) := by omega
      have HFU := Lib.hid (HE.out.2.fu (by omega))
      obtain ⟨bx, o, op, rfl, hx, hc⟩ := HI.out.at_ i hi1
      obtain ⟨⟨x0, x1, x2, x3⟩, hok⟩ := hc wr HV.out.z.l
      obtain ⟨ow, os, oA, oc, ol, ox⟩ := op
      dsimp only at x0 x1 x2 x3
      obtain ⟨on, hon⟩ : ∃ on, ol.length = on := ⟨_, rfl⟩
      rw [hon] at x2
      have HON := Lib.hid hon
      have HOK := Lib.hid (fun u (hu : Below W.heap.size W u) => (hc u hu).2)
      clear hx hc hok hon
      go_upto_region 10 with fail
      obtain ⟨kb, hkb⟩ : ∃ kb, wr.heap.size = kb := ⟨_, rfl⟩
      obtain ⟨v, hv⟩ : ∃ v, wr.alloc (.cells #[.int .i64 ow, .int .i64 os, .slice oA on oc, .int .i64 ox] 31) = v := ⟨_, rfl⟩
      have hbv : Below wr.heap.size wr v := by rw [← hv]; exact (Below.refl _ _).alloc (Nat.le_refl _) _
      have HB := Lib.hid (show Bz v (G ++ H) kb 31 #[.int .i64 ow, .int .i64 os, .slice oA on oc, .int .i64 ox] by rw [← hv, ← hkb]; exact Bz.new HV.out.hi _ _)
      have HVv := Lib.hid (HV.out.on hbv)
      try rw [hv]
      try rw [hkb]
      clear hv hkb hbv x0 x1 x2 x3
      have e0 : v.cell? ⟨kb, 0, none⟩ = some (.int .i64 ow) := HB.out.b.cell 0
      have e1 : v.cell? ⟨kb, 1, none⟩ = some (.int .i64 os) := HB.out.b.cell 1
      have e2 : v.cell? ⟨kb, 2, none⟩ = some (.slice oA on oc) := HB.out.b.cell 2
      have e3 : v.cell? ⟨kb, 3, none⟩ = some (.int .i64 ox) := HB.out.b.cell 3
      by_cases h2 : ow = 2
      · subst h2
        obtain ⟨⟨⟨l, b⟩, p2⟩, hR⟩ : ∃ R, outP p os ox = R := ⟨_, rfl⟩
        have HR := Lib.hid hR
        have HE2 := Lib.hid (show Gu m p2 ∧ Fi (i + 1) p2 from ⟨gu_out2 HE.out.1 hR, fi_out HE.out.2 HE.out.1 hm6 hR⟩)
        obtain ⟨t, ht⟩ : ∃ t, l.length = t := ⟨_, rfl⟩
        have HT := Lib.hid ht
        obtain ⟨S, hS⟩ : ∃ S : ByteArray, (⟨l.toArray⟩ : ByteArray) = S := ⟨_, rfl⟩
        have HS9 := Lib.hid hS
        have m1 : (S.toList != S.toList) = false := by simp
        have m2 : (b != b) = false := by cases b <;> rfl
        clear hR ht hS
        go_upto_region 17 with (go_at_call 14; (with_reducible refine (y_out HVv.out.z HE.out.1 hm6 HFU.out os ox t l b p2 HR.out HT.out).mono ?_); rintro e u4 ⟨G5, A4, c4, rfl, h0, h1, h2⟩; have HV4 := Lib.hid (HVv.out.left h2 h1); have HB4 := Lib.hid (HB.out.step (h2.left H)); have HX4 := Lib.hid (h0.rf (G := G5 ++ H) (fun y hy => by rcases List.mem_append.1 hy with e | e; exact .inl e; exact .inr (HVv.out.d.hi y e))); clear h0 h1 h2)
        clear e0 e1 e2 e3
        have e0 : u4.cell? ⟨kb, 0, none⟩ = some (.int .i64 2) := HB4.out.b.cell 0
        have e1 : u4.cell? ⟨kb, 1, none⟩ = some (.int .i64 os) := HB4.out.b.cell 1
        have e2 : u4.cell? ⟨kb, 2, none⟩ = some (.slice oA on oc) := HB4.out.b.cell 2
        have e3 : u4.cell? ⟨kb, 3, none⟩ = some (.int .i64 ox) := HB4.out.b.cell 3
        go_upto_region 18 with (go_at_call 15; (with_reducible refine (r_out HV4.out.d HFU.out os ox t l b p2 HR.out HT.out).mono ?_); rintro e u5 ⟨H5, A5, c5, rfl, h0, h1, h2⟩; have HV5 := Lib.hid (HV4.out.right h2 h1); have HX5 := Lib.hid (HX4.out.step (h2.right G5)); have HY5 := Lib.hid h0; clear h0 h1 h2)
        clear e0 e1 e2 e3
        have q4 := str_of (P := Try.prog) HX5.out.rb 29 5 9 Try.underlying29 Try.underlying5 Try.underlying9 t c4 HT.out
        have q5 := str_of (P := Try.prog) HY5.out.rb 29 5 9 Try.underlying29 Try.underlying5 Try.underlying9 t c5 HT.out
        rw [HS9.out] at q4 q5
        go_upto_region 28 with fail
        go_wp2_with fail
        go_loopw [18] (fun v18 w9 => ∃ k : Int, -1 ≤ k ∧ k ≤ 3 ∧ v18 = .int .i64 k ∧ Hid (Vp W w9 G5 pb p2 H5 rb p2 m)) (fun v18 _ => (3 - intOf v18).toNat)
        case atStart => exact ⟨-1, by omega, by omega, rfl, HV5⟩
        case round =>
          obtain ⟨k, hk1, hk2, rfl, HV9⟩ := hrel
          by_cases hk3 : k < 3
          · have hk4 : decide (k < 3) = true := decide_eq_true hk3
            have hk5 : IntKind.i64.wrap (k + 1) = k + 1 := by rw [IntKind.wrap_i64]; omega
            obtain ⟨a1, ha1⟩ : ∃ a, wtP p2 k = a := ⟨_, rfl⟩
            obtain ⟨a2, ha2⟩ : ∃ a, rmP m p2 k = a := ⟨_, rfl⟩
            obtain ⟨a3, ha3⟩ : ∃ a, mvP p2 k = a := ⟨_, rfl⟩
            obtain ⟨a4, ha4⟩ : ∃ a, ovP p2 = a := ⟨_, rfl⟩
            have HA := Lib.hid (And.intro ha1 (And.intro ha2 (And.intro ha3 ha4)))
            have n1 : ((a1 : Int) != (a1 : Int)) = false := by simp
            have n2 : ((a2 : Int) != (a2 : Int)) = false := by simp
            have n3 : (a3 != a3) = false := by simp
            have n4 : (a4 != a4) = false := by cases a4 <;> rfl
            clear ha1 ha2 ha3 ha4
            go_wp2_with (first
              | (go_at_call 22; (with_reducible refine (y_waits HV9.out.z HE2.out.1 hm6 k a1 HA.out.1).mono ?_); rintro e y1 ⟨rfl, h1⟩; have HVa := Lib.hid (HV9.out.on h1); clear h1)
              | (go_at_call 23; (with_reducible refine (r_waits HVa.out.d k a1 HA.out.1).mono ?_); rintro e y2 ⟨rfl, hw⟩; rw [hw]; clear hw)
              | (go_at_call 24; (with_reducible refine (y_room HVa.out.z HE2.out.1 hm6 k a2 HA.out.2.1).mono ?_); rintro e y3 ⟨rfl, h1⟩; have HVb := Lib.hid (HVa.out.on h1); clear h1)
              | (go_at_call 25; (with_reducible refine (r_room HVb.out.d k a2 HA.out.2.1).mono ?_); rintro e y4 ⟨rfl, h1⟩; have HVc := Lib.hid (HVb.out.on h1); clear h1)
              | (go_at_call 26; (with_reducible refine (y_moved HVc.out.z k a3 HA.out.2.2.1).mono ?_); rintro e y5 ⟨rfl, h1⟩; have HVd := Lib.hid (HVc.out.on h1); clear h1)
              | (go_at_call 27; (with_reducible refine (r_moved HVd.out.d k a3 HA.out.2.2.1).mono ?_); rintro e y6 ⟨rfl, hw⟩; rw [hw]; clear hw)
              | (go_at_call 28; (with_reducible refine (y_over HVd.out.z a4 HA.out.2.2.2).mono ?_); rintro e y7 ⟨rfl, h1⟩; have HVe := Lib.hid (HVd.out.on h1); clear h1)
              | (go_at_call 29; (with_reducible refine (r_over HVe.out.d a4 HA.out.2.2.2).mono ?_); rintro e y8 ⟨rfl, hw⟩; rw [hw]; clear hw))
            go_roundw
            case rel => exact ⟨k + 1, by omega, by omega, by go_num, HVe⟩
            case measure => simp [intOf] <;> omega
          · have hk4 : decide (k < 3) = false := decide_eq_false hk3
            go_wp2_with fail
            go_roundw
            case rel => exact ⟨i + 1, p2, G5, H5, by omega, by go_num, HV9, HE2⟩
            case measure => simp [intOf] <;> omega
      · have h2b : (ow == 2) = false := by simp [h2]
        clear h2
        by_cases h3 : ow = 3
        · subst h3
          obtain ⟨⟨b, p2⟩, hR⟩ : ∃ R, endP p os = R := ⟨_, rfl⟩
          have HR := Lib.hid hR
          have HE2 := Lib.hid (show Gu m p2 ∧ Fi (i + 1) p2 from ⟨gu_end2 HE.out.1 hR, fi_end HE.out.2 hR⟩)
          have m2 : (b != b) = false := by cases b <;> rfl
          clear hR
          go_upto_region 22 with (go_at_call 16; (with_reducible refine (y_end HVv.out.z os b p2 HR.out).mono ?_); rintro e u4 ⟨G5, rfl, h1, h2⟩; have HV4 := Lib.hid (HVv.out.left h2 h1); have HB4 := Lib.hid (HB.out.step (h2.left H)); clear h1 h2)
          clear e0 e1 e2 e3
          have e0 : u4.cell? ⟨kb, 0, none⟩ = some (.int .i64 3) := HB4.out.b.cell 0
          have e1 : u4.cell? ⟨kb, 1, none⟩ = some (.int .i64 os) := HB4.out.b.cell 1
          have e2 : u4.cell? ⟨kb, 2, none⟩ = some (.slice oA on oc) := HB4.out.b.cell 2
          have e3 : u4.cell? ⟨kb, 3, none⟩ = some (.int .i64 ox) := HB4.out.b.cell 3
          go_upto_region 23 with (go_at_call 17; (with_reducible refine (r_end HV4.out.d os b p2 HR.out).mono ?_); rintro e u5 ⟨rfl, h1, h2⟩; obtain ⟨H5, hH5⟩ : ∃ H5, H = H5 := ⟨_, rfl⟩; have HV5 := Lib.hid (show Vp W u5 G5 pb p2 H5 rb p2 m by rw [← hH5]; exact HV4.out.right (Sp.of h2) h1); clear h1 h2 hH5)
          clear e0 e1 e2 e3
          go_upto_region 28 with fail
          go_wp2_with fail
          go_loopw [18] (fun v18 w9 => ∃ k : Int, -1 ≤ k ∧ k ≤ 3 ∧ v18 = .int .i64 k ∧ Hid (Vp W w9 G5 pb p2 H5 rb p2 m)) (fun v18 _ => (3 - intOf v18).toNat)
          case atStart => exact ⟨-1, by omega, by omega, rfl, HV5⟩
          case round =>
            obtain ⟨k, hk1, hk2, rfl, HV9⟩ := hrel
            by_cases hk3 : k < 3
            · have hk4 : decide (k < 3) = true := decide_eq_true hk3
              have hk5 : IntKind.i64.wrap (k + 1) = k + 1 := by rw [IntKind.wrap_i64]; omega
              obtain ⟨a1, ha1⟩ : ∃ a, wtP p2 k = a := ⟨_, rfl⟩
              obtain ⟨a2, ha2⟩ : ∃ a, rmP m p2 k = a := ⟨_, rfl⟩
              obtain ⟨a3, ha3⟩ : ∃ a, mvP p2 k = a := ⟨_, rfl⟩
              obtain ⟨a4, ha4⟩ : ∃ a, ovP p2 = a := ⟨_, rfl⟩
              have HA := Lib.hid (And.intro ha1 (And.intro ha2 (And.intro ha3 ha4)))
              have n1 : ((a1 : Int) != (a1 : Int)) = false := by simp
              have n2 : ((a2 : Int) != (a2 : Int)) = false := by simp
              have n3 : (a3 != a3) = false := by simp
              have n4 : (a4 != a4) = false := by cases a4 <;> rfl
              clear ha1 ha2 ha3 ha4
              go_wp2_with (first
                | (go_at_call 22; (with_reducible refine (y_waits HV9.out.z HE2.out.1 hm6 k a1 HA.out.1).mono ?_); rintro e y1 ⟨rfl, h1⟩; have HVa := Lib.hid (HV9.out.on h1); clear h1)
                | (go_at_call 23; (with_reducible refine (r_waits HVa.out.d k a1 HA.out.1).mono ?_); rintro e y2 ⟨rfl, hw⟩; rw [hw]; clear hw)
                | (go_at_call 24; (with_reducible refine (y_room HVa.out.z HE2.out.1 hm6 k a2 HA.out.2.1).mono ?_); rintro e y3 ⟨rfl, h1⟩; have HVb := Lib.hid (HVa.out.on h1); clear h1)
                | (go_at_call 25; (with_reducible refine (r_room HVb.out.d k a2 HA.out.2.1).mono ?_); rintro e y4 ⟨rfl, h1⟩; have HVc := Lib.hid (HVb.out.on h1); clear h1)
                | (go_at_call 26; (with_reducible refine (y_moved HVc.out.z k a3 HA.out.2.2.1).mono ?_); rintro e y5 ⟨rfl, h1⟩; have HVd := Lib.hid (HVc.out.on h1); clear h1)
                | (go_at_call 27; (with_reducible refine (r_moved HVd.out.d k a3 HA.out.2.2.1).mono ?_); rintro e y6 ⟨rfl, hw⟩; rw [hw]; clear hw)
                | (go_at_call 28; (with_reducible refine (y_over HVd.out.z a4 HA.out.2.2.2).mono ?_); rintro e y7 ⟨rfl, h1⟩; have HVe := Lib.hid (HVd.out.on h1); clear h1)
                | (go_at_call 29; (with_reducible refine (r_over HVe.out.d a4 HA.out.2.2.2).mono ?_); rintro e y8 ⟨rfl, hw⟩; rw [hw]; clear hw))
              go_roundw
              case rel => exact ⟨k + 1, by omega, by omega, by go_num, HVe⟩
              case measure => simp [intOf] <;> omega
            · have hk4 : decide (k < 3) = false := decide_eq_false hk3
              go_wp2_with fail
              go_roundw
              case rel => exact ⟨i + 1, p2, G5, H5, by omega, by go_num, HV9, HE2⟩
              case measure => simp [intOf] <;> omega
        · have h3b : (ow == 3) = false := by simp [h3]
          clear h3
          by_cases h4 : ow = 4
          · subst h4
            have HE2 := Lib.hid (show Gu m (brP p) ∧ Fi (i + 1) (brP p) from ⟨gu_br HE.out.1, fi_br HE.out.2⟩)
            go_upto_region 27 with (go_at_call 18; (with_reducible refine (y_brk HVv.out.z HE.out.1 hm6).mono ?_); rintro e u4 ⟨G5, rfl, h1, h2⟩; have HV4 := Lib.hid (HVv.out.left h2 h1); clear h1 h2)
            go_upto_region 28 with (go_at_call 19; (with_reducible refine (r_brk HV4.out.d).mono ?_); rintro e u5 ⟨rfl, h1, h2⟩; obtain ⟨H5, hH5⟩ : ∃ H5, H = H5 := ⟨_, rfl⟩; obtain ⟨p2, hp2⟩ : ∃ p2, brP p = p2 := ⟨_, rfl⟩; have HP2 := Lib.hid hp2; have HV5 := Lib.hid (show Vp W u5 G5 pb p2 H5 rb p2 m by rw [← hH5, ← hp2]; exact HV4.out.right h2 h1); clear h1 h2 hH5 hp2)
            rw [HP2.out] at HE2
            clear e0 e1 e2 e3
            skip
            go_wp2_with fail
            go_loopw [18] (fun v18 w9 => ∃ k : Int, -1 ≤ k ∧ k ≤ 3 ∧ v18 = .int .i64 k ∧ Hid (Vp W w9 G5 pb p2 H5 rb p2 m)) (fun v18 _ => (3 - intOf v18).toNat)
            case atStart => exact ⟨-1, by omega, by omega, rfl, HV5⟩
            case round =>
              obtain ⟨k, hk1, hk2, rfl, HV9⟩ := hrel
              by_cases hk3 : k < 3
              · have hk4 : decide (k < 3) = true := decide_eq_true hk3
                have hk5 : IntKind.i64.wrap (k + 1) = k + 1 := by rw [IntKind.wrap_i64]; omega
                obtain ⟨a1, ha1⟩ : ∃ a, wtP p2 k = a := ⟨_, rfl⟩
                obtain ⟨a2, ha2⟩ : ∃ a, rmP m p2 k = a := ⟨_, rfl⟩
                obtain ⟨a3, ha3⟩ : ∃ a, mvP p2 k = a := ⟨_, rfl⟩
                obtain ⟨a4, ha4⟩ : ∃ a, ovP p2 = a := ⟨_, rfl⟩
                have HA := Lib.hid (And.intro ha1 (And.intro ha2 (And.intro ha3 ha4)))
                have n1 : ((a1 : Int) != (a1 : Int)) = false := by simp
                have n2 : ((a2 : Int) != (a2 : Int)) = false := by simp
                have n3 : (a3 != a3) = false := by simp
                have n4 : (a4 != a4) = false := by cases a4 <;> rfl
                clear ha1 ha2 ha3 ha4
                go_wp2_with (first
                  | (go_at_call 22; (with_reducible refine (y_waits HV9.out.z HE2.out.1 hm6 k a1 HA.out.1).mono ?_); rintro e y1 ⟨rfl, h1⟩; have HVa := Lib.hid (HV9.out.on h1); clear h1)
                  | (go_at_call 23; (with_reducible refine (r_waits HVa.out.d k a1 HA.out.1).mono ?_); rintro e y2 ⟨rfl, hw⟩; rw [hw]; clear hw)
                  | (go_at_call 24; (with_reducible refine (y_room HVa.out.z HE2.out.1 hm6 k a2 HA.out.2.1).mono ?_); rintro e y3 ⟨rfl, h1⟩; have HVb := Lib.hid (HVa.out.on h1); clear h1)
                  | (go_at_call 25; (with_reducible refine (r_room HVb.out.d k a2 HA.out.2.1).mono ?_); rintro e y4 ⟨rfl, h1⟩; have HVc := Lib.hid (HVb.out.on h1); clear h1)
                  | (go_at_call 26; (with_reducible refine (y_moved HVc.out.z k a3 HA.out.2.2.1).mono ?_); rintro e y5 ⟨rfl, h1⟩; have HVd := Lib.hid (HVc.out.on h1); clear h1)
                  | (go_at_call 27; (with_reducible refine (r_moved HVd.out.d k a3 HA.out.2.2.1).mono ?_); rintro e y6 ⟨rfl, hw⟩; rw [hw]; clear hw)
                  | (go_at_call 28; (with_reducible refine (y_over HVd.out.z a4 HA.out.2.2.2).mono ?_); rintro e y7 ⟨rfl, h1⟩; have HVe := Lib.hid (HVd.out.on h1); clear h1)
                  | (go_at_call 29; (with_reducible refine (r_over HVe.out.d a4 HA.out.2.2.2).mono ?_); rintro e y8 ⟨rfl, hw⟩; rw [hw]; clear hw))
                go_roundw
                case rel => exact ⟨k + 1, by omega, by omega, by go_num, HVe⟩
                case measure => simp [intOf] <;> omega
              · have hk4 : decide (k < 3) = false := decide_eq_false hk3
                go_wp2_with fail
                go_roundw
                case rel => exact ⟨i + 1, p2, G5, H5, by omega, by go_num, HV9, HE2⟩
                case measure => simp [intOf] <;> omega
          · have h4b : (ow == 4) = false := by simp [h4]
            clear h4
            obtain ⟨⟨r, p2⟩, hR⟩ : ∃ R, inP m p os ol = R := ⟨_, rfl⟩
            have HR := Lib.hid hR
            have HE2 := Lib.hid (show Gu m p2 ∧ Fi (i + 1) p2 from ⟨gu_in2 HE.out.1 hR, fi_in HE.out.2 hR⟩)
            have m2 : ((r : Int) != (r : Int)) = false := by simp
            clear hR
            have HOV := Lib.hid (HOK.out v HVv.out.z.l)
            go_upto_region 12 with (go_at_call 20; (with_reducible refine (y_in HVv.out.z HE.out.1 hm6 os oA on oc ol HON.out (HON.out ▸ HOV.out.cap) HOV.out.max (fun hh => HON.out ▸ HOV.out.nil_ hh) (HOV.out.rb.rf HVv.out.z.lo) r p2 HR.out).mono ?_); rintro e u4 ⟨G5, rfl, h1, h2⟩; have HV4 := Lib.hid (HVv.out.left h2 h1); have HB4 := Lib.hid (HB.out.step (h2.left H)); clear h1 h2)
            clear e0 e1 e2 e3
            have e0 : u4.cell? ⟨kb, 0, none⟩ = some (.int .i64 ow) := HB4.out.b.cell 0
            have e1 : u4.cell? ⟨kb, 1, none⟩ = some (.int .i64 os) := HB4.out.b.cell 1
            have e2 : u4.cell? ⟨kb, 2, none⟩ = some (.slice oA on oc) := HB4.out.b.cell 2
            have e3 : u4.cell? ⟨kb, 3, none⟩ = some (.int .i64 ox) := HB4.out.b.cell 3
            have HOU := Lib.hid (HOK.out u4 HV4.out.z.l)
            go_upto_region 13 with (go_at_call 21; (with_reducible refine (r_in HV4.out.d os oA on oc ol HON.out (HON.out ▸ HOU.out.cap) HOU.out.max (fun hh => HON.out ▸ HOU.out.nil_ hh) (HOU.out.rb.rf HV4.out.d.lo) r p2 HR.out).mono ?_); rintro e u5 ⟨H5, rfl, h1, h2⟩; have HV5 := Lib.hid (HV4.out.right h2 h1); clear h1 h2)
            clear e0 e1 e2 e3
            go_upto_region 28 with fail
            go_wp2_with fail
            go_loopw [18] (fun v18 w9 => ∃ k : Int, -1 ≤ k ∧ k ≤ 3 ∧ v18 = .int .i64 k ∧ Hid (Vp W w9 G5 pb p2 H5 rb p2 m)) (fun v18 _ => (3 - intOf v18).toNat)
            case atStart => exact ⟨-1, by omega, by omega, rfl, HV5⟩
            case round =>
              obtain ⟨k, hk1, hk2, rfl, HV9⟩ := hrel
              by_cases hk3 : k < 3
              · have hk4 : decide (k < 3) = true := decide_eq_true hk3
                have hk5 : IntKind.i64.wrap (k + 1) = k + 1 := by rw [IntKind.wrap_i64]; omega
                obtain ⟨a1, ha1⟩ : ∃ a, wtP p2 k = a := ⟨_, rfl⟩
                obtain ⟨a2, ha2⟩ : ∃ a, rmP m p2 k = a := ⟨_, rfl⟩
                obtain ⟨a3, ha3⟩ : ∃ a, mvP p2 k = a := ⟨_, rfl⟩
                obtain ⟨a4, ha4⟩ : ∃ a, ovP p2 = a := ⟨_, rfl⟩
                have HA := Lib.hid (And.intro ha1 (And.intro ha2 (And.intro ha3 ha4)))
                have n1 : ((a1 : Int) != (a1 : Int)) = false := by simp
                have n2 : ((a2 : Int) != (a2 : Int)) = false := by simp
                have n3 : (a3 != a3) = false := by simp
                have n4 : (a4 != a4) = false := by cases a4 <;> rfl
                clear ha1 ha2 ha3 ha4
                go_wp2_with (first
                  | (go_at_call 22; (with_reducible refine (y_waits HV9.out.z HE2.out.1 hm6 k a1 HA.out.1).mono ?_); rintro e y1 ⟨rfl, h1⟩; have HVa := Lib.hid (HV9.out.on h1); clear h1)
                  | (go_at_call 23; (with_reducible refine (r_waits HVa.out.d k a1 HA.out.1).mono ?_); rintro e y2 ⟨rfl, hw⟩; rw [hw]; clear hw)
                  | (go_at_call 24; (with_reducible refine (y_room HVa.out.z HE2.out.1 hm6 k a2 HA.out.2.1).mono ?_); rintro e y3 ⟨rfl, h1⟩; have HVb := Lib.hid (HVa.out.on h1); clear h1)
                  | (go_at_call 25; (with_reducible refine (r_room HVb.out.d k a2 HA.out.2.1).mono ?_); rintro e y4 ⟨rfl, h1⟩; have HVc := Lib.hid (HVb.out.on h1); clear h1)
                  | (go_at_call 26; (with_reducible refine (y_moved HVc.out.z k a3 HA.out.2.2.1).mono ?_); rintro e y5 ⟨rfl, h1⟩; have HVd := Lib.hid (HVc.out.on h1); clear h1)
                  | (go_at_call 27; (with_reducible refine (r_moved HVd.out.d k a3 HA.out.2.2.1).mono ?_); rintro e y6 ⟨rfl, hw⟩; rw [hw]; clear hw)
                  | (go_at_call 28; (with_reducible refine (y_over HVd.out.z a4 HA.out.2.2.2).mono ?_); rintro e y7 ⟨rfl, h1⟩; have HVe := Lib.hid (HVd.out.on h1); clear h1)
                  | (go_at_call 29; (with_reducible refine (r_over HVe.out.d a4 HA.out.2.2.2).mono ?_); rintro e y8 ⟨rfl, hw⟩; rw [hw]; clear hw))
                go_roundw
                case rel => exact ⟨k + 1, by omega, by omega, by go_num, HVe⟩
                case measure => simp [intOf] <;> omega
              · have hk4 : decide (k < 3) = false := decide_eq_false hk3
                go_wp2_with fail
                go_roundw
                case rel => exact ⟨i + 1, p2, G5, H5, by omega, by go_num, HV9, HE2⟩
                case measure => simp [intOf] <;> omega
    · have hi2 : ¬ (i : Int) < (n : Int) := by omega
      go_wp2_with fail
      go_ret
      exact ⟨rfl, HV.out.z.l⟩
end Go.Proofs.Ytpomeimjgbblmaa
