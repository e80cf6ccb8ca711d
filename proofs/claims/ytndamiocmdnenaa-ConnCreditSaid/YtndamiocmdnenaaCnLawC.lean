/- ConnCredit: never more than was let go: the walk. (Written by gen_cncredit.py.) -/
import Derived.Test.YtndamiocmdnenaaCnOne
import Derived.Test.YtndamiocmdnenaaOpen
import Derived.Test.YtndamiocmdnenaaFrLib
import Derived.Test.YtndamiocmdnenaaCat
namespace Go.Proofs.Ytndamiocmdnenaa
set_option linter.unusedVariables false
set_option maxRecDepth 100000
set_option linter.unusedSimpArgs false
open Go.RowKit

/-- What was said S, what was sent T, what waits w, the credit cr, what was let go le. -/
structure Cvw (S T w : List UInt8) (cr le i : Nat) : Prop where
  s : S = T ++ w
  c : cr + T.length = le
  w : w.length ≤ 1024
  le : le ≤ 100000 * i
abbrev cnW (w : List UInt8) (cr : Nat) : Cn := ⟨0, [], w, cr, false⟩
theorem Cvw.gc {S T w : List UInt8} {cr le i : Nat} (h : Cvw S T w cr le i) (hi : i ≤ 1000) : Gc (tOne (cnW w cr)) := gc_one ⟨by simp, h.w, by have h1 := h.c; have h2 := h.le; show cr ≤ _; omega⟩
theorem Cvw.len {S T w : List UInt8} {cr le i : Nat} (h : Cvw S T w cr le i) (hi : i ≤ 1000) : S.length = T.length + w.length ∧ T.length ≤ le ∧ S.length ≤ 200000000 ∧ le ≤ 100000000 := by
  have h1 := congrArg List.length h.s
  rw [List.length_append] at h1
  have h2 := h.c
  have h3 := h.w
  have h4 := h.le
  omega
theorem Cvw.more {S T w : List UInt8} {cr le i : Nat} (h : Cvw S T w cr le i) : Cvw S T w cr le (i + 1) := ⟨h.s, h.c, h.w, by have := h.le; omega⟩
theorem bsx (l : List UInt8) (i : Nat) : (bs l).extract 0 i = bs (l.take i) := by
  apply ByteArray.ext
  rw [ByteArray.data_extract]
  show (l.toArray).extract 0 i = (l.take i).toArray
  simp

set_option maxRecDepth 100000 in
set_option maxHeartbeats 16000000 in
theorem walk_ConnCredit (A : Option Addr) (L : List OpC) (n c : Nat) (W : World) (h : InCn W A L n c) :
    Calls Try.prog 5 #[.slice A n c] W fun e w' => e = .returned (.bool true) ∧ Below W.heap.size W w' := by
  have HI := Lib.hid h
  have hcapn : n ≤ 9223372036854775807 := by have h1 := h.cap; have h2 := h.max; unfold maxLen at h2; omega
  clear h
  go_enter Try.func5, Try.ntmps5
  go_upto_region 2 with (go_at_call 10; (with_reducible refine (cnhead_ok _).mono ?_); rintro e u1 ⟨rfl, hb⟩; have HB1 := Lib.hid hb; clear hb)
  go_upto_region 3 with (go_at_call 11; (with_reducible refine (c_new HB1.out).mono ?_); rintro e u2 ⟨G2, tb, rfl, h1, h2, h3⟩; have HZ2 := Lib.hid h1; clear h1 h2 h3)
  go_upto_region 4 with (go_at_call 12; (with_reducible refine (cngreat_ok A L n c W _ HI.out HZ2.out.l).mono ?_); rintro e uu ⟨⟨v, rfl, hv⟩, hw⟩; rw [hw]; clear hw; cases v)
  all_goals try (go_wp2_with fail; go_ret; exact ⟨rfl, HZ2.out.l⟩)
  have h400 : n ≤ 400 := by simpa using hv
  clear hv
  go_upto_region 6 with (go_at_call 14; (with_reducible refine (c_open HZ2.out gc_new (by decide) 0 1 0 (tOne (cn0 0)) open_one).mono ?_); rintro e u3 ⟨G3, rfl, h1, -⟩; have HZ3 := Lib.hid (show Zc W u3 G3 tb (tOne (cnW [] 0)) from h1); clear h1)
  go_wp2_with fail
  go_loopw [7, 8, 9, 10] (fun v7 v8 v9 v10 wr => ∃ (i : Nat) (G : List Nat) (S T w : List UInt8) (cr le : Nat), i ≤ n ∧ v10 = .int .i64 (i : Int) ∧ v7 = .string (bs S) ∧ v8 = .string (bs T) ∧ v9 = .int .i64 (le : Int) ∧ Hid (Zc W wr G tb (tOne (cnW w cr))) ∧ Hid (Cvw S T w cr le i)) (fun _ _ _ v10 _ => n - (intOf v10).toNat)
  case atStart => exact ⟨0, G3, [], [], [], 0, 0, by omega, rfl, rfl, rfl, rfl, HZ3, Lib.hid ⟨rfl, rfl, by simp, by omega⟩⟩
  case round =>
    obtain ⟨i, G, S, T, w, cr, le, hi, rfl, rfl, rfl, rfl, HZ, HV⟩ := hrel
    by_cases hi1 : i < n
    · have hi2 : (i : Int) < (n : Int) := by omega
      obtain ⟨bx, o, op, rfl, hx, hwf, hc⟩ := HI.out.at_ i hi1
      have HWI := Lib.hid hwf.1
      have HWX := Lib.hid hwf.2.1
      obtain ⟨⟨x0, x1, x2, x3⟩, hok⟩ := hc wr HZ.out.l
      obtain ⟨ow, oi, ox, oA, oc, ol⟩ := op
      dsimp only at x0 x1 x2 x3
      obtain ⟨on, hon⟩ : ∃ on, ol.length = on := ⟨_, rfl⟩
      rw [hon] at x3
      have HON := Lib.hid hon
      have HOK := Lib.hid (fun u (hu : Below W.heap.size W u) => (hc u hu).2)
      have HOX := Lib.hid hx
      clear hx hc hok hon hwf
      obtain ⟨kb, hkb⟩ : ∃ kb, wr.heap.size = kb := ⟨_, rfl⟩
      obtain ⟨v, hv⟩ : ∃ v, wr.alloc (.cells #[.int .i64 ow, .int .i64 oi, .int .i64 ox, .slice oA on oc] 30) = v := ⟨_, rfl⟩
      have hbv : Below wr.heap.size wr v := by rw [← hv]; exact (Below.refl _ _).alloc (Nat.le_refl _) _
      have HB := Lib.hid (show Bz v G kb 30 #[.int .i64 ow, .int .i64 oi, .int .i64 ox, .slice oA on oc] by rw [← hv, ← hkb]; exact Bz.new HZ.out.hi _ _)
      have HZv := Lib.hid (HZ.out.on hbv)
      have HG := Lib.hid (HV.out.gc (by omega))
      have HLN := Lib.hid (HV.out.len (by omega))
      have hcap : on ≤ oc := by have := (HOK.out wr HZ.out.l).cap; dsimp only at this; rw [HON.out] at this; exact this
      have hmx : oc ≤ 9223372036854775807 := (HOK.out wr HZ.out.l).max
      go_upto_region 13 with fail
      try rw [hv]
      try rw [hkb]
      clear hv hkb hbv x0 x1 x2 x3
      by_cases h6 : ow = 6
      · subst h6
        have e0 : v.cell? ⟨kb, 0, none⟩ = some (.int .i64 6) := HB.out.b.cell 0
        have e1 : v.cell? ⟨kb, 1, none⟩ = some (.int .i64 oi) := HB.out.b.cell 1
        have e2 : v.cell? ⟨kb, 2, none⟩ = some (.int .i64 ox) := HB.out.b.cell 2
        have e3 : v.cell? ⟨kb, 3, none⟩ = some (.slice oA on oc) := HB.out.b.cell 3
        obtain ⟨rm, hrm⟩ : ∃ rm, 1024 - w.length = rm := ⟨_, rfl⟩
        have HRM := Lib.hid (show roC (tOne (cnW w cr)) 1 = rm by rw [one_ro]; exact hrm)
        go_upto_region 17 with (go_at_call 25; (with_reducible refine (c_room HZv.out 1 rm HRM.out).mono ?_); rintro e u3 ⟨rfl, h1⟩; have HZ4 := Lib.hid (HZv.out.on h1); have HB4 := Lib.hid (HB.out.on h1); clear h1)
        clear e0 e1 e2 e3
        have e0 : u3.cell? ⟨kb, 0, none⟩ = some (.int .i64 6) := HB4.out.b.cell 0
        have e1 : u3.cell? ⟨kb, 1, none⟩ = some (.int .i64 oi) := HB4.out.b.cell 1
        have e2 : u3.cell? ⟨kb, 2, none⟩ = some (.int .i64 ox) := HB4.out.b.cell 2
        have e3 : u3.cell? ⟨kb, 3, none⟩ = some (.slice oA on oc) := HB4.out.b.cell 3
        have HRF := Lib.hid (show Rf u3 G oA ol from (HOK.out u3 HZ4.out.l).rb.rf HZ4.out.lo)
        by_cases hfit : on ≤ rm
        · have HSA := Lib.hid (one_sa HG.out (show sa1 (cnW w cr) ol = (true, cnW (w ++ ol) cr) by unfold sa1; rw [if_neg (by show ¬ (1024 - w.length < ol.length); rw [HON.out, hrm]; omega)]))
          have HV5 := Lib.hid (show Cvw (S ++ ol) T (w ++ ol) cr le (i + 1) from ⟨by rw [HV.out.s, List.append_assoc], HV.out.c, by have h1 := HV.out.w; rw [List.length_append, HON.out]; omega, by have := HV.out.le; omega⟩)
          have d1 : decide ((on : Int) ≤ (rm : Int)) = true := decide_eq_true (by omega)
          have d2 : decide (on ≤ rm) = true := decide_eq_true hfit
          clear hfit hrm
          go_upto_region 18 with (go_at_call 26; (with_reducible refine (c_say HZ4.out HG.out 1 oA on oc ol HON.out hcap hmx HRF.out true _ HSA.out).mono ?_); rintro e u4 ⟨rfl, h1, h2⟩; have HZ5 := Lib.hid h1; have HB5 := Lib.hid (HB4.out.step h2); clear h1 h2)
          clear e0 e1 e2 e3
          have e3 : u4.cell? ⟨kb, 3, none⟩ = some (.slice oA on oc) := HB5.out.b.cell 3
          go_upto_region 28 with (first | (refine wpList_conv (by kernel_rfl) 28 5 9 (.tmp 65) rfl oA on oc ol rfl HON.out (HOK.out u4 HZ5.out.l).rb Try.underlying28 Try.underlying5 Try.underlying9 ?_) | (refine wpList_cat (by kernel_rfl) (.tmp 63) (.tmp 66) 9 9 rfl S ol (S ++ ol) rfl rfl (by have h1 := HLN.out; have h2 := HV5.out.w; rw [List.length_append] at h2; omega) rfl ?_))
          clear e3 d1 d2
          obtain ⟨S5, hS5⟩ : ∃ S5, S ++ ol = S5 := ⟨_, rfl⟩
          obtain ⟨T5, hT5⟩ : ∃ T5, T = T5 := ⟨_, rfl⟩
          obtain ⟨w5, hw5⟩ : ∃ w5, w ++ ol = w5 := ⟨_, rfl⟩
          obtain ⟨cr5, hcr5⟩ : ∃ cr5, cr = cr5 := ⟨_, rfl⟩
          obtain ⟨le5, hle5⟩ : ∃ le5, le = le5 := ⟨_, rfl⟩
          try rw [hw5] at HZ5
          try rw [hcr5] at HZ5
          try rw [hS5] at HV5
          try rw [hT5] at HV5
          try rw [hw5] at HV5
          try rw [hcr5] at HV5
          try rw [hle5] at HV5
          try rw [hS5]
          try rw [hT5]
          try rw [hle5]
          clear hS5 hT5 hw5 hcr5 hle5
          have HG5 := Lib.hid (HV5.out.gc (by omega))
          have HL5 := Lib.hid (HV5.out.len (by omega))
          obtain ⟨sl, hsl⟩ : ∃ sl, S5.length = sl := ⟨_, rfl⟩
          obtain ⟨tl, htl⟩ : ∃ tl, T5.length = tl := ⟨_, rfl⟩
          obtain ⟨wl, hwl⟩ : ∃ wl, w5.length = wl := ⟨_, rfl⟩
          have HX5 := Lib.hid (show sl = tl + wl ∧ tl ≤ le5 ∧ sl ≤ 200000000 ∧ le5 ≤ 100000000 ∧ wl ≤ 1024 ∧ cr5 + tl = le5 by have h1 := HL5.out; have h2 := HV5.out.w; have h3 := HV5.out.c; omega)
          have hszS : (bs S5).size = sl := by rw [bs_size]; exact hsl
          have hszT : (bs T5).size = tl := by rw [bs_size]; exact htl
          have hex : (bs S5).extract 0 tl = bs T5 := by rw [bsx, HV5.out.s, ← htl, List.take_left]
          obtain ⟨X5, hX5⟩ : ∃ X5, bs S5 = X5 := ⟨_, rfl⟩
          obtain ⟨Y5, hY5⟩ : ∃ Y5, bs T5 = Y5 := ⟨_, rfl⟩
          rw [hX5] at hszS hex
          rw [hY5] at hszT hex
          try rw [hX5]
          try rw [hY5]
          have HXY := Lib.hid (And.intro hX5 hY5)
          have HWA := Lib.hid (show waC (tOne (cnW w5 cr5)) 1 = wl by rw [one_wa]; exact hwl)
          have HCR := Lib.hid (show crC (tOne (cnW w5 cr5)) 1 = cr5 from one_cr _)
          have p1 : tl ≤ sl := by have := HX5.out; omega
          have p2 : ¬ sl < tl := by omega
          have p3 : ¬ le5 < tl := by have := HX5.out; omega
          have p4 : ¬ (le5 : Int) < (tl : Int) := by omega
          have p5 : ¬ (sl : Int) < (tl : Int) := by omega
          have p6 : (Y5.toList != Y5.toList) = false := by simp
          have p7 := (iwrap ((sl : Int) - (tl : Int)) wl (by have := HX5.out; omega) (by have := HX5.out; omega)).1
          have p8 := (iwrap ((le5 : Int) - (tl : Int)) cr5 (by have := HX5.out; omega) (by have := HX5.out; omega)).1
          have p9 : ¬ (1024 : Int) < (wl : Int) := by have := HX5.out; omega
          have pa : (tl : Int) ≤ (sl : Int) := by omega
          clear hX5 hY5 hsl htl hwl p1
          go_wp2_with (first
            | (go_at_call 21; (with_reducible refine (c_waits HZ5.out 1 wl HWA.out).mono ?_); rintro e y1 ⟨rfl, h1⟩; have HZ6 := Lib.hid (HZ5.out.on h1); clear h1 HZ5)
            | (go_at_call 22; (with_reducible refine (c_credit HZ6.out 1 cr5 HCR.out).mono ?_); rintro e y2 ⟨rfl, h1⟩; have HZ7 := Lib.hid (HZ6.out.on h1); clear h1)
            | (go_at_call 21; (with_reducible refine (c_waits HZ7.out 1 wl HWA.out).mono ?_); rintro e y3 ⟨rfl, h1⟩; have HZ8 := Lib.hid (HZ7.out.on h1); clear h1))
          go_roundw
          case rel => exact ⟨i + 1, G, S5, T5, w5, cr5, le5, by omega, by go_num, by rw [HXY.out.1], by rw [HXY.out.2], rfl, HZ8, HV5⟩
          case measure => simp [intOf] <;> omega
        · have HSA := Lib.hid (one_sa HG.out (show sa1 (cnW w cr) ol = (false, cnW w cr) by unfold sa1; rw [if_pos (by show 1024 - w.length < ol.length; rw [HON.out, hrm]; omega)]))
          have HV5 := Lib.hid HV.out.more
          have d1 : decide ((on : Int) ≤ (rm : Int)) = false := decide_eq_false (by omega)
          have d2 : decide (on ≤ rm) = false := decide_eq_false hfit
          clear hfit hrm
          go_upto_region 18 with (go_at_call 26; (with_reducible refine (c_say HZ4.out HG.out 1 oA on oc ol HON.out hcap hmx HRF.out false _ HSA.out).mono ?_); rintro e u4 ⟨rfl, h1, h2⟩; have HZ5 := Lib.hid h1; have HB5 := Lib.hid (HB4.out.step h2); clear h1 h2)
          clear e0 e1 e2 e3
          have e3 : u4.cell? ⟨kb, 3, none⟩ = some (.slice oA on oc) := HB5.out.b.cell 3
          go_upto_region 28 with fail
          clear e3 d1 d2
          obtain ⟨S5, hS5⟩ : ∃ S5, S = S5 := ⟨_, rfl⟩
          obtain ⟨T5, hT5⟩ : ∃ T5, T = T5 := ⟨_, rfl⟩
          obtain ⟨w5, hw5⟩ : ∃ w5, w = w5 := ⟨_, rfl⟩
          obtain ⟨cr5, hcr5⟩ : ∃ cr5, cr = cr5 := ⟨_, rfl⟩
          obtain ⟨le5, hle5⟩ : ∃ le5, le = le5 := ⟨_, rfl⟩
          try rw [hw5] at HZ5
          try rw [hcr5] at HZ5
          try rw [hS5] at HV5
          try rw [hT5] at HV5
          try rw [hw5] at HV5
          try rw [hcr5] at HV5
          try rw [hle5] at HV5
          try rw [hS5]
          try rw [hT5]
          try rw [hle5]
          clear hS5 hT5 hw5 hcr5 hle5
          have HG5 := Lib.hid (HV5.out.gc (by omega))
          have HL5 := Lib.hid (HV5.out.len (by omega))
          obtain ⟨sl, hsl⟩ : ∃ sl, S5.length = sl := ⟨_, rfl⟩
          obtain ⟨tl, htl⟩ : ∃ tl, T5.length = tl := ⟨_, rfl⟩
          obtain ⟨wl, hwl⟩ : ∃ wl, w5.length = wl := ⟨_, rfl⟩
          have HX5 := Lib.hid (show sl = tl + wl ∧ tl ≤ le5 ∧ sl ≤ 200000000 ∧ le5 ≤ 100000000 ∧ wl ≤ 1024 ∧ cr5 + tl = le5 by have h1 := HL5.out; have h2 := HV5.out.w; have h3 := HV5.out.c; omega)
          have hszS : (bs S5).size = sl := by rw [bs_size]; exact hsl
          have hszT : (bs T5).size = tl := by rw [bs_size]; exact htl
          have hex : (bs S5).extract 0 tl = bs T5 := by rw [bsx, HV5.out.s, ← htl, List.take_left]
          obtain ⟨X5, hX5⟩ : ∃ X5, bs S5 = X5 := ⟨_, rfl⟩
          obtain ⟨Y5, hY5⟩ : ∃ Y5, bs T5 = Y5 := ⟨_, rfl⟩
          rw [hX5] at hszS hex
          rw [hY5] at hszT hex
          try rw [hX5]
          try rw [hY5]
          have HXY := Lib.hid (And.intro hX5 hY5)
          have HWA := Lib.hid (show waC (tOne (cnW w5 cr5)) 1 = wl by rw [one_wa]; exact hwl)
          have HCR := Lib.hid (show crC (tOne (cnW w5 cr5)) 1 = cr5 from one_cr _)
          have p1 : tl ≤ sl := by have := HX5.out; omega
          have p2 : ¬ sl < tl := by omega
          have p3 : ¬ le5 < tl := by have := HX5.out; omega
          have p4 : ¬ (le5 : Int) < (tl : Int) := by omega
          have p5 : ¬ (sl : Int) < (tl : Int) := by omega
          have p6 : (Y5.toList != Y5.toList) = false := by simp
          have p7 := (iwrap ((sl : Int) - (tl : Int)) wl (by have := HX5.out; omega) (by have := HX5.out; omega)).1
          have p8 := (iwrap ((le5 : Int) - (tl : Int)) cr5 (by have := HX5.out; omega) (by have := HX5.out; omega)).1
          have p9 : ¬ (1024 : Int) < (wl : Int) := by have := HX5.out; omega
          have pa : (tl : Int) ≤ (sl : Int) := by omega
          clear hX5 hY5 hsl htl hwl p1
          go_wp2_with (first
            | (go_at_call 21; (with_reducible refine (c_waits HZ5.out 1 wl HWA.out).mono ?_); rintro e y1 ⟨rfl, h1⟩; have HZ6 := Lib.hid (HZ5.out.on h1); clear h1 HZ5)
            | (go_at_call 22; (with_reducible refine (c_credit HZ6.out 1 cr5 HCR.out).mono ?_); rintro e y2 ⟨rfl, h1⟩; have HZ7 := Lib.hid (HZ6.out.on h1); clear h1)
            | (go_at_call 21; (with_reducible refine (c_waits HZ7.out 1 wl HWA.out).mono ?_); rintro e y3 ⟨rfl, h1⟩; have HZ8 := Lib.hid (HZ7.out.on h1); clear h1))
          go_roundw
          case rel => exact ⟨i + 1, G, S5, T5, w5, cr5, le5, by omega, by go_num, by rw [HXY.out.1], by rw [HXY.out.2], rfl, HZ8, HV5⟩
          case measure => simp [intOf] <;> omega
      · have h6b : (ow == 6) = false := by simp [h6]
        clear h6
        by_cases h7 : ow = 7
        · subst h7
          have e0 : v.cell? ⟨kb, 0, none⟩ = some (.int .i64 7) := HB.out.b.cell 0
          have e1 : v.cell? ⟨kb, 1, none⟩ = some (.int .i64 oi) := HB.out.b.cell 1
          have e2 : v.cell? ⟨kb, 2, none⟩ = some (.int .i64 ox) := HB.out.b.cell 2
          have e3 : v.cell? ⟨kb, 3, none⟩ = some (.slice oA on oc) := HB.out.b.cell 3
          obtain ⟨rm, hrm⟩ : ∃ rm, 1024 - w.length = rm := ⟨_, rfl⟩
          have HRM := Lib.hid (show roC (tOne (cnW w cr)) 1 = rm by rw [one_ro]; exact hrm)
          go_upto_region 17 with (go_at_call 25; (with_reducible refine (c_room HZv.out 1 rm HRM.out).mono ?_); rintro e u3 ⟨rfl, h1⟩; have HZ4 := Lib.hid (HZv.out.on h1); have HB4 := Lib.hid (HB.out.on h1); clear h1)
          clear e0 e1 e2 e3
          have e0 : u3.cell? ⟨kb, 0, none⟩ = some (.int .i64 7) := HB4.out.b.cell 0
          have e1 : u3.cell? ⟨kb, 1, none⟩ = some (.int .i64 oi) := HB4.out.b.cell 1
          have e2 : u3.cell? ⟨kb, 2, none⟩ = some (.int .i64 ox) := HB4.out.b.cell 2
          have e3 : u3.cell? ⟨kb, 3, none⟩ = some (.slice oA on oc) := HB4.out.b.cell 3
          have HRF := Lib.hid (show Rf u3 G oA ol from (HOK.out u3 HZ4.out.l).rb.rf HZ4.out.lo)
          by_cases hfit : on ≤ rm
          · have HSA := Lib.hid (one_sa HG.out (show sa1 (cnW w cr) ol = (true, cnW (w ++ ol) cr) by unfold sa1; rw [if_neg (by show ¬ (1024 - w.length < ol.length); rw [HON.out, hrm]; omega)]))
            have HV5 := Lib.hid (show Cvw (S ++ ol) T (w ++ ol) cr le (i + 1) from ⟨by rw [HV.out.s, List.append_assoc], HV.out.c, by have h1 := HV.out.w; rw [List.length_append, HON.out]; omega, by have := HV.out.le; omega⟩)
            have d1 : decide ((on : Int) ≤ (rm : Int)) = true := decide_eq_true (by omega)
            have d2 : decide (on ≤ rm) = true := decide_eq_true hfit
            clear hfit hrm
            go_upto_region 18 with (go_at_call 26; (with_reducible refine (c_say HZ4.out HG.out 1 oA on oc ol HON.out hcap hmx HRF.out true _ HSA.out).mono ?_); rintro e u4 ⟨rfl, h1, h2⟩; have HZ5 := Lib.hid h1; have HB5 := Lib.hid (HB4.out.step h2); clear h1 h2)
            clear e0 e1 e2 e3
            have e3 : u4.cell? ⟨kb, 3, none⟩ = some (.slice oA on oc) := HB5.out.b.cell 3
            go_upto_region 28 with (first | (refine wpList_conv (by kernel_rfl) 28 5 9 (.tmp 65) rfl oA on oc ol rfl HON.out (HOK.out u4 HZ5.out.l).rb Try.underlying28 Try.underlying5 Try.underlying9 ?_) | (refine wpList_cat (by kernel_rfl) (.tmp 63) (.tmp 66) 9 9 rfl S ol (S ++ ol) rfl rfl (by have h1 := HLN.out; have h2 := HV5.out.w; rw [List.length_append] at h2; omega) rfl ?_))
            clear e3 d1 d2
            obtain ⟨S5, hS5⟩ : ∃ S5, S ++ ol = S5 := ⟨_, rfl⟩
            obtain ⟨T5, hT5⟩ : ∃ T5, T = T5 := ⟨_, rfl⟩
            obtain ⟨w5, hw5⟩ : ∃ w5, w ++ ol = w5 := ⟨_, rfl⟩
            obtain ⟨cr5, hcr5⟩ : ∃ cr5, cr = cr5 := ⟨_, rfl⟩
            obtain ⟨le5, hle5⟩ : ∃ le5, le = le5 := ⟨_, rfl⟩
            try rw [hw5] at HZ5
            try rw [hcr5] at HZ5
            try rw [hS5] at HV5
            try rw [hT5] at HV5
            try rw [hw5] at HV5
            try rw [hcr5] at HV5
            try rw [hle5] at HV5
            try rw [hS5]
            try rw [hT5]
            try rw [hle5]
            clear hS5 hT5 hw5 hcr5 hle5
            have HG5 := Lib.hid (HV5.out.gc (by omega))
            have HL5 := Lib.hid (HV5.out.len (by omega))
            obtain ⟨sl, hsl⟩ : ∃ sl, S5.length = sl := ⟨_, rfl⟩
            obtain ⟨tl, htl⟩ : ∃ tl, T5.length = tl := ⟨_, rfl⟩
            obtain ⟨wl, hwl⟩ : ∃ wl, w5.length = wl := ⟨_, rfl⟩
            have HX5 := Lib.hid (show sl = tl + wl ∧ tl ≤ le5 ∧ sl ≤ 200000000 ∧ le5 ≤ 100000000 ∧ wl ≤ 1024 ∧ cr5 + tl = le5 by have h1 := HL5.out; have h2 := HV5.out.w; have h3 := HV5.out.c; omega)
            have hszS : (bs S5).size = sl := by rw [bs_size]; exact hsl
            have hszT : (bs T5).size = tl := by rw [bs_size]; exact htl
            have hex : (bs S5).extract 0 tl = bs T5 := by rw [bsx, HV5.out.s, ← htl, List.take_left]
            obtain ⟨X5, hX5⟩ : ∃ X5, bs S5 = X5 := ⟨_, rfl⟩
            obtain ⟨Y5, hY5⟩ : ∃ Y5, bs T5 = Y5 := ⟨_, rfl⟩
            rw [hX5] at hszS hex
            rw [hY5] at hszT hex
            try rw [hX5]
            try rw [hY5]
            have HXY := Lib.hid (And.intro hX5 hY5)
            have HWA := Lib.hid (show waC (tOne (cnW w5 cr5)) 1 = wl by rw [one_wa]; exact hwl)
            have HCR := Lib.hid (show crC (tOne (cnW w5 cr5)) 1 = cr5 from one_cr _)
            have p1 : tl ≤ sl := by have := HX5.out; omega
            have p2 : ¬ sl < tl := by omega
            have p3 : ¬ le5 < tl := by have := HX5.out; omega
            have p4 : ¬ (le5 : Int) < (tl : Int) := by omega
            have p5 : ¬ (sl : Int) < (tl : Int) := by omega
            have p6 : (Y5.toList != Y5.toList) = false := by simp
            have p7 := (iwrap ((sl : Int) - (tl : Int)) wl (by have := HX5.out; omega) (by have := HX5.out; omega)).1
            have p8 := (iwrap ((le5 : Int) - (tl : Int)) cr5 (by have := HX5.out; omega) (by have := HX5.out; omega)).1
            have p9 : ¬ (1024 : Int) < (wl : Int) := by have := HX5.out; omega
            have pa : (tl : Int) ≤ (sl : Int) := by omega
            clear hX5 hY5 hsl htl hwl p1
            go_wp2_with (first
              | (go_at_call 21; (with_reducible refine (c_waits HZ5.out 1 wl HWA.out).mono ?_); rintro e y1 ⟨rfl, h1⟩; have HZ6 := Lib.hid (HZ5.out.on h1); clear h1 HZ5)
              | (go_at_call 22; (with_reducible refine (c_credit HZ6.out 1 cr5 HCR.out).mono ?_); rintro e y2 ⟨rfl, h1⟩; have HZ7 := Lib.hid (HZ6.out.on h1); clear h1)
              | (go_at_call 21; (with_reducible refine (c_waits HZ7.out 1 wl HWA.out).mono ?_); rintro e y3 ⟨rfl, h1⟩; have HZ8 := Lib.hid (HZ7.out.on h1); clear h1))
            go_roundw
            case rel => exact ⟨i + 1, G, S5, T5, w5, cr5, le5, by omega, by go_num, by rw [HXY.out.1], by rw [HXY.out.2], rfl, HZ8, HV5⟩
            case measure => simp [intOf] <;> omega
          · have HSA := Lib.hid (one_sa HG.out (show sa1 (cnW w cr) ol = (false, cnW w cr) by unfold sa1; rw [if_pos (by show 1024 - w.length < ol.length; rw [HON.out, hrm]; omega)]))
            have HV5 := Lib.hid HV.out.more
            have d1 : decide ((on : Int) ≤ (rm : Int)) = false := decide_eq_false (by omega)
            have d2 : decide (on ≤ rm) = false := decide_eq_false hfit
            clear hfit hrm
            go_upto_region 18 with (go_at_call 26; (with_reducible refine (c_say HZ4.out HG.out 1 oA on oc ol HON.out hcap hmx HRF.out false _ HSA.out).mono ?_); rintro e u4 ⟨rfl, h1, h2⟩; have HZ5 := Lib.hid h1; have HB5 := Lib.hid (HB4.out.step h2); clear h1 h2)
            clear e0 e1 e2 e3
            have e3 : u4.cell? ⟨kb, 3, none⟩ = some (.slice oA on oc) := HB5.out.b.cell 3
            go_upto_region 28 with fail
            clear e3 d1 d2
            obtain ⟨S5, hS5⟩ : ∃ S5, S = S5 := ⟨_, rfl⟩
            obtain ⟨T5, hT5⟩ : ∃ T5, T = T5 := ⟨_, rfl⟩
            obtain ⟨w5, hw5⟩ : ∃ w5, w = w5 := ⟨_, rfl⟩
            obtain ⟨cr5, hcr5⟩ : ∃ cr5, cr = cr5 := ⟨_, rfl⟩
            obtain ⟨le5, hle5⟩ : ∃ le5, le = le5 := ⟨_, rfl⟩
            try rw [hw5] at HZ5
            try rw [hcr5] at HZ5
            try rw [hS5] at HV5
            try rw [hT5] at HV5
            try rw [hw5] at HV5
            try rw [hcr5] at HV5
            try rw [hle5] at HV5
            try rw [hS5]
            try rw [hT5]
            try rw [hle5]
            clear hS5 hT5 hw5 hcr5 hle5
            have HG5 := Lib.hid (HV5.out.gc (by omega))
            have HL5 := Lib.hid (HV5.out.len (by omega))
            obtain ⟨sl, hsl⟩ : ∃ sl, S5.length = sl := ⟨_, rfl⟩
            obtain ⟨tl, htl⟩ : ∃ tl, T5.length = tl := ⟨_, rfl⟩
            obtain ⟨wl, hwl⟩ : ∃ wl, w5.length = wl := ⟨_, rfl⟩
            have HX5 := Lib.hid (show sl = tl + wl ∧ tl ≤ le5 ∧ sl ≤ 200000000 ∧ le5 ≤ 100000000 ∧ wl ≤ 1024 ∧ cr5 + tl = le5 by have h1 := HL5.out; have h2 := HV5.out.w; have h3 := HV5.out.c; omega)
            have hszS : (bs S5).size = sl := by rw [bs_size]; exact hsl
            have hszT : (bs T5).size = tl := by rw [bs_size]; exact htl
            have hex : (bs S5).extract 0 tl = bs T5 := by rw [bsx, HV5.out.s, ← htl, List.take_left]
            obtain ⟨X5, hX5⟩ : ∃ X5, bs S5 = X5 := ⟨_, rfl⟩
            obtain ⟨Y5, hY5⟩ : ∃ Y5, bs T5 = Y5 := ⟨_, rfl⟩
            rw [hX5] at hszS hex
            rw [hY5] at hszT hex
            try rw [hX5]
            try rw [hY5]
            have HXY := Lib.hid (And.intro hX5 hY5)
            have HWA := Lib.hid (show waC (tOne (cnW w5 cr5)) 1 = wl by rw [one_wa]; exact hwl)
            have HCR := Lib.hid (show crC (tOne (cnW w5 cr5)) 1 = cr5 from one_cr _)
            have p1 : tl ≤ sl := by have := HX5.out; omega
            have p2 : ¬ sl < tl := by omega
            have p3 : ¬ le5 < tl := by have := HX5.out; omega
            have p4 : ¬ (le5 : Int) < (tl : Int) := by omega
            have p5 : ¬ (sl : Int) < (tl : Int) := by omega
            have p6 : (Y5.toList != Y5.toList) = false := by simp
            have p7 := (iwrap ((sl : Int) - (tl : Int)) wl (by have := HX5.out; omega) (by have := HX5.out; omega)).1
            have p8 := (iwrap ((le5 : Int) - (tl : Int)) cr5 (by have := HX5.out; omega) (by have := HX5.out; omega)).1
            have p9 : ¬ (1024 : Int) < (wl : Int) := by have := HX5.out; omega
            have pa : (tl : Int) ≤ (sl : Int) := by omega
            clear hX5 hY5 hsl htl hwl p1
            go_wp2_with (first
              | (go_at_call 21; (with_reducible refine (c_waits HZ5.out 1 wl HWA.out).mono ?_); rintro e y1 ⟨rfl, h1⟩; have HZ6 := Lib.hid (HZ5.out.on h1); clear h1 HZ5)
              | (go_at_call 22; (with_reducible refine (c_credit HZ6.out 1 cr5 HCR.out).mono ?_); rintro e y2 ⟨rfl, h1⟩; have HZ7 := Lib.hid (HZ6.out.on h1); clear h1)
              | (go_at_call 21; (with_reducible refine (c_waits HZ7.out 1 wl HWA.out).mono ?_); rintro e y3 ⟨rfl, h1⟩; have HZ8 := Lib.hid (HZ7.out.on h1); clear h1))
            go_roundw
            case rel => exact ⟨i + 1, G, S5, T5, w5, cr5, le5, by omega, by go_num, by rw [HXY.out.1], by rw [HXY.out.2], rfl, HZ8, HV5⟩
            case measure => simp [intOf] <;> omega
        · have h7b : (ow == 7) = false := by simp [h7]
          clear h7
          by_cases h8 : ow = 8
          · subst h8
            have e0 : v.cell? ⟨kb, 0, none⟩ = some (.int .i64 8) := HB.out.b.cell 0
            have e1 : v.cell? ⟨kb, 1, none⟩ = some (.int .i64 oi) := HB.out.b.cell 1
            have e2 : v.cell? ⟨kb, 2, none⟩ = some (.int .i64 ox) := HB.out.b.cell 2
            have e3 : v.cell? ⟨kb, 3, none⟩ = some (.slice oA on oc) := HB.out.b.cell 3
            by_cases hx0 : 0 ≤ ox
            · by_cases hx1 : ox < 100000
              · obtain ⟨y, rfl⟩ : ∃ y : Nat, ox = (y : Int) := ⟨ox.toNat, by omega⟩
                have HBU := Lib.hid (one_bu HG.out (show bu1 (cnW w cr) (y : Int) = (true, cnW w (cr + y)) by unfold bu1; rw [if_neg (by omega)]; show (true, (⟨0, [], w, min (cr + (y : Int).toNat) 1073741824, false⟩ : Cn)) = _; rw [show min (cr + (y : Int).toNat) 1073741824 = cr + y by have h1 := HV.out.c; have h2 := HLN.out; omega]))
                have HV5 := Lib.hid (show Cvw S T w (cr + y) (le + y) (i + 1) from ⟨HV.out.s, by have := HV.out.c; omega, HV.out.w, by have := HV.out.le; omega⟩)
                obtain ⟨le2, hle2⟩ : ∃ le2, le + y = le2 := ⟨_, rfl⟩
                have hwy := (iwrap ((le : Int) + (y : Int)) le2 (by omega) (by have := HLN.out; omega)).1
                have hy1 : (y : Int) < 100000 := hx1
                have hy2 : y < 100000 := by omega
                clear hx0 hx1
                go_upto_region 25 with (go_at_call 27; (with_reducible refine (c_budget HZv.out HG.out 1 (y : Int) true _ HBU.out).mono ?_); rintro e u4 ⟨rfl, h1, h2⟩; have HZ5 := Lib.hid h1; have HB5 := Lib.hid (HB.out.step h2); clear h1 h2)
                clear e0 e1 e2 e3
                have e2 : u4.cell? ⟨kb, 2, none⟩ = some (.int .i64 (y : Int)) := HB5.out.b.cell 2
                go_upto_region 28 with fail
                try rw [hle2] at HV5
                clear e2 hwy hy1 hy2 hle2
                obtain ⟨S5, hS5⟩ : ∃ S5, S = S5 := ⟨_, rfl⟩
                obtain ⟨T5, hT5⟩ : ∃ T5, T = T5 := ⟨_, rfl⟩
                obtain ⟨w5, hw5⟩ : ∃ w5, w = w5 := ⟨_, rfl⟩
                obtain ⟨cr5, hcr5⟩ : ∃ cr5, cr + y = cr5 := ⟨_, rfl⟩
                obtain ⟨le5, hle5⟩ : ∃ le5, le2 = le5 := ⟨_, rfl⟩
                try rw [hw5] at HZ5
                try rw [hcr5] at HZ5
                try rw [hS5] at HV5
                try rw [hT5] at HV5
                try rw [hw5] at HV5
                try rw [hcr5] at HV5
                try rw [hle5] at HV5
                try rw [hS5]
                try rw [hT5]
                try rw [hle5]
                clear hS5 hT5 hw5 hcr5 hle5
                have HG5 := Lib.hid (HV5.out.gc (by omega))
                have HL5 := Lib.hid (HV5.out.len (by omega))
                obtain ⟨sl, hsl⟩ : ∃ sl, S5.length = sl := ⟨_, rfl⟩
                obtain ⟨tl, htl⟩ : ∃ tl, T5.length = tl := ⟨_, rfl⟩
                obtain ⟨wl, hwl⟩ : ∃ wl, w5.length = wl := ⟨_, rfl⟩
                have HX5 := Lib.hid (show sl = tl + wl ∧ tl ≤ le5 ∧ sl ≤ 200000000 ∧ le5 ≤ 100000000 ∧ wl ≤ 1024 ∧ cr5 + tl = le5 by have h1 := HL5.out; have h2 := HV5.out.w; have h3 := HV5.out.c; omega)
                have hszS : (bs S5).size = sl := by rw [bs_size]; exact hsl
                have hszT : (bs T5).size = tl := by rw [bs_size]; exact htl
                have hex : (bs S5).extract 0 tl = bs T5 := by rw [bsx, HV5.out.s, ← htl, List.take_left]
                obtain ⟨X5, hX5⟩ : ∃ X5, bs S5 = X5 := ⟨_, rfl⟩
                obtain ⟨Y5, hY5⟩ : ∃ Y5, bs T5 = Y5 := ⟨_, rfl⟩
                rw [hX5] at hszS hex
                rw [hY5] at hszT hex
                try rw [hX5]
                try rw [hY5]
                have HXY := Lib.hid (And.intro hX5 hY5)
                have HWA := Lib.hid (show waC (tOne (cnW w5 cr5)) 1 = wl by rw [one_wa]; exact hwl)
                have HCR := Lib.hid (show crC (tOne (cnW w5 cr5)) 1 = cr5 from one_cr _)
                have p1 : tl ≤ sl := by have := HX5.out; omega
                have p2 : ¬ sl < tl := by omega
                have p3 : ¬ le5 < tl := by have := HX5.out; omega
                have p4 : ¬ (le5 : Int) < (tl : Int) := by omega
                have p5 : ¬ (sl : Int) < (tl : Int) := by omega
                have p6 : (Y5.toList != Y5.toList) = false := by simp
                have p7 := (iwrap ((sl : Int) - (tl : Int)) wl (by have := HX5.out; omega) (by have := HX5.out; omega)).1
                have p8 := (iwrap ((le5 : Int) - (tl : Int)) cr5 (by have := HX5.out; omega) (by have := HX5.out; omega)).1
                have p9 : ¬ (1024 : Int) < (wl : Int) := by have := HX5.out; omega
                have pa : (tl : Int) ≤ (sl : Int) := by omega
                clear hX5 hY5 hsl htl hwl p1
                go_wp2_with (first
                  | (go_at_call 21; (with_reducible refine (c_waits HZ5.out 1 wl HWA.out).mono ?_); rintro e y1 ⟨rfl, h1⟩; have HZ6 := Lib.hid (HZ5.out.on h1); clear h1 HZ5)
                  | (go_at_call 22; (with_reducible refine (c_credit HZ6.out 1 cr5 HCR.out).mono ?_); rintro e y2 ⟨rfl, h1⟩; have HZ7 := Lib.hid (HZ6.out.on h1); clear h1)
                  | (go_at_call 21; (with_reducible refine (c_waits HZ7.out 1 wl HWA.out).mono ?_); rintro e y3 ⟨rfl, h1⟩; have HZ8 := Lib.hid (HZ7.out.on h1); clear h1))
                go_roundw
                case rel => exact ⟨i + 1, G, S5, T5, w5, cr5, le5, by omega, by go_num, by rw [HXY.out.1], by rw [HXY.out.2], rfl, HZ8, HV5⟩
                case measure => simp [intOf] <;> omega
              · have hx2 : ¬ ox < 100000 := hx1
                skip
                have HV5 := Lib.hid HV.out.more
                have HZ5 := HZv
                go_upto_region 28 with fail
                clear e0 e1 e2 e3
                obtain ⟨S5, hS5⟩ : ∃ S5, S = S5 := ⟨_, rfl⟩
                obtain ⟨T5, hT5⟩ : ∃ T5, T = T5 := ⟨_, rfl⟩
                obtain ⟨w5, hw5⟩ : ∃ w5, w = w5 := ⟨_, rfl⟩
                obtain ⟨cr5, hcr5⟩ : ∃ cr5, cr = cr5 := ⟨_, rfl⟩
                obtain ⟨le5, hle5⟩ : ∃ le5, le = le5 := ⟨_, rfl⟩
                try rw [hw5] at HZ5
                try rw [hcr5] at HZ5
                try rw [hS5] at HV5
                try rw [hT5] at HV5
                try rw [hw5] at HV5
                try rw [hcr5] at HV5
                try rw [hle5] at HV5
                try rw [hS5]
                try rw [hT5]
                try rw [hle5]
                clear hS5 hT5 hw5 hcr5 hle5
                have HG5 := Lib.hid (HV5.out.gc (by omega))
                have HL5 := Lib.hid (HV5.out.len (by omega))
                obtain ⟨sl, hsl⟩ : ∃ sl, S5.length = sl := ⟨_, rfl⟩
                obtain ⟨tl, htl⟩ : ∃ tl, T5.length = tl := ⟨_, rfl⟩
                obtain ⟨wl, hwl⟩ : ∃ wl, w5.length = wl := ⟨_, rfl⟩
                have HX5 := Lib.hid (show sl = tl + wl ∧ tl ≤ le5 ∧ sl ≤ 200000000 ∧ le5 ≤ 100000000 ∧ wl ≤ 1024 ∧ cr5 + tl = le5 by have h1 := HL5.out; have h2 := HV5.out.w; have h3 := HV5.out.c; omega)
                have hszS : (bs S5).size = sl := by rw [bs_size]; exact hsl
                have hszT : (bs T5).size = tl := by rw [bs_size]; exact htl
                have hex : (bs S5).extract 0 tl = bs T5 := by rw [bsx, HV5.out.s, ← htl, List.take_left]
                obtain ⟨X5, hX5⟩ : ∃ X5, bs S5 = X5 := ⟨_, rfl⟩
                obtain ⟨Y5, hY5⟩ : ∃ Y5, bs T5 = Y5 := ⟨_, rfl⟩
                rw [hX5] at hszS hex
                rw [hY5] at hszT hex
                try rw [hX5]
                try rw [hY5]
                have HXY := Lib.hid (And.intro hX5 hY5)
                have HWA := Lib.hid (show waC (tOne (cnW w5 cr5)) 1 = wl by rw [one_wa]; exact hwl)
                have HCR := Lib.hid (show crC (tOne (cnW w5 cr5)) 1 = cr5 from one_cr _)
                have p1 : tl ≤ sl := by have := HX5.out; omega
                have p2 : ¬ sl < tl := by omega
                have p3 : ¬ le5 < tl := by have := HX5.out; omega
                have p4 : ¬ (le5 : Int) < (tl : Int) := by omega
                have p5 : ¬ (sl : Int) < (tl : Int) := by omega
                have p6 : (Y5.toList != Y5.toList) = false := by simp
                have p7 := (iwrap ((sl : Int) - (tl : Int)) wl (by have := HX5.out; omega) (by have := HX5.out; omega)).1
                have p8 := (iwrap ((le5 : Int) - (tl : Int)) cr5 (by have := HX5.out; omega) (by have := HX5.out; omega)).1
                have p9 : ¬ (1024 : Int) < (wl : Int) := by have := HX5.out; omega
                have pa : (tl : Int) ≤ (sl : Int) := by omega
                clear hX5 hY5 hsl htl hwl p1
                go_wp2_with (first
                  | (go_at_call 21; (with_reducible refine (c_waits HZ5.out 1 wl HWA.out).mono ?_); rintro e y1 ⟨rfl, h1⟩; have HZ6 := Lib.hid (HZ5.out.on h1); clear h1 HZ5)
                  | (go_at_call 22; (with_reducible refine (c_credit HZ6.out 1 cr5 HCR.out).mono ?_); rintro e y2 ⟨rfl, h1⟩; have HZ7 := Lib.hid (HZ6.out.on h1); clear h1)
                  | (go_at_call 21; (with_reducible refine (c_waits HZ7.out 1 wl HWA.out).mono ?_); rintro e y3 ⟨rfl, h1⟩; have HZ8 := Lib.hid (HZ7.out.on h1); clear h1))
                go_roundw
                case rel => exact ⟨i + 1, G, S5, T5, w5, cr5, le5, by omega, by go_num, by rw [HXY.out.1], by rw [HXY.out.2], rfl, HZ8, HV5⟩
                case measure => simp [intOf] <;> omega
            · have hx2 : ¬ 0 ≤ ox := hx0
              skip
              have HV5 := Lib.hid HV.out.more
              have HZ5 := HZv
              go_upto_region 28 with fail
              clear e0 e1 e2 e3
              obtain ⟨S5, hS5⟩ : ∃ S5, S = S5 := ⟨_, rfl⟩
              obtain ⟨T5, hT5⟩ : ∃ T5, T = T5 := ⟨_, rfl⟩
              obtain ⟨w5, hw5⟩ : ∃ w5, w = w5 := ⟨_, rfl⟩
              obtain ⟨cr5, hcr5⟩ : ∃ cr5, cr = cr5 := ⟨_, rfl⟩
              obtain ⟨le5, hle5⟩ : ∃ le5, le = le5 := ⟨_, rfl⟩
              try rw [hw5] at HZ5
              try rw [hcr5] at HZ5
              try rw [hS5] at HV5
              try rw [hT5] at HV5
              try rw [hw5] at HV5
              try rw [hcr5] at HV5
              try rw [hle5] at HV5
              try rw [hS5]
              try rw [hT5]
              try rw [hle5]
              clear hS5 hT5 hw5 hcr5 hle5
              have HG5 := Lib.hid (HV5.out.gc (by omega))
              have HL5 := Lib.hid (HV5.out.len (by omega))
              obtain ⟨sl, hsl⟩ : ∃ sl, S5.length = sl := ⟨_, rfl⟩
              obtain ⟨tl, htl⟩ : ∃ tl, T5.length = tl := ⟨_, rfl⟩
              obtain ⟨wl, hwl⟩ : ∃ wl, w5.length = wl := ⟨_, rfl⟩
              have HX5 := Lib.hid (show sl = tl + wl ∧ tl ≤ le5 ∧ sl ≤ 200000000 ∧ le5 ≤ 100000000 ∧ wl ≤ 1024 ∧ cr5 + tl = le5 by have h1 := HL5.out; have h2 := HV5.out.w; have h3 := HV5.out.c; omega)
              have hszS : (bs S5).size = sl := by rw [bs_size]; exact hsl
              have hszT : (bs T5).size = tl := by rw [bs_size]; exact htl
              have hex : (bs S5).extract 0 tl = bs T5 := by rw [bsx, HV5.out.s, ← htl, List.take_left]
              obtain ⟨X5, hX5⟩ : ∃ X5, bs S5 = X5 := ⟨_, rfl⟩
              obtain ⟨Y5, hY5⟩ : ∃ Y5, bs T5 = Y5 := ⟨_, rfl⟩
              rw [hX5] at hszS hex
              rw [hY5] at hszT hex
              try rw [hX5]
              try rw [hY5]
              have HXY := Lib.hid (And.intro hX5 hY5)
              have HWA := Lib.hid (show waC (tOne (cnW w5 cr5)) 1 = wl by rw [one_wa]; exact hwl)
              have HCR := Lib.hid (show crC (tOne (cnW w5 cr5)) 1 = cr5 from one_cr _)
              have p1 : tl ≤ sl := by have := HX5.out; omega
              have p2 : ¬ sl < tl := by omega
              have p3 : ¬ le5 < tl := by have := HX5.out; omega
              have p4 : ¬ (le5 : Int) < (tl : Int) := by omega
              have p5 : ¬ (sl : Int) < (tl : Int) := by omega
              have p6 : (Y5.toList != Y5.toList) = false := by simp
              have p7 := (iwrap ((sl : Int) - (tl : Int)) wl (by have := HX5.out; omega) (by have := HX5.out; omega)).1
              have p8 := (iwrap ((le5 : Int) - (tl : Int)) cr5 (by have := HX5.out; omega) (by have := HX5.out; omega)).1
              have p9 : ¬ (1024 : Int) < (wl : Int) := by have := HX5.out; omega
              have pa : (tl : Int) ≤ (sl : Int) := by omega
              clear hX5 hY5 hsl htl hwl p1
              go_wp2_with (first
                | (go_at_call 21; (with_reducible refine (c_waits HZ5.out 1 wl HWA.out).mono ?_); rintro e y1 ⟨rfl, h1⟩; have HZ6 := Lib.hid (HZ5.out.on h1); clear h1 HZ5)
                | (go_at_call 22; (with_reducible refine (c_credit HZ6.out 1 cr5 HCR.out).mono ?_); rintro e y2 ⟨rfl, h1⟩; have HZ7 := Lib.hid (HZ6.out.on h1); clear h1)
                | (go_at_call 21; (with_reducible refine (c_waits HZ7.out 1 wl HWA.out).mono ?_); rintro e y3 ⟨rfl, h1⟩; have HZ8 := Lib.hid (HZ7.out.on h1); clear h1))
              go_roundw
              case rel => exact ⟨i + 1, G, S5, T5, w5, cr5, le5, by omega, by go_num, by rw [HXY.out.1], by rw [HXY.out.2], rfl, HZ8, HV5⟩
              case measure => simp [intOf] <;> omega
          · have h8b : (ow == 8) = false := by simp [h8]
            clear h8
            by_cases h9 : ow = 9
            · subst h9
              have e0 : v.cell? ⟨kb, 0, none⟩ = some (.int .i64 9) := HB.out.b.cell 0
              have e1 : v.cell? ⟨kb, 1, none⟩ = some (.int .i64 oi) := HB.out.b.cell 1
              have e2 : v.cell? ⟨kb, 2, none⟩ = some (.int .i64 ox) := HB.out.b.cell 2
              have e3 : v.cell? ⟨kb, 3, none⟩ = some (.slice oA on oc) := HB.out.b.cell 3
              obtain ⟨l, hl⟩ : ∃ l, w.take cr = l := ⟨_, rfl⟩
              obtain ⟨ln, hln⟩ : ∃ ln, l.length = ln := ⟨_, rfl⟩
              have HLL := Lib.hid hln
              have HFL := Lib.hid (one_fl (c := cnW w cr) hl)
              have HV5 := Lib.hid (show Cvw S (T ++ l) (w.drop cr) (cr - w.length) le (i + 1) from ⟨by rw [HV.out.s, List.append_assoc, ← hl, List.take_append_drop], by have h1 := HV.out.c; rw [List.length_append, ← hl, List.length_take]; omega, by have := HV.out.w; rw [List.length_drop]; omega, by have := HV.out.le; omega⟩)
              have HLT := Lib.hid (show T.length + l.length ≤ 9223372036854775807 by have h1 := HLN.out; have h2 : l.length ≤ w.length := (by rw [← hl, List.length_take]; omega); have h3 := HV.out.w; omega)
              clear hl hln
              go_upto_region 28 with (first | (go_at_call 18; (with_reducible refine (c_flush HZv.out HG.out 1 ln l _ HFL.out HLL.out).mono ?_); rintro e u4 ⟨A4, c4, rfl, h0, h1, h2⟩; have HZ5 := Lib.hid (show Zc W u4 G tb (tOne (cnW (w.drop cr) (cr - w.length))) from h1); have HR5 := Lib.hid (h0.rf (G := G) (fun y hy => .inr (HZv.out.hi y hy))); clear h0 h1 h2) | (refine wpList_conv (by kernel_rfl) 28 5 9 (.tmp 92) rfl A4 ln c4 l rfl HLL.out HR5.out.rb Try.underlying28 Try.underlying5 Try.underlying9 ?_) | (refine wpList_cat (by kernel_rfl) (.tmp 89) (.tmp 93) 9 9 rfl T l (T ++ l) rfl rfl HLT.out rfl ?_))
              clear e0 e1 e2 e3
              obtain ⟨S5, hS5⟩ : ∃ S5, S = S5 := ⟨_, rfl⟩
              obtain ⟨T5, hT5⟩ : ∃ T5, T ++ l = T5 := ⟨_, rfl⟩
              obtain ⟨w5, hw5⟩ : ∃ w5, w.drop cr = w5 := ⟨_, rfl⟩
              obtain ⟨cr5, hcr5⟩ : ∃ cr5, cr - w.length = cr5 := ⟨_, rfl⟩
              obtain ⟨le5, hle5⟩ : ∃ le5, le = le5 := ⟨_, rfl⟩
              try rw [hw5] at HZ5
              try rw [hcr5] at HZ5
              try rw [hS5] at HV5
              try rw [hT5] at HV5
              try rw [hw5] at HV5
              try rw [hcr5] at HV5
              try rw [hle5] at HV5
              try rw [hS5]
              try rw [hT5]
              try rw [hle5]
              clear hS5 hT5 hw5 hcr5 hle5
              have HG5 := Lib.hid (HV5.out.gc (by omega))
              have HL5 := Lib.hid (HV5.out.len (by omega))
              obtain ⟨sl, hsl⟩ : ∃ sl, S5.length = sl := ⟨_, rfl⟩
              obtain ⟨tl, htl⟩ : ∃ tl, T5.length = tl := ⟨_, rfl⟩
              obtain ⟨wl, hwl⟩ : ∃ wl, w5.length = wl := ⟨_, rfl⟩
              have HX5 := Lib.hid (show sl = tl + wl ∧ tl ≤ le5 ∧ sl ≤ 200000000 ∧ le5 ≤ 100000000 ∧ wl ≤ 1024 ∧ cr5 + tl = le5 by have h1 := HL5.out; have h2 := HV5.out.w; have h3 := HV5.out.c; omega)
              have hszS : (bs S5).size = sl := by rw [bs_size]; exact hsl
              have hszT : (bs T5).size = tl := by rw [bs_size]; exact htl
              have hex : (bs S5).extract 0 tl = bs T5 := by rw [bsx, HV5.out.s, ← htl, List.take_left]
              obtain ⟨X5, hX5⟩ : ∃ X5, bs S5 = X5 := ⟨_, rfl⟩
              obtain ⟨Y5, hY5⟩ : ∃ Y5, bs T5 = Y5 := ⟨_, rfl⟩
              rw [hX5] at hszS hex
              rw [hY5] at hszT hex
              try rw [hX5]
              try rw [hY5]
              have HXY := Lib.hid (And.intro hX5 hY5)
              have HWA := Lib.hid (show waC (tOne (cnW w5 cr5)) 1 = wl by rw [one_wa]; exact hwl)
              have HCR := Lib.hid (show crC (tOne (cnW w5 cr5)) 1 = cr5 from one_cr _)
              have p1 : tl ≤ sl := by have := HX5.out; omega
              have p2 : ¬ sl < tl := by omega
              have p3 : ¬ le5 < tl := by have := HX5.out; omega
              have p4 : ¬ (le5 : Int) < (tl : Int) := by omega
              have p5 : ¬ (sl : Int) < (tl : Int) := by omega
              have p6 : (Y5.toList != Y5.toList) = false := by simp
              have p7 := (iwrap ((sl : Int) - (tl : Int)) wl (by have := HX5.out; omega) (by have := HX5.out; omega)).1
              have p8 := (iwrap ((le5 : Int) - (tl : Int)) cr5 (by have := HX5.out; omega) (by have := HX5.out; omega)).1
              have p9 : ¬ (1024 : Int) < (wl : Int) := by have := HX5.out; omega
              have pa : (tl : Int) ≤ (sl : Int) := by omega
              clear hX5 hY5 hsl htl hwl p1
              go_wp2_with (first
                | (go_at_call 21; (with_reducible refine (c_waits HZ5.out 1 wl HWA.out).mono ?_); rintro e y1 ⟨rfl, h1⟩; have HZ6 := Lib.hid (HZ5.out.on h1); clear h1 HZ5)
                | (go_at_call 22; (with_reducible refine (c_credit HZ6.out 1 cr5 HCR.out).mono ?_); rintro e y2 ⟨rfl, h1⟩; have HZ7 := Lib.hid (HZ6.out.on h1); clear h1)
                | (go_at_call 21; (with_reducible refine (c_waits HZ7.out 1 wl HWA.out).mono ?_); rintro e y3 ⟨rfl, h1⟩; have HZ8 := Lib.hid (HZ7.out.on h1); clear h1))
              go_roundw
              case rel => exact ⟨i + 1, G, S5, T5, w5, cr5, le5, by omega, by go_num, by rw [HXY.out.1], by rw [HXY.out.2], rfl, HZ8, HV5⟩
              case measure => simp [intOf] <;> omega
            · have h9b : (ow == 9) = false := by simp [h9]
              clear h9
              have e0 : v.cell? ⟨kb, 0, none⟩ = some (.int .i64 ow) := HB.out.b.cell 0
              have e1 : v.cell? ⟨kb, 1, none⟩ = some (.int .i64 oi) := HB.out.b.cell 1
              have e2 : v.cell? ⟨kb, 2, none⟩ = some (.int .i64 ox) := HB.out.b.cell 2
              have e3 : v.cell? ⟨kb, 3, none⟩ = some (.slice oA on oc) := HB.out.b.cell 3
              skip
              have HV5 := Lib.hid HV.out.more
              have HZ5 := HZv
              go_upto_region 28 with fail
              clear e0 e1 e2 e3
              obtain ⟨S5, hS5⟩ : ∃ S5, S = S5 := ⟨_, rfl⟩
              obtain ⟨T5, hT5⟩ : ∃ T5, T = T5 := ⟨_, rfl⟩
              obtain ⟨w5, hw5⟩ : ∃ w5, w = w5 := ⟨_, rfl⟩
              obtain ⟨cr5, hcr5⟩ : ∃ cr5, cr = cr5 := ⟨_, rfl⟩
              obtain ⟨le5, hle5⟩ : ∃ le5, le = le5 := ⟨_, rfl⟩
              try rw [hw5] at HZ5
              try rw [hcr5] at HZ5
              try rw [hS5] at HV5
              try rw [hT5] at HV5
              try rw [hw5] at HV5
              try rw [hcr5] at HV5
              try rw [hle5] at HV5
              try rw [hS5]
              try rw [hT5]
              try rw [hle5]
              clear hS5 hT5 hw5 hcr5 hle5
              have HG5 := Lib.hid (HV5.out.gc (by omega))
              have HL5 := Lib.hid (HV5.out.len (by omega))
              obtain ⟨sl, hsl⟩ : ∃ sl, S5.length = sl := ⟨_, rfl⟩
              obtain ⟨tl, htl⟩ : ∃ tl, T5.length = tl := ⟨_, rfl⟩
              obtain ⟨wl, hwl⟩ : ∃ wl, w5.length = wl := ⟨_, rfl⟩
              have HX5 := Lib.hid (show sl = tl + wl ∧ tl ≤ le5 ∧ sl ≤ 200000000 ∧ le5 ≤ 100000000 ∧ wl ≤ 1024 ∧ cr5 + tl = le5 by have h1 := HL5.out; have h2 := HV5.out.w; have h3 := HV5.out.c; omega)
              have hszS : (bs S5).size = sl := by rw [bs_size]; exact hsl
              have hszT : (bs T5).size = tl := by rw [bs_size]; exact htl
              have hex : (bs S5).extract 0 tl = bs T5 := by rw [bsx, HV5.out.s, ← htl, List.take_left]
              obtain ⟨X5, hX5⟩ : ∃ X5, bs S5 = X5 := ⟨_, rfl⟩
              obtain ⟨Y5, hY5⟩ : ∃ Y5, bs T5 = Y5 := ⟨_, rfl⟩
              rw [hX5] at hszS hex
              rw [hY5] at hszT hex
              try rw [hX5]
              try rw [hY5]
              have HXY := Lib.hid (And.intro hX5 hY5)
              have HWA := Lib.hid (show waC (tOne (cnW w5 cr5)) 1 = wl by rw [one_wa]; exact hwl)
              have HCR := Lib.hid (show crC (tOne (cnW w5 cr5)) 1 = cr5 from one_cr _)
              have p1 : tl ≤ sl := by have := HX5.out; omega
              have p2 : ¬ sl < tl := by omega
              have p3 : ¬ le5 < tl := by have := HX5.out; omega
              have p4 : ¬ (le5 : Int) < (tl : Int) := by omega
              have p5 : ¬ (sl : Int) < (tl : Int) := by omega
              have p6 : (Y5.toList != Y5.toList) = false := by simp
              have p7 := (iwrap ((sl : Int) - (tl : Int)) wl (by have := HX5.out; omega) (by have := HX5.out; omega)).1
              have p8 := (iwrap ((le5 : Int) - (tl : Int)) cr5 (by have := HX5.out; omega) (by have := HX5.out; omega)).1
              have p9 : ¬ (1024 : Int) < (wl : Int) := by have := HX5.out; omega
              have pa : (tl : Int) ≤ (sl : Int) := by omega
              clear hX5 hY5 hsl htl hwl p1
              go_wp2_with (first
                | (go_at_call 21; (with_reducible refine (c_waits HZ5.out 1 wl HWA.out).mono ?_); rintro e y1 ⟨rfl, h1⟩; have HZ6 := Lib.hid (HZ5.out.on h1); clear h1 HZ5)
                | (go_at_call 22; (with_reducible refine (c_credit HZ6.out 1 cr5 HCR.out).mono ?_); rintro e y2 ⟨rfl, h1⟩; have HZ7 := Lib.hid (HZ6.out.on h1); clear h1)
                | (go_at_call 21; (with_reducible refine (c_waits HZ7.out 1 wl HWA.out).mono ?_); rintro e y3 ⟨rfl, h1⟩; have HZ8 := Lib.hid (HZ7.out.on h1); clear h1))
              go_roundw
              case rel => exact ⟨i + 1, G, S5, T5, w5, cr5, le5, by omega, by go_num, by rw [HXY.out.1], by rw [HXY.out.2], rfl, HZ8, HV5⟩
              case measure => simp [intOf] <;> omega
    · have hi2 : ¬ (i : Int) < (n : Int) := by omega
      go_wp2_with fail
      go_ret
      exact ⟨rfl, HZ.out.l⟩
end Go.Proofs.Ytndamiocmdnenaa
