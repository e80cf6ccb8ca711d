/- ConnPlays: calls of a table answer as the document says: the walk. (Written by gen_cnplays.py.) -/
import Derived.Test.YtndamiocmdnenaaGreatCnB
import Derived.Test.YtndamiocmdnenaaGreatG7
import Derived.Test.YtndamiocmdnenaaGreatG1
namespace Go.Proofs.YtndamiocmdnenaaGreat
set_option linter.unusedVariables false
set_option maxRecDepth 100000
set_option linter.unusedSimpArgs false
open Go.RowKit

set_option maxRecDepth 100000 in
set_option maxHeartbeats 16000000 in
theorem walk_ConnPlays (A : Option Addr) (L : List OpC) (n c : Nat) (W : World) (h : InCn W A L n c) :
    Calls Tryz.prog 3 #[.slice A n c] W fun e w' => e = .returned (.bool true) ∧ Below W.heap.size W w' := by
  have HI := Lib.hid h
  have hcapn : n ≤ 9223372036854775807 := by have h1 := h.cap; have h2 := h.max; unfold maxLen at h2; omega
  clear h
  go_enter Tryz.func3, Tryz.ntmps3
  go_upto_region 2 with (go_at_call 4; (with_reducible refine (cnhead_ok _).mono ?_); rintro e u1 ⟨rfl, hb⟩; have HB1 := Lib.hid hb; clear hb)
  go_upto_region 3 with (go_at_call 5; (with_reducible refine (c_new HB1.out).mono ?_); rintro e u2 ⟨G2, tb, rfl, h1, h2, h3⟩; have HZ2 := Lib.hid h1; clear h1 h2 h3)
  go_upto_region 4 with (go_at_call 6; (with_reducible refine (d_new HZ2.out.l).mono ?_); rintro e u3 ⟨H3, rb, rfl, h1, h2, h3⟩; have HV3 := Lib.hid (show Wd W u3 G2 tb tc0 H3 rb tc0 from ⟨HZ2.out.on h2, h1, fun y hy hH => by have a1 := HZ2.out.hi y hy; have a2 := h3 y hH; omega⟩); clear h1 h2 h3)
  go_upto_region 5 with (go_at_call 7; (with_reducible refine (cngreat_ok A L n c W _ HI.out HV3.out.l).mono ?_); rintro e uu ⟨⟨v, rfl, hv⟩, hw⟩; rw [hw]; clear hw; cases v)
  all_goals try (go_wp2_with fail; go_ret; exact ⟨rfl, HV3.out.l⟩)
  have h400 : n ≤ 400 := by simpa using hv
  clear hv
  go_wp2_with fail
  go_loopw [6] (fun v6 wr => ∃ (i : Nat) (G : List Nat) (t : Tc) (H : List Nat), i ≤ n ∧ v6 = .int .i64 (i : Int) ∧ Hid (Wd W wr G tb t H rb t) ∧ Hid (Gc t ∧ t.la ≤ i)) (fun v6 _ => n - (intOf v6).toNat)
  case atStart => exact ⟨0, G2, tc0, H3, by omega, rfl, HV3, Lib.hid ⟨gc_new, Nat.le_refl _⟩⟩
  case round =>
    obtain ⟨i, G, t, H, hi, rfl, HV, HE⟩ := hrel
    by_cases hi1 : i < n
    · have hi2 : (i : Int) < (n : Int) := by omega
      obtain ⟨bx, o, op, rfl, hx, hwf, hc⟩ := HI.out.at_ i hi1
      have HWI := Lib.hid (show WfN op.id from hwf.1)
      obtain ⟨⟨x0, x1, x2, x3⟩, -⟩ := hc wr HV.out.l
      obtain ⟨on, hon⟩ : ∃ on, op.l.length = on := ⟨_, rfl⟩
      rw [hon] at x3
      have HCC := Lib.hid hc
      clear hx hwf hc
      have HBO := Lib.hid (both_ok HV.out HE.out.1 (by have := HE.out.2; omega) op on hon HWI.out (fun u hu => (HCC.out u hu).2))
      have HE2 := Lib.hid (show Gc (doC t op) ∧ (doC t op).la ≤ i + 1 from ⟨gc_do HE.out.1 op, by have := la_do t op; have := HE.out.2; omega⟩)
      obtain ⟨t2, ht2⟩ : ∃ t2, doC t op = t2 := ⟨_, rfl⟩
      rw [ht2] at HBO HE2
      obtain ⟨ow, oi, ox, oA, oc, ol⟩ := op
      dsimp only at x0 x1 x2 x3 HBO HWI HCC
      clear hon ht2
      go_upto_region 10 with (go_at_call 8; (with_reducible refine HBO.out.mono ?_); rintro e u4 ⟨rfl, G4, H4, h1⟩; have HV4 := Lib.hid h1; clear h1)
      clear x0 x1 x2 x3
      have x1 : u4.cell? ⟨bx, o + i * 4 + 1, none⟩ = some (.int .i64 oi) := (HCC.out u4 HV4.out.l).1.c1
      obtain ⟨m, hm⟩ : ∃ m, (alC t2).length = m := ⟨_, rfl⟩
      have hm64 : m ≤ 64 := by rw [← hm]; unfold alC; rw [List.length_map]; exact HE2.out.1.few
      have HM := Lib.hid hm
      clear hm
      go_wp2_with (first
        | (go_at_call 9; (with_reducible refine (sameone_ok HV4.out HE2.out.1 oi HWI.out).mono ?_); rintro e u5 ⟨rfl, h1⟩; have HV5 := Lib.hid (HV4.out.on h1); clear h1)
        | (go_at_call 11; (with_reducible refine (c_all HV5.out.z HE2.out.1 m HM.out).mono ?_); rintro e u6 ⟨A6, c6, rfl, h0, h1⟩; have HV6 := Lib.hid (HV5.out.on h1); have HR6 := Lib.hid (h0.ri (K := []) (fun x hx => by cases hx)); clear h0 h1)
        | (go_at_call 12; (with_reducible refine (d_all HV6.out.d HE2.out.1 m HM.out).mono ?_); rintro e u7 ⟨A7, c7, rfl, h0, h1⟩; have HV7 := Lib.hid (HV6.out.on h1); have HR7 := Lib.hid (h0.ri (K := []) (fun x hx => by cases hx)); have HQ7 := Lib.hid (HR6.out.step (Sp.of (Ke.of h1))); clear h0 h1)
        | (go_at_call 10; (with_reducible refine (same_b A6 A7 c6 c7 (alC t2) [] [] u7 m HM.out HQ7.out HR7.out (by omega)).mono ?_); rintro e u8 ⟨rfl, h1⟩; have HV8 := Lib.hid (HV7.out.left (Sp.of h1.nil) (HV7.out.z.ke h1 (fun _ _ hx => by cases hx) (HV7.out.l.trans (h1.below HV7.out.l.size (fun x hx => by cases hx))))); clear h1))
      go_roundw
      case rel => exact ⟨i + 1, G4, t2, H4, by omega, by go_num, HV8, HE2⟩
      case measure => simp [intOf] <;> omega
    · have hi2 : ¬ (i : Int) < (n : Int) := by omega
      go_wp2_with fail
      go_ret
      exact ⟨rfl, HV.out.l⟩
end Go.Proofs.YtndamiocmdnenaaGreat
