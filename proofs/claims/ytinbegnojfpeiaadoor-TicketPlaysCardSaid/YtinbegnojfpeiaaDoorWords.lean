/- The sixteen words of a block. -/
import Derived.Test.YtinbegnojfpeiaaDoorG2
import Derived.StillTailTactics
import Derived.Handy
namespace Go.Proofs.YtinbegnojfpeiaaDoor
set_option linter.unusedVariables false
set_option maxRecDepth 100000
set_option linter.unusedSimpArgs false
open Go.RowKit

set_option maxRecDepth 100000 in
set_option maxHeartbeats 1000000 in
theorem words_ok (b o c : Nat) (l : List UInt8) (w : World) (hl : l.length = 64) (hb : b < w.heap.size) (hc : 64 ≤ c) (hR : Rb w w.heap.size (some ⟨b, o, none⟩) l) :
    Calls Tryd.prog 66 #[.slice (some ⟨b, o, none⟩) 64 c] w fun e w' => e = .returned (.agg (wcells (words16 l 0))) ∧ Below w.heap.size w w' := by
  have HR := Lib.hid hR
  clear hR
  go_enter Tryd.func66, Tryd.ntmps66
  go_wp2_with fail
  go_loopw [5] (fun v5 wr => ∃ i : Nat, i ≤ 16 ∧ v5 = .int .i64 i ∧ Hid (Bk wr (w.heap.size + 1) 106 (wcells (pre ((words16 l 0).take i) 16))) ∧ Hid (Bk wr w.heap.size 106 (wcells (pre [] 16))) ∧ Below w.heap.size w wr) (fun v5 _ => 16 - (intOf v5).toNat)
  case atStart =>
    refine ⟨0, by omega, rfl, Lib.hid ?_, Lib.hid ?_, by go_grown⟩
    · exact Bk.here (by show _ = (w.heap.push _).size; rw [Array.size_push])
    · exact Bk.alloc (Bk.here rfl) _
  case round =>
    obtain ⟨i, hi, rfl, HB, HB0, hbel⟩ := hrel
    by_cases hi16 : i < 16
    · have hcell : ∀ k, k < 4 → ∃ q cq : Nat, q = 4 * i + k ∧ cq = byteAt l q ∧ cq < 256 ∧ q < 64 ∧ wr.cell? ⟨b, o + q, none⟩ = some (.int .u8 (cq : Int)) := by
        intro k hk
        have hq : 4 * i + k < l.length := by omega
        refine ⟨4 * i + k, _, rfl, rfl, ?_, by omega, ?_⟩
        · unfold byteAt; exact UInt8.toNat_lt _
        · rcases HR.out with h | ⟨b', o', e, hb', hc'⟩
          · rw [h] at hl; cases hl
          · injection e with e
            injection e with e1 e2
            subst e1; subst e2
            rw [hbel.cell (p := ⟨b, o + (4 * i + k), none⟩) hb, hc' _ hq]
            simp [byteAt, List.getD, hq]
      obtain ⟨q0, c0, hq0, hv0, hc0, hb0, g0⟩ := hcell 0 (by omega)
      obtain ⟨q1, c1, hq1, hv1, hc1, hb1, g1⟩ := hcell 1 (by omega)
      obtain ⟨q2, c2, hq2, hv2, hc2, hb2, g2⟩ := hcell 2 (by omega)
      obtain ⟨q3, c3, hq3, hv3, hc3, hb3, g3⟩ := hcell 3 (by omega)
      obtain ⟨w0, w0'⟩ := iwrap (4 * (i : Int)) q0 (by omega) (by omega)
      obtain ⟨w1, w1'⟩ := iwrap ((q0 : Int) + 1) q1 (by omega) (by omega)
      obtain ⟨w2, w2'⟩ := iwrap ((q0 : Int) + 2) q2 (by omega) (by omega)
      obtain ⟨w3, w3'⟩ := iwrap ((q0 : Int) + 3) q3 (by omega) (by omega)
      have b0 : (q0 : Int) < 64 := by omega
      have b1 : (q1 : Int) < 64 := by omega
      have b2 : (q2 : Int) < 64 := by omega
      have b3 : (q3 : Int) < 64 := by omega
      have bi : (i : Int) < 16 := by omega
      have r0 : IntKind.u32.wrap (c0 : Int) = (c0 : Int) := by rw [IntKind.wrap_u32']; omega
      have r1 : IntKind.u32.wrap (c1 : Int) = (c1 : Int) := by rw [IntKind.wrap_u32']; omega
      have r2 : IntKind.u32.wrap (c2 : Int) = (c2 : Int) := by rw [IntKind.wrap_u32']; omega
      have r3 : IntKind.u32.wrap (c3 : Int) = (c3 : Int) := by rw [IntKind.wrap_u32']; omega
      have t0 : IntKind.u32.wrap ((c0 : Int) * 16777216) = ((wshl c0 24 : Nat) : Int) := by rw [IntKind.wrap_u32', ← v_shl c0 24]; omega
      have t1 : IntKind.u32.wrap ((c1 : Int) * 65536) = ((wshl c1 16 : Nat) : Int) := by rw [IntKind.wrap_u32', ← v_shl c1 16]; omega
      have t2 : IntKind.u32.wrap ((c2 : Int) * 256) = ((wshl c2 8 : Nat) : Int) := by rw [IntKind.wrap_u32', ← v_shl c2 8]; omega
      have hO : ∀ x y : Nat, bits .or .u32 (x : Int) (y : Int) = ((wor x y : Nat) : Int) := w_or
      have HV := Lib.hid (show wordAt l (4 * i) = wor (wor (wor (wshl c0 24) (wshl c1 16)) (wshl c2 8)) c3 by
        unfold wordAt; rw [hv0, hv1, hv2, hv3, hq0, hq1, hq2, hq3]; rfl)
      have HQ := Lib.hid hcell
      clear hcell hv0 hv1 hv2 hv3 hq0 hq1 hq2 hq3
      have HN := Lib.hid (pre_next (words16 l 0) 16 i (wordAt l (4 * i)) (words16_len l 0) hi16 (by rw [words16_at l 0 i hi16, Nat.zero_add]))
      have hcs : wr.cell? ⟨w.heap.size + 1, i, none⟩ = some (.int .u32 0) := by rw [HB.out.cell, HN.out.1]; rfl
      have hfr : wr.frozen? ⟨w.heap.size + 1, i, none⟩ = false := HB.out.frozen i
      go_wp2_with fail
      go_still_tail 35, (by kernel_rfl)
      go_wp2_with fail
      go_roundw
      case rel =>
        refine ⟨i + 1, by omega, by go_num, Lib.hid ?_, Lib.hid ?_, ?_⟩
        · rw [← HN.out.2, HV.out]
          exact (HB.out.set i _).drew
        · exact (HB0.out.far (p := ⟨w.heap.size + 1, i, none⟩) (by simp) _).drew
        · exact (hbel.setCell (p := ⟨w.heap.size + 1, i, none⟩) (by simp) _).drew
      case measure => simp [intOf]; omega
    · have hi2 : i = 16 := by omega
      subst hi2
      have hL := words16_len l 0
      rw [List.take_of_length_le (by omega), pre_full _ _ hL] at HB
      have e1 : (Tryd.prog.info? 106).map (·.size) = some (wcells (words16 l 0)).size := by rw [wcells_size, hL]; kernel_rfl
      have e2 : (wcells (pre [] 16)).size = (wcells (words16 l 0)).size := by rw [wcells_size, wcells_size, hL]; rfl
      have HE := Lib.hid (And.intro e1 e2)
      clear hL e1 e2
      go_wp2_with (first
        | refine wpList_load_row rfl 106 (.tmp 3) rfl (w.heap.size + 1) rfl 106 _ (0, 0) _ HB.out Tryd.underlying106 rfl HE.out.1 ?_
        | refine wpList_store_row rfl 106 (.tmp 2) (.tmp 44) rfl w.heap.size _ rfl rfl 106 _ HB0.out HE.out.1 HE.out.2 (wcells_one _) ?_)
      obtain ⟨w2, hw2⟩ : ∃ w2, w2 = wr.setRow w.heap.size (wcells (words16 l 0)) := ⟨_, rfl⟩
      have HB2 : Bk w2 w.heap.size 106 (wcells (words16 l 0)) := by rw [hw2]; exact HB0.out.setRow _
      have hbel2 : Below w.heap.size w w2 := by rw [hw2]; exact Below.setRow hbel _ (Nat.le_refl _) _
      rw [← hw2]
      refine bodyPost_ret (results_cell_row rfl _ _ w.heap.size 106 _ (0, 0) _ rfl HB2 Tryd.underlying106 rfl HE.out.1) rfl ?_
      exact ⟨rfl, hbel2⟩
end Go.Proofs.YtinbegnojfpeiaaDoor
