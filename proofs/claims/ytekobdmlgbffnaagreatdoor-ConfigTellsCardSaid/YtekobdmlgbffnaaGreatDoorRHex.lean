/- The document's own digits of bytes. (Written by gen_rhex.py.) -/
import Derived.Test.YtekobdmlgbffnaaGreatDoorG12
import Derived.Test.YtekobdmlgbffnaaGreatDoorG2
import Derived.Test.YtekobdmlgbffnaaGreatDoorG4
import Derived.Test.YtekobdmlgbffnaaGreatDoorG5
namespace Go.Proofs.YtekobdmlgbffnaaGreatDoor
set_option linter.unusedVariables false
set_option maxRecDepth 100000
set_option linter.unusedSimpArgs false
open Go.RowKit

set_option maxRecDepth 100000 in
set_option maxHeartbeats 2000000 in
theorem rhex_ok (A : Option Addr) (n c : Nat) (l : List UInt8) (w : World) (hl : l.length = n) (hn : n ≤ 1099511627776) (hR : Rb w w.heap.size A l) :
    Calls Tryz.prog 56 #[.slice A n c] w fun e w' => e = .returned (.string ⟨(hexB l).toArray⟩) ∧ Below w.heap.size w w' := by
  have HL := Lib.hid hl
  have HR := Lib.hid hR
  clear hl hR
  go_enter Tryz.func56, Tryz.ntmps56
  go_wp2_with fail
  go_loopw [5, 4] (fun v5 v4 wr => ∃ (i : Nat) (A2 : Option Addr) (c2 L : Nat), i ≤ n ∧ v5 = .int .i64 i ∧ v4 = .slice A2 L c2 ∧ Hid ((hexB (l.take i)).length = L) ∧ Hid (OB wr w.heap.size 5 A2 c2 (hexB (l.take i))) ∧ Hid (Below w.heap.size w wr)) (fun v5 _ _ => n - (intOf v5).toNat)
  case atStart => exact ⟨0, none, 0, 0, by omega, rfl, rfl, Lib.hid rfl, Lib.hid (OB.nil _ _ _), Lib.hid (by go_grown)⟩
  case round =>
    obtain ⟨i, A2, c2, L, hi, rfl, rfl, HT, HO, HB⟩ := hrel
    by_cases hi1 : i < n
    · have hi2 : (i : Int) < (n : Int) := by omega
      have hil : i < l.length := by rw [HL.out]; exact hi1
      obtain ⟨b, o, rfl, hb, hc⟩ : ∃ b o, A = some ⟨b, o, none⟩ ∧ b < w.heap.size ∧ w.cell? ⟨b, o + i, none⟩ = some (.int .u8 ((l[i]).toNat : Int)) := by
        rcases HR.out with h | ⟨b, o, e, hb, hc⟩
        · subst h; simp at hil
        · exact ⟨b, o, e, hb, hc i hil⟩
      have HT2 := Lib.hid (hexB_take l i hil)
      have hlt := (l[i]).toNat_lt
      obtain ⟨x, hx⟩ : ∃ x, x = (l[i]).toNat := ⟨_, rfl⟩
      rw [← hx] at hc HT2 hlt
      clear hx
      obtain ⟨q, hq⟩ : ∃ q, q = x / 16 := ⟨_, rfl⟩
      obtain ⟨r, hr⟩ : ∃ r, r = x % 16 := ⟨_, rfl⟩
      have e1 : (x : Int) / 16 = (q : Int) := by omega
      have e2 : (x : Int) % 16 = (r : Int) := by omega
      have e2' : (x : Int).tmod 16 = (r : Int) := by rw [Int.tmod_eq_emod_of_nonneg (by omega)]; exact e2
      have e1' : (x : Int).tdiv 16 = (q : Int) := by rw [Int.tdiv_eq_ediv_of_nonneg (by omega)]; exact e1
      have e3 : (q : Int) % 256 = (q : Int) := by omega
      have e4 : (r : Int) % 256 = (r : Int) := by omega
      have e5 : IntKind.u8.wrap (q : Int) = (q : Int) := by rw [IntKind.wrap_u8]; omega
      have e6 : IntKind.u8.wrap (r : Int) = (r : Int) := by rw [IntKind.wrap_u8]; omega
      have HQ := Lib.hid (fun (u : World) => show (Instr.index 9 (.string ⟨#[48, 49, 50, 51, 52, 53, 54, 55, 56, 57, 97, 98, 99, 100, 101, 102]⟩) (.int .u8 (q : Int))).run Tryz.prog u = .ok (.int .u8 ((dig q).toNat : Int)) u from idx_dig q (by omega) .u8 u)
      have HRR := Lib.hid (fun (u : World) => show (Instr.index 9 (.string ⟨#[48, 49, 50, 51, 52, 53, 54, 55, 56, 57, 97, 98, 99, 100, 101, 102]⟩) (.int .u8 (r : Int))).run Tryz.prog u = .ok (.int .u8 ((dig r).toNat : Int)) u from idx_dig r (by omega) .u8 u)
      rw [← hq, ← hr] at HT2
      have HCL := Lib.hid (show ∀ u, Below w.heap.size w u → u.cell? ⟨b, o + i, none⟩ = some (.int .u8 (x : Int)) from fun u hu => (hu.cell (p := ⟨b, o + i, none⟩) hb).trans hc)
      have HLEN := Lib.hid (show (hexB (l.take i)).length + 2 ≤ 140737488355328 by rw [hexB_len, List.length_take]; omega)
      clear hq hr hlt hil
      go_wp2_with fail
      try simp only [List.cons_append, List.nil_append]
      refine wp_region_held_drew (S := fun u => Below w.heap.size w u) (by kernel_rfl) (HB.out.drew) (fun hHeld => ?_)
      refine tk (some 12) 0 (v := ?_) rfl rfl ?_ hHeld ?_
      rotate_left
      · intro wz hSw; go_simp; try (with_reducible rfl)
      try simp only [lay]
      refine tk (some 13) 1 (v := ?_) rfl rfl ?_ hHeld ?_
      rotate_left
      · intro wz hSw; go_simp; try (with_reducible rfl)
      try simp only [lay]
      refine tk (some 14) 2 (v := ?_) rfl rfl ?_ hHeld ?_
      rotate_left
      · intro wz hSw; go_simp; try (with_reducible rfl)
      try simp only [lay]
      refine tk (some 15) 3 (v := ?_) rfl rfl ?_ hHeld ?_
      rotate_left
      · intro wz hSw; go_simp; try (with_reducible rfl)
      try simp only [lay]
      refine tk (some 16) 4 (v := ?_) rfl rfl ?_ hHeld ?_
      rotate_left
      · intro wz hSw; go_simp; try (with_reducible rfl)
      try simp only [lay]
      refine tk (some 17) 5 (v := ?_) rfl rfl ?_ hHeld ?_
      rotate_left
      · intro wz hSw; have hcv := HCL.out wz hSw; go_simp; try (with_reducible rfl)
      try simp only [lay]
      refine tk (some 18) 6 (v := ?_) rfl rfl ?_ hHeld ?_
      rotate_left
      · intro wz hSw; go_simp; try (with_reducible rfl)
      try simp only [lay]
      refine tk (some 19) 7 (v := ?_) rfl rfl ?_ hHeld ?_
      rotate_left
      · intro wz hSw; have hix := HQ.out wz; go_simp; try (with_reducible rfl)
      try simp only [lay]
      refine tk (some 20) 8 (v := ?_) rfl rfl ?_ hHeld ?_
      rotate_left
      · intro wz hSw; go_simp; try (with_reducible rfl)
      try simp only [lay]
      refine tk (some 21) 9 (v := ?_) rfl rfl ?_ hHeld ?_
      rotate_left
      · intro wz hSw; go_simp; try (with_reducible rfl)
      try simp only [lay]
      refine tk (some 22) 10 (v := ?_) rfl rfl ?_ hHeld ?_
      rotate_left
      · intro wz hSw; go_simp; try (with_reducible rfl)
      try simp only [lay]
      refine tk (some 23) 11 (v := ?_) rfl rfl ?_ hHeld ?_
      rotate_left
      · intro wz hSw; go_simp; try (with_reducible rfl)
      try simp only [lay]
      refine tk (some 24) 12 (v := ?_) rfl rfl ?_ hHeld ?_
      rotate_left
      · intro wz hSw; have hcv := HCL.out wz hSw; go_simp; try (with_reducible rfl)
      try simp only [lay]
      refine tk (some 25) 13 (v := ?_) rfl rfl ?_ hHeld ?_
      rotate_left
      · intro wz hSw; go_simp; try (with_reducible rfl)
      try simp only [lay]
      refine tk (some 26) 14 (v := ?_) rfl rfl ?_ hHeld ?_
      rotate_left
      · intro wz hSw; have hix := HRR.out wz; go_simp; try (with_reducible rfl)
      try simp only [lay]
      refine wpAnyH_ready (rs := [15]) (by kernel_rfl) (by simp) (AllReadyH.cons rfl (fun K hK => ?_) AllReadyH.nil)
      rw [if_pos (by kernel_rfl)]
      go_simp
      refine hK.out _ _ (HB.out.drew.alloc HB.out.size _) (fun hHeld => ?_)
      try simp only [lay]
      refine wpAnyH_ready (rs := [16]) (by kernel_rfl) (by simp) (AllReadyH.cons rfl (fun K hK => ?_) AllReadyH.nil)
      rw [if_pos (by kernel_rfl)]
      refine op_app (.tmp 12) (.tmp 27) 98 5 rfl Tryz.underlying98 bytesInfo w.heap.size (hexB (l.take i)) A2 L c2 rfl HT.out (HO.out.drew.alloc _) [dig q, dig r] _ 2 _ _ rfl rfl Rb.two (by have := HLEN.out; simpa using this) hHeld.size ?_
      intro A3 c3 w4 ho3 hg3 hb3
      refine hK.out _ _ (hHeld.trans hb3) (fun hHeld => ?_)
      try simp only [lay]
      refine tk (some 4) 17 (v := ?_) rfl rfl ?_ hHeld ?_
      rotate_left
      · intro wz hSw; go_simp; try (with_reducible rfl)
      try simp only [lay]
      refine wpAnyH_done (by kernel_rfl) ?_ _
      go_wp2_with fail
      go_roundw
      case rel => exact ⟨i + 1, A3, c3, _, by omega, by go_num, rfl, Lib.hid (by rw [HT2.out, List.append_assoc]; simp), Lib.hid (by rw [HT2.out, List.append_assoc]; exact ho3), Lib.hid hHeld⟩
      case measure => simp [intOf]; omega
    · have hi2 : (n : Int) ≤ (i : Int) := by omega
      have HI := Lib.hid (show l.take i = l by rw [List.take_of_length_le]; rw [HL.out]; omega)
      rw [HI.out] at HT HO
      have hst := str_of (P := Tryz.prog) HO.out.rb 98 5 9 Tryz.underlying98 Tryz.underlying5 Tryz.underlying9 L c2 HT.out
      go_wp2_with fail
      go_ret
      exact ⟨rfl, HB.out⟩
end Go.Proofs.YtekobdmlgbffnaaGreatDoor
