/- RHex, RProof, VtH, Rdr, Read, ReadM, Get, GetMath, WireM, SkM: texts of this seat, one behind the other. -/
import Derived.Test.YtekobdmlgbffnaaGreatDoorG11
import Derived.Test.YtekobdmlgbffnaaGreatDoorG1
import Derived.Test.YtekobdmlgbffnaaGreatDoorG3
import Derived.Test.YtekobdmlgbffnaaGreatDoorG4
import Derived.Test.YtekobdmlgbffnaaGreatDoorG15
import Derived.Test.YtekobdmlgbffnaaGreatDoorVt4
import Derived.Lib.SlBytesConst
import Derived.Test.YtekobdmlgbffnaaGreatDoorRows
import Derived.Test.YtekobdmlgbffnaaGreatDoorG9
/- The document's own digits of bytes. (Written by gen_rhex.py.) -/
namespace Go.Proofs.YtekobdmlgbffnaaGreatDoor
set_option linter.unusedVariables false
set_option maxRecDepth 100000
set_option linter.unusedSimpArgs false
open Go.RowKit

set_option maxRecDepth 100000 in
set_option maxHeartbeats 2000000 in
theorem rhex_ok (A : Option Addr) (n c : Nat) (l : List UInt8) (w : World) (hl : l.length = n) (hn : n ≤ 1099511627776) (hR : Rb w w.heap.size A l) :
    Calls Tryz.prog 56 #[.slice A n c] w fun e w' => e = .returned (.string ⟨(hexB l).toArray⟩) ∧ Below w.heap.size w w' := by
  have HL := Lib.hid hl
  have HR := Lib.hid hR
  clear hl hR
  go_enter Tryz.func56, Tryz.ntmps56
  go_wp2_with fail
  go_loopw [5, 4] (fun v5 v4 wr => ∃ (i : Nat) (A2 : Option Addr) (c2 L : Nat), i ≤ n ∧ v5 = .int .i64 i ∧ v4 = .slice A2 L c2 ∧ Hid ((hexB (l.take i)).length = L) ∧ Hid (OB wr w.heap.size 5 A2 c2 (hexB (l.take i))) ∧ Hid (Below w.heap.size w wr)) (fun v5 _ _ => n - (intOf v5).toNat)
  case atStart => exact ⟨0, none, 0, 0, by omega, rfl, rfl, Lib.hid rfl, Lib.hid (OB.nil _ _ _), Lib.hid (by go_grown)⟩
  case round =>
    obtain ⟨i, A2, c2, L, hi, rfl, rfl, HT, HO, HB⟩ := hrel
    by_cases hi1 : i < n
    · have hi2 : (i : Int) < (n : Int) := by omega
      have hil : i < l.length := by rw [HL.out]; exact hi1
      obtain ⟨b, o, rfl, hb, hc⟩ : ∃ b o, A = some ⟨b, o, none⟩ ∧ b < w.heap.size ∧ w.cell? ⟨b, o + i, none⟩ = some (.int .u8 ((l[i]).toNat : Int)) := by
        rcases HR.out with h | ⟨b, o, e, hb, hc⟩
        · subst h; simp at hil
        · exact ⟨b, o, e, hb, hc i hil⟩
      have HT2 := Lib.hid (hexB_take l i hil)
      have hlt := (l[i]).toNat_lt
      obtain ⟨x, hx⟩ : ∃ x, x = (l[i]).toNat := ⟨_, rfl⟩
      rw [← hx] at hc HT2 hlt
      clear hx
      obtain ⟨q, hq⟩ : ∃ q, q = x / 16 := ⟨_, rfl⟩
      obtain ⟨r, hr⟩ : ∃ r, r = x % 16 := ⟨_, rfl⟩
      have e1 : (x : Int) / 16 = (q : Int) := by omega
      have e2 : (x : Int) % 16 = (r : Int) := by omega
      have e2' : (x : Int).tmod 16 = (r : Int) := by rw [Int.tmod_eq_emod_of_nonneg (by omega)]; exact e2
      have e1' : (x : Int).tdiv 16 = (q : Int) := by rw [Int.tdiv_eq_ediv_of_nonneg (by omega)]; exact e1
      have e3 : (q : Int) % 256 = (q : Int) := by omega
      have e4 : (r : Int) % 256 = (r : Int) := by omega
      have e5 : IntKind.u8.wrap (q : Int) = (q : Int) := by rw [IntKind.wrap_u8]; omega
      have e6 : IntKind.u8.wrap (r : Int) = (r : Int) := by rw [IntKind.wrap_u8]; omega
      have HQ := Lib.hid (fun (u : World) => show (Instr.index 9 (.string ⟨#[48, 49, 50, 51, 52, 53, 54, 55, 56, 57, 97, 98, 99, 100, 101, 102]⟩) (.int .u8 (q : Int))).run Tryz.prog u = .ok (.int .u8 ((dig q).toNat : Int)) u from idx_dig q (by omega) .u8 u)
      have HRR := Lib.hid (fun (u : World) => show (Instr.index 9 (.string ⟨#[48, 49, 50, 51, 52, 53, 54, 55, 56, 57, 97, 98, 99, 100, 101, 102]⟩) (.int .u8 (r : Int))).run Tryz.prog u = .ok (.int .u8 ((dig r).toNat : Int)) u from idx_dig r (by omega) .u8 u)
      rw [← hq, ← hr] at HT2
      have HCL := Lib.hid (show ∀ u, Below w.heap.size w u → u.cell? ⟨b, o + i, none⟩ = some (.int .u8 (x : Int)) from fun u hu => (hu.cell (p := ⟨b, o + i, none⟩) hb).trans hc)
      have HLEN := Lib.hid (show (hexB (l.take i)).length + 2 ≤ 140737488355328 by rw [hexB_len, List.length_take]; omega)
      clear hq hr hlt hil
      go_wp2_with fail
      try simp only [List.cons_append, List.nil_append]
      refine wp_region_held_drew (S := fun u => Below w.heap.size w u) (by kernel_rfl) (HB.out.drew) (fun hHeld => ?_)
      refine take_at (some 12) (i := 0) (v := ?_) rfl rfl (by kernel_rfl) (by kernel_rfl) (by kernel_rfl) (fun _ _ _ h => h) (Or.inl ⟨by kernel_rfl, ?_⟩) hHeld ?_
      rotate_left
      · intro wz hSw; go_simp; try (with_reducible rfl)
      try simp only [Act.put, List.setIfInBounds_toArray, List.set_cons_zero, List.set_cons_succ, List.getElem_toArray, List.getElem_cons_succ, List.getElem_cons_zero]
      refine take_at (some 13) (i := 1) (v := ?_) rfl rfl (by kernel_rfl) (by kernel_rfl) (by kernel_rfl) (fun _ _ _ h => h) (Or.inl ⟨by kernel_rfl, ?_⟩) hHeld ?_
      rotate_left
      · intro wz hSw; go_simp; try (with_reducible rfl)
      try simp only [Act.put, List.setIfInBounds_toArray, List.set_cons_zero, List.set_cons_succ, List.getElem_toArray, List.getElem_cons_succ, List.getElem_cons_zero]
      refine take_at (some 14) (i := 2) (v := ?_) rfl rfl (by kernel_rfl) (by kernel_rfl) (by kernel_rfl) (fun _ _ _ h => h) (Or.inl ⟨by kernel_rfl, ?_⟩) hHeld ?_
      rotate_left
      · intro wz hSw; go_simp; try (with_reducible rfl)
      try simp only [Act.put, List.setIfInBounds_toArray, List.set_cons_zero, List.set_cons_succ, List.getElem_toArray, List.getElem_cons_succ, List.getElem_cons_zero]
      refine take_at (some 15) (i := 3) (v := ?_) rfl rfl (by kernel_rfl) (by kernel_rfl) (by kernel_rfl) (fun _ _ _ h => h) (Or.inl ⟨by kernel_rfl, ?_⟩) hHeld ?_
      rotate_left
      · intro wz hSw; go_simp; try (with_reducible rfl)
      try simp only [Act.put, List.setIfInBounds_toArray, List.set_cons_zero, List.set_cons_succ, List.getElem_toArray, List.getElem_cons_succ, List.getElem_cons_zero]
      refine take_at (some 16) (i := 4) (v := ?_) rfl rfl (by kernel_rfl) (by kernel_rfl) (by kernel_rfl) (fun _ _ _ h => h) (Or.inl ⟨by kernel_rfl, ?_⟩) hHeld ?_
      rotate_left
      · intro wz hSw; go_simp; try (with_reducible rfl)
      try simp only [Act.put, List.setIfInBounds_toArray, List.set_cons_zero, List.set_cons_succ, List.getElem_toArray, List.getElem_cons_succ, List.getElem_cons_zero]
      refine take_at (some 17) (i := 5) (v := ?_) rfl rfl (by kernel_rfl) (by kernel_rfl) (by kernel_rfl) (fun _ _ _ h => h) (Or.inl ⟨by kernel_rfl, ?_⟩) hHeld ?_
      rotate_left
      · intro wz hSw; have hcv := HCL.out wz hSw; go_simp; try (with_reducible rfl)
      try simp only [Act.put, List.setIfInBounds_toArray, List.set_cons_zero, List.set_cons_succ, List.getElem_toArray, List.getElem_cons_succ, List.getElem_cons_zero]
      refine take_at (some 18) (i := 6) (v := ?_) rfl rfl (by kernel_rfl) (by kernel_rfl) (by kernel_rfl) (fun _ _ _ h => h) (Or.inl ⟨by kernel_rfl, ?_⟩) hHeld ?_
      rotate_left
      · intro wz hSw; go_simp; try (with_reducible rfl)
      try simp only [Act.put, List.setIfInBounds_toArray, List.set_cons_zero, List.set_cons_succ, List.getElem_toArray, List.getElem_cons_succ, List.getElem_cons_zero]
      refine take_at (some 19) (i := 7) (v := ?_) rfl rfl (by kernel_rfl) (by kernel_rfl) (by kernel_rfl) (fun _ _ _ h => h) (Or.inl ⟨by kernel_rfl, ?_⟩) hHeld ?_
      rotate_left
      · intro wz hSw; have hix := HQ.out wz; go_simp; try (with_reducible rfl)
      try simp only [Act.put, List.setIfInBounds_toArray, List.set_cons_zero, List.set_cons_succ, List.getElem_toArray, List.getElem_cons_succ, List.getElem_cons_zero]
      refine take_at (some 20) (i := 8) (v := ?_) rfl rfl (by kernel_rfl) (by kernel_rfl) (by kernel_rfl) (fun _ _ _ h => h) (Or.inl ⟨by kernel_rfl, ?_⟩) hHeld ?_
      rotate_left
      · intro wz hSw; go_simp; try (with_reducible rfl)
      try simp only [Act.put, List.setIfInBounds_toArray, List.set_cons_zero, List.set_cons_succ, List.getElem_toArray, List.getElem_cons_succ, List.getElem_cons_zero]
      refine take_at (some 21) (i := 9) (v := ?_) rfl rfl (by kernel_rfl) (by kernel_rfl) (by kernel_rfl) (fun _ _ _ h => h) (Or.inl ⟨by kernel_rfl, ?_⟩) hHeld ?_
      rotate_left
      · intro wz hSw; go_simp; try (with_reducible rfl)
      try simp only [Act.put, List.setIfInBounds_toArray, List.set_cons_zero, List.set_cons_succ, List.getElem_toArray, List.getElem_cons_succ, List.getElem_cons_zero]
      refine take_at (some 22) (i := 10) (v := ?_) rfl rfl (by kernel_rfl) (by kernel_rfl) (by kernel_rfl) (fun _ _ _ h => h) (Or.inl ⟨by kernel_rfl, ?_⟩) hHeld ?_
      rotate_left
      · intro wz hSw; go_simp; try (with_reducible rfl)
      try simp only [Act.put, List.setIfInBounds_toArray, List.set_cons_zero, List.set_cons_succ, List.getElem_toArray, List.getElem_cons_succ, List.getElem_cons_zero]
      refine take_at (some 23) (i := 11) (v := ?_) rfl rfl (by kernel_rfl) (by kernel_rfl) (by kernel_rfl) (fun _ _ _ h => h) (Or.inl ⟨by kernel_rfl, ?_⟩) hHeld ?_
      rotate_left
      · intro wz hSw; go_simp; try (with_reducible rfl)
      try simp only [Act.put, List.setIfInBounds_toArray, List.set_cons_zero, List.set_cons_succ, List.getElem_toArray, List.getElem_cons_succ, List.getElem_cons_zero]
      refine take_at (some 24) (i := 12) (v := ?_) rfl rfl (by kernel_rfl) (by kernel_rfl) (by kernel_rfl) (fun _ _ _ h => h) (Or.inl ⟨by kernel_rfl, ?_⟩) hHeld ?_
      rotate_left
      · intro wz hSw; have hcv := HCL.out wz hSw; go_simp; try (with_reducible rfl)
      try simp only [Act.put, List.setIfInBounds_toArray, List.set_cons_zero, List.set_cons_succ, List.getElem_toArray, List.getElem_cons_succ, List.getElem_cons_zero]
      refine take_at (some 25) (i := 13) (v := ?_) rfl rfl (by kernel_rfl) (by kernel_rfl) (by kernel_rfl) (fun _ _ _ h => h) (Or.inl ⟨by kernel_rfl, ?_⟩) hHeld ?_
      rotate_left
      · intro wz hSw; go_simp; try (with_reducible rfl)
      try simp only [Act.put, List.setIfInBounds_toArray, List.set_cons_zero, List.set_cons_succ, List.getElem_toArray, List.getElem_cons_succ, List.getElem_cons_zero]
      refine take_at (some 26) (i := 14) (v := ?_) rfl rfl (by kernel_rfl) (by kernel_rfl) (by kernel_rfl) (fun _ _ _ h => h) (Or.inl ⟨by kernel_rfl, ?_⟩) hHeld ?_
      rotate_left
      · intro wz hSw; have hix := HRR.out wz; go_simp; try (with_reducible rfl)
      try simp only [Act.put, List.setIfInBounds_toArray, List.set_cons_zero, List.set_cons_succ, List.getElem_toArray, List.getElem_cons_succ, List.getElem_cons_zero]
      refine wpAnyH_ready (rs := [15]) (by kernel_rfl) (by simp) (AllReadyH.cons rfl (fun K hK => ?_) AllReadyH.nil)
      rw [if_pos (by kernel_rfl)]
      go_simp
      refine hK.out _ _ (HB.out.drew.alloc HB.out.size _) (fun hHeld => ?_)
      try simp only [Act.put, List.setIfInBounds_toArray, List.set_cons_zero, List.set_cons_succ, List.getElem_toArray, List.getElem_cons_succ, List.getElem_cons_zero]
      refine wpAnyH_ready (rs := [16]) (by kernel_rfl) (by simp) (AllReadyH.cons rfl (fun K hK => ?_) AllReadyH.nil)
      rw [if_pos (by kernel_rfl)]
      refine op_app (.tmp 12) (.tmp 27) 98 5 rfl Tryz.underlying98 bytesInfo w.heap.size (hexB (l.take i)) A2 L c2 rfl HT.out (HO.out.drew.alloc _) [dig q, dig r] _ 2 _ _ rfl rfl Rb.two (by have := HLEN.out; simpa using this) hHeld.size ?_
      intro A3 c3 w4 ho3 hg3 hb3
      refine hK.out _ _ (hHeld.trans hb3) (fun hHeld => ?_)
      try simp only [Act.put, List.setIfInBounds_toArray, List.set_cons_zero, List.set_cons_succ, List.getElem_toArray, List.getElem_cons_succ, List.getElem_cons_zero]
      refine take_at (some 4) (i := 17) (v := ?_) rfl rfl (by kernel_rfl) (by kernel_rfl) (by kernel_rfl) (fun _ _ _ h => h) (Or.inl ⟨by kernel_rfl, ?_⟩) hHeld ?_
      rotate_left
      · intro wz hSw; go_simp; try (with_reducible rfl)
      try simp only [Act.put, List.setIfInBounds_toArray, List.set_cons_zero, List.set_cons_succ, List.getElem_toArray, List.getElem_cons_succ, List.getElem_cons_zero]
      refine wpAnyH_done (by kernel_rfl) ?_ _
      go_wp2_with fail
      go_roundw
      case rel => exact ⟨i + 1, A3, c3, _, by omega, by go_num, rfl, Lib.hid (by rw [HT2.out, List.append_assoc]; simp), Lib.hid (by rw [HT2.out, List.append_assoc]; exact ho3), Lib.hid hHeld⟩
      case measure => simp [intOf]; omega
    · have hi2 : (n : Int) ≤ (i : Int) := by omega
      have HI := Lib.hid (show l.take i = l by rw [List.take_of_length_le]; rw [HL.out]; omega)
      rw [HI.out] at HT HO
      have hst := str_of (P := Tryz.prog) HO.out.rb 98 5 9 Tryz.underlying98 Tryz.underlying5 Tryz.underlying9 L c2 HT.out
      go_wp2_with fail
      go_ret
      exact ⟨rfl, HB.out⟩
end Go.Proofs.YtekobdmlgbffnaaGreatDoor

/- The document's own Proof. (Out of Proof's own text, its slots turned.) -/
namespace Go.Proofs.YtekobdmlgbffnaaGreatDoor
set_option linter.unusedVariables false
set_option maxRecDepth 100000
set_option linter.unusedSimpArgs false
open Go.RowKit

set_option maxRecDepth 100000 in
set_option maxHeartbeats 4000000 in
theorem rproof_ok (A : Option Addr) (n c : Nat) (key : List UInt8) (A' : Option Addr) (n' c' : Nat) (ws : List ByteArray) (w : World) (hl : key.length = n) (hc : n ≤ c) (hmax : c ≤ 9223372036854775807) (hn : n ≤ 1099511627776) (hR : Rb w w.heap.size A key) (hnk : A = none → n = 0 ∧ c = 0)
    (hl' : ws.length = n') (hn' : n' ≤ 1099511627776) (hR' : Rs w w.heap.size A' ws) (hsm : ∀ x ∈ ws, x.size ≤ 140737488355328) (htx : (textsB ws).length ≤ 549755813888) :
    Calls Tryz.prog 126 #[.slice A n c, .slice A' n' c'] w fun e w' => e = .returned (.string ⟨(proofB key ws).toArray⟩) ∧ Below w.heap.size w w' := by
  have HL := Lib.hid hl
  have HCP := Lib.hid hc
  have HMX := Lib.hid hmax
  have HN := Lib.hid hn
  have HR := Lib.hid hR
  have HL' := Lib.hid hl'
  have HR' := Lib.hid hR'
  have HSM := Lib.hid hsm
  have HTX := Lib.hid htx
  have HNK := Lib.hid hnk
  clear hl hc hmax hn hR hl' hR' hsm htx hnk
  go_enter Tryz.func126, Tryz.ntmps126
  go_wp2_with fail
  go_loopw [6, 5] (fun v12 v5 wr => ∃ (i : Nat) (A2 : Option Addr) (c2 L : Nat), i ≤ n' ∧ v12 = .int .i64 i ∧ v5 = .slice A2 L c2 ∧ Hid ((textsB (ws.take i)).length = L) ∧ Hid (∀ j, (hj : j < ws.length) → j < i → ws[j].size ≤ 255) ∧ Hid (OB wr w.heap.size 5 A2 c2 (textsB (ws.take i))) ∧ Hid (A2 = none → L = 0 ∧ c2 = 0) ∧ Hid (Below w.heap.size w wr)) (fun v12 _ _ => n' - (intOf v12).toNat)
  case atStart => exact ⟨0, none, 0, 0, by omega, rfl, rfl, Lib.hid rfl, Lib.hid (fun j _ h => by omega), Lib.hid (OB.nil _ _ _), Lib.hid (fun _ => ⟨rfl, rfl⟩), Lib.hid (by go_grown)⟩
  case round =>
    obtain ⟨i, A2, c2, L, hi, rfl, rfl, HT, HJ, HO, HNL, HB⟩ := hrel
    by_cases hi1 : i < n'
    · have hi2 : (i : Int) < (n' : Int) := by omega
      have hiw : i < ws.length := by rw [HL'.out]; exact hi1
      obtain ⟨b, o, rfl, hcell⟩ : ∃ b o, A' = some ⟨b, o, none⟩ ∧ wr.cell? ⟨b, o + i, none⟩ = some (.string ws[i]) := by
        rcases HR'.out with h | ⟨b, o, e, hb, hc⟩
        · subst h; simp at hiw
        · exact ⟨b, o, e, (HB.out.cell (p := ⟨b, o + i, none⟩) hb).trans (hc i hiw)⟩
      have HT2 := Lib.hid (textsB_take ws i hiw)
      have HS := Lib.hid (HSM.out ws[i] (List.getElem_mem hiw))
      have HLB := Lib.hid (textsB_part ws (i + 1))
      have HLG := Lib.hid (fun h => proofB_long key ws i hiw h)
      have HJ2 := Lib.hid (show ∀ s : ByteArray, s = ws[i] → s.size ≤ 255 → ∀ j, (hj : j < ws.length) → j < i + 1 → ws[j].size ≤ 255 by
        intro s hs hs2 j hj hji
        by_cases e : j = i
        · subst e; rw [← hs]; exact hs2
        · exact HJ.out j hj (by omega))
      obtain ⟨s, hs⟩ : ∃ s, s = ws[i] := ⟨_, rfl⟩
      rw [← hs] at hcell HT2 HS HLG
      have HJ3 := Lib.hid (HJ2.out s hs)
      clear hs HJ2 hiw
      by_cases hs : s.size ≤ 255
      · have HTL := Lib.hid (textB_some s hs)
        have hts : 0 < (textB s).length := by rw [HTL.out]; omega
        have HTP := Lib.hid hts
        obtain ⟨M, hM⟩ : ∃ M, M = s.size + 1 := ⟨_, rfl⟩
        have HM := Lib.hid hM
        have HMP := Lib.hid (show ((M : Int) == 0) = false by rw [beq_eq_false_iff_ne]; omega)
        have hmp := HMP.out
        have hmp2 : 0 < M := by omega
        rw [← hM] at HTL
        have HSS := Lib.hid hs
        have h3 : (s.size : Int) ≤ 255 := by omega
        clear hts hM hs
        go_wp2_with fail
        refine (rtext_ok s _ HS.out).mono ?_
        rintro e w2 ⟨A3, c3, rfl, ho, hb⟩
        rw [HTL.out]
        have HO3 := Lib.hid ho
        have HB3 := Lib.hid hb
        have HA3 := Lib.hid (show A3 = none → M = 0 ∧ c3 = 0 by
          intro h
          obtain ⟨g, e, _⟩ := ho.form (by intro h0; have := HTP.out; rw [h0] at this; simp at this)
          rw [h] at e; cases e)
        have HOO := Lib.hid (show OB w2 w.heap.size 5 A2 c2 (textsB (ws.take i)) from by
          refine ⟨HO.out.1, ?_⟩
          rcases HO.out.2 with hn | ⟨g, cap, cur, hv, hg, hh, r⟩
          · exact .inl hn
          · refine .inr ⟨g, cap, cur, hv, hg, ?_, r⟩
            rw [hb.block g (lt_of_block hh)]
            exact hh)
        clear ho hb
        go_wp2_with (at_builtin; refine wp_app_any rfl (.tmp 20) (.tmp 25) 98 5 rfl Tryz.underlying98 bytesInfo w.heap.size _ _ _ _ rfl HT.out HOO.out (textB s) A3 M _ _ rfl HTL.out HA3.out HO3.out.rb (by have h1 := HLB.out; have h2 := HTX.out; rw [HT2.out, List.length_append] at h1; omega) (by have h1 := HB.out.size; have h2 := HB3.out.size; omega) ?_; intro A4 c4 w4 ho4 hg4 hb4)
        go_roundw
        case rel =>
          refine ⟨i + 1, A4, c4, _, by omega, by go_num, rfl, Lib.hid (by rw [HT2.out]; simp), Lib.hid (HJ3.out HSS.out), Lib.hid (by rw [HT2.out]; exact ho4), Lib.hid ?_, Lib.hid ((HB.out.trans (HB3.out.mono HB.out.size)).trans hb4)⟩
          intro h
          obtain ⟨g, e, _⟩ := ho4.form (by intro h0; have h1 := congrArg List.length h0; rw [List.length_append, HTL.out] at h1; simp at h1; omega)
          rw [h] at e; cases e
        case measure => simp [intOf]; omega
      · have HP := Lib.hid (HLG.out (by omega))
        have h3 : (255 : Int) < (s.size : Int) := by omega
        clear hs HLG HJ3
        go_wp2_with fail
        go_ret
        exact ⟨by rw [HP.out]; rfl, HB.out⟩
    · have hi3 : i = n' := by omega
      have hi2 : (n' : Int) ≤ (i : Int) := by omega
      have HI3 := Lib.hid (show ws.take i = ws by rw [List.take_of_length_le]; rw [HL'.out]; omega)
      have HPS := Lib.hid (proofB_short key ws (fun j hj => HJ.out j hj (by rw [HL'.out] at hj; omega)))
      rw [HI3.out] at HT HO
      have HLL := Lib.hid (show L ≤ 549755813888 by rw [← HT.out]; exact HTX.out)
      clear hi3
      have HZE := Lib.hid (show (Tryz.prog.info? 189).map (·.size) = some (bcells (macB key (textsB ws))).size by rw [bcells_size, macB_len]; kernel_rfl)
      have HZE2 := Lib.hid (show (bcells (List.replicate 32 0)).size = (bcells (macB key (textsB ws))).size by rw [bcells_size, bcells_size, macB_len, List.length_replicate])
      go_wp2_with fail
      refine (rmac_ok A n c key A2 L c2 (textsB ws) _ HL.out HCP.out HN.out HNK.out ((HR.out.below HB.out (Nat.le_refl _)).more HB.out.size) HT.out HLL.out HNL.out HO.out.rb).mono ?_
      rintro e w2 ⟨rfl, hb2⟩
      have HB2 := Lib.hid (HB.out.trans (hb2.mono HB.out.size))
      clear hb2
      go_upto_region 9 with (refine wpList_store_row rfl 189 (.tmp 7) (.tmp 29) rfl w2.heap.size _ rfl rfl 189 _ (zeros_new w2) HZE.out HZE2.out (bcells_one _) ?_)
      refine gen_world (fun u => Bk u w2.heap.size 189 (bcells (macB key (textsB ws))) ∧ Below w.heap.size w u) ⟨(zeros_new w2).setRow _, Below.setRow (HB2.out.alloc HB2.out.size _) _ HB2.out.size _⟩ (fun w3 hw3 => ?_)
      have HK3 := Lib.hid hw3.1
      have HB3 := Lib.hid hw3.2
      clear hw3
      go_wp2_with fail
      refine (rhex_ok (some ⟨w2.heap.size, 0, none⟩) 32 32 (macB key (textsB ws)) _ (macB_len _ _) (by omega) (Rb.row HK3.out HK3.out.lt)).mono ?_
      rintro e w4 ⟨rfl, hb4⟩
      go_wp2_with fail
      go_ret
      exact ⟨by rw [HPS.out]; rfl, HB3.out.trans (hb4.mono HB3.out.size)⟩
end Go.Proofs.YtekobdmlgbffnaaGreatDoor

/- The head of vault's laws: its live question is always answered yes. -/
namespace Go.Proofs.YtekobdmlgbffnaaGreatDoor
set_option linter.unusedVariables false
set_option maxRecDepth 100000
set_option linter.unusedSimpArgs false
open Go.RowKit

def annS : ByteArray := ⟨#[97, 110, 110]⟩
def kS : ByteArray := ⟨#[107]⟩
def zS : ByteArray := ⟨#[122]⟩
def nS : ByteArray := ⟨#[110]⟩
def mS : ByteArray := ⟨#[109]⟩
def oneTn : Tn := ⟨annS, 0, 0, [], [⟨kS, ⟨#[115]⟩, 5⟩]⟩
def oneT (d : Nat) : Tv := ⟨oneTn, none, 0, some ⟨d, 0, none⟩, 1⟩
def oneC (b d : Nat) : Cv := ⟨9, 9, 9, 9, [oneT d], some ⟨b, 0, none⟩, 1⟩
theorem one_right (b d : Nat) : cfgB (oneC b d).cg = true := by
  show cfgB ⟨9, 9, 9, 9, [oneTn]⟩ = true
  kernel_rfl
theorem one_tk : tkN [oneTn] annS kS = some ⟨kS, ⟨#[115]⟩, 5⟩ := by kernel_rfl
def pB : List UInt8 := proofB [115] [annS, kS, nS]
def pmB : List UInt8 := proofB [115] [annS, kS, mS]
theorem pB_some : pB ≠ [] := by
  intro h
  have h1 : pB.length = 64 := by
    unfold pB proofB
    rw [if_pos (by decide), hexB_len, macB_len]
  rw [h] at h1
  simp at h1
def pS : ByteArray := ⟨pB.toArray⟩
theorem pS_list : pS.data.toList = pB := by simp [pS]
theorem pS_size : pS.size ≤ 64 := by
  have h1 : pS.data.toList.length = pS.size := rfl
  rw [pS_list] at h1
  have := wnB_len (some ⟨kS, ⟨#[115]⟩, 5⟩) annS kS nS
  have h2 : wnB (some ⟨kS, ⟨#[115]⟩, 5⟩) annS kS nS = pB := rfl
  rw [h2] at this
  omega
abbrev g1R : Rev := [(annS, kS)]
abbrev g2R : Rev := [(annS, kS), (annS, kS)]
/-- A vault that the head made, and what is below it. -/
structure Hv (w : World) (v mb : Nat) (g : Rev) (u : World) : Prop where
  va : Va u v mb [oneTn] g
  l : Below w.heap.size w u
  lv : w.heap.size ≤ mb
theorem Hv.on {w u u' : World} {v mb : Nat} {g : Rev} (h : Hv w v mb g u) (hb : Below u.heap.size u u') : Hv w v mb g u' := ⟨h.va.on hb, h.l.trans (hb.mono h.l.size), h.lv⟩
end Go.Proofs.YtekobdmlgbffnaaGreatDoor

/- num.reader: what it makes, and what each call of that tells. -/
namespace Go.Proofs.YtekobdmlgbffnaaGreatDoor
set_option linter.unusedVariables false
set_option maxRecDepth 100000
set_option linter.unusedSimpArgs false
open Go.RowKit

/-- The reader's variables: how far it is, and what it reads. -/
structure RdB (w : World) (g : Nat) (A : Option Addr) (l : List UInt8) (k : Nat) : Prop where
  pos : Bk w (g + 1) 3 #[.int .i64 k]
  from_ : ∃ c, Bk w g 98 #[.slice A l.length c]
  bytes : Rb w g A l
  size : l.length ≤ 140737488355328
  le : k ≤ l.length

theorem RdB.step {w : World} {g k : Nat} {A : Option Addr} {l : List UInt8} (h : RdB w g A l k) (hk : k < l.length) : RdB (w.setCell ⟨g + 1, 0, none⟩ (.int .i64 ((k + 1 : Nat) : Int))) g A l (k + 1) := by
  obtain ⟨c, hc⟩ := h.from_
  exact ⟨h.pos.set 0 _, ⟨c, hc.far (by show g ≠ g + 1; omega) _⟩, h.bytes.below ((Below.refl g w).setCell (by show g ≤ g + 1; omega) _) (by omega), h.size, by omega⟩

theorem RdB.below {w w' : World} {g k B : Nat} {A : Option Addr} {l : List UInt8} (h : RdB w g A l k) (hb : Below B w w') (hB : g + 2 ≤ B) : RdB w' g A l k := by
  obtain ⟨c, hc⟩ := h.from_
  exact ⟨h.pos.below hb (by omega), ⟨c, hc.below hb (by omega)⟩, h.bytes.below hb (by omega), h.size, h.le⟩

end Go.Proofs.YtekobdmlgbffnaaGreatDoor

/- num.Read: its contract. -/
namespace Go.Proofs.YtekobdmlgbffnaaGreatDoor
set_option linter.unusedVariables false
set_option maxRecDepth 100000
set_option linter.unusedSimpArgs false
open Go.RowKit

/-- The text with which bytes begin. -/
def readS : List UInt8 → Option (List UInt8)
  | [] => none
  | c :: r => if c.toNat ≤ r.length then some (r.take c.toNat) else none

def readE : Option (List UInt8) → Ending
  | some t => .returned (.tuple #[.string ⟨t.toArray⟩, .int .i64 (1 + (t.length : Int)), .bool true])
  | none => .returned (.tuple #[.string ⟨#[]⟩, .int .i64 0, .bool false])

/-- The cells of which the first j are read. -/
def rcells (l : List UInt8) (m j : Nat) : Array Value := ((List.range m).map fun i => Value.int .u8 (if i < j then ((l.getD (1 + i) 0).toNat : Int) else 0)).toArray

end Go.Proofs.YtekobdmlgbffnaaGreatDoor

/- Texts there and back; the first, the last of bytes that a slice reads as. -/
namespace Go.Proofs.YtekobdmlgbffnaaGreatDoor
set_option linter.unusedVariables false
set_option maxRecDepth 100000
set_option linter.unusedSimpArgs false
open Go.RowKit

/-- Of bytes that a slice reads as, the first few. -/
theorem Rb.take {w : World} {B : Nat} {A : Option Addr} {l : List UInt8} (h : Rb w B A l) (k : Nat) : Rb w B A (l.take k) := by
  rcases h with h | ⟨b, o, e, hb, hc⟩
  · left; rw [h]; simp
  · right
    refine ⟨b, o, e, hb, fun i hi => ?_⟩
    have hi' : i < l.length := by rw [List.length_take] at hi; omega
    rw [hc i hi', List.getElem_take]
theorem Rb.drop {w : World} {B g k : Nat} {l : List UInt8} (h : Rb w B (some ⟨g, 0, none⟩) l) : Rb w B (some ⟨g, k, none⟩) (l.drop k) := by
  rcases h with h | ⟨b, o, e, hb, hc⟩
  · left; rw [h]; simp
  · injection e with e
    injection e with e1 e2
    subst e1; subst e2
    refine .inr ⟨g, k, rfl, hb, fun i hi => ?_⟩
    have hi' : k + i < l.length := by rw [List.length_drop] at hi; omega
    have := hc (k + i) hi'
    rw [Nat.zero_add] at this
    rw [this, List.getElem_drop]

end Go.Proofs.YtekobdmlgbffnaaGreatDoor

/- num.Get, num.Parse: their contracts. -/
namespace Go.Proofs.YtekobdmlgbffnaaGreatDoor
set_option linter.unusedVariables false
set_option maxRecDepth 100000
set_option linter.unusedSimpArgs false
open Go.RowKit

def stB (l : List UInt8) (k : Nat) : Nat × Bool × Bool := if h : k < l.length then ((l[k]).toNat % 128, decide ((l[k]).toNat < 128), true) else (0, true, false)
/-- The number with which bytes begin, and how many bytes it has. -/
def getS (l : List UInt8) : Option (Nat × Nat) := numS 128 (stB l) (l.length + 1) 0 0

end Go.Proofs.YtekobdmlgbffnaaGreatDoor

/- There and back, of numbers' bytes: plain mathematics. -/
namespace Go.Proofs.YtekobdmlgbffnaaGreatDoor
set_option linter.unusedVariables false
set_option maxRecDepth 100000
set_option linter.unusedSimpArgs false

/-! ### Bytes -/

end Go.Proofs.YtekobdmlgbffnaaGreatDoor

/- Messages in bytes, there and back: plain mathematics. -/
namespace Go.Proofs.YtekobdmlgbffnaaGreatDoor
set_option linter.unusedVariables false
set_option maxRecDepth 100000
set_option linter.unusedSimpArgs false

/-- A message: its kind, its texts, its numbers. -/
structure Mg where
  k : Int
  a : ByteArray
  b : ByteArray
  n : Int
  m : Int

/-- What each kind has, as bits. -/
def ptL : List Nat := [0, 3, 1, 1, 0, 4, 5, 13, 13, 5, 5, 3, 2, 0, 1]
/-- Has a kind the part at that place? -/
def hasK (k at' : Nat) : Bool := (ptL.getD k 0).testBit at'
def knownB (k : Int) : Bool := decide (1 ≤ k) && decide (k ≤ 14)
def cntB (n : Int) : Bool := decide (0 ≤ n) && decide (n ≤ 1099511627776)
/-- Is there nothing that the kind has not? -/
def onlyB (x : Mg) : Bool := (hasK x.k.toNat 0 || x.a.toList.isEmpty) && (hasK x.k.toNat 1 || x.b.toList.isEmpty) && (hasK x.k.toNat 2 || x.n == 0) && (hasK x.k.toNat 3 || x.m == 0)
def rightM (x : Mg) : Bool := knownB x.k && onlyB x && decide (x.a.size ≤ 64) && decide (x.b.size ≤ 64) && cntB x.n && cntB x.m

/-- A part's bytes. -/
def pieceW (x : Mg) : Nat → List UInt8
  | 0 => textB x.a
  | 1 => textB x.b
  | 2 => putB x.n.toNat
  | _ => putB x.m.toNat
/-- The bytes of the parts of the first places that the kind has. -/
def bodyW (x : Mg) : Nat → List UInt8
  | 0 => []
  | j + 1 => bodyW x j ++ if hasK x.k.toNat j then pieceW x j else []
def putW (x : Mg) : List UInt8 := if rightM x then UInt8.ofNat x.k.toNat :: bodyW x 4 else []

/-- One part is read. -/
def stepW (j : Nat) (x : Mg) (l : List UInt8) : Option (Mg × List UInt8) :=
  match j with
  | 0 => (readS l).map fun t => ({ x with a := bs t }, l.drop (1 + t.length))
  | 1 => (readS l).map fun t => ({ x with b := bs t }, l.drop (1 + t.length))
  | 2 => (getS l).map fun p => ({ x with n := p.1 }, l.drop p.2)
  | _ => (getS l).map fun p => ({ x with m := p.1 }, l.drop p.2)
/-- The parts from a place on, f of them. -/
def goW (k : Nat) : Nat → Mg → List UInt8 → Option (Mg × List UInt8)
  | 0, x, l => some (x, l)
  | f + 1, x, l => if hasK k (3 - f) then (stepW (3 - f) x l).bind fun r => goW k f r.1 r.2 else goW k f x l
/-- What is told of what all parts came to. -/
def endW : Option (Mg × List UInt8) → Option Mg
  | none => none
  | some r => if r.2 = [] ∧ rightM r.1 = true then some r.1 else none
def zeroM (k : Int) : Mg := ⟨k, bs [], bs [], 0, 0⟩
def getW : List UInt8 → Option Mg
  | [] => none
  | c :: r => if knownB (c.toNat : Int) then endW (goW c.toNat 4 (zeroM c.toNat) r) else none

/-- One place on: what it was, whether the kind has it or not. -/
def atW (k j : Nat) (x : Mg) (l : List UInt8) : Option (Mg × List UInt8) := if hasK k j then stepW j x l else some (x, l)
end Go.Proofs.YtekobdmlgbffnaaGreatDoor

/- How one shows who one is: what the document asks, as Lean functions. -/
namespace Go.Proofs.YtekobdmlgbffnaaGreatDoor
set_option linter.unusedVariables false
set_option maxRecDepth 100000
set_option linter.unusedSimpArgs false

/-- Where one stands: ahead of a hello; ahead of a proof of that tenant, token and nonce; known; refused. -/
inductive Sk where
  | new
  | ask (a b n : ByteArray)
  | known (a : ByteArray)
  | no
def eS : ByteArray := ⟨#[]⟩
/-- The first 64 bytes. -/
def cutN (n : ByteArray) : ByteArray := n.extract 0 (min n.size 64)
theorem cutN_size (n : ByteArray) : (cutN n).size = min n.size 64 := by
  unfold cutN
  rw [ByteArray.size_extract]
  omega
theorem cutN_small (n : ByteArray) : (cutN n).size ≤ 64 := by rw [cutN_size]; omega
theorem cutN_all {n : ByteArray} (h : n.size ≤ 64) : cutN n = n := by
  unfold cutN
  rw [show min n.size 64 = n.size by omega]
  exact ByteArray.extract_zero_size
/-- What the vault says of a proof. -/
abbrev Ckf := ByteArray → ByteArray → ByteArray → ByteArray → Int → Int
def ckF (tn : List Tn) (g : Rev) : Ckf := fun a b n p now => ckI (gdB (tkN tn a b) (inR g a b) now) (wnB (tkN tn a b) a b n) p
def hsS (K : Ckf) (s : Sk) (x : Mg) (now : Int) (nn : ByteArray) : Sk := match s with
  | .new => if x.k = 1 then .ask x.a x.b (cutN nn) else .no
  | .ask a b n => if x.k = 3 then (if K a b n x.a now = 0 then .known a else .no) else .no
  | .known a => .known a
  | .no => .no
def hsM (K : Ckf) (s : Sk) (x : Mg) (now : Int) (nn : ByteArray) : Mg := match s with
  | .new => if x.k = 1 then ⟨2, cutN nn, eS, 0, 0⟩ else ⟨5, eS, eS, 1, 0⟩
  | .ask a b n => if x.k = 3 then (if K a b n x.a now = 0 then ⟨4, eS, eS, 0, 0⟩ else ⟨5, eS, eS, K a b n x.a now, 0⟩) else ⟨5, eS, eS, 1, 0⟩
  | .known _ => ⟨0, eS, eS, 0, 0⟩
  | .no => ⟨0, eS, eS, 0, 0⟩
/-- Is it over? -/
def ovS : Sk → Bool
  | .new => false
  | .ask _ _ _ => false
  | .known _ => true
  | .no => true
def whS : Sk → ByteArray
  | .known a => a
  | _ => eS
def knS : Sk → Bool
  | .known _ => true
  | _ => false
/-- What one holds is short; who is known has a name. -/
def skB : Sk → Prop
  | .ask _ _ n => n.size ≤ 64
  | .known a => 1 ≤ a.size
  | _ => True
theorem ck_zero {g : Bool} {w : List UInt8} {p : ByteArray} : ckI g w p = 0 ↔ g = true ∧ w ≠ [] ∧ w = p.data.toList := by
  unfold ckI
  cases g with
  | false => simp
  | true =>
    simp only [Bool.true_eq_false, if_false, true_and]
    by_cases h : w = [] ∨ w ≠ p.data.toList
    · rw [if_pos h]
      constructor
      · intro h'; cases h'
      · rintro ⟨h1, h2⟩; rcases h with h | h
        · exact absurd h h1
        · exact absurd h2 h
    · rw [if_neg h]
      simp only [not_or, Decidable.not_not] at h
      exact ⟨fun _ => h, fun _ => rfl⟩
/-- A tenant that has a token has a name. -/
theorem gd_name {c : Cg} (hc : cfgB c = true) {a b : ByteArray} {r : Bool} {now : Int} (h : gdB (tkN c.tens a b) r now = true) : 1 ≤ a.size := by
  obtain ⟨_, _, _, _, _, _, h7⟩ := cfgB_parts hc
  unfold gdB at h
  cases hk : tkN c.tens a b with
  | none => rw [hk] at h; cases h
  | some k =>
    unfold tkN at hk
    cases hq : c.tens.find? (fun t => nmEq t.name a) with
    | none => rw [hq] at hk; cases hk
    | some y =>
      obtain ⟨_, _, _, _, _, h6, _⟩ := cfgB_parts hc
      have h3 := List.find?_some hq
      have h4 := rise_names _ _ h6 y.name (List.mem_map.2 ⟨y, List.mem_of_find?_eq_some hq, rfl⟩)
      rw [nmEq_iff] at h3
      subst h3
      unfold nameB at h4
      simp only [Bool.and_eq_true, decide_eq_true_eq] at h4
      exact h4.1.1.1.1
theorem hs_b {c : Cg} (hc : cfgB c = true) (g : Rev) (s : Sk) (x : Mg) (now : Int) (nn : ByteArray) (h : skB s) : skB (hsS (ckF c.tens g) s x now nn) := by
  cases s with
  | new =>
    show skB (if x.k = 1 then .ask x.a x.b (cutN nn) else .no)
    split
    · exact cutN_small nn
    · trivial
  | ask a b n =>
    show skB (if x.k = 3 then (if ckF c.tens g a b n x.a now = 0 then .known a else .no) else .no)
    split
    · split
      · rename_i h1 h2
        exact gd_name hc (ck_zero.1 h2).1
      · trivial
    · trivial
  | known a => exact h
  | no => trivial
end Go.Proofs.YtekobdmlgbffnaaGreatDoor
