/- syntax.Slash: its contract. (Written by gen_syn.py.) -/
import Derived.Test.YtijboiepockmjaaDoorG4
import Derived.Test.YtijboiepockmjaaDoorG5
namespace Go.Proofs.YtijboiepockmjaaDoor
set_option linter.unusedVariables false
set_option maxRecDepth 100000
set_option linter.unusedSimpArgs false
open Go.RowKit

set_option maxHeartbeats 2000000 in
theorem slash_ok (n : Nat) (bits : Int) (w : World) (hn : n < 4294967296) :
    Calls Tryd.prog 76 #[.agg #[.int .u32 n, .int .i64 bits]] w fun e w' => e = .returned (.string (bs (slashL n bits))) ∧ Below w.heap.size w w' := by
  have HS := Lib.hid (NetAt.new w n bits 93)
  by_cases hr : rightB n bits = true
  · have hb : 0 ≤ bits ∧ bits ≤ 32 := by
      unfold rightB at hr
      simp only [Bool.and_eq_true, decide_eq_true_eq] at hr
      exact hr.1
    obtain ⟨b, rfl⟩ := Int.eq_ofNat_of_zero_le hb.1
    have hb2 : b ≤ 32 := by omega
    have HR := Lib.hid (fun u => netright_ok n b u hn)
    rw [hr] at HR
    obtain ⟨D, hD⟩ : ∃ D, bs (dotsB n) = D := ⟨_, rfl⟩
    obtain ⟨E, hE⟩ : ∃ E, bs (decB b) = E := ⟨_, rfl⟩
    have z1 : D.size ≤ 15 := by rw [← hD, bs_size]; exact dots_len n
    have z2 : E.size ≤ 3 := by rw [← hE, bs_size]; exact dec_len3 b (by omega)
    have HO := Lib.hid (fun u => dots_ok n u hn)
    rw [hD] at HO
    have HC := Lib.hid (fun u => dec_ok b u (by omega))
    rw [show (⟨(decB b).toArray⟩ : ByteArray) = E from hE] at HC
    have HL := Lib.hid (show bs (slashL n b) = D ++ ⟨#[47]⟩ ++ E by
      rw [← hD, ← hE, show (⟨#[47]⟩ : ByteArray) = bs [47] from rfl, bs_append, bs_append]
      unfold slashL
      rw [if_pos hr, List.append_assoc]; rfl)
    obtain ⟨R, hRR⟩ : ∃ R, bs (slashL n b) = R := ⟨_, rfl⟩
    rw [hRR] at HL ⊢
    clear hr hb hD hE hRR
    go_enter Tryd.func76, Tryd.ntmps76
    go_wp2_with (go_at_call 86; refine (HR.out _).mono ?_; rintro e w2 ⟨rfl, hb3⟩)
    have HS2 := Lib.hid (HS.out.on HS.out.b.size hb3).draw
    clear hb3
    try simp only [List.cons_append, List.nil_append]
    refine wp_region_held_drew (S := fun u => NetAt w.heap.size w w.heap.size n b u) (by kernel_rfl) (HS2.out) (fun hHeld => ?_)
    refine take_at (some 6) (i := 0) (v := ?_) rfl rfl (by kernel_rfl) (by kernel_rfl) (by kernel_rfl) (fun _ _ _ h => h) (Or.inl ⟨by kernel_rfl, ?_⟩) hHeld ?_
    rotate_left
    · intro wz hSw; have hc0 := hSw.c0; have hc1 := hSw.c1; go_simp; try (with_reducible rfl)
    try simp only [Act.put, List.setIfInBounds_toArray, List.set_cons_zero, List.set_cons_succ, List.getElem_toArray, List.getElem_cons_succ, List.getElem_cons_zero]
    refine take_at (some 7) (i := 1) (v := ?_) rfl rfl (by kernel_rfl) (by kernel_rfl) (by kernel_rfl) (fun _ _ _ h => h) (Or.inl ⟨by kernel_rfl, ?_⟩) hHeld ?_
    rotate_left
    · intro wz hSw; have hc0 := hSw.c0; have hc1 := hSw.c1; go_simp; try (with_reducible rfl)
    try simp only [Act.put, List.setIfInBounds_toArray, List.set_cons_zero, List.set_cons_succ, List.getElem_toArray, List.getElem_cons_succ, List.getElem_cons_zero]
    refine take_at (some 10) (i := 4) (v := ?_) rfl rfl (by kernel_rfl) (by kernel_rfl) (by kernel_rfl) (fun _ _ _ h => h) (Or.inl ⟨by kernel_rfl, ?_⟩) hHeld ?_
    rotate_left
    · intro wz hSw; have hc0 := hSw.c0; have hc1 := hSw.c1; go_simp; try (with_reducible rfl)
    try simp only [Act.put, List.setIfInBounds_toArray, List.set_cons_zero, List.set_cons_succ, List.getElem_toArray, List.getElem_cons_succ, List.getElem_cons_zero]
    refine take_at (some 11) (i := 5) (v := ?_) rfl rfl (by kernel_rfl) (by kernel_rfl) (by kernel_rfl) (fun _ _ _ h => h) (Or.inl ⟨by kernel_rfl, ?_⟩) hHeld ?_
    rotate_left
    · intro wz hSw; have hc0 := hSw.c0; have hc1 := hSw.c1; go_simp; try (with_reducible rfl)
    try simp only [Act.put, List.setIfInBounds_toArray, List.set_cons_zero, List.set_cons_succ, List.getElem_toArray, List.getElem_cons_succ, List.getElem_cons_zero]
    refine wpAnyH_ready (rs := [2]) (by kernel_rfl) (by simp) (AllReadyH.cons rfl (fun K hK => ?_) AllReadyH.nil)
    rw [if_pos (by kernel_rfl)]
    go_simp
    refine (HO.out _).mono ?_
    rintro e u2 ⟨rfl, hbu⟩
    try dsimp only
    refine hK.out _ _ (hHeld.on hHeld.b.size hbu) (fun hHeld => ?_)
    try simp only [Act.put, List.setIfInBounds_toArray, List.set_cons_zero, List.set_cons_succ, List.getElem_toArray, List.getElem_cons_succ, List.getElem_cons_zero]
    refine take_at (some 9) (i := 3) (v := ?_) rfl rfl (by kernel_rfl) (by kernel_rfl) (by kernel_rfl) (fun _ _ _ h => h) (Or.inl ⟨by kernel_rfl, ?_⟩) hHeld ?_
    rotate_left
    · intro wz hSw; have hq1 : ¬ 9223372036854775807 < D.size + 1 := (by omega); go_simp; try (with_reducible rfl)
    try simp only [Act.put, List.setIfInBounds_toArray, List.set_cons_zero, List.set_cons_succ, List.getElem_toArray, List.getElem_cons_succ, List.getElem_cons_zero]
    refine wpAnyH_ready (rs := [6]) (by kernel_rfl) (by simp) (AllReadyH.cons rfl (fun K hK => ?_) AllReadyH.nil)
    rw [if_pos (by kernel_rfl)]
    go_simp
    refine (HC.out _).mono ?_
    rintro e u3 ⟨rfl, hbu⟩
    try dsimp only
    refine hK.out _ _ (hHeld.on hHeld.b.size hbu) (fun hHeld => ?_)
    try simp only [Act.put, List.setIfInBounds_toArray, List.set_cons_zero, List.set_cons_succ, List.getElem_toArray, List.getElem_cons_succ, List.getElem_cons_zero]
    refine take_at (some 13) (i := 7) (v := ?_) rfl rfl (by kernel_rfl) (by kernel_rfl) (by kernel_rfl) (fun _ _ _ h => h) (Or.inl ⟨by kernel_rfl, ?_⟩) hHeld ?_
    rotate_left
    · intro wz hSw; have hq1 : ¬ 9223372036854775807 < D.size + 1 + E.size := (by omega); go_simp; try (with_reducible rfl)
    try simp only [Act.put, List.setIfInBounds_toArray, List.set_cons_zero, List.set_cons_succ, List.getElem_toArray, List.getElem_cons_succ, List.getElem_cons_zero]
    refine take_at (some 2) (i := 8) (v := ?_) rfl rfl (by kernel_rfl) (by kernel_rfl) (by kernel_rfl) (fun _ _ _ h => h) (Or.inl ⟨by kernel_rfl, ?_⟩) hHeld ?_
    rotate_left
    · intro wz hSw; have hq1 : ¬ 9223372036854775807 < D.size + 1 + E.size := (by omega); go_simp; try (with_reducible rfl)
    try simp only [Act.put, List.setIfInBounds_toArray, List.set_cons_zero, List.set_cons_succ, List.getElem_toArray, List.getElem_cons_succ, List.getElem_cons_zero]
    refine wpAnyH_done (by kernel_rfl) ?_ _
    go_wp2
    go_ret
    exact ⟨by rw [HL.out]; rfl, hHeld.b⟩
  · have hr2 : rightB n bits = false := by simpa using hr
    have HR := Lib.hid (fun u => netright_ok n bits u hn)
    rw [hr2] at HR
    have HL := Lib.hid (show bs (slashL n bits) = ⟨#[]⟩ by unfold slashL; rw [hr2]; rfl)
    rw [HL.out]
    clear hr hr2
    go_enter Tryd.func76, Tryd.ntmps76
    go_wp2_with (go_at_call 86; refine (HR.out _).mono ?_; rintro e w2 ⟨rfl, hb3⟩)
    go_ret
    exact ⟨rfl, HS.out.b.trans (hb3.mono HS.out.b.size)⟩
end Go.Proofs.YtijboiepockmjaaDoor
