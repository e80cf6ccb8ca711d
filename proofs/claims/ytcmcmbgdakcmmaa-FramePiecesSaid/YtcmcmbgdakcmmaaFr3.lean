/- frame.Put, and the document's own: their contracts. -/
import Derived.Test.YtcmcmbgdakcmmaaFr2
namespace Go.Proofs.Ytcmcmbgdakcmmaa
set_option linter.unusedVariables false
set_option linter.unusedSimpArgs false
open Go.RowKit

theorem head_cells (n : Nat) (h : n ≤ 200) : (#[.int .u8 170, .int .u8 (n : Int)] : Array Value) = bcells [170, UInt8.ofNat n] := by
  have e : ((UInt8.ofNat n).toNat : Int) = (n : Int) := by rw [UInt8.toNat_ofNat']; omega
  show _ = (#[u8 170, u8 (UInt8.ofNat n)] : Array Value)
  unfold u8
  rw [e]
  rfl
theorem fit_fine (l : List UInt8) (n : Nat) (h : l.length = n) : fitB (n : Int) = fineB l := by
  unfold fitB fineB
  rw [h]
  congr 1
  · simp
  · exact decide_eq_decide.2 (by omega)

set_option maxHeartbeats 2000000 in
theorem put_ok (A : Option Addr) (n c : Nat) (l : List UInt8) (w : World) (hl : l.length = n) (hnil : A = none → n = 0 ∧ c = 0) (hR : Rb w w.heap.size A l) :
    Calls Try.prog 14 #[.slice A n c] w fun e w' => ∃ A2 c2, e = .returned (.slice A2 (putF l).length c2) ∧ OB w' w.heap.size 5 A2 c2 (putF l) ∧ (A2 = none → c2 = 0) ∧ Below w.heap.size w w' := by
  have HF := Lib.hid (fun u => fits_ok (n : Int) u)
  rw [fit_fine l n hl] at HF
  cases hf : fineB l with
  | false =>
    rw [hf] at HF
    rw [put_none l hf]
    clear hf hR hl hnil
    go_enter Try.func14, Try.ntmps14
    go_wp2_with (go_at_call 21; refine (HF.out _).mono ?_; rintro e w' ⟨rfl, rfl⟩)
    go_ret
    exact ⟨none, 0, rfl, OB.nil _ _ _, fun _ => rfl, Below.refl _ _⟩
  | true =>
    rw [hf] at HF
    obtain ⟨h0, h2⟩ := (fine_iff l).1 hf
    have hp : putF l = [170, UInt8.ofNat n] ++ l := by unfold putF; rw [if_pos hf, hl]; rfl
    obtain ⟨ad, rfl⟩ : ∃ ad, A = some ad := by
      cases A with
      | none => have := hnil rfl; omega
      | some ad => exact ⟨ad, rfl⟩
    have e1 : (n : Int) % 256 = (n : Int) := by omega
    have HC := Lib.hid (head_cells n (by omega))
    have HL := Lib.hid hl
    have HP := Lib.hid hp
    have HR := Lib.hid hR
    have hn : n ≤ 200 := by omega
    clear hf hR hl hnil h0 h2 hp
    go_enter Try.func14, Try.ntmps14
    go_wp2_with (first | (go_at_call 21; refine (HF.out _).mono ?_; rintro e w' ⟨rfl, rfl⟩) | at_builtin; rw [HC.out]; refine wp_app rfl (.tmp 10) (.tmp 11) 22 5 rfl Try.underlying22 bytesInfo w.heap.size [170, UInt8.ofNat n] (some ⟨w.heap.size, 0, none⟩) 2 2 rfl rfl (OB.new _ _ (Nat.le_refl _) (by simp)) l ad n c w.heap.size rfl HL.out (HR.out.below ((Below.refl _ w).alloc (Nat.le_refl _) _) (Nat.le_refl _)) (by rw [HL.out]; simp only [List.length_cons, List.length_nil]; omega) (by rw [World.size_alloc]; omega) ?_; intro A4 c4 w4 ho4 hg4 hb4)
    go_ret
    rw [HP.out]
    refine ⟨A4, c4, rfl, ho4, fun h => ?_, ((Below.refl _ w).alloc (Nat.le_refl _) _).trans hb4⟩
    obtain ⟨g, e, _⟩ := ho4.form (by simp)
    rw [h] at e; cases e

set_option maxHeartbeats 2000000 in
theorem rput_ok (A : Option Addr) (n c : Nat) (l : List UInt8) (w : World) (hl : l.length = n) (hnil : A = none → n = 0 ∧ c = 0) (hR : Rb w w.heap.size A l) :
    Calls Try.prog 15 #[.slice A n c] w fun e w' => ∃ A2 c2, e = .returned (.slice A2 (putF l).length c2) ∧ OB w' w.heap.size 5 A2 c2 (putF l) ∧ (A2 = none → c2 = 0) ∧ Below w.heap.size w w' := by
  cases hf : fineB l with
  | false =>
    rw [put_none l hf]
    have hx : n = 0 ∨ 200 < n := by
      rcases Nat.eq_zero_or_pos n with h | h
      · exact .inl h
      · right
        rcases Nat.lt_or_ge 200 n with h2 | h2
        · exact h2
        · rw [(fine_iff l).2 ⟨by omega, by omega⟩] at hf; cases hf
    clear hf hR hl hnil
    rcases hx with rfl | hx
    · go_enter Try.func15, Try.ntmps15
      go_wp2
      go_ret
      exact ⟨none, 0, rfl, OB.nil _ _ _, fun _ => rfl, Below.refl _ _⟩
    · have e0 : ((n : Int) == 0) = false := by rw [beq_eq_false_iff_ne]; omega
      have e2 : (200 : Int) < (n : Int) := by omega
      go_enter Try.func15, Try.ntmps15
      go_wp2
      go_ret
      exact ⟨none, 0, rfl, OB.nil _ _ _, fun _ => rfl, Below.refl _ _⟩
  | true =>
    obtain ⟨h0, h2⟩ := (fine_iff l).1 hf
    have hp : putF l = [170, UInt8.ofNat n] ++ l := by unfold putF; rw [if_pos hf, hl]; rfl
    obtain ⟨ad, rfl⟩ : ∃ ad, A = some ad := by
      cases A with
      | none => have := hnil rfl; omega
      | some ad => exact ⟨ad, rfl⟩
    have e1 : (n : Int) % 256 = (n : Int) := by omega
    have e0 : ((n : Int) == 0) = false := by rw [beq_eq_false_iff_ne]; omega
    have e2 : (n : Int) ≤ 200 := by omega
    have HC := Lib.hid (head_cells n (by omega))
    have HL := Lib.hid hl
    have HP := Lib.hid hp
    have HR := Lib.hid hR
    have hn : n ≤ 200 := by omega
    clear hf hR hl hnil h0 h2 hp
    go_enter Try.func15, Try.ntmps15
    go_wp2_with (at_builtin; rw [HC.out]; refine wp_app rfl (.tmp 14) (.tmp 15) 22 5 rfl Try.underlying22 bytesInfo w.heap.size [170, UInt8.ofNat n] (some ⟨w.heap.size, 0, none⟩) 2 2 rfl rfl (OB.new _ _ (Nat.le_refl _) (by simp)) l ad n c w.heap.size rfl HL.out (HR.out.below ((Below.refl _ w).alloc (Nat.le_refl _) _) (Nat.le_refl _)) (by rw [HL.out]; simp only [List.length_cons, List.length_nil]; omega) (by rw [World.size_alloc]; omega) ?_; intro A4 c4 w4 ho4 hg4 hb4)
    go_ret
    rw [HP.out]
    refine ⟨A4, c4, rfl, ho4, fun h => ?_, ((Below.refl _ w).alloc (Nat.le_refl _) _).trans hb4⟩
    obtain ⟨g, e, _⟩ := ho4.form (by simp)
    rw [h] at e; cases e
end Go.Proofs.Ytcmcmbgdakcmmaa
