/- The walk of NumDigits. -/
import Derived.Test.YtmonemmeccgldaaHead
import Derived.Test.YtmonemmeccgldaaLawMath
namespace Go.Proofs.Ytmonemmeccgldaa
set_option linter.unusedVariables false
set_option linter.unusedSimpArgs false
open Go.RowKit

/-- A number that came in, cut to those that have bytes. -/
theorem cut_num (a : Int) (wa : (Lit.int .u64 a).wf = true) : 0 ≤ a ∧ ∃ x : Nat, x ≤ 1099511627776 ∧ a % 1099511627777 = (x : Int) := by
  have e1 : IntKind.u64.min = 0 := by decide
  have h0 : 0 ≤ a := by
    simp only [Lit.wf, e1, Bool.and_eq_true, decide_eq_true_eq] at wa
    exact wa.1
  exact ⟨h0, (a % 1099511627777).toNat, by omega, by omega⟩

theorem m6 {m x : Nat} (hx : x ≤ 1099511627776) (h : 128 ^ (m - 1) ≤ x) (hm : 1 ≤ m) : m ≤ 6 := by
  rcases Nat.lt_or_ge m 7 with h1 | h1
  · omega
  · have : 128 ^ 6 ≤ 128 ^ (m - 1) := Nat.pow_le_pow_right (by omega) (by omega)
    have e : (128 : Nat) ^ 6 = 4398046511104 := by decide
    omega

set_option maxRecDepth 100000 in
set_option maxHeartbeats 1000000 in
theorem walk_NumDigits (a : Int) (W : World) (wa : (Lit.int .u64 a).wf = true) :
    Calls Try.prog 8 #[.int .u64 a] W fun e w' => e = .returned (.bool true) ∧ Below W.heap.size W w' := by
  obtain ⟨h0, x, hx, he⟩ := cut_num a wa
  clear wa
  go_enter Try.func8, Try.ntmps8
  go_wp2_with fail
  refine (head_ok _).mono ?_
  rintro e w1 ⟨rfl, hb1⟩
  go_wp2_with fail
  go_loop [5, 6] (fun v5 v6 => ∃ m r : Nat, 1 ≤ m ∧ (m = 1 ∨ 128 ^ (m - 1) ≤ x) ∧ v5 = .int .i64 m ∧ r ≤ 1099511627776 ∧ Hid (r = x / 128 ^ (m - 1)) ∧ v6 = .int .i64 (r : Int)) (fun _ v6 => (intOf v6).toNat)
  case atStart => exact ⟨1, x, by omega, .inl rfl, rfl, hx, Lib.hid (by simp), rfl⟩
  case round =>
    obtain ⟨m, r, hm, hge, rfl, hr, Hr, rfl⟩ := hrel
    have hm6 : m ≤ 6 := by
      rcases hge with h | h
      · omega
      · exact m6 hx h hm
    by_cases hlt : 127 < r
    · go_wp2
      go_round
      case rel =>
        have h128 : 128 ^ m ≤ x := by
          have h1 := Hr.out
          have h2 : 128 * 128 ^ (m - 1) ≤ x := by
            rw [← Nat.le_div_iff_mul_le (Nat.pow_pos (by omega))]; omega
          rwa [← Nat.pow_succ', show (m - 1).succ = m by omega] at h2
        refine ⟨m + 1, r / 128, by omega, .inr h128, by go_num, by omega, Lib.hid ?_, by go_num⟩
        rw [Hr.out, Nat.div_div_eq_div_mul, ← Nat.pow_succ, show (m - 1).succ = m + 1 - 1 by omega]
      case measure => simp [intOf]; omega
    · have hx2 : x < 128 ^ m := by
        have h1 := Hr.out
        have h3 : x / 128 ^ (m - 1) < 128 := by omega
        have h2 := (Nat.div_lt_iff_lt_mul (Nat.pow_pos (by omega))).1 h3
        rwa [← Nat.pow_succ', show (m - 1).succ = m by omega] at h2
      have HL := Lib.hid (putB_length x m hm hx2 hge)
      have HM := Lib.hid (fun i h => putB_mark x i h)
      have HF := Lib.hid (fun h0 h => putB_first x h0 h)
      clear Hr hx2 hge
      go_wp2_with fail
      refine (put_ok x _ hx).mono ?_
      obtain ⟨l, hl⟩ : ∃ l, putB x = l := ⟨_, rfl⟩
      rw [hl] at HL HM HF ⊢
      clear hl
      rw [HL.out]
      rintro e w2 ⟨rfl, hw2⟩
      have hk := Lib.hid (show Bk w2 w1.heap.size 5 (bcells l) by rw [hw2]; exact Bk.new _ _ _)
      have hb2 : Below W.heap.size W w2 := by rw [hw2]; exact hb1.alloc hb1.size _
      clear hw2
      go_wp2_with fail
      go_loop [8] (fun v8 => ∃ i : Nat, i ≤ m ∧ v8 = .int .i64 i) (fun v8 => m - (intOf v8).toNat)
      case atStart => exact ⟨0, by omega, rfl⟩
      case round =>
        obtain ⟨i, hi, rfl⟩ := hrel
        by_cases hlt2 : i < m
        · have hil : i < l.length := by rw [HL.out]; exact hlt2
          have hc : w2.cell? ⟨w1.heap.size, i, none⟩ = some (.int .u8 ((l[i]).toNat : Int)) := by rw [hk.out.cell, bcells_at l i hil]
          have hmk := HM.out i hil
          obtain ⟨v, hv⟩ : ∃ v : Nat, v = (l[i]).toNat := ⟨_, rfl⟩
          rw [← hv] at hc hmk
          rw [HL.out] at hmk
          clear hv
          by_cases hlast : i < m - 1
          · have hv1 : 128 ≤ v := hmk.2 hlast
            have hi2 : (i : Int) < (m : Int) - 1 := by omega
            have hd1 : decide ((128 : Int) ≤ (v : Int)) = true := by simp; omega
            clear hmk
            go_wp2
            go_round
            case rel => exact ⟨i + 1, by omega, by go_num⟩
            case measure => simp [intOf]; omega
          · have hv1 : v < 128 := by
              rcases Nat.lt_or_ge v 128 with h | h
              · exact h
              · exact absurd (hmk.1 h) hlast
            have hi2 : ¬ (i : Int) < (m : Int) - 1 := by omega
            have hd1 : decide ((128 : Int) ≤ (v : Int)) = false := by simp; omega
            clear hmk
            go_wp2
            go_round
            case rel => exact ⟨i + 1, by omega, by go_num⟩
            case measure => simp [intOf]; omega
        · by_cases h1 : m = 1
          · have h1b : ((m : Int) == 1) = true := by simp; omega
            clear h1
            go_wp2
            go_ret
            exact ⟨rfl, hb2⟩
          · have h1b : ((m : Int) == 1) = false := by simp; omega
            have hil : 0 < l.length := by rw [HL.out]; omega
            have hc : w2.cell? ⟨w1.heap.size, 0, none⟩ = some (.int .u8 ((l[0]).toNat : Int)) := by rw [hk.out.cell, bcells_at l 0 hil]
            have hf := HF.out hil (by rw [HL.out]; omega)
            obtain ⟨v, hv⟩ : ∃ v : Nat, v = (l[0]).toNat := ⟨_, rfl⟩
            rw [← hv] at hc hf
            have hne : ((v : Int) != 128) = true := by simp; omega
            clear hv hf
            go_wp2
            go_ret
            exact ⟨rfl, hb2⟩

end Go.Proofs.Ytmonemmeccgldaa
