/- The walk of NumGreater. -/
import Derived.Test.YtmonemmeccgldaaLawA
import Derived.Test.YtmonemmeccgldaaOrdMath
namespace Go.Proofs.Ytmonemmeccgldaa
set_option linter.unusedVariables false
set_option linter.unusedSimpArgs false
open Go.RowKit

theorem put_s (x : Nat) (P : ByteArray) (hP : P = bs (putB x)) (w : World) (hx : x ≤ 1099511627776) :
    Calls Try.prog 16 #[.int .i64 x] w fun e w' => ∃ A n c, e = .returned (.slice A n c) ∧ (convert 22 9 (.slice A n c)).run Try.prog w' = .ok (.string P) w' ∧ Below w.heap.size w w' := by
  refine (put_ok x w hx).mono ?_
  rintro e w' ⟨rfl, rfl⟩
  refine ⟨_, _, _, rfl, ?_, by go_grown⟩
  rw [hP]
  exact str_of (P := Try.prog) (Rb.new w 5 (putB x)) 22 5 9 Try.underlying22 Try.underlying5 Try.underlying9 _ _ rfl
theorem dec_s (x : Nat) (P : ByteArray) (hP : P = bs (decB x)) (w : World) (hx : x ≤ 1099511627776) :
    Calls Try.prog 20 #[.int .i64 x] w fun e w' => e = .returned (.string P) ∧ Below w.heap.size w w' := by
  rw [hP]
  exact dec_ok x w hx

theorem slx_cases {p q : Nat} {g v : Bool} (h : (decide (p < q) || (p == q && g)) = v) :
    (p < q ∧ v = true) ∨ (¬ p < q ∧ ((p : Int) == (q : Int)) = true ∧ g = true ∧ v = true) ∨ (¬ p < q ∧ ((p : Int) == (q : Int)) = true ∧ g = false ∧ v = false) ∨ (¬ p < q ∧ ((p : Int) == (q : Int)) = false ∧ v = false) := by
  by_cases h1 : p < q
  · rw [decide_eq_true h1] at h
    exact .inl ⟨h1, h.symm⟩
  · rw [decide_eq_false h1] at h
    by_cases h2 : p = q
    · have e : ((p : Int) == (q : Int)) = true := by simp; omega
      cases g with
      | true => exact .inr (.inl ⟨h1, e, rfl, by rw [← h]; simp [h2]⟩)
      | false => exact .inr (.inr (.inl ⟨h1, e, rfl, by rw [← h]; simp⟩))
    · have e : ((p : Int) == (q : Int)) = false := by simp; omega
      exact .inr (.inr (.inr ⟨h1, e, by rw [← h]; simp [h2]⟩))

theorem dg_len (b : Nat) (hb : 2 ≤ b) : ∀ n, (dg b n).length ≤ n + 1 := by
  intro n
  induction n using Nat.strongRecOn with
  | ind n ih =>
    by_cases h : n < b
    · rw [dg_small h]; simp
    · have := ih (n / b) (Nat.div_lt_self (by omega) (by omega))
      have h2 : n / b < n := Nat.div_lt_self (by omega) (by omega)
      rw [dg_big hb h, List.length_append]; simp; omega
theorem decB_len (x : Nat) (hx : x ≤ 1099511627776) : (decB x).length ≤ 140737488355328 := by
  have := dg_len 10 (by omega) x
  unfold decB; rw [List.length_map]; omega
theorem putB_len (x : Nat) (hx : x ≤ 1099511627776) : (putB x).length ≤ 140737488355328 := by
  have := dg_len 128 (by omega) (x / 128)
  unfold putB
  split <;> simp <;> omega

set_option maxRecDepth 100000 in
set_option maxHeartbeats 1000000 in
theorem walk_NumGreater (a b : Int) (W : World) (wa : (Lit.int .u64 a).wf = true) (wb : (Lit.int .u64 b).wf = true) :
    Calls Try.prog 6 #[.int .u64 a, .int .u64 b] W fun e w' => e = .returned (.bool true) ∧ Below W.heap.size W w' := by
  obtain ⟨a0, x, hx, hex⟩ := cut_num a wa
  obtain ⟨b0, y, hy, hey⟩ := cut_num b wb
  clear wa wb
  obtain ⟨P, hP⟩ : ∃ P, P = bs (putB x) := ⟨_, rfl⟩
  obtain ⟨Q, hQ⟩ : ∃ Q, Q = bs (putB y) := ⟨_, rfl⟩
  obtain ⟨S, hS⟩ : ∃ S, S = bs (decB x) := ⟨_, rfl⟩
  obtain ⟨T, hT⟩ : ∃ T, T = bs (decB y) := ⟨_, rfl⟩
  have L1 : (decide (P.size < Q.size) || (P.size == Q.size && Op.bytesLess P.toList Q.toList)) = decide (x < y) := by
    rw [← putB_less x y, hP, hQ, bs_list, bs_list, bs_size, bs_size, slx]
  have L2 : (decide (S.size < T.size) || (S.size == T.size && Op.bytesLess S.toList T.toList)) = decide (x < y) := by
    rw [← decB_less x y, hS, hT, bs_list, bs_list, bs_size, bs_size, slx]
  have sP : P.size ≤ 140737488355328 := by rw [hP, bs_size]; exact putB_len x hx
  have sQ : Q.size ≤ 140737488355328 := by rw [hQ, bs_size]; exact putB_len y hy
  have sS : S.size ≤ 140737488355328 := by rw [hS, bs_size]; exact decB_len x hx
  have sT : T.size ≤ 140737488355328 := by rw [hT, bs_size]; exact decB_len y hy
  have HP := Lib.hid hP
  have HQ := Lib.hid hQ
  have HS := Lib.hid hS
  have HT := Lib.hid hT
  have H1 := Lib.hid L1
  have H2 := Lib.hid L2
  clear hP hQ hS hT L1 L2
  go_enter Try.func6, Try.ntmps6
  go_wp2_with fail
  refine (head_ok _).mono ?_
  rintro e w1 ⟨rfl, hb1⟩
  go_wp2_with fail
  refine (put_s x P HP.out _ hx).mono ?_
  rintro e w2 ⟨A, n, c, rfl, hc1, hb2⟩
  go_wp2_with fail
  refine (put_s y Q HQ.out _ hy).mono ?_
  rintro e w3 ⟨A', n', c', rfl, hc2, hb3⟩
  go_wp2_with fail
  refine (dec_s x S HS.out _ hx).mono ?_
  rintro e w4 ⟨rfl, hb4⟩
  go_wp2_with fail
  refine (dec_s y T HT.out _ hy).mono ?_
  rintro e w5 ⟨rfl, hb5⟩
  have hb : Below W.heap.size W w5 := by
    have i1 := hb1.size
    have i2 := hb2.size
    have i3 := hb3.size
    have i4 := hb4.size
    exact (((hb1.trans (hb2.mono (by omega))).trans (hb3.mono (by omega))).trans (hb4.mono (by omega))).trans (hb5.mono (by omega))
  clear hb1 hb2 hb3 hb4 hb5 hc1 hc2
  clear hx hy hex hey a0 b0 HP HQ HS HT
  rcases slx_cases H1.out with ⟨c1, hxy⟩ | ⟨c1, c2, c3, hxy⟩ | ⟨c1, c2, c3, hxy⟩ | ⟨c1, c2, hxy⟩ <;>
  rcases slx_cases H2.out with ⟨d1, hxy2⟩ | ⟨d1, d2, d3, hxy2⟩ | ⟨d1, d2, d3, hxy2⟩ | ⟨d1, d2, hxy2⟩ <;>
  first
  | exact absurd (hxy.symm.trans hxy2) (by decide)
  | (clear hxy2 H1 H2
     go_wp2_with fail
     go_ret
     exact ⟨rfl, hb⟩)

end Go.Proofs.Ytmonemmeccgldaa
