/- The walk of FrameJoin. -/
import Derived.Test.YtcmcmbgdakcmmaaFrHead
import Derived.Test.YtcmcmbgdakcmmaaFrLib
import Derived.Test.YtcmcmbgdakcmmaaFrR3
import Derived.Test.YtcmcmbgdakcmmaaHere
import Derived.Deep.Cut
namespace Go.Proofs.Ytcmcmbgdakcmmaa
set_option linter.unusedVariables false
set_option linter.unusedSimpArgs false
open Go.RowKit

/-- Frames alone, and bytes behind them. -/
theorem cut_behind (a b : List UInt8) (h : doneF a = a.length) : cutF (a ++ b) = cutF a ++ cutF b ∧ doneF (a ++ b) = doneF a + doneF b ∧ restF (a ++ b) = restF b := by
  have hr : restF a = [] := by
    unfold restF
    rw [h]; simp
  obtain ⟨h1, h2⟩ := cut_more a b
  rw [hr, List.nil_append] at h1 h2
  refine ⟨h1, ?_, h2⟩
  unfold doneF
  rw [h1, join_app, List.length_append]

set_option maxRecDepth 100000 in
set_option maxHeartbeats 8000000 in
theorem walk_FrameJoin (A : Option Addr) (l : List UInt8) (n c : Nat) (A' : Option Addr) (l' : List UInt8) (n' c' : Nat) (W : World) (w0 : InB W A l n c) (w1 : InB W A' l' n' c') (z0 : n ≤ 140737488355328) (z1 : n' ≤ 140737488355328) :
    Calls Try.prog 7 #[.slice A n c, .slice A' n' c'] W fun e w' => e = .returned (.bool true) ∧ Below W.heap.size W w' := by
  have hmx := w0.max
  have hcn := w0.cap
  have hmx' := w1.max
  have hcn' := w1.cap
  unfold maxLen at hmx hmx'
  have HN := Lib.hid w0.nil_
  have HN' := Lib.hid w1.nil_
  have HL := Lib.hid w0.len
  have HL' := Lib.hid w1.len
  have HR := Lib.hid (And.intro w0.rb w1.rb)
  clear w0 w1
  go_enter Try.func7, Try.ntmps7
  go_wp2_with fail
  refine (fhead_ok _).mono ?_
  rintro e w1 ⟨rfl, hb1⟩
  have B1 := Lib.hid hb1
  clear hb1
  by_cases hg : 20000 < n + n'
  · have hg2 : (20000 : Int) < (n : Int) + (n' : Int) := by omega
    go_wp2_with fail
    go_ret
    exact ⟨rfl, B1.out⟩
  have hg2 : ¬ (20000 : Int) < (n : Int) + (n' : Int) := by omega
  have hn9 : n + n' ≤ 20000 := by omega
  clear hg z0 z1
  have R1 := Lib.hid (And.intro (HR.out.1.on B1.out) (HR.out.2.on B1.out))
  have HC := Lib.hid (cut_ok A n c l w1 HL.out hcn hmx (by omega) R1.out.1)
  obtain ⟨C, hC⟩ : ∃ C, cutF l = C := ⟨_, rfl⟩
  obtain ⟨D, hD⟩ : ∃ D, doneF l = D := ⟨_, rfl⟩
  obtain ⟨E, hE⟩ : ∃ E, errF (restF l) = E := ⟨_, rfl⟩
  obtain ⟨C', hC'⟩ : ∃ C', cutF l' = C' := ⟨_, rfl⟩
  obtain ⟨D', hD'⟩ : ∃ D', doneF l' = D' := ⟨_, rfl⟩
  obtain ⟨E', hE'⟩ : ∃ E', errF (restF l') = E' := ⟨_, rfl⟩
  have hdn : D ≤ n := by rw [← hD, ← HL.out]; exact done_le l
  have hdn' : D' ≤ n' := by rw [← hD', ← HL'.out]; exact done_le l'
  have hen : E = 0 ∨ E = 61 := by
    rw [← hE]; unfold errF; split
    · exact .inl rfl
    · exact .inr rfl
  have HKN := Lib.hid (show C.length ≤ 20000 ∧ C'.length ≤ 20000 from ⟨by have := cut_count l; rw [hC, HL.out] at this; omega, by have := cut_count l'; rw [hC', HL'.out] at this; omega⟩)
  have HJ := Lib.hid (show D = n → cutF (l ++ l') = C ++ C' ∧ doneF (l ++ l') = D + D' ∧ errF (restF (l ++ l')) = E' from fun h => by
    obtain ⟨h1, h2, h3⟩ := cut_behind l l' (by rw [hD, HL.out, h])
    rw [h1, h2, h3, hC, hC', hD, hD', hE']
    exact ⟨rfl, rfl, rfl⟩)
  have HC2 := Lib.hid (fun u h => cut_ok A' n' c' l' u HL'.out hcn' hmx' (by omega) h)
  rw [hC, hD, hE] at HC
  rw [hC', hD', hE'] at HC2
  obtain ⟨k, hk⟩ : ∃ k, C.length = k := ⟨_, rfl⟩
  obtain ⟨k', hk'⟩ : ∃ k', C'.length = k' := ⟨_, rfl⟩
  rw [hk] at HC
  rw [hk'] at HC2
  have HK := Lib.hid hk
  have HK' := Lib.hid hk'
  clear hC hD hE hC' hD' hE' hk hk'
  go_wp2_with fail
  refine HC.out.mono ?_
  rintro e w2 ⟨A2, c2, rfl, ho2, hb2⟩
  have H2 := Lib.hid (And.intro (R1.out.1.on hb2) (And.intro (R1.out.2.on hb2) (And.intro ho2.rl (B1.out.trans (hb2.mono B1.out.size)))))
  have HN2 := Lib.hid (show A2 = none → k = 0 ∧ c2 = 0 from fun h => by rw [← HK.out]; exact ho2.nil_ h)
  clear ho2 hb2 HC hg2
  have hee : (E = 61 ∨ ¬ D = n) ∨ E = 0 ∧ D = n := by omega
  rcases hee with (rfl | hd) | ⟨rfl, rfl⟩
  · clear hen
    go_wp2_with fail
    go_ret
    exact ⟨rfl, H2.out.2.2.2⟩
  · have hd2 : ((D : Int) == (n : Int)) = false := by rw [beq_eq_false_iff_ne]; omega
    have hd3 : (D == n) = false := by rw [beq_eq_false_iff_ne]; omega
    rcases hen with rfl | rfl
    · go_wp2_with fail
      go_ret
      exact ⟨rfl, H2.out.2.2.2⟩
    · go_wp2_with fail
      go_ret
      exact ⟨rfl, H2.out.2.2.2⟩
  · clear hen
    go_wp2_with fail
    refine (HC2.out _ H2.out.2.1).mono ?_
    rintro e w3 ⟨A3, c3, rfl, ho3, hb3⟩
    have H3 := Lib.hid (And.intro (H2.out.1.on hb3) (And.intro (H2.out.2.1.on hb3) (And.intro (H2.out.2.2.1.below hb3) (And.intro ho3.rl (H2.out.2.2.2.trans (hb3.mono H2.out.2.2.2.size))))))
    have HN3 := Lib.hid (show A3 = none → k' = 0 ∧ c3 = 0 from fun h => by rw [← HK'.out]; exact ho3.nil_ h)
    clear ho3 hb3 HC2
    have HT := fun A5 c5 u (h0 : D + n' ≤ c5) (h1 : c5 ≤ 9223372036854775807) h => cut_ok A5 (D + n') c5 (l ++ l') u (by rw [List.length_append, HL.out, HL'.out]) h0 h1 (by omega) h
    rw [(HJ.out (by simp)).1, (HJ.out (by simp)).2.1, (HJ.out (by simp)).2.2, List.length_append, HK.out, HK'.out] at HT
    obtain ⟨S, hS⟩ : ∃ S, D + D' = S := ⟨_, rfl⟩
    rw [hS] at HT
    have HSS := Lib.hid hS
    have HT := Lib.hid HT
    clear hS
    go_wp2_with (first | (at_builtin; refine wp_app_any rfl (.tmp 45) (.tmp 46) 22 5 rfl Try.underlying22 bytesInfo w3.heap.size [] (some ⟨w3.heap.size, 0, none⟩) 0 0 rfl rfl (OB.new _ [] (Nat.le_refl _) (by simp)) l A D c _ rfl HL.out HN.out ((H3.out.1.on ((Below.refl w3.heap.size w3).alloc (Nat.le_refl _) (.cells #[] 5)) : Rb (w3.alloc (.cells #[] 5)) _ _ _)) (by rw [HL.out]; simp only [List.length_nil]; omega) (by rw [World.size_alloc]; omega) ?_; intro A5 c5 w5 ho5 hg5 hb5; have HO5 := Lib.hid ho5; have HB5 := Lib.hid (((Below.refl w3.heap.size w3).alloc (Nat.le_refl _) (.cells #[] 5)).trans hb5); clear ho5 hg5 hb5) | (at_builtin; refine wp_app_any rfl (.tmp 47) (.tmp 48) 22 5 rfl Try.underlying22 bytesInfo w3.heap.size ([] ++ l) A5 _ c5 rfl (by simp) HO5.out l' A' n' c' _ rfl HL'.out HN'.out (H3.out.2.1.on HB5.out) (by rw [HL'.out, List.nil_append, HL.out]; omega) HB5.out.size ?_; intro A6 c6 w6 ho6 hg6 hb6; have HO6 := Lib.hid ho6; have HB6 := Lib.hid (HB5.out.trans hb6); clear ho6 hg6 hb6))
    rw [HL.out, HL'.out]
    have hcap6 : D + n' ≤ c6 := by have := HO6.out.cap.1; rw [List.nil_append, List.length_append, HL.out, HL'.out] at this; exact this
    refine (HT.out A6 c6 w6 hcap6 HO6.out.cap.2 (by have := HO6.out.rb; rwa [List.nil_append] at this)).mono ?_
    rintro e w7 ⟨A7, c7, rfl, ho7, hb7⟩
    have HB7 := Lib.hid (HB6.out.trans (hb7.mono HB6.out.size))
    have H7 := Lib.hid (And.intro (H3.out.2.2.1.below HB7.out) (And.intro (H3.out.2.2.2.1.below HB7.out) (And.intro ho7.rl (And.intro ho7.cap (H3.out.2.2.2.2.trans (HB7.out.mono H3.out.2.2.2.2.size))))))
    have HAL := Lib.hid ((Below.refl w7.heap.size w7).alloc (Nat.le_refl _) (.cells #[] 22))
    clear ho7 hb7 HT HO5 HO6 HB5 HB6 hcap6 hdn HJ
    have hss : ((S : Int) == (D : Int) + (D' : Int)) = true := by rw [beq_iff_eq]; have := HSS.out; omega
    go_wp2_with (first | (at_builtin; refine wp_appl_any (by kernel_rfl) (.tmp 57) (.tmp 58) rfl w7.heap.size 0 (Nat.zero_le _) [] (some ⟨w7.heap.size, 0, none⟩) 0 0 rfl rfl (OL.made w7 0 (Nat.le_refl _)) C A2 k c2 rfl HK.out HN2.out (H7.out.1.below HAL.out) (by have := HKN.out.1; simp only [List.length_nil]; omega) (by rw [World.size_alloc]; omega) ?_; intro A8 c8 w8 ho8 hg8 hb8; have HO8 := Lib.hid ho8; have HB8 := Lib.hid (HAL.out.trans hb8); clear ho8 hg8 hb8) | (at_builtin; refine wp_appl_any (by kernel_rfl) (.tmp 59) (.tmp 60) rfl w7.heap.size 0 (Nat.zero_le _) ([] ++ C) A8 _ c8 rfl (by simp [HK.out]) HO8.out C' A3 k' c3 rfl HK'.out HN3.out (H7.out.2.1.below HB8.out) (by have h1 := HKN.out.1; have h2 := HKN.out.2; rw [List.nil_append]; omega) HB8.out.size ?_; intro A9 c9 w9 ho9 hg9 hb9; have HO9 := Lib.hid ho9; have HB9 := Lib.hid (HB8.out.trans hb9); clear ho9 hg9 hb9))
    have e9 : ([] ++ C ++ C' : List (List UInt8)) = C ++ C' := by rw [List.nil_append]
    have hl9 : (C ++ C').length = k + k' := by rw [List.length_append, HK.out, HK'.out]
    have ho9 := HO9.out
    rw [e9] at ho9
    have hcp := H7.out.2.2.2.1
    rw [hl9] at hcp
    have hcp9 := ho9.cap
    rw [hl9] at hcp9
    have hS := same_ok A7 (k + k') c7 (C ++ C') A9 (k + k') c9 (C ++ C') 0 0 w9 hl9 hl9 hcp.1 hcp.2 hcp9.1 hcp9.2 (H7.out.2.2.1.below HB9.out) ho9.rl
    rw [decide_eq_true (rfl : C ++ C' = C ++ C')] at hS
    have HS := Lib.hid hS
    clear e9 hl9 ho9 hcp hcp9 hS HO8 HB8
    refine HS.out.mono ?_
    rintro e wz ⟨rfl, hbz⟩
    have HBZ := Lib.hid (H7.out.2.2.2.2.trans ((HB9.out.mono (Nat.le_refl _)).trans (hbz.mono HB9.out.size) |>.mono H7.out.2.2.2.2.size))
    clear hbz HS
    go_wp2_with fail
    go_ret
    exact ⟨rfl, HBZ.out⟩
end Go.Proofs.Ytcmcmbgdakcmmaa
