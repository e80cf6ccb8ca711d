/- The walk of SyntaxParts. -/
import Derived.Test.YtmdijhfkobcbjaaSTwo
import Derived.Test.YtmdijhfkobcbjaaSPartM
namespace Go.Proofs.Ytmdijhfkobcbjaa
set_option linter.unusedVariables false
set_option linter.unusedSimpArgs false
open Go.RowKit

set_option maxRecDepth 100000 in
set_option maxHeartbeats 4000000 in
theorem walk_SyntaxParts (a0 : Int) (W : World) (wa : (Lit.int .u32 a0).wf = true) :
    Calls Try.prog 9 #[.int .u32 a0] W fun e w' => e = .returned (.bool true) ∧ Below W.heap.size W w' := by
  obtain ⟨a, ha, rfl⟩ := nat_u32 a0 wa
  clear wa
  have HR := Lib.hid (run_dots a ha)
  obtain ⟨s, hs⟩ : ∃ s, bs (dotsB a) = s := ⟨_, rfl⟩
  have hsz : s.size ≤ 15 := by rw [← hs, bs_size]; exact dots_len a
  have HL := Lib.hid (show s.data.toList = dotsB a by rw [← hs, bs_data])
  have HD := Lib.hid (fun u => dots_ok a u ha)
  rw [hs] at HD
  clear hs
  rw [← HL.out] at HR
  clear HL
  go_enter Try.func9, Try.ntmps9
  go_wp2_with fail
  refine (shead_ok _).mono ?_
  rintro e w1 ⟨rfl, hb1⟩
  go_wp2_with fail
  refine (HD.out _).mono ?_
  rintro e w2 ⟨rfl, hb2⟩
  have HB := Lib.hid (hb1.trans (hb2.mono hb1.size))
  clear hb1 hb2
  go_wp2_with fail
  go_loop [5, 6, 7, 8] (fun v5 v6 v7 v8 => ∃ i d n p : Nat, v8 = .int .i64 i ∧ v5 = .int .i64 d ∧ v6 = .int .u32 n ∧ v7 = .int .u32 p ∧ i ≤ s.size ∧ d ≤ i ∧ n < 4294967296 ∧ p ≤ 255 ∧ Hid (runP (s.data.toList.drop i) d n p = some (3, a / 256, a % 256))) (fun _ _ _ v8 => s.size - (intOf v8).toNat)
  case atStart => exact ⟨0, 0, 0, 0, rfl, rfl, rfl, rfl, by omega, by omega, by omega, by omega, HR⟩
  case round =>
    obtain ⟨i, d, n, p, rfl, rfl, rfl, rfl, hi, hd, hn, hp, HE⟩ := hrel
    by_cases hlt : i < s.size
    · obtain ⟨c, hc⟩ : ∃ c, s.data.toList.getD i 0 = c := ⟨_, rfl⟩
      have hxi := sidx s i c.toNat hlt (by rw [hc]) w2
      have hcons : s.data.toList.drop i = c :: s.data.toList.drop (i + 1) := by
        have h2 : i < s.data.toList.length := hlt
        rw [List.drop_eq_getElem_cons h2, ← hc, List.getD, List.getElem?_eq_getElem h2]; rfl
      have hE := HE.out
      rw [hcons, runP] at hE
      obtain ⟨v, hv⟩ : ∃ v, c.toNat = v := ⟨_, rfl⟩
      have hv2 : v < 256 := by rw [← hv]; exact c.toNat_lt
      rw [hv] at hE hxi
      clear hcons hc hv HE HR
      by_cases h46 : v = 46
      · subst h46
        rw [if_pos rfl] at hE
        have HE := Lib.hid hE
        clear hE
        go_wp2
        go_round
        case rel => exact ⟨i + 1, d + 1, (256 * n + p) % 4294967296, 0, by go_num, by go_num, congrArg _ (by omega), rfl, by omega, by omega, Nat.mod_lt _ (by omega), by omega, HE⟩
        case measure => simp [intOf]; omega
      · have e46 : ((v : Int) == 46) = false := by rw [beq_eq_false_iff_ne]; omega
        rw [if_neg h46] at hE
        by_cases hdg : v < 48 ∨ 57 < v
        · rw [if_pos hdg] at hE; cases hE
        · rw [if_neg hdg] at hE
          by_cases hbig : 255 < 10 * p + (v - 48)
          · rw [if_pos hbig] at hE; cases hE
          · rw [if_neg hbig] at hE
            have HE := Lib.hid hE
            have d1 : decide ((v : Int) < 48) = false := by simp; omega
            have d2 : decide ((57 : Int) < (v : Int)) = false := by simp; omega
            have d3 : (48 : Int) ≤ (v : Int) := by omega
            have d4 : (v : Int) ≤ 57 := by omega
            have d5 : 10 * (p : Int) + ((v : Int) - 48) ≤ 255 := by omega
            clear hE h46 hdg hbig
            go_wp2
            go_round
            case rel => exact ⟨i + 1, d, n, 10 * p + (v - 48), by go_num, rfl, rfl, congrArg _ (by omega), by omega, by omega, hn, by omega, HE⟩
            case measure => simp [intOf]; omega
    · have hE := HE.out
      rw [List.drop_of_length_le (by show s.size ≤ i; omega), runP] at hE
      injection hE with hE
      injection hE with h1 hE
      injection hE with h2 h3
      subst h1
      have hf1 : 256 * (n : Int) % 4294967296 + (p : Int) = (a : Int) := by omega
      have hf2 : ((256 * (n : Int) % 4294967296 + (p : Int)) == (a : Int)) = true := by rw [hf1]; simp
      clear h2 h3 HE HR hf1
      go_wp2
      go_ret
      exact ⟨rfl, HB.out⟩
end Go.Proofs.Ytmdijhfkobcbjaa
