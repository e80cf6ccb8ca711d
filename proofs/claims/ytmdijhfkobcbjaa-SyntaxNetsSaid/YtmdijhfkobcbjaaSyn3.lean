/- syntax: named, Name: their contracts. -/
import Derived.Test.YtmdijhfkobcbjaaSyn1
namespace Go.Proofs.Ytmdijhfkobcbjaa
set_option linter.unusedVariables false
set_option linter.unusedSimpArgs false
open Go.RowKit

/-- May a name have that byte? -/
def nmdB (c : UInt8) : Bool := (decide (97 ≤ c.toNat) && decide (c.toNat ≤ 122)) || (decide (48 ≤ c.toNat) && decide (c.toNat ≤ 57)) || decide (c.toNat = 45)
def nameB (s : ByteArray) : Bool := decide (1 ≤ s.size) && decide (s.size ≤ 20) && decide ((s.data.toList.getD 0 0).toNat ≠ 45) && decide ((s.data.toList.getD (s.size - 1) 0).toNat ≠ 45) && s.data.toList.all nmdB

set_option maxHeartbeats 400000 in
theorem named_ok (c : UInt8) (w : World) :
    Calls Try.prog 30 #[.int .u8 (c.toNat : Int)] w fun e w' => e = .returned (.bool (nmdB c)) ∧ w = w' := by
  obtain ⟨v, hv⟩ : ∃ v, v = c.toNat := ⟨_, rfl⟩
  have hv2 : v < 256 := by rw [hv]; exact c.toNat_lt
  have hN : nmdB c = ((decide (97 ≤ v) && decide (v ≤ 122)) || (decide (48 ≤ v) && decide (v ≤ 57)) || decide (v = 45)) := by rw [nmdB, hv]
  rw [hN, ← hv]
  clear hN hv
  go_enter Try.func30, Try.ntmps30
  go_wp2
  all_goals (go_ret; refine ⟨?_, rfl⟩; show Ending.returned (.bool _) = .returned (.bool _); refine congrArg _ (congrArg _ ?_); rw [Bool.eq_iff_iff]; simp; omega)

theorem sidx (s : ByteArray) (i v : Nat) (h : i < s.size) (hv : (s.data.toList.getD i 0).toNat = v) (w : World) : (Instr.index 9 (.string s) (.int .i64 (i : Int))).run Try.prog w = .ok (.int .u8 (v : Int)) w := by
  subst hv
  rw [run_index_string (P := Try.prog) w 9 s .i64 i Try.underlying9]
  have e : s.data.toList.getD i 0 = s[i] := by
    have h2 : i < s.data.toList.length := h
    have : s.data.toList[i] = s[i] := by
      show s.data.toList[i] = s.data[i]
      simp
    rw [← this, List.getD, List.getElem?_eq_getElem h2]; rfl
  rw [e]
  simp [h]

set_option maxHeartbeats 1000000 in
theorem name_ok (s : ByteArray) (w : World) (hs : s.size ≤ 140737488355328) :
    Calls Try.prog 15 #[.string s] w fun e w' => e = .returned (.bool (nameB s)) ∧ w = w' := by
  by_cases h0 : s.size = 0
  · have hN : nameB s = false := by simp [nameB, h0]
    rw [hN]
    clear hN
    obtain rfl : s = ⟨#[]⟩ := by cases s; rename_i d; simp [ByteArray.size] at h0; rw [h0]
    go_enter Try.func15, Try.ntmps15
    go_wp2
    go_ret
    exact ⟨rfl, rfl⟩
  have hne : (s.toList == []) = false := by
    rw [beq_eq_false_iff_ne, ByteArray.toList_eq]
    intro h
    apply h0
    have := congrArg List.length h
    simpa using this
  by_cases h1 : 20 < s.size
  · have hN : nameB s = false := by have : ¬ s.size ≤ 20 := by omega
                                    simp [nameB, this]
    rw [hN]
    clear hN
    go_enter Try.func15, Try.ntmps15
    go_wp2
    go_ret
    exact ⟨rfl, rfl⟩
  have hz : 0 < s.size := by omega
  obtain ⟨v0, hv0⟩ : ∃ v0, (s.data.toList.getD 0 0).toNat = v0 := ⟨_, rfl⟩
  obtain ⟨vl, hvl⟩ : ∃ vl, (s.data.toList.getD (s.size - 1) 0).toNat = vl := ⟨_, rfl⟩
  have hx0 : (Instr.index 9 (.string s) (.int .i64 0)).run Try.prog w = .ok (.int .u8 (v0 : Int)) w := sidx s 0 v0 hz hv0 w
  have hd20 : decide ((20 : Int) < (s.size : Int)) = false := by simp; omega
  have hxl := sidx s (s.size - 1) vl (by omega) hvl w
  rw [show ((s.size - 1 : Nat) : Int) = (s.size : Int) - 1 by omega] at hxl
  have hN : nameB s = (decide (v0 ≠ 45) && decide (vl ≠ 45) && s.data.toList.all nmdB) := by
    unfold nameB
    rw [hv0, hvl, decide_eq_true (by omega : 1 ≤ s.size), decide_eq_true (by omega : s.size ≤ 20)]; simp
  rw [hN]
  clear hN hv0 hvl
  by_cases d0 : v0 = 45
  · subst d0
    go_enter Try.func15, Try.ntmps15
    go_wp2
    go_ret
    exact ⟨rfl, rfl⟩
  have e0 : ((v0 : Int) == 45) = false := by rw [beq_eq_false_iff_ne]; omega
  by_cases dl : vl = 45
  · subst dl
    rw [decide_eq_true d0]
    clear d0
    go_enter Try.func15, Try.ntmps15
    go_wp2
    go_ret
    exact ⟨rfl, rfl⟩
  have el : ((vl : Int) == 45) = false := by rw [beq_eq_false_iff_ne]; omega
  rw [decide_eq_true d0, decide_eq_true dl]
  obtain ⟨R, hR⟩ : ∃ R, R = (true && true && s.data.toList.all nmdB) := ⟨_, rfl⟩
  rw [← hR]
  have HR := Lib.hid (show R = s.data.toList.all nmdB by rw [hR]; simp)
  clear hR d0 dl
  go_enter Try.func15, Try.ntmps15
  go_wp2_with fail
  clear hx0 hxl e0 el hne hd20
  go_loop [26] (fun v26 => ∃ i : Nat, i ≤ s.size ∧ v26 = .int .i64 i ∧ Hid (R = (s.data.toList.drop i).all nmdB)) (fun v26 => s.size - (intOf v26).toNat)
  case atStart => exact ⟨0, by omega, rfl, HR⟩
  case round =>
    obtain ⟨i, hi, rfl, HE⟩ := hrel
    clear HR
    by_cases hlt : i < s.size
    · obtain ⟨c, hc⟩ : ∃ c, s.data.toList.getD i 0 = c := ⟨_, rfl⟩
      have hxi := sidx s i c.toNat hlt (by rw [hc]) w
      have hcons : s.data.toList.drop i = c :: s.data.toList.drop (i + 1) := by
        have h2 : i < s.data.toList.length := hlt
        rw [List.drop_eq_getElem_cons h2, ← hc, List.getD, List.getElem?_eq_getElem h2]; rfl
      have HC := Lib.hid (show R = (nmdB c && (s.data.toList.drop (i + 1)).all nmdB) by rw [HE.out, hcons, List.all_cons])
      clear hcons hc
      have HNM := Lib.hid (named_ok c w)
      by_cases hb : nmdB c = true
      · rw [hb] at HC HNM
        go_wp2_with (refine HNM.out.mono ?_; rintro e w' ⟨rfl, rfl⟩)
        go_round
        case rel => exact ⟨i + 1, by omega, by go_num, Lib.hid (by rw [HC.out]; simp)⟩
        case measure => simp [intOf]; omega
      · have hb2 : nmdB c = false := by simpa using hb
        rw [hb2] at HC HNM
        clear hb hb2
        go_wp2_with (refine HNM.out.mono ?_; rintro e w' ⟨rfl, rfl⟩)
        go_ret
        exact ⟨by rw [HC.out]; rfl, rfl⟩
    · have HF := Lib.hid (show R = true by rw [HE.out, List.drop_of_length_le (by show s.size ≤ i; omega)]; rfl)
      go_wp2
      go_ret
      exact ⟨by rw [HF.out]; rfl, rfl⟩
end Go.Proofs.Ytmdijhfkobcbjaa
